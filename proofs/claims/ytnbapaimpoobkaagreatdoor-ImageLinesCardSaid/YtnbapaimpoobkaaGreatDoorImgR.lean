/- Parts of the proofs of the statements of image. No statement of the seat is proved here. -/
import Derived.Test.YtnbapaimpoobkaaGreatDoorImgC
import Derived.Test.YtnbapaimpoobkaaGreatDoorImgD
import Derived.Test.YtnbapaimpoobkaaGreatDoorImgM
import Derived.Test.YtnbapaimpoobkaaGreatDoorOcJ
import Derived.Lib.SmallJoins
import Derived.Deep.AppendSrc
import Derived.Deep.AppendLies
import Derived.Deep.RegionLaw
namespace Go.Proofs.YtnbapaimpoobkaaGreatDoor
open Go.RowKit Go.Op

theorem img_least : 30 < (imgB 1 [1, 97, 0] leL).length := by decide +kernel
set_option maxHeartbeats 8000000 in
set_option maxRecDepth 20000 in
theorem iawake_any (w : World) (he : Env w) : Calls Tryz.prog 8 #[] w fun e w' => e = .returned (.bool true) ∧ Below w.heap.size w w' := by
  have HE := Lib.hid he
  obtain ⟨S, hS⟩ : ∃ S, S = mk (imgB 1 [1, 97, 0] leL) := ⟨_, rfl⟩
  have hSz : (30 : Int) < (S.size : Int) := by have := img_least; rw [hS, mk_size]; omega
  have HS := Lib.hid hS
  clear he hS
  go_enter Tryz.func8, Tryz.ntmps8
  go_wp2_with fail
  refine (Least_any _).mono ?_
  rintro e w1 ⟨⟨A, c, rfl, hs⟩, hB⟩
  have HB1 := Lib.hid hB
  have HS1 := Lib.hid hs
  clear hB hs
  go_wp2_with fail
  refine (New_yes A 2 c ⟨#[1, 97, 0]⟩ [1, 97, 0] leL _ rfl (by decide) HS1.out (by decide) low_leL (by rw [name_a]; rfl) ok_leL isZ_leL).mono ?_
  rintro e w2 ⟨⟨v, rfl, hz⟩, hB⟩
  have HB2 := Lib.hid (HB1.out.trans (hB.mono HB1.out.size))
  rw [ofC_leL] at hz
  have HZ := Lib.hid hz
  obtain ⟨A2, c2', s2, rfl, hs2, hcap2, hsoa2⟩ := hz
  have hw0 := Whole.new w2 zoT #[.string ⟨#[1, 97, 0]⟩, .slice A2 leL.length c2', .string s2.s, .int .i64 s2.t, .int .i64 s2.c, .int .i64 s2.l, .string s2.d]
  have hB0 : Below w2.heap.size w2 (w2.alloc (.cells #[.string ⟨#[1, 97, 0]⟩, .slice A2 leL.length c2', .string s2.s, .int .i64 s2.t, .int .i64 s2.c, .int .i64 s2.l, .string s2.d] zoT)) := (Below.refl _ _).alloc (Nat.le_refl _) _
  obtain ⟨c0, c1, c2, c3, c4, c5, c6⟩ := zo_facts hw0
  have HZ3 := Lib.hid (HZ.out.later hB0)
  have HW3 := Lib.hid hw0
  have HB3 := Lib.hid (HB2.out.trans (hB0.mono HB2.out.size))
  clear hB hw0 hB0 hs2 hcap2 hsoa2
  rw [show leL.length = 2 from rfl] at *
  go_wp2_with fail
  refine (Lines_any ⟨#[1, 97, 0]⟩ leL _ _ HZ3.out (by decide) ok_leL (HE.out.beyond HB3.out)).mono ?_
  rintro e w4 ⟨u, rfl, ho, hB⟩
  obtain ⟨A4, c4', rfl, _⟩ := Sees.own ho
  have HZ4 := Lib.hid (HZ3.out.later hB)
  have hw := HW3.out.below hB HW3.out.lt
  have HB4 := Lib.hid (HB3.out.trans (hB.mono HB3.out.size))
  have HW4 := Lib.hid hw
  clear c0 c1 c2 c3 c4 c5 c6
  obtain ⟨c0, c1, c2, c3, c4, c5, c6⟩ := zo_facts hw
  clear hB hw ho
  rw [show leL.length = 2 from rfl] at *
  go_wp2_with fail
  refine (IBytes_any 1 ⟨#[1, 97, 0]⟩ [1, 97, 0] leL _ _ HZ4.out rfl (by decide) (by decide) (by decide) ok_leL).mono ?_
  rw [← HS.out]
  rintro e w5 ⟨rfl, hB⟩
  have HB5 := Lib.hid (HB4.out.trans (hB.mono HB4.out.size))
  clear hB
  go_wp2_with fail
  go_ret
  exact ⟨rfl, HB5.out⟩
end Go.Proofs.YtnbapaimpoobkaaGreatDoor
namespace Go.Proofs.YtnbapaimpoobkaaGreatDoor
open Go.RowKit

theorem half_any (d : Nat) (c : UInt8) (w : World) (hd : d = c.toNat) : Calls Tryz.prog 114 #[.int .u8 (d : Nat)] w fun e w' => e = .returned (.int .i64 (halfI c)) ∧ w' = w := by
  have hc := c.toNat_lt
  by_cases h1 : 48 ≤ d ∧ d ≤ 57
  · have e : halfI c = (d : Int) - 48 := by unfold halfI; rw [← hd, if_pos h1]
    have g1 : (48 : Int) ≤ (d : Int) := by omega
    have g2 : (d : Int) ≤ 57 := by omega
    have HE := Lib.hid e
    clear hd e h1
    go_enter Tryz.func114, Tryz.ntmps114
    go_wp2
    go_ret
    exact ⟨by rw [HE.out]; rfl, rfl⟩
  · by_cases h2 : 97 ≤ d ∧ d ≤ 102
    · have e : halfI c = (d : Int) - 87 := by unfold halfI; rw [← hd, if_neg h1, if_pos h2]
      have g0 : (48 : Int) ≤ (d : Int) := by omega
      have g1 : ¬ (d : Int) ≤ 57 := by omega
      have g2 : (97 : Int) ≤ (d : Int) := by omega
      have g3 : (d : Int) ≤ 102 := by omega
      have HE := Lib.hid e
      clear hd e h1 h2
      go_enter Tryz.func114, Tryz.ntmps114
      go_wp2
      go_ret
      exact ⟨by rw [HE.out]; rfl, rfl⟩
    · have e : halfI c = -1 := by unfold halfI; rw [← hd, if_neg h1, if_neg h2]
      have HE := Lib.hid e
      rcases (show d < 48 ∨ (57 < d ∧ d < 97) ∨ 102 < d by omega) with k | ⟨k1, k2⟩ | k
      · have g1 : ¬ (48 : Int) ≤ (d : Int) := by omega
        have g2 : ¬ (97 : Int) ≤ (d : Int) := by omega
        clear hd e h1 h2
        go_enter Tryz.func114, Tryz.ntmps114
        go_wp2
        go_ret
        exact ⟨by rw [HE.out]; rfl, rfl⟩
      · have g0 : (48 : Int) ≤ (d : Int) := by omega
        have g1 : ¬ (d : Int) ≤ 57 := by omega
        have g2 : ¬ (97 : Int) ≤ (d : Int) := by omega
        clear hd e h1 h2
        go_enter Tryz.func114, Tryz.ntmps114
        go_wp2
        go_ret
        exact ⟨by rw [HE.out]; rfl, rfl⟩
      · have g0 : (48 : Int) ≤ (d : Int) := by omega
        have g1 : ¬ (d : Int) ≤ 57 := by omega
        have g2 : (97 : Int) ≤ (d : Int) := by omega
        have g3 : ¬ (d : Int) ≤ 102 := by omega
        clear hd e h1 h2
        go_enter Tryz.func114, Tryz.ntmps114
        go_wp2
        go_ret
        exact ⟨by rw [HE.out]; rfl, rfl⟩

/-! ### Number -/
theorem byte_of {S : ByteArray} {s : List UInt8} {k : Nat} (hS : S = mk s) (hk : k < S.size) : ∃ (h : k < s.length), (S[k]'hk).toNat = s[k].toNat := by
  subst hS
  exact ⟨by rw [mk_size] at hk; exact hk, rfl⟩
theorem valD_take {s : List UInt8} {k : Nat} (h : k < s.length) : valD (s.take (k + 1)) = valD (s.take k) * 10 + (s[k].toNat - 48) := by
  rw [List.take_succ_eq_append_getElem h, valD_snoc]
theorem not_all_isD {s : List UInt8} {k : Nat} (h : k < s.length) (hc : isD s[k] = false) : s.all isD = false := by
  cases e : s.all isD with
  | false => rfl
  | true => have := List.all_eq_true.1 e _ (List.getElem_mem h); rw [hc] at this; cases this
set_option maxHeartbeats 2000000 in
theorem NumLoop_any (S : ByteArray) (s : List UInt8) (w : World) (hS : S = mk s) (h0 : s ≠ []) (hl : s.length ≤ 10) (hh : s.head? = some 48 → s.length = 1) :
    Calls Tryz.prog 56 #[.string S, .int .i64 10] w fun e w' => e = .returned (.int .i64 (numL s)) ∧ ∃ m, w' = w.drewN m := by
  have hz : S.size = s.length := by rw [hS, mk_size]
  have hp := List.length_pos_iff.2 h0
  have g1 : ((S.size : Int) == 0) = false := by rw [beq_eq_false_iff_ne]; omega
  have g2 : ¬ (10 : Int) < (S.size : Int) := by omega
  have hk0 : 0 < S.size := by omega
  obtain ⟨hk1, hb0⟩ := byte_of hS hk0
  have HN := Lib.hid (show s.all isD = true → numL s = (valD s : Nat) from fun hd => by
    unfold numL
    rw [if_neg]
    rintro (e | e | ⟨e1, e2⟩ | e)
    · omega
    · omega
    · have := hh e1; omega
    · rw [hd] at e; cases e)
  have HX := Lib.hid (show s.all isD = false → numL s = -1 from fun hd => by unfold numL; rw [if_pos (.inr (.inr (.inr hd)))])
  have HS := Lib.hid hS
  have HZ := Lib.hid hz
  have HL := Lib.hid hl
  have HH := Lib.hid (show (S[0]'hk0).toNat = 48 → s.length = 1 from fun e => hh (by
    rw [hb0] at e
    cases s with
    | nil => exact absurd rfl h0
    | cons c r => simp at e ⊢; exact UInt8.toNat_inj.1 (by rw [e]; rfl)))
  clear hz hh hb0 hl hS h0 hp
  have rest : ∀ (h48 : (S[0]'hk0).toNat = 48 → ¬ (1 : Int) < (S.size : Int)), Calls Tryz.prog 56 #[.string S, .int .i64 10] w fun e w' => e = .returned (.int .i64 (numL s)) ∧ ∃ m, w' = w.drewN m := by
    intro h48
    go_enter Tryz.func56, Tryz.ntmps56
    obtain ⟨d0, hd0⟩ : ∃ d0, d0 = (S[0]'hk0).toNat := ⟨_, rfl⟩
    have hb0 := hd0.symm
    by_cases k48 : d0 = 48
    · have g3 := h48 (by rw [hb0, k48])
      have g4 : (S[0]'hk0).toNat = 48 := by rw [hb0, k48]
      clear h48 hd0 hb0 k48
      go_wp2_with fail
      go_loopw [5, 6] (fun v i wr => ∃ k : Nat, k ≤ S.size ∧ i = .int .i64 (k : Nat) ∧ v = .int .i64 (valD (s.take k) : Nat) ∧ (s.take k).all isD = true ∧ valD (s.take k) < 10 ^ k ∧ ∃ m, wr = w.drewN m) (fun _ i _ => S.size - (intOf i).toNat)
      case atStart => exact ⟨0, Nat.zero_le _, rfl, by simp [valD], by simp, by simp [valD], 0, rfl⟩
      case round =>
        obtain ⟨k, hk, rfl, rfl, had, hvl, m, rfl⟩ := hrel
        have hk10 : k ≤ 10 := by have := HZ.out; have := HL.out; omega
        have hp10 : 10 ^ k ≤ 10 ^ 10 := Nat.pow_le_pow_right (by decide) hk10
        have e10 : (10 : Nat) ^ 10 = 10000000000 := by decide
        obtain ⟨v, hv⟩ : ∃ v, v = valD (s.take k) := ⟨_, rfl⟩
        rw [← hv] at hvl ⊢
        have hv10 : v < 10000000000 := by omega
        have HV := Lib.hid hv
        have HAD := Lib.hid had
        have HVL := Lib.hid hvl
        clear hv had hvl hp10 e10
        by_cases hlt : k < S.size
        · have g5 : (k : Int) < (S.size : Int) := by omega
          have g6 : (0 : Int) ≤ (k : Int) := by omega
          obtain ⟨hks, hb⟩ := byte_of HS.out hlt
          obtain ⟨d, hd⟩ : ∃ d, d = s[k].toNat := ⟨_, rfl⟩
          rw [← hd] at hb
          have hd8 : d < 256 := by rw [hd]; exact s[k].toNat_lt
          cases hq : isD s[k] with
          | false =>
            have HQ := Lib.hid (HX.out (not_all_isD hks hq))
            have hq2 : d < 48 ∨ 57 < d := by unfold isD at hq; rw [← hd] at hq; simp at hq; omega
            clear hd hq
            rcases hq2 with q | q
            · have g7 : (d : Int) < 48 := by omega
              go_wp2_with fail
              go_ret
              exact ⟨by rw [HQ.out]; rfl, m, rfl⟩
            · have g7 : ¬ (d : Int) < 48 := by omega
              have g8 : (57 : Int) < (d : Int) := by omega
              go_wp2_with fail
              go_ret
              exact ⟨by rw [HQ.out]; rfl, m, rfl⟩
          | true =>
            have hq2 : 48 ≤ d ∧ d ≤ 57 := by unfold isD at hq; rw [← hd] at hq; simpa using hq
            have g7 : ¬ (d : Int) < 48 := by omega
            have g8 : ¬ (57 : Int) < (d : Int) := by omega
            have HQ := Lib.hid hq
            have HT := Lib.hid (valD_take hks)
            have HD := Lib.hid hd
            clear hd hq
            go_wp2_with fail
            go_roundw
            case rel =>
              refine ⟨k + 1, by omega, by go_num, ?_, ?_, ?_, m, rfl⟩
              · rw [HT.out, ← HV.out, ← HD.out]; congr 1; omega
              · rw [List.take_succ_eq_append_getElem hks, List.all_append, HAD.out]; simp [HQ.out]
              · rw [HT.out, ← HV.out, ← HD.out, Nat.pow_succ]; have := HVL.out; omega
            case measure => simp [intOf]; omega
        · obtain rfl : k = S.size := by omega
          have hall : s.take S.size = s := by rw [HZ.out, List.take_length]
          have HE := Lib.hid (HN.out (by have := HAD.out; rwa [hall] at this))
          have HV2 := Lib.hid (show v = valD s by rw [HV.out, hall])
          clear hall
          go_wp2_with fail
          go_ret
          exact ⟨by rw [HE.out, ← HV2.out]; rfl, m, rfl⟩
    · have g3 : ((d0 : Int) == 48) = false := by rw [beq_eq_false_iff_ne]; omega
      clear h48 hd0
      go_wp2_with fail
      go_loopw [5, 6] (fun v i wr => ∃ k : Nat, k ≤ S.size ∧ i = .int .i64 (k : Nat) ∧ v = .int .i64 (valD (s.take k) : Nat) ∧ (s.take k).all isD = true ∧ valD (s.take k) < 10 ^ k ∧ ∃ m, wr = w.drewN m) (fun _ i _ => S.size - (intOf i).toNat)
      case atStart => exact ⟨0, Nat.zero_le _, rfl, by simp [valD], by simp, by simp [valD], 0, rfl⟩
      case round =>
        obtain ⟨k, hk, rfl, rfl, had, hvl, m, rfl⟩ := hrel
        have hk10 : k ≤ 10 := by have := HZ.out; have := HL.out; omega
        have hp10 : 10 ^ k ≤ 10 ^ 10 := Nat.pow_le_pow_right (by decide) hk10
        have e10 : (10 : Nat) ^ 10 = 10000000000 := by decide
        obtain ⟨v, hv⟩ : ∃ v, v = valD (s.take k) := ⟨_, rfl⟩
        rw [← hv] at hvl ⊢
        have hv10 : v < 10000000000 := by omega
        have HV := Lib.hid hv
        have HAD := Lib.hid had
        have HVL := Lib.hid hvl
        clear hv had hvl hp10 e10
        by_cases hlt : k < S.size
        · have g5 : (k : Int) < (S.size : Int) := by omega
          have g6 : (0 : Int) ≤ (k : Int) := by omega
          obtain ⟨hks, hb⟩ := byte_of HS.out hlt
          obtain ⟨d, hd⟩ : ∃ d, d = s[k].toNat := ⟨_, rfl⟩
          rw [← hd] at hb
          have hd8 : d < 256 := by rw [hd]; exact s[k].toNat_lt
          cases hq : isD s[k] with
          | false =>
            have HQ := Lib.hid (HX.out (not_all_isD hks hq))
            have hq2 : d < 48 ∨ 57 < d := by unfold isD at hq; rw [← hd] at hq; simp at hq; omega
            clear hd hq
            rcases hq2 with q | q
            · have g7 : (d : Int) < 48 := by omega
              go_wp2_with fail
              go_ret
              exact ⟨by rw [HQ.out]; rfl, m, rfl⟩
            · have g7 : ¬ (d : Int) < 48 := by omega
              have g8 : (57 : Int) < (d : Int) := by omega
              go_wp2_with fail
              go_ret
              exact ⟨by rw [HQ.out]; rfl, m, rfl⟩
          | true =>
            have hq2 : 48 ≤ d ∧ d ≤ 57 := by unfold isD at hq; rw [← hd] at hq; simpa using hq
            have g7 : ¬ (d : Int) < 48 := by omega
            have g8 : ¬ (57 : Int) < (d : Int) := by omega
            have HQ := Lib.hid hq
            have HT := Lib.hid (valD_take hks)
            have HD := Lib.hid hd
            clear hd hq
            go_wp2_with fail
            go_roundw
            case rel =>
              refine ⟨k + 1, by omega, by go_num, ?_, ?_, ?_, m, rfl⟩
              · rw [HT.out, ← HV.out, ← HD.out]; congr 1; omega
              · rw [List.take_succ_eq_append_getElem hks, List.all_append, HAD.out]; simp [HQ.out]
              · rw [HT.out, ← HV.out, ← HD.out, Nat.pow_succ]; have := HVL.out; omega
            case measure => simp [intOf]; omega
        · obtain rfl : k = S.size := by omega
          have hall : s.take S.size = s := by rw [HZ.out, List.take_length]
          have HE := Lib.hid (HN.out (by have := HAD.out; rwa [hall] at this))
          have HV2 := Lib.hid (show v = valD s by rw [HV.out, hall])
          clear hall
          go_wp2_with fail
          go_ret
          exact ⟨by rw [HE.out, ← HV2.out]; rfl, m, rfl⟩
  exact rest fun e => by have := HH.out e; have := HZ.out; omega
end Go.Proofs.YtnbapaimpoobkaaGreatDoor
