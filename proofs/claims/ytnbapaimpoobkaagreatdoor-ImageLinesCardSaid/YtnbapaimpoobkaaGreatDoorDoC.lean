/- Parts of the proofs of the statements of image. No statement of the seat is proved here. -/
import Derived.Test.YtnbapaimpoobkaaGreatDoorImgR
import Derived.Test.YtnbapaimpoobkaaGreatDoorOcD
import Derived.Test.YtnbapaimpoobkaaGreatDoorDoA
import Derived.Test.YtnbapaimpoobkaaGreatDoorNaK
import Derived.Test.YtnbapaimpoobkaaGreatDoorOcJ
namespace Go.Proofs.YtnbapaimpoobkaaGreatDoor
open Go.RowKit

theorem RefNum_any (S : ByteArray) (s : List UInt8) (w : World) (hS : S = mk s) (hb : s.length ≤ 1000000) :
    Calls Tryz.prog 56 #[.string S, .int .i64 10] w fun e w' => e = .returned (.int .i64 (numL s)) ∧ ∃ m, w' = w.drewN m := by
  have hz : S.size = s.length := by rw [hS, mk_size]
  by_cases h0 : s = []
  · have g1 : ((S.size : Int) == 0) = true := by rw [beq_iff_eq, hz, h0]; rfl
    have HE := Lib.hid (show numL s = -1 by unfold numL; rw [if_pos (.inl (by rw [h0]; rfl))])
    clear hS h0 hz
    go_enter Tryz.func56, Tryz.ntmps56
    go_wp2_with fail
    go_ret
    exact ⟨by rw [HE.out]; rfl, 0, rfl⟩
  · have hp := List.length_pos_iff.2 h0
    have g1 : ((S.size : Int) == 0) = false := by rw [beq_eq_false_iff_ne]; omega
    by_cases h1 : 10 < s.length
    · have g2 : (10 : Int) < (S.size : Int) := by omega
      have HE := Lib.hid (numL_long h1)
      clear hS h0 hz
      go_enter Tryz.func56, Tryz.ntmps56
      go_wp2_with fail
      go_ret
      exact ⟨by rw [HE.out]; rfl, 0, rfl⟩
    · by_cases h2 : s.head? = some 48 ∧ 1 < s.length
      · have HE := Lib.hid (show numL s = -1 by unfold numL; rw [if_pos (.inr (.inr (.inl h2)))])
        have g2 : ¬ (10 : Int) < (S.size : Int) := by omega
        have g3 : (1 : Int) < (S.size : Int) := by omega
        have hk0 : 0 < S.size := by omega
        have g4 : (S[0]'hk0).toNat = 48 := by
          obtain ⟨hk1, hb0⟩ := byte_of hS hk0
          rw [hb0]
          cases s with
          | nil => exact absurd rfl h0
          | cons c r => have := h2.1; simp at this; rw [List.getElem_cons_zero, this]; rfl
        clear hS h0 hz h2 h1
        go_enter Tryz.func56, Tryz.ntmps56
        go_wp2_with fail
        go_ret
        exact ⟨by rw [HE.out]; rfl, 0, rfl⟩
      · exact NumLoop_any S s w hS h0 (by omega) (fun e => by
          rcases Nat.lt_or_ge 1 s.length with g | g
          · exact absurd ⟨e, g⟩ h2
          · omega)

/-! ### Decimal -/
def DecAt (N u : Nat) (t : List UInt8) : Prop := (t = [] ∧ u = N) ∨ (t ≠ [] ∧ Lib.decDigits N = if u = 0 then t else Lib.decDigits u ++ t)
theorem DecAt.len {N u : Nat} {t : List UInt8} (h : DecAt N u t) : t.length ≤ (Lib.decDigits N).length := by
  rcases h with ⟨e, _⟩ | ⟨_, e⟩
  · simp [e]
  · rw [e]; split <;> simp
theorem DecAt.step {N u : Nat} {t : List UInt8} (h : DecAt N u t) (hu : 0 < u ∨ t = []) : DecAt N (u / 10) (UInt8.ofNat (48 + u % 10) :: t) := by
  right
  refine ⟨by simp, ?_⟩
  have hd : Lib.decDigits u = (if u / 10 = 0 then [] else Lib.decDigits (u / 10)) ++ [UInt8.ofNat (48 + u % 10)] := by
    by_cases h10 : u < 10
    · rw [Lib.decDigits_one h10, if_pos (by omega), Nat.mod_eq_of_lt h10]; rfl
    · rw [dec_big h10, if_neg (by omega)]
  rcases h with ⟨rfl, rfl⟩ | ⟨h1, h2⟩
  · rw [hd]; split <;> simp
  · have h0 : u ≠ 0 := by rcases hu with h | h
                          · omega
                          · exact absurd h h1
    rw [if_neg h0] at h2
    rw [h2, hd]
    split <;> simp
theorem DecAt.done {N : Nat} {t : List UInt8} (h : DecAt N 0 t) (ht : t ≠ []) : Lib.decDigits N = t := by
  rcases h with ⟨e, _⟩ | ⟨_, e⟩
  · exact absurd e ht
  · simpa using e
/-! ### Hex -/
end Go.Proofs.YtnbapaimpoobkaaGreatDoor
namespace Go.Proofs.YtnbapaimpoobkaaGreatDoor
open Go.RowKit

/-! ### Words -/
theorem strs_info : (Tryz.prog.info? 9).map (fun i => (i.zero, i.size, i.bytes)) = some (some (.string ⟨#[]⟩), 1, 16) := by kernel_rfl
def WAt (s : List UInt8) (out : List (List UInt8)) (f k : Nat) : Prop := (k ≤ s.length ∧ Wds s out f k) ∨ (k = s.length + 1 ∧ out = wordsL s)
theorem ext_list {S : ByteArray} {s : List UInt8} (hS : S = mk s) (f k : Nat) : S.extract f k = mk ((s.take k).drop f) := by
  rw [hS, mk_extract]
def WordsLeaves (s : List UInt8) (w : World) (e : Ending) (w' : World) : Prop := ∃ A c, e = .returned (.slice A (wordsL s).length c) ∧ Sees w' w'.heap.size A (wordsL s).length (texts ((wordsL s).map mk)) ∧ Below w.heap.size w w'
set_option maxHeartbeats 4000000 in
theorem Words_any (S : ByteArray) (s : List UInt8) (w : World) (hS : S = mk s) (hb : s.length ≤ 1000000) :
    Calls Tryz.prog 53 #[.string S] w (WordsLeaves s w) := by
  have hz : S.size = s.length := by rw [hS, mk_size]
  have HS := Lib.hid hS
  have HZ := Lib.hid hz
  have hb2 : S.size ≤ 1000000 := by omega
  clear hS hb hz
  go_enter Tryz.func53, Tryz.ntmps53
  go_wp2_with fail
  go_loopw [3, 4, 5] (fun v f i wr => ∃ (k fr : Nat) (out : List (List UInt8)), k ≤ S.size + 1 ∧ i = .int .i64 (k : Nat) ∧ f = .int .i64 (fr : Nat) ∧ WAt s out fr k ∧ out.length ≤ k ∧ wr.ownsRow w.heap.size 9 1 v out.length (texts (out.map mk)) ∧ Below w.heap.size w wr) (fun _ _ i _ => S.size + 1 - (intOf i).toNat)
  case atStart => exact ⟨0, 0, [], Nat.zero_le _, rfl, rfl, .inl ⟨Nat.zero_le _, Wds.start s⟩, Nat.le_refl _, World.ownsRow_nil _ _ _ _, Below.refl _ _⟩
  case round =>
    obtain ⟨k, fr, out, hk, rfl, rfl, hw, hol, hown, hB⟩ := hrel
    have HO := Lib.hid hown
    have HB := Lib.hid hB
    have HOL := Lib.hid hol
    obtain ⟨i0, hi0, hz0, hz1, hz2⟩ := info_parts strs_info
    have H63 : Hid (out.length + 1 ≤ maxLen) := Lib.hid (by unfold maxLen; omega)
    have H47 : Hid ((out.length + 1) * 16 ≤ 140737488355328) := Lib.hid (by omega)
    by_cases hle : k ≤ S.size
    · have hw2 : Wds s out fr k := by rcases hw with h | h
                                      · exact h.2
                                      · have := HZ.out; omega
      have g1 : (k : Int) ≤ (S.size : Int) := by omega
      have hf := hw2.1
      have g2 : (0 : Int) ≤ (fr : Int) := by omega
      have g3 : (fr : Int) ≤ (k : Int) := by omega
      have g0 : (0 : Int) ≤ (k : Int) := by omega
      obtain ⟨P, hP⟩ : ∃ P, P = S.extract fr k := ⟨_, rfl⟩
      have HP := Lib.hid (show P = mk ((s.take k).drop fr) by rw [hP]; exact ext_list HS.out fr k)
      have HPP := Lib.hid hP
      have HW := Lib.hid hw2
      clear hown hB hol hw hw2 hP
      by_cases he : k = S.size
      · have HN := Lib.hid (show out ++ [(s.take k).drop fr] = wordsL s by
          have := HW.out
          have h2 : k = s.length := by rw [he, HZ.out]
          rw [h2] at this ⊢; exact this.ends.symm)
        have HKL := Lib.hid (show k + 1 = s.length + 1 by rw [he, HZ.out])
        have H2 := HPP.out
        rw [he] at H2
        have HP2 := Lib.hid H2
        clear HPP H2
        subst he
        clear g1
        go_wp2_with (at_builtin; refine wpList_append_own _ rfl _ _ 37 rfl w.heap.size 9 i0 (.string ⟨#[]⟩) 1 16 Tryz.underlying37 hi0 hz0 hz1 hz2 rfl (by decide) _ _ _ rfl (HO.out.alloc _) ⟨wr.heap.size, 0, none⟩ 1 1 [.string (S.extract fr S.size)] rfl rfl (news1 _ _ _) (one1 _ rfl) H63.out H47.out (by have := HB.out.size; simp; omega) ?_; intro v2 w2 hown2 hgrow _)
        have HO3 := Lib.hid (show w2.ownsRow w.heap.size 9 1 v2 (out ++ [(s.take S.size).drop fr]).length (texts ((out ++ [(s.take S.size).drop fr]).map mk)) by rw [← HP2.out, HP.out] at hown2; simpa [texts] using hown2)
        have HB2 := Lib.hid ((HB.out.alloc HB.out.size (.cells #[.string (S.extract fr S.size)] 9)).grown hgrow (by have := HB.out.size; simp; omega) (fun j hj => (HO.out.lt j hj).1))
        clear hown2 hgrow
        go_roundw
        case rel => exact ⟨S.size + 1, S.size + 1, _, by omega, by go_num, by go_num, .inr ⟨HKL.out, HN.out⟩, by have := HOL.out; simp; omega, HO3.out, HB2.out⟩
        case measure => simp [intOf]
      · have g4 : ((k : Int) == (S.size : Int)) = false := by rw [beq_eq_false_iff_ne]; omega
        have hlt : k < S.size := by omega
        obtain ⟨hks, hc⟩ := byte_of HS.out hlt
        obtain ⟨d, hd⟩ : ∃ d, d = s[k].toNat := ⟨_, rfl⟩
        rw [← hd] at hc
        by_cases h32 : d = 32
        · have hsk : s[k] = blk := UInt8.toNat_inj.1 (by rw [← hd, h32]; rfl)
          have HN := Lib.hid (HW.out.blank hks hsk)
          subst h32
          clear hd hsk he
          go_wp2_with (at_builtin; refine wpList_append_own _ rfl _ _ 37 rfl w.heap.size 9 i0 (.string ⟨#[]⟩) 1 16 Tryz.underlying37 hi0 hz0 hz1 hz2 rfl (by decide) _ _ _ rfl (HO.out.alloc _) ⟨wr.heap.size, 0, none⟩ 1 1 [.string (S.extract fr k)] rfl rfl (news1 _ _ _) (one1 _ rfl) H63.out H47.out (by have := HB.out.size; simp; omega) ?_; intro v2 w2 hown2 hgrow _)
          have HO3 := Lib.hid (show w2.ownsRow w.heap.size 9 1 v2 (out ++ [(s.take k).drop fr]).length (texts ((out ++ [(s.take k).drop fr]).map mk)) by rw [← HPP.out, HP.out] at hown2; simpa [texts] using hown2)
          have HB2 := Lib.hid ((HB.out.alloc HB.out.size (.cells #[.string (S.extract fr k)] 9)).grown hgrow (by have := HB.out.size; simp; omega) (fun j hj => (HO.out.lt j hj).1))
          clear hown2 hgrow
          go_roundw
          case rel => exact ⟨k + 1, k + 1, _, by omega, by go_num, by go_num, .inl ⟨by have := HZ.out; omega, HN.out⟩, by have := HOL.out; simp; omega, HO3.out, HB2.out⟩
          case measure => simp [intOf]; omega
        · have g5 : ((d : Int) == 32) = false := by rw [beq_eq_false_iff_ne]; omega
          have hsk : s[k] ≠ blk := fun e => h32 (by rw [hd, e]; rfl)
          have HN := Lib.hid (HW.out.byte hks hsk)
          clear hd hsk h32 he
          go_wp2_with fail
          go_roundw
          case rel => exact ⟨k + 1, fr, out, by omega, by go_num, rfl, .inl ⟨by have := HZ.out; omega, HN.out⟩, by have := HOL.out; omega, HO.out, HB.out⟩
          case measure => simp [intOf]; omega
    · have g1 : ¬ (k : Int) ≤ (S.size : Int) := by omega
      have HE := Lib.hid (show out = wordsL s by
        rcases hw with h | h
        · have := HZ.out; omega
        · exact h.2)
      obtain ⟨A, c, rfl, hs⟩ := Sees.own hown
      have HSS := Lib.hid hs
      clear hown hB hol hw hs
      go_wp2_with fail
      go_ret
      exact ⟨A, c, by rw [← HE.out]; rfl, by rw [← HE.out]; exact HSS.out, HB.out⟩
end Go.Proofs.YtnbapaimpoobkaaGreatDoor
namespace Go.Proofs.YtnbapaimpoobkaaGreatDoor
open Go.RowKit

theorem half_nat (d : Nat) (w : World) (hd : d < 256) : Calls Tryz.prog 114 #[.int .u8 (d : Nat)] w fun e w' => e = .returned (.int .i64 (halfI (UInt8.ofNat d))) ∧ w' = w :=
  half_any d (UInt8.ofNat d) w (by rw [UInt8.toNat_ofNat']; omega)
theorem byte_infoV : (Tryz.prog.info? 5).map (fun i => (i.zero, i.size, i.bytes)) = some (some (.int .u8 0), 1, 1) := by kernel_rfl
theorem drop_two {s : List UInt8} {k : Nat} (h : k + 1 < s.length) : s.drop k = s[k] :: s[k + 1] :: s.drop (k + 2) := by
  rw [List.drop_eq_getElem_cons (by omega), List.drop_eq_getElem_cons h]
def UnhexOut (s : List UInt8) (e : Ending) : Prop := ∃ D ok, e = .returned (.tuple #[.string D, .bool ok]) ∧ (match unhexL s with | some d => ok = true ∧ D = mk d | none => ok = false)
theorem UnhexOut.no {s : List UInt8} {D : ByteArray} (h : unhexL s = none) : UnhexOut s (.returned (.tuple #[.string D, .bool false])) := ⟨D, false, rfl, by rw [h]⟩
theorem UnhexOut.yes {s d : List UInt8} (h : unhexL s = some d) : UnhexOut s (.returned (.tuple #[.string (mk d), .bool true])) := ⟨_, true, rfl, by rw [h]; exact ⟨rfl, rfl⟩⟩
set_option maxHeartbeats 4000000 in
set_option maxRecDepth 20000 in
theorem Unhex_any (S : ByteArray) (s : List UInt8) (w : World) (hS : S = mk s) (hb : s.length ≤ 1000000) :
    Calls Tryz.prog 55 #[.string S] w fun e w' => UnhexOut s e ∧ Below w.heap.size w w' := by
  have hz : S.size = s.length := by rw [hS, mk_size]
  have HS := Lib.hid hS
  have HZ := Lib.hid hz
  have hb2 : S.size ≤ 1000000 := by omega
  obtain ⟨i0, hi0, hz0, hz1, hz2⟩ := info_parts byte_infoV
  clear hS hb hz
  go_enter Tryz.func55, Tryz.ntmps55
  go_wp2_with fail
  go_loopw [4, 5] (fun v i wr => ∃ (k : Nat) (d : List UInt8), k ≤ S.size ∧ i = .int .i64 (k : Nat) ∧ k = 2 * d.length ∧ Pairs s d (s.drop k) ∧ wr.ownsRow w.heap.size 5 1 v d.length (bytesV d) ∧ Below w.heap.size w wr) (fun _ i _ => S.size - (intOf i).toNat)
  case atStart => exact ⟨0, [], Nat.zero_le _, rfl, rfl, Pairs.start s, World.ownsRow_nil _ _ _ _, Below.refl _ _⟩
  case round =>
    obtain ⟨k, d, hk, rfl, hkd, hp, hown, hB⟩ := hrel
    have HO := Lib.hid hown
    have HB := Lib.hid hB
    have HP := Lib.hid hp
    have HKD := Lib.hid hkd
    have H63 : Hid (d.length + 1 ≤ maxLen) := Lib.hid (by unfold maxLen; omega)
    have H47 : Hid ((d.length + 1) * 1 ≤ 140737488355328) := Lib.hid (by omega)
    clear hown hB hp hkd
    by_cases hlt : k + 1 < S.size
    · have g1 : (k : Int) + 1 < (S.size : Int) := by omega
      have g0 : (0 : Int) ≤ (k : Int) := by omega
      have g2 : (k : Int) < (S.size : Int) := by omega
      obtain ⟨hk1, hc1⟩ := byte_of HS.out (show k < S.size by omega)
      obtain ⟨hk2, hc2⟩ := byte_of HS.out hlt
      obtain ⟨a, ha⟩ : ∃ a, a = s[k] := ⟨_, rfl⟩
      obtain ⟨b, hb⟩ : ∃ b, b = s[k + 1] := ⟨_, rfl⟩
      have HD2 := Lib.hid (show s.drop k = a :: b :: s.drop (k + 2) by rw [ha, hb]; exact drop_two hk2)
      rw [← ha] at hc1
      rw [← hb] at hc2
      clear ha hb
      obtain ⟨x, hx⟩ : ∃ x, x = a.toNat := ⟨_, rfl⟩
      obtain ⟨y, hy⟩ : ∃ y, y = b.toNat := ⟨_, rfl⟩
      have hx8 : x < 256 := by rw [hx]; exact a.toNat_lt
      have hy8 : y < 256 := by rw [hy]; exact b.toNat_lt
      rw [← hx] at hc1
      rw [← hy] at hc2
      have ea : UInt8.ofNat x = a := by rw [hx]; exact UInt8.ofNat_toNat
      have eb : UInt8.ofNat y = b := by rw [hy]; exact UInt8.ofNat_toNat
      have r1 := halfI_range a
      have r2 := halfI_range b
      obtain ⟨p, hpa⟩ : ∃ p, p = halfI a := ⟨_, rfl⟩
      obtain ⟨q, hqb⟩ : ∃ q, q = halfI b := ⟨_, rfl⟩
      have HA := Lib.hid (show halfI (UInt8.ofNat x) = p by rw [ea, hpa])
      have HBB := Lib.hid (show halfI (UInt8.ofNat y) = q by rw [eb, hqb])
      rw [← hpa] at r1
      rw [← hqb] at r2
      have HPA := Lib.hid hpa
      have HQB := Lib.hid hqb
      clear hx hy ea eb hpa hqb
      by_cases hneg : p < 0
      · have HF := Lib.hid (show unhexL s = none by have := HP.out; rw [HD2.out] at this; exact this.fails (.inl (by rw [← HPA.out]; exact hneg)))
        go_wp2_with fail
        refine (half_nat x _ hx8).mono ?_
        rw [HA.out]
        rintro e w1 ⟨rfl, hw1⟩
        rw [hw1]
        go_wp2_with fail
        go_ret2
        exact ⟨.no HF.out, HB.out⟩
      · by_cases hneg2 : q < 0
        · have HF := Lib.hid (show unhexL s = none by have := HP.out; rw [HD2.out] at this; exact this.fails (.inr (by rw [← HQB.out]; exact hneg2)))
          go_wp2_with fail
          refine (half_nat x _ hx8).mono ?_
          rw [HA.out]
          rintro e w1 ⟨rfl, hw1⟩
          rw [hw1]
          go_wp2_with fail
          refine (half_nat y _ hy8).mono ?_
          rw [HBB.out]
          rintro e w2 ⟨rfl, hw2⟩
          rw [hw2]
          go_wp2_with fail
          go_ret2
          exact ⟨.no HF.out, HB.out⟩
        · have HST := Lib.hid (show Pairs s (d ++ [UInt8.ofNat (p * 16 + q).toNat]) (s.drop (k + 2)) by have := HP.out; rw [HD2.out] at this; have h2 := this.step (by rw [← HPA.out]; omega) (by rw [← HQB.out]; omega); rwa [← HPA.out, ← HQB.out] at h2)
          go_wp2_with fail
          refine (half_nat x _ hx8).mono ?_
          rw [HA.out]
          rintro e w1 ⟨rfl, hw1⟩
          rw [hw1]
          go_wp2_with fail
          refine (half_nat y _ hy8).mono ?_
          rw [HBB.out]
          rintro e w2 ⟨rfl, hw2⟩
          rw [hw2]
          have hb0 : (0 : Int) ≤ p * 16 + q := by omega
          have hb1 : p * 16 + q < 256 := by omega
          obtain ⟨z, hz⟩ : ∃ z, z = p * 16 + q := ⟨_, rfl⟩
          have m1 : IntKind.u8.wrap (p * 16 + q) = z := by rw [IntKind.wrap_u8, hz]; omega
          have m2 : IntKind.i64.wrap (p * 16) = p * 16 := by rw [IntKind.wrap_i64]; omega
          have m3 : IntKind.i64.wrap (p * 16 + q) = p * 16 + q := by rw [IntKind.wrap_i64]; omega
          have m4 : IntKind.i64.wrap ((k : Int) + 1) = (k : Int) + 1 := by rw [IntKind.wrap_i64]; omega
          have m5 : wrap64 ((k : Int) + 1) = (k : Int) + 1 := by unfold wrap64; omega
          have HZ2 := Lib.hid hz
          clear hz
          go_wp2_with fail
          refine wp_region_noPanic ?_
          go_region_law (first | (refine step_append_lies _ (by rfl) _ _ _ (by rfl) w.heap.size 5 i0 (.int .u8 0) 1 1 Tryz.underlying64 hi0 hz0 hz1 hz2 rfl (by omega) _ d.length _ (by rfl) (World.ownsRow.alloc (w := wr.drew) HO.out _) ⟨wr.heap.size, 0, none⟩ 1 1 [.int .u8 z] (by rfl) (by rfl) (World.news_of_block (cs := #[.int .u8 z]) (t := 5) (fr := (0, 0)) (heap_alloc_new wr.drew _)) (by simp [Value.oneCell']) (by omega) H63.out H47.out (by have := HB.out.size; simp; omega) (wr.heap.size + 1) (by simp) ?_; intro gg cap w2 hown2 hgrow hat hlt2) | (go_simp; go_at_call 114; (first | (with_reducible refine (half_nat x _ hx8).mono ?_; rw [HA.out]; rintro e w1 ⟨rfl, rfl⟩) | (with_reducible refine (half_nat y _ hy8).mono ?_; rw [HBB.out]; rintro e w1 ⟨rfl, rfl⟩))))
          all_goals
            refine NoPanic.normal ?_
            clear m1 m2 m3 m4 m5 hat hlt2
            have hown3 : w2.ownsRow w.heap.size 5 1 (.slice (some ⟨gg, 0, none⟩) (d.length + 1) cap) (d ++ [UInt8.ofNat (p * 16 + q).toNat]).length (bytesV (d ++ [UInt8.ofNat (p * 16 + q).toNat])) := by
              have e : (UInt8.ofNat (p * 16 + q).toNat).toNat = (p * 16 + q).toNat := by rw [UInt8.toNat_ofNat']; omega
              have e2 : ((p * 16 + q).toNat : Int) = z := by have := HZ2.out; omega
              simpa [bytesV, e, e2] using hown2
            have HO2 := Lib.hid hown3
            have hBd : Below w.heap.size w wr.drew := HB.out.drew
            have HB2 := Lib.hid ((hBd.alloc HB.out.size (.cells #[.int .u8 z] 5)).grown hgrow (by have := HB.out.size; simp; omega) (fun j hj => (HO.out.lt j hj).1))
            clear hown2 hown3 hgrow hBd r1 r2 hb0 hb1 hneg hneg2 hc1 hc2
            clear hw1 hw2
            go_wp2_with fail
            go_roundw
            case rel =>
              have hl : k + 2 = 2 * (d ++ [UInt8.ofNat (p * 16 + q).toNat]).length := by rw [List.length_append, List.length_singleton]; have := HKD.out; omega
              have hle : k + 2 ≤ S.size := by omega
              clear HZ2 HA HBB HPA HQB HP HD2 H63 H47
              exact ⟨k + 2, d ++ [UInt8.ofNat (p * 16 + q).toNat], hle, by go_num, hl, HST.out, HO2.out, HB2.out⟩
            case measure => simp [intOf]; omega
    · have g1 : ¬ (k : Int) + 1 < (S.size : Int) := by omega
      obtain ⟨A, c, rfl, hs⟩ := Sees.own HO.out
      have hcv : (convert 64 9 (.slice A d.length c)).run Tryz.prog wr = .ok (.string (mk d)) wr := str_of_own HO.out
      by_cases he : k = S.size
      · have HE := Lib.hid (show unhexL s = some d by have := HP.out; have h2 : k = s.length := by rw [he, HZ.out]
                                                      rw [h2, List.drop_length] at this; exact this.ends)
        have g2 : (S.size : Int) % 2 = 0 := by have := HKD.out; omega
        clear he
        go_wp2_with fail
        go_ret2
        exact ⟨.yes HE.out, HB.out⟩
      · have HE := Lib.hid (show unhexL s = none by
          have h2 : k + 1 = s.length := by have := HZ.out; omega
          have := HP.out
          rw [List.drop_eq_getElem_cons (show k < s.length by omega), List.drop_eq_nil_of_le (by omega)] at this
          exact this.one)
        have g2 : (S.size : Int) % 2 = 1 := by have := HKD.out; omega
        clear he
        go_wp2_with fail
        go_ret2
        exact ⟨.no HE.out, HB.out⟩
end Go.Proofs.YtnbapaimpoobkaaGreatDoor
namespace Go.Proofs.YtnbapaimpoobkaaGreatDoor
open Go.RowKit
set_option maxRecDepth 20000

theorem dotAdd_zero' (W : World) (j : Nat) : (⟨W.heap.size, 0, none⟩ : Addr).add j = ⟨W.heap.size, j, none⟩ := by rw [add_flat, Nat.zero_add]
theorem ofNat_toNat {q : Int} (h0 : 0 ≤ q) (h1 : q < 256) : ((UInt8.ofNat q.toNat).toNat : Int) = q := by rw [UInt8.toNat_ofNat']; omega
theorem dotOne_new (q : Int) (W : World) (h0 : 0 ≤ q) (h1 : q < 256) :
    (convert 64 9 (.slice (some ⟨W.heap.size, 0, none⟩) 1 1)).run Tryz.prog (W.alloc (.cells #[.int .u8 q] 5)) = .ok (.string (mk [UInt8.ofNat q.toNat])) (W.alloc (.cells #[.int .u8 q] 5)) := by
  refine run_convert_bytes_back _ _ _ 5 ⟨W.heap.size, 0, none⟩ 1 [UInt8.ofNat q.toNat] Tryz.underlying64 Tryz.underlying5 Tryz.underlying9 (fun j hj => ?_)
  rw [dotAdd_zero' W j, (Whole.new W 5 _).cell]
  have hj0 : j = 0 := by simpa using hj
  subst hj0
  have e := ofNat_toNat h0 h1
  simp only [List.getElem_cons_zero]
  rw [show ((UInt8.ofNat q.toNat).toNat : Int) = q from e]; rfl
/-! ### The reference's Text -/
end Go.Proofs.YtnbapaimpoobkaaGreatDoor
