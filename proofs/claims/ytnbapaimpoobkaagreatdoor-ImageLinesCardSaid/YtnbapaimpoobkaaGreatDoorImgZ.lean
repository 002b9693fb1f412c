/- Parts of the proofs of the statements of image. No statement of the seat is proved here. -/
import Derived.Test.YtnbapaimpoobkaaGreatDoorImgR
import Derived.Test.YtnbapaimpoobkaaGreatDoorImgJ
import Derived.Deep.RegionHeld3
namespace Go.Proofs.YtnbapaimpoobkaaGreatDoor
open Go.RowKit Go.Op
set_option linter.unusedVariables false

theorem list_mk : ∀ zs : List ByteArray, ∃ ls : List (List UInt8), zs = ls.map mk
  | [] => ⟨[], rfl⟩
  | z :: zs => by
    obtain ⟨ls, h⟩ := list_mk zs
    exact ⟨z.data.toList :: ls, by rw [List.map_cons, mk_toList, ← h]⟩
set_option maxHeartbeats 32000000 in
set_option maxRecDepth 20000 in
theorem ImageLines_walk (N : ByteArray) (A : Option Addr) (n c : Nat) (zs : List ByteArray) (w : World) (hs : Sees w w.heap.size A n (texts zs)) (he : EnvL w) :
    Calls Tryz.prog 5 #[.string N, .slice A n c] w fun e w' => e = .returned (.bool true) ∧ Below w.heap.size w w' := by
  obtain ⟨nn, hnn⟩ : ∃ nn, N = mk nn := ⟨_, (mk_toList N).symm⟩
  have HN := Lib.hid hnn
  obtain ⟨ls, hls⟩ := list_mk zs
  subst hls
  have HS := Lib.hid hs
  have HLM := Lib.hid (show ls.length = n by have := hs.len; simpa [texts] using this)
  have HE := Lib.hid he
  clear hs he hnn
  by_cases h40 : n ≤ 40
  · have g40 : ¬ ((n : Int) > 40) := by omega
    by_cases h600 : N.size ≤ 600
    · have g600 : ¬ ((N.size : Int) > 600) := by omega
      go_enter Tryz.func5, Tryz.ntmps5
      go_wp2_with fail
      refine (iawake_any _ HE.out.env).mono ?_
      rintro e w1 ⟨rfl, hB⟩
      have HB1 := Lib.hid hB
      have HS1 := Lib.hid ((HS.out.below hB).more hB.size)
      clear hB
      go_wp2_with fail
      go_loopw [5] (fun i wr => ∃ k : Nat, k ≤ n ∧ i = .int .i64 (k : Nat) ∧ (∀ s ∈ ls.take k, s.length ≤ 3000) ∧ Below w1.heap.size w1 wr) (fun i _ => n - (intOf i).toNat)
      case atStart => exact ⟨0, Nat.zero_le _, rfl, fun s hs => by simp at hs, Below.refl _ _⟩
      case round =>
        obtain ⟨k, hk, rfl, hal, hB⟩ := hrel
        have HAL := Lib.hid hal
        have HB := Lib.hid hB
        have HB2 := Lib.hid (HB1.out.trans (hB.mono HB1.out.size))
        clear hal hB
        by_cases hkn : k < n
        · have g1 : (k : Int) < (n : Int) := by omega
          have g0 : (0 : Int) ≤ (k : Int) := by omega
          obtain ⟨b, off, rfl, hb, hc⟩ := texts_at (HS1.out.below HB.out) hkn
          have hkl : k < ls.length := by rw [HLM.out]; exact hkn
          obtain ⟨s, hsk⟩ : ∃ s, s = ls[k] := ⟨_, rfl⟩
          have hg : (ls.map mk).getD k ByteArray.empty = mk s := by rw [hsk]; simp [List.getD, hkl]
          have HPK := Lib.hid (show ls[k]? = some s by rw [hsk]; exact List.getElem?_eq_getElem hkl)
          rw [hg] at hc
          obtain ⟨P, hP⟩ : ∃ P, P = mk s := ⟨_, rfl⟩
          have hPz : P.size = s.length := by rw [hP, mk_size]
          rw [← hP] at hc
          clear hg hsk hkl hP
          by_cases hlen : s.length ≤ 3000
          · have g3 : ¬ ((P.size : Int) > 3000) := by omega
            have HAL2 := Lib.hid (show ∀ t ∈ ls.take (k + 1), t.length ≤ 3000 from fun t ht => by
              rw [List.take_add_one, HPK.out] at ht
              rcases List.mem_append.1 ht with h | h
              · exact HAL.out t h
              · simp at h; rw [h]; exact hlen)
            clear hlen
            go_wp2_with fail
            go_roundw
            case rel => exact ⟨k + 1, by omega, by go_num, HAL2.out, HB.out⟩
            case measure => simp [intOf]; omega
          · have g3 : ((P.size : Int) > 3000) := by omega
            clear hlen
            go_wp2_with fail
            go_ret
            exact ⟨rfl, HB2.out⟩
        · obtain rfl : k = n := by omega
          have g2 : ¬ ((k : Int) < (k : Int)) := by omega
          have HL3 := Lib.hid (show ∀ s ∈ ls, s.length ≤ 3000 by have := HAL.out; rwa [List.take_of_length_le (by rw [HLM.out]; exact Nat.le_refl _)] at this)
          have HS2 := Lib.hid ((HS1.out.below HB.out).more HB.out.size)
          go_wp2_with fail
          refine (IRead_any N nn A k c ls _ HN.out HS2.out (by omega) (fun s hs => Nat.le_trans (HL3.out s hs) (by decide)) (HE.out.beyond HB2.out)).mono ?_
          rintro e w3 ⟨h, hB⟩
          have HB3 := Lib.hid (HB2.out.trans (hB.mono HB2.out.size))
          have HS3 := Lib.hid ((HS2.out.below hB).more hB.size)
          clear hB
          unfold ReadOut at h
          cases hr : recsL ls with
          | none =>
            rw [hr] at h
            simp only at h
            subst h
            have HRL := Lib.hid hr
            clear hr
            unfold zeroZ
            obtain ⟨W3, hW3⟩ : ∃ W, W = w3.alloc (.cells #[.string ⟨#[]⟩, .slice none 0 0, .string ⟨#[]⟩, .int .i64 0, .int .i64 0, .int .i64 0, .string ⟨#[]⟩] zoT) := ⟨_, rfl⟩
            obtain ⟨g3, hg3⟩ : ∃ g, g = w3.heap.size := ⟨_, rfl⟩
            have hb3 : Below w3.heap.size w3 W3 := by rw [hW3]; exact (Below.refl _ _).alloc (Nat.le_refl _) _
            have HB4 := Lib.hid (HB3.out.trans (hb3.mono HB3.out.size))
            have HS4 := Lib.hid ((HS3.out.below hb3).more hb3.size)
            have HWW3 := Lib.hid hW3
            have HG3 := Lib.hid hg3
            clear hW3 hg3 hb3
            go_wp2_with fail
            rw [← HWW3.out, ← HG3.out]
            refine (RRead18_any N nn A k c ls _ HN.out HS4.out (by omega) HL3.out).mono ?_
            rintro e w4 ⟨h, hB⟩
            unfold RReadOut at h
            have HB5 := Lib.hid ((HB4.out.trans (hB.mono HB4.out.size)))
            clear hB
            rw [HRL.out] at h
            simp only at h
            subst h
            have HB6 := Lib.hid (HB5.out.alloc HB5.out.size (.cells #[.string ⟨#[]⟩, .slice none 0 0] rzT))
            go_wp2_with fail
            obtain ⟨W5, hW5⟩ : ∃ W, W = w4.alloc (.cells #[.string ⟨#[]⟩, .slice none 0 0] rzT) := ⟨_, rfl⟩
            rw [← hW5] at HB6 ⊢
            clear hW5
            refine region_later (by kernel_rfl) ?_
            repeat (go_big_quiet_step (fail))
            refine wpQuiet_nil ?_
            rintro _ ⟨q2, rfl⟩
            obtain ⟨V, hB⟩ := q2
            simp only []
            have HBE := Lib.hid (HB6.out.trans (hB.mono HB6.out.size))
            clear hB
            go_wp2_with fail
            go_ret
            exact ⟨rfl, HBE.out⟩
          | some xs =>
            rw [hr] at h
            simp only at h
            have HRL := Lib.hid hr
            clear hr
            unfold NewOut at h
            rcases h with ⟨hc, rfl⟩ | ⟨hc, rfl⟩ | ⟨hc, v, rfl, hz⟩
            · have HC := Lib.hid hc
              clear hc
              unfold zeroZ
              obtain ⟨W3, hW3⟩ : ∃ W, W = w3.alloc (.cells #[.string ⟨#[]⟩, .slice none 0 0, .string ⟨#[]⟩, .int .i64 0, .int .i64 0, .int .i64 0, .string ⟨#[]⟩] zoT) := ⟨_, rfl⟩
              obtain ⟨g3, hg3⟩ : ∃ g, g = w3.heap.size := ⟨_, rfl⟩
              have hb3 : Below w3.heap.size w3 W3 := by rw [hW3]; exact (Below.refl _ _).alloc (Nat.le_refl _) _
              have HB4 := Lib.hid (HB3.out.trans (hb3.mono HB3.out.size))
              have HS4 := Lib.hid ((HS3.out.below hb3).more hb3.size)
              have HWW3 := Lib.hid hW3
              have HG3 := Lib.hid hg3
              clear hW3 hg3 hb3
              go_wp2_with fail
              rw [← HWW3.out, ← HG3.out]
              refine (RRead18_any N nn A k c ls _ HN.out HS4.out (by omega) HL3.out).mono ?_
              rintro e w4 ⟨h, hB⟩
              unfold RReadOut at h
              have HB5 := Lib.hid ((HB4.out.trans (hB.mono HB4.out.size)))
              clear hB
              rw [HRL.out] at h
              simp only at h
              unfold ZRefOut at h
              rcases h with ⟨h, rfl⟩ | ⟨h, _⟩ | ⟨h, _⟩
              · clear h
                have HB6 := Lib.hid (HB5.out.alloc HB5.out.size (.cells #[.string ⟨#[]⟩, .slice none 0 0] rzT))
                go_wp2_with fail
                obtain ⟨W5, hW5⟩ : ∃ W, W = w4.alloc (.cells #[.string ⟨#[]⟩, .slice none 0 0] rzT) := ⟨_, rfl⟩
                rw [← hW5] at HB6 ⊢
                clear hW5
                refine region_later (by kernel_rfl) ?_
                repeat (go_big_quiet_step (fail))
                refine wpQuiet_nil ?_
                rintro _ ⟨q2, rfl⟩
                obtain ⟨V, hB⟩ := q2
                simp only []
                have HBE := Lib.hid (HB6.out.trans (hB.mono HB6.out.size))
                clear hB
                go_wp2_with fail
                go_ret
                exact ⟨rfl, HBE.out⟩
              · rw [HC.out] at h; cases h
              · rw [HC.out] at h; cases h
            · have HC := Lib.hid hc
              clear hc
              unfold zeroZ
              obtain ⟨W3, hW3⟩ : ∃ W, W = w3.alloc (.cells #[.string ⟨#[]⟩, .slice none 0 0, .string ⟨#[]⟩, .int .i64 0, .int .i64 0, .int .i64 0, .string ⟨#[]⟩] zoT) := ⟨_, rfl⟩
              obtain ⟨g3, hg3⟩ : ∃ g, g = w3.heap.size := ⟨_, rfl⟩
              have hb3 : Below w3.heap.size w3 W3 := by rw [hW3]; exact (Below.refl _ _).alloc (Nat.le_refl _) _
              have HB4 := Lib.hid (HB3.out.trans (hb3.mono HB3.out.size))
              have HS4 := Lib.hid ((HS3.out.below hb3).more hb3.size)
              have HWW3 := Lib.hid hW3
              have HG3 := Lib.hid hg3
              clear hW3 hg3 hb3
              go_wp2_with fail
              rw [← HWW3.out, ← HG3.out]
              refine (RRead18_any N nn A k c ls _ HN.out HS4.out (by omega) HL3.out).mono ?_
              rintro e w4 ⟨h, hB⟩
              unfold RReadOut at h
              have HB5 := Lib.hid ((HB4.out.trans (hB.mono HB4.out.size)))
              clear hB
              rw [HRL.out] at h
              simp only at h
              unfold ZRefOut at h
              rcases h with ⟨h, _⟩ | ⟨h, rfl⟩ | ⟨h, _⟩
              · rw [HC.out] at h; cases h
              · clear h
                have HB6 := Lib.hid (HB5.out.alloc HB5.out.size (.cells #[.string ⟨#[]⟩, .slice none 0 0] rzT))
                go_wp2_with fail
                obtain ⟨W5, hW5⟩ : ∃ W, W = w4.alloc (.cells #[.string ⟨#[]⟩, .slice none 0 0] rzT) := ⟨_, rfl⟩
                rw [← hW5] at HB6 ⊢
                clear hW5
                refine region_later (by kernel_rfl) ?_
                repeat (go_big_quiet_step (fail))
                refine wpQuiet_nil ?_
                rintro _ ⟨q2, rfl⟩
                obtain ⟨V, hB⟩ := q2
                simp only []
                have HBE := Lib.hid (HB6.out.trans (hB.mono HB6.out.size))
                clear hB
                go_wp2_with fail
                go_ret
                exact ⟨rfl, HBE.out⟩
              · rw [HC.out] at h; cases h
            · have HC := Lib.hid hc
              clear hc
              obtain ⟨D, hD⟩ : ∃ D, D = ofC xs := ⟨_, rfl⟩
              have hDl : D.length ≤ 1000000 := by
                have h1 := recsL_len ls xs HRL.out
                have h2 := ofC_len xs
                have h3 := HLM.out
                rw [hD]; omega
              rw [← hD] at hz
              have HD := Lib.hid hD
              have HZ3 := Lib.hid hz
              obtain ⟨A3, c3, s3, rfl, _, _, _⟩ := hz
              clear hD
              obtain ⟨W3, hW3⟩ : ∃ W, W = w3.alloc (.cells #[.string N, .slice A3 D.length c3, .string s3.s, .int .i64 s3.t, .int .i64 s3.c, .int .i64 s3.l, .string s3.d] zoT) := ⟨_, rfl⟩
              obtain ⟨g3, hg3⟩ : ∃ g, g = w3.heap.size := ⟨_, rfl⟩
              have hb : Below w3.heap.size w3 W3 := by rw [hW3]; exact (Below.refl _ _).alloc (Nat.le_refl _) _
              have HV4 := Lib.hid (show Whole W3 g3 zoT #[.string N, .slice A3 D.length c3, .string s3.s, .int .i64 s3.t, .int .i64 s3.c, .int .i64 s3.l, .string s3.d] by rw [hW3, hg3]; exact Whole.new _ _ _)
              have HZ4 := Lib.hid (HZ3.out.later hb)
              have HB4 := Lib.hid (HB3.out.trans (hb.mono HB3.out.size))
              have HS4 := Lib.hid ((HS3.out.below hb).more hb.size)
              have HWW3 := Lib.hid hW3
              have HG3 := Lib.hid hg3
              clear hb hW3 hg3
              go_wp2_with fail
              rw [← HWW3.out, ← HG3.out]
              refine (RRead18_any N nn A k c ls _ HN.out HS4.out (by omega) HL3.out).mono ?_
              rintro e w4 ⟨h, hB⟩
              unfold RReadOut at h
              rw [HRL.out] at h
              simp only at h
              unfold ZRefOut at h
              rw [← HD.out] at h
              rcases h with ⟨h, _⟩ | ⟨h, _⟩ | ⟨_, v4, rfl, hz4⟩
              · rw [HC.out] at h; cases h
              · rw [HC.out] at h; cases h
              have HV5 := Lib.hid (HV4.out.below hB HV4.out.lt)
              have HZ5 := Lib.hid (HZ4.out.later hB)
              have HB5 := Lib.hid (HB4.out.trans (hB.mono HB4.out.size))
              obtain ⟨A4, c4, rfl, hr4, _⟩ := hz4
              have HR5 := Lib.hid hr4
              clear hB hr4
              obtain ⟨W5, hW5⟩ : ∃ W, W = w4.alloc (.cells #[.string N, .slice A4 D.length c4] rzT) := ⟨_, rfl⟩
              obtain ⟨g5, hg5⟩ : ∃ g, g = w4.heap.size := ⟨_, rfl⟩
              have hb : Below w4.heap.size w4 W5 := by rw [hW5]; exact (Below.refl _ _).alloc (Nat.le_refl _) _
              have HU6 := Lib.hid (show Whole W5 g5 rzT #[.string N, .slice A4 D.length c4] by rw [hW5, hg5]; exact Whole.new _ _ _)
              have HV6 := Lib.hid (HV5.out.below hb HV5.out.lt)
              have HZ6 := Lib.hid (HZ5.out.later hb)
              have HR6 := Lib.hid ((HR5.out.keep hb).more hb.size)
              have HB6 := Lib.hid (HB5.out.trans (hb.mono HB5.out.size))
              have HWW5 := Lib.hid hW5
              have HG5 := Lib.hid hg5
              clear hb hW5 hg5
              go_wp2_with fail
              rw [← HWW5.out, ← HG5.out]
              have HSMa := Lib.hid (show sameX D D = true from sameX_is.2 rfl)
              have hb1 : Below W5.heap.size W5 W5.drew := (Below.refl _ _).drew
              have ka0 : ∀ w' : World, Below W5.heap.size W5 w' → w'.cell? ⟨g3, 0, none⟩ = some (.string N) := fun w' h => (h.cell (HV6.out.lt)).trans ((HV6.out.cell 0).trans rfl)
              have ka1 : ∀ w' : World, Below W5.heap.size W5 w' → w'.cell? ⟨g3, 1, none⟩ = some (.slice A3 D.length c3) := fun w' h => (h.cell (HV6.out.lt)).trans ((HV6.out.cell 1).trans rfl)
              have ka2 : ∀ w' : World, Below W5.heap.size W5 w' → w'.cell? ⟨g3, 2, none⟩ = some (.string s3.s) := fun w' h => (h.cell (HV6.out.lt)).trans ((HV6.out.cell 2).trans rfl)
              have ka3 : ∀ w' : World, Below W5.heap.size W5 w' → w'.cell? ⟨g3, 3, none⟩ = some (.int .i64 s3.t) := fun w' h => (h.cell (HV6.out.lt)).trans ((HV6.out.cell 3).trans rfl)
              have ka4 : ∀ w' : World, Below W5.heap.size W5 w' → w'.cell? ⟨g3, 4, none⟩ = some (.int .i64 s3.c) := fun w' h => (h.cell (HV6.out.lt)).trans ((HV6.out.cell 4).trans rfl)
              have ka5 : ∀ w' : World, Below W5.heap.size W5 w' → w'.cell? ⟨g3, 5, none⟩ = some (.int .i64 s3.l) := fun w' h => (h.cell (HV6.out.lt)).trans ((HV6.out.cell 5).trans rfl)
              have ka6 : ∀ w' : World, Below W5.heap.size W5 w' → w'.cell? ⟨g3, 6, none⟩ = some (.string s3.d) := fun w' h => (h.cell (HV6.out.lt)).trans ((HV6.out.cell 6).trans rfl)
              have kx0 : ∀ w' : World, Below W5.heap.size W5 w' → w'.cell? ⟨g5, 0, none⟩ = some (.string N) := fun w' h => (h.cell (HU6.out.lt)).trans ((HU6.out.cell 0).trans rfl)
              have kx1 : ∀ w' : World, Below W5.heap.size W5 w' → w'.cell? ⟨g5, 1, none⟩ = some (.slice A4 D.length c4) := fun w' h => (h.cell (HU6.out.lt)).trans ((HU6.out.cell 1).trans rfl)
              go_region_held3 (fun w' => Below W5.heap.size W5 w') (go_keep) (first
                | (go_at_call 20; (refine (Same_any Q1 A4 D.length o1 D.length c4 D D _ hs1 ((HR6.out.keep hT1).more hT1.size) (by omega)).mono ?_; rw [HSMa.out]; rintro e u3 ⟨rfl, hB3⟩; have hT3 : Below W5.heap.size W5 u3 := hT1.trans (hB3.mono hT1.size)))
                | (go_at_call 21; (refine (All_any N D _ _ (HZ6.out.later hT0) hDl).mono ?_; rintro e u1 ⟨v1, rfl, ho1, hB1⟩; obtain ⟨Q1, o1, rfl, hs1, _⟩ := own_sees ho1; have hT1 : Below W5.heap.size W5 u1 := hT0.trans (hB1.mono hT0.size)))
                | (go_at_call 19; (refine (Apex_any N D _ _ (HZ6.out.later hb1)).mono ?_; rintro e u0 ⟨rfl, hB0⟩; have hT0 : Below W5.heap.size W5 u0 := hb1.trans (hB0.mono hb1.size))))
              all_goals (
                have HBE := Lib.hid (HB6.out.trans (hT3.mono HB6.out.size))
                go_wp2_with fail
                go_ret
                exact ⟨rfl, HBE.out⟩)
    · have g600 : ((N.size : Int) > 600) := by omega
      go_enter Tryz.func5, Tryz.ntmps5
      go_wp2_with fail
      refine (iawake_any _ HE.out.env).mono ?_
      rintro e w1 ⟨rfl, hB⟩
      have HB1 := Lib.hid hB
      clear hB
      go_wp2_with fail
      refine (iawake_any _ (HE.out.beyond HB1.out).env).mono ?_
      rintro e w2 ⟨rfl, hB⟩
      have HB2 := Lib.hid (HB1.out.trans (hB.mono HB1.out.size))
      clear hB
      go_wp2_with fail
      go_ret
      exact ⟨rfl, HB2.out⟩
  · have g40 : ((n : Int) > 40) := by omega
    go_enter Tryz.func5, Tryz.ntmps5
    go_wp2_with fail
    refine (iawake_any _ HE.out.env).mono ?_
    rintro e w1 ⟨rfl, hB⟩
    have HB1 := Lib.hid hB
    clear hB
    go_wp2_with fail
    refine (iawake_any _ (HE.out.beyond HB1.out).env).mono ?_
    rintro e w2 ⟨rfl, hB⟩
    have HB2 := Lib.hid (HB1.out.trans (hB.mono HB1.out.size))
    clear hB
    go_wp2_with fail
    go_ret
    exact ⟨rfl, HB2.out⟩
end Go.Proofs.YtnbapaimpoobkaaGreatDoor
