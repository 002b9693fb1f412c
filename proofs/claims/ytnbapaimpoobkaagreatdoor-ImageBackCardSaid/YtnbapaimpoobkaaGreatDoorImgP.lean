/- Parts of the proofs of the statements of image. No statement of the seat is proved here. -/
import Derived.Test.YtnbapaimpoobkaaGreatDoorImgK
import Derived.Test.YtnbapaimpoobkaaGreatDoorImgQ
import Derived.Deep.RegionHeld3
namespace Go.Proofs.YtnbapaimpoobkaaGreatDoor
open Go.RowKit Go.Op
set_option linter.unusedVariables false

set_option maxHeartbeats 32000000 in
set_option maxRecDepth 20000 in
theorem ImageBack_walk (N : ByteArray) (A : Option Addr) (n c : Nat) (xs : List Rrd) (g : Nat) (w : World) (hx : SeesR w w.heap.size A n xs) (h63 : n ≤ 9223372036854775807) (hg : g < 18446744073709551616) (he : Env w) :
    Calls Tryz.prog 6 #[.string N, .slice A n c, .int .u64 (g : Nat)] w fun e w' => e = .returned (.bool true) ∧ Below w.heap.size w w' := by
  obtain ⟨nn, hnn⟩ : ∃ nn, N = mk nn := ⟨_, (mk_toList N).symm⟩
  have HN := Lib.hid hnn
  have HX := Lib.hid hx
  have HLX := Lib.hid hx.1
  have HE := Lib.hid he
  have HG := Lib.hid hg
  clear hx hnn he hg
  cases hf : fewL xs with
  | false =>
    have HF := Lib.hid hf
    clear hf
    go_enter Tryz.func6, Tryz.ntmps6
    go_wp2_with fail
    refine (iawake_any _ HE.out).mono ?_
    rintro e w1 ⟨rfl, hB⟩
    have HX1 := Lib.hid ((HX.out.keep hB).more hB.size)
    have HB1 := Lib.hid hB
    clear hB
    go_wp2_with fail
    refine (Few_any A n c xs _ HX1.out h63).mono ?_
    rw [HF.out]
    rintro e w2 ⟨rfl, hB⟩
    have HB2 := Lib.hid (HB1.out.trans (hB.mono HB1.out.size))
    clear hB
    go_wp2_with fail
    refine (iawake_any _ (HE.out.beyond HB2.out)).mono ?_
    rintro e w3 ⟨rfl, hB⟩
    have HB3 := Lib.hid (HB2.out.trans (hB.mono HB2.out.size))
    clear hB
    go_wp2_with fail
    go_ret
    exact ⟨rfl, HB3.out⟩
  | true =>
    obtain ⟨h30, hlow⟩ := fewL_is hf
    have hn30 : n ≤ 30 := by have := HLX.out; omega
    have HSM := Lib.hid (few_small hf)
    have HLOW := Lib.hid hlow
    have HF := Lib.hid hf
    clear hf hlow h30
    go_enter Tryz.func6, Tryz.ntmps6
    go_wp2_with fail
    refine (iawake_any _ HE.out).mono ?_
    rintro e w1 ⟨rfl, hB⟩
    have HX1 := Lib.hid ((HX.out.keep hB).more hB.size)
    have HB1 := Lib.hid hB
    clear hB
    go_wp2_with fail
    refine (Few_any A n c xs _ HX1.out h63).mono ?_
    rw [HF.out]
    rintro e w2 ⟨rfl, hB⟩
    have HX2 := Lib.hid ((HX1.out.keep hB).more hB.size)
    have HB2 := Lib.hid (HB1.out.trans (hB.mono HB1.out.size))
    clear hB
    go_wp2_with fail
    refine (ZNew_any A n c N nn xs _ HN.out HX2.out (by omega) HLOW.out).mono ?_
    rintro e w3 ⟨h, hB⟩
    have HB3 := Lib.hid (HB2.out.trans (hB.mono HB2.out.size))
    clear hB
    rcases h with ⟨_, rfl⟩ | ⟨_, rfl⟩ | ⟨hcode, z, rfl, hz⟩
    · unfold zeroZ
      go_wp2_with fail
      go_ret
      exact ⟨rfl, HB3.out.alloc HB3.out.size _⟩
    · unfold zeroZ
      go_wp2_with fail
      go_ret
      exact ⟨rfl, HB3.out.alloc HB3.out.size _⟩
    · obtain ⟨hname, hall, hisz⟩ := codeZ_zero hcode
      have hok := HLOW.out.ok hall
      obtain ⟨D, hD⟩ : ∃ D, D = ofC xs := ⟨_, rfl⟩
      have hset : SetL cX D := by rw [hD]; exact ofC_set xs
      have hokD : OkL D := by rw [hD]; exact hok.ofC
      have hDl : D.length ≤ 30 := by rw [hD]; have := ofC_len xs; have := HLX.out; omega
      have hdD : ∀ x ∈ D, x.d.size ≤ 2000 := fun x hx => (HSM.out x (ofC_mem xs x (by rw [← hD]; exact hx))).2
      rw [← hD] at hz hisz
      have hnl := name_short hname
      have hokr : ∀ x ∈ D, okR x.toRec = true := fun x hx => (hokD x hx).1
      have hlen := imgB_len (g := g) (nn := nn) hokr hdD
      have hne : D ≠ [] := by have := isZ_two hisz; intro e; rw [e] at this; simp at this
      obtain ⟨Bv, hBv⟩ : ∃ Bv, Bv = mk (imgB g nn D) := ⟨_, rfl⟩
      have hBz : Bv.size = (imgB g nn D).length := by rw [hBv, mk_size]
      have HOF := Lib.hid (show ofI Bv = some (g, N, D.map Rrd.toRec) by rw [hBv, HN.out]; exact ofI_img HG.out (by omega) hokr)
      have HOS := Lib.hid (show ofI (Bv.extract 0 (Bv.size - 1)) = none by rw [hBz, hBv, mk_shorter]; exact ofI_cutoff HG.out (by omega) hokr hne)
      have HBK := Lib.hid (back_recs D)
      have HCZ := Lib.hid (codeZ_again hname hokD hset hisz)
      have HOD := Lib.hid (ofC_self' hset)
      have hb10 : (10 : Int) ≤ (Bv.size : Int) := by omega
      have hb80 : Bv.size ≤ 800000 := by omega
      have hb0 : ((Bv.size : Int) == 0) = false := by rw [beq_eq_false_iff_ne]; omega
      have HBV := Lib.hid hBv
      have HNL := Lib.hid hnl
      have HOKD := Lib.hid hokD
      have HZ3 := Lib.hid hz
      obtain ⟨A3, c3, s3, rfl, _, _, _⟩ := hz
      clear hcode hname hall hisz hok hD hset hokD hdD hnl hokr hlen hne hBv hBz
      obtain ⟨W3, hW3⟩ : ∃ W, W = w3.alloc (.cells #[.string N, .slice A3 D.length c3, .string s3.s, .int .i64 s3.t, .int .i64 s3.c, .int .i64 s3.l, .string s3.d] zoT) := ⟨_, rfl⟩
      obtain ⟨g3, hg3⟩ : ∃ g, g = w3.heap.size := ⟨_, rfl⟩
      have hb : Below w3.heap.size w3 W3 := by rw [hW3]; exact (Below.refl _ _).alloc (Nat.le_refl _) _
      have HV3 := Lib.hid (show Whole W3 g3 zoT #[.string N, .slice A3 D.length c3, .string s3.s, .int .i64 s3.t, .int .i64 s3.c, .int .i64 s3.l, .string s3.d] by rw [hW3, hg3]; exact Whole.new _ _ _)
      have HZ4 := Lib.hid (HZ3.out.later hb)
      have HB4 := Lib.hid (HB3.out.trans (hb.mono HB3.out.size))
      have HWW3 := Lib.hid hW3
      have HG3 := Lib.hid hg3
      clear hb hW3 hg3
      obtain ⟨c0, c1, c2, c3', c4, c5, c6⟩ := zo_facts HV3.out
      go_wp2_with fail
      rw [← HWW3.out, ← HG3.out]
      go_wp2_with fail
      refine (IBytes_any g N nn D _ _ HZ4.out HN.out HG.out (by have := HNL.out; omega) (by omega) HOKD.out).mono ?_
      rw [← HBV.out]
      rintro e w5 ⟨rfl, hB⟩
      have HV5 := Lib.hid (HV3.out.below hB HV3.out.lt)
      have HZ5 := Lib.hid (HZ4.out.later hB)
      have HB5 := Lib.hid (HB4.out.trans (hB.mono HB4.out.size))
      clear hB c0 c1 c2 c3' c4 c5 c6
      go_wp2_with fail
      refine (IOf_low Bv _ hb80 (fun g' N' l' h => by rw [HOF.out] at h; cases h; rw [HBK.out]; exact ⟨HOKD.out.low, by simp; omega⟩)).mono ?_
      rintro e w6 ⟨h, hB⟩
      unfold OfOut at h
      rw [HOF.out] at h
      simp only at h
      rw [HBK.out, HOD.out] at h
      obtain ⟨nn', hn', h⟩ := h
      obtain rfl : nn' = nn := by have := HN.out; rw [hn'] at this; have := congrArg (fun b : ByteArray => b.data.toList) this; simpa [mk] using this
      rw [HCZ.out] at h
      rcases h with ⟨h, _⟩ | ⟨h, _⟩ | ⟨_, v8, rfl, hz8⟩
      · cases h
      · cases h
      have HV6 := Lib.hid (HV5.out.below hB HV5.out.lt)
      have HZ6 := Lib.hid (HZ5.out.later hB)
      have HB6 := Lib.hid (HB5.out.trans (hB.mono HB5.out.size))
      have HY6 := Lib.hid hz8
      obtain ⟨A8, c8, s8, rfl, _, _, _⟩ := hz8
      clear hB hn'
      obtain ⟨W6, hW6⟩ : ∃ W, W = w6.alloc (.cells #[.string N, .slice A8 D.length c8, .string s8.s, .int .i64 s8.t, .int .i64 s8.c, .int .i64 s8.l, .string s8.d] zoT) := ⟨_, rfl⟩
      obtain ⟨g6, hg6⟩ : ∃ g, g = w6.heap.size := ⟨_, rfl⟩
      have hb : Below w6.heap.size w6 W6 := by rw [hW6]; exact (Below.refl _ _).alloc (Nat.le_refl _) _
      have HU6 := Lib.hid (show Whole W6 g6 zoT #[.string N, .slice A8 D.length c8, .string s8.s, .int .i64 s8.t, .int .i64 s8.c, .int .i64 s8.l, .string s8.d] by rw [hW6, hg6]; exact Whole.new _ _ _)
      have HY7 := Lib.hid (HY6.out.later hb)
      have HV7 := Lib.hid (HV6.out.below hb HV6.out.lt)
      have HZ7 := Lib.hid (HZ6.out.later hb)
      have HB7 := Lib.hid (HB6.out.trans (hb.mono HB6.out.size))
      have HWW6 := Lib.hid hW6
      have HG6 := Lib.hid hg6
      clear hb hW6 hg6
      go_wp2_with fail
      rw [← HWW6.out, ← HG6.out]
      refine (IOf_low (Bv.extract 0 (Bv.size - 1)) _ (by rw [ByteArray.size_extract]; omega) (fun g' N' l' h => by rw [HOS.out] at h; cases h)).mono ?_
      rintro e w8 ⟨h, hB⟩
      unfold OfOut at h
      rw [HOS.out] at h
      simp only at h
      subst h
      have HV8 := Lib.hid (HV7.out.below hB HV7.out.lt)
      have HU8 := Lib.hid (HU6.out.below hB HU6.out.lt)
      have HZ8 := Lib.hid (HZ7.out.later hB)
      have HY8 := Lib.hid (HY7.out.later hB)
      have HB8 := Lib.hid (HB7.out.trans (hB.mono HB7.out.size))
      clear hB
      unfold zeroZ
      obtain ⟨W9, hW9⟩ : ∃ W, W = w8.alloc (.cells #[.string ⟨#[]⟩, .slice none 0 0, .string ⟨#[]⟩, .int .i64 0, .int .i64 0, .int .i64 0, .string ⟨#[]⟩] zoT) := ⟨_, rfl⟩
      obtain ⟨g9, hg9⟩ : ∃ g, g = w8.heap.size := ⟨_, rfl⟩
      have hb : Below w8.heap.size w8 W9 := by rw [hW9]; exact (Below.refl _ _).alloc (Nat.le_refl _) _
      have HV9 := Lib.hid (HV8.out.below hb HV8.out.lt)
      have HU9 := Lib.hid (HU8.out.below hb HU8.out.lt)
      have HZ9 := Lib.hid (HZ8.out.later hb)
      have HY9 := Lib.hid (HY8.out.later hb)
      have HB9 := Lib.hid (HB8.out.trans (hb.mono HB8.out.size))
      have HWW9 := Lib.hid hW9
      have HG9 := Lib.hid hg9
      clear hb hW9 hg9
      go_wp2_with fail
      rw [← HWW9.out, ← HG9.out]
      have HSMa := Lib.hid (show sameX D D = true from sameX_is.2 rfl)
      have hb1 : Below W9.heap.size W9 W9.drew := (Below.refl _ _).drew
      have ka0 : ∀ w' : World, Below W9.heap.size W9 w' → w'.cell? ⟨g3, 0, none⟩ = some (.string N) := fun w' h => (h.cell (HV9.out.lt)).trans ((HV9.out.cell 0).trans rfl)
      have ka1 : ∀ w' : World, Below W9.heap.size W9 w' → w'.cell? ⟨g3, 1, none⟩ = some (.slice A3 D.length c3) := fun w' h => (h.cell (HV9.out.lt)).trans ((HV9.out.cell 1).trans rfl)
      have ka2 : ∀ w' : World, Below W9.heap.size W9 w' → w'.cell? ⟨g3, 2, none⟩ = some (.string s3.s) := fun w' h => (h.cell (HV9.out.lt)).trans ((HV9.out.cell 2).trans rfl)
      have ka3 : ∀ w' : World, Below W9.heap.size W9 w' → w'.cell? ⟨g3, 3, none⟩ = some (.int .i64 s3.t) := fun w' h => (h.cell (HV9.out.lt)).trans ((HV9.out.cell 3).trans rfl)
      have ka4 : ∀ w' : World, Below W9.heap.size W9 w' → w'.cell? ⟨g3, 4, none⟩ = some (.int .i64 s3.c) := fun w' h => (h.cell (HV9.out.lt)).trans ((HV9.out.cell 4).trans rfl)
      have ka5 : ∀ w' : World, Below W9.heap.size W9 w' → w'.cell? ⟨g3, 5, none⟩ = some (.int .i64 s3.l) := fun w' h => (h.cell (HV9.out.lt)).trans ((HV9.out.cell 5).trans rfl)
      have ka6 : ∀ w' : World, Below W9.heap.size W9 w' → w'.cell? ⟨g3, 6, none⟩ = some (.string s3.d) := fun w' h => (h.cell (HV9.out.lt)).trans ((HV9.out.cell 6).trans rfl)
      have kx0 : ∀ w' : World, Below W9.heap.size W9 w' → w'.cell? ⟨g6, 0, none⟩ = some (.string N) := fun w' h => (h.cell (HU9.out.lt)).trans ((HU9.out.cell 0).trans rfl)
      have kx1 : ∀ w' : World, Below W9.heap.size W9 w' → w'.cell? ⟨g6, 1, none⟩ = some (.slice A8 D.length c8) := fun w' h => (h.cell (HU9.out.lt)).trans ((HU9.out.cell 1).trans rfl)
      have kx2 : ∀ w' : World, Below W9.heap.size W9 w' → w'.cell? ⟨g6, 2, none⟩ = some (.string s8.s) := fun w' h => (h.cell (HU9.out.lt)).trans ((HU9.out.cell 2).trans rfl)
      have kx3 : ∀ w' : World, Below W9.heap.size W9 w' → w'.cell? ⟨g6, 3, none⟩ = some (.int .i64 s8.t) := fun w' h => (h.cell (HU9.out.lt)).trans ((HU9.out.cell 3).trans rfl)
      have kx4 : ∀ w' : World, Below W9.heap.size W9 w' → w'.cell? ⟨g6, 4, none⟩ = some (.int .i64 s8.c) := fun w' h => (h.cell (HU9.out.lt)).trans ((HU9.out.cell 4).trans rfl)
      have kx5 : ∀ w' : World, Below W9.heap.size W9 w' → w'.cell? ⟨g6, 5, none⟩ = some (.int .i64 s8.l) := fun w' h => (h.cell (HU9.out.lt)).trans ((HU9.out.cell 5).trans rfl)
      have kx6 : ∀ w' : World, Below W9.heap.size W9 w' → w'.cell? ⟨g6, 6, none⟩ = some (.string s8.d) := fun w' h => (h.cell (HU9.out.lt)).trans ((HU9.out.cell 6).trans rfl)
      go_region_held3 (fun w' => Below W9.heap.size W9 w') (go_keep) (first
        | (go_at_call 20; (refine (Same_any Q1 Q2 D.length o1 D.length o2 D D _ ((hs1.keep hB2).more hB2.size) hs2 (by omega)).mono ?_; rw [HSMa.out]; rintro e u3 ⟨rfl, hB3⟩; have hT3 : Below W9.heap.size W9 u3 := hT2.trans (hB3.mono hT2.size)))
        | (go_at_call 21; (refine (All_any N D _ _ (HZ9.out.later hT1) (by omega)).mono ?_; rintro e u2 ⟨v2, rfl, ho2, hB2⟩; obtain ⟨Q2, o2, rfl, hs2, _⟩ := own_sees ho2; have hT2 : Below W9.heap.size W9 u2 := hT1.trans (hB2.mono hT1.size)))
        | (go_at_call 21; (refine (All_any N D _ _ (HY9.out.later hT0) (by omega)).mono ?_; rintro e u1 ⟨v1, rfl, ho1, hB1⟩; obtain ⟨Q1, o1, rfl, hs1, _⟩ := own_sees ho1; have hT1 : Below W9.heap.size W9 u1 := hT0.trans (hB1.mono hT0.size)))
        | (go_at_call 19; (refine (Apex_any N D _ _ (HY9.out.later hb1)).mono ?_; rintro e u0 ⟨rfl, hB0⟩; have hT0 : Below W9.heap.size W9 u0 := hb1.trans (hB0.mono hb1.size))))
      all_goals (
        have HBE := Lib.hid (HB9.out.trans (hT3.mono HB9.out.size))
        go_wp2_with fail
        go_ret
        exact ⟨rfl, HBE.out⟩)
end Go.Proofs.YtnbapaimpoobkaaGreatDoor
