/- LookupThere. No statement of the seat is proved here. (written by gen_t.py) -/
import Derived.Test.YtkgihfoknpimfaaGreatLokR
namespace Go.Proofs.YtkgihfoknpimfaaGreat
open Go.RowKit Go.Op
set_option linter.unusedVariables false

set_option maxHeartbeats 32000000 in
set_option maxRecDepth 20000 in
theorem LookupThere_walk' (A : Option Addr) (n c : Nat) (xs : List Rrd) (kk : Nat) (w : World) (hx : SeesR w w.heap.size A n xs) (h63 : n ≤ 9223372036854775807) (hk : kk < 256) :
    Calls Tryz.prog 6 #[.slice A n c, .int .u8 (kk : Nat)] w fun e w' => e = .returned (.bool true) ∧ Below w.heap.size w w' := by
  obtain ⟨nn, hnn⟩ : ∃ nn : List UInt8, nn = [2, 101, 120, 0] := ⟨_, rfl⟩
  have HN := Lib.hid (show (⟨#[2, 101, 120, 0]⟩ : ByteArray) = mk nn by rw [hnn]; rfl)
  have HX := Lib.hid hx
  have HLX := Lib.hid hx.1
  clear hx hnn
  cases hf : fewL xs with
  | false =>
    have HF := Lib.hid hf
    clear hf
    go_enter Tryz.func6, Tryz.ntmps6
    go_wp2_with fail
    refine (lawake_any _).mono ?_
    rintro e w1 ⟨rfl, hB⟩
    have HB1 := Lib.hid hB
    have HX1 := Lib.hid ((HX.out.keep hB).more hB.size)
    clear hB
    go_wp2_with fail
    refine (Few_any A n c xs _ HX1.out h63).mono ?_
    rw [HF.out]
    rintro e w2 ⟨rfl, hB⟩
    have HB2 := Lib.hid (HB1.out.trans (hB.mono HB1.out.size))
    have HX2 := Lib.hid ((HX1.out.keep hB).more hB.size)
    clear hB
    go_wp2_with fail
    refine (lawake_any _).mono ?_
    rintro e w3 ⟨rfl, hB⟩
    have HB3 := Lib.hid (HB2.out.trans (hB.mono HB2.out.size))
    have HX3 := Lib.hid ((HX2.out.keep hB).more hB.size)
    clear hB
    go_wp2_with fail
    go_ret
    exact ⟨rfl, HB3.out⟩
  | true =>
    obtain ⟨h30, hlow⟩ := fewL_is hf
    have hn30 : n ≤ 30 := by have := HLX.out; omega
    have HLOW := Lib.hid hlow
    have HF := Lib.hid hf
    clear hf hlow h30
    go_enter Tryz.func6, Tryz.ntmps6
    go_wp2_with fail
    refine (lawake_any _).mono ?_
    rintro e w1 ⟨rfl, hB⟩
    have HB1 := Lib.hid hB
    have HX1 := Lib.hid ((HX.out.keep hB).more hB.size)
    clear hB
    go_wp2_with fail
    refine (Few_any A n c xs _ HX1.out h63).mono ?_
    rw [HF.out]
    rintro e w2 ⟨rfl, hB⟩
    have HB2 := Lib.hid (HB1.out.trans (hB.mono HB1.out.size))
    have HX2 := Lib.hid ((HX1.out.keep hB).more hB.size)
    clear hB
    go_wp2_with fail
    refine (ZNew_any A n c ⟨#[2, 101, 120, 0]⟩ nn xs _ HN.out HX2.out (by omega) HLOW.out).mono ?_
    rintro e w3 ⟨h, hB⟩
    have HB3 := Lib.hid (HB2.out.trans (hB.mono HB2.out.size))
    have HX3 := Lib.hid ((HX2.out.keep hB).more hB.size)
    clear hB
    rcases h with ⟨hc, rfl⟩ | ⟨hc, rfl⟩ | ⟨hc, z, rfl, hz⟩
    · clear hc
      unfold zeroZ
      go_wp2_with fail
      go_ret
      exact ⟨rfl, HB3.out.alloc HB3.out.size _⟩
    · clear hc
      unfold zeroZ
      go_wp2_with fail
      go_ret
      exact ⟨rfl, HB3.out.alloc HB3.out.size _⟩
    · have HC := Lib.hid hc
      obtain ⟨hname, hall, hisz⟩ := codeZ_zero hc
      have hok := HLOW.out.ok hall
      obtain ⟨D, hD⟩ : ∃ D, D = ofC xs := ⟨_, rfl⟩
      have hset : SetL cX D := by rw [hD]; exact ofC_set xs
      have hokD : OkL D := by rw [hD]; exact hok.ofC
      have hDl : D.length ≤ 30 := by rw [hD]; have := ofC_len xs; have := HLX.out; omega
      rw [← hD] at hz hisz
      have HGZ0 := Lib.hid (show GoodZ nn D from ⟨hokD, hset.keys, hisz, hname, by omega⟩)
      have HZ3 := Lib.hid hz
      obtain ⟨A3, c3, s3, rfl, _, _, hsoa⟩ := hz
      have HSOA := Lib.hid hsoa
      clear hc hname hall hisz hok hD hset hokD hsoa
      have hw0 := Whole.new w3 zoT #[.string ⟨#[2, 101, 120, 0]⟩, .slice A3 D.length c3, .string s3.s, .int .i64 s3.t, .int .i64 s3.c, .int .i64 s3.l, .string s3.d]
      have hB0 : Below w3.heap.size w3 (w3.alloc (.cells #[.string ⟨#[2, 101, 120, 0]⟩, .slice A3 D.length c3, .string s3.s, .int .i64 s3.t, .int .i64 s3.c, .int .i64 s3.l, .string s3.d] zoT)) := (Below.refl _ _).alloc (Nat.le_refl _) _
      obtain ⟨W4, hW4⟩ : ∃ W, W = w3.alloc (.cells #[.string ⟨#[2, 101, 120, 0]⟩, .slice A3 D.length c3, .string s3.s, .int .i64 s3.t, .int .i64 s3.c, .int .i64 s3.l, .string s3.d] zoT) := ⟨_, rfl⟩
      rw [← hW4] at hw0 hB0
      obtain ⟨gz, hgz⟩ : ∃ g, g = w3.heap.size := ⟨_, rfl⟩
      rw [← hgz] at hw0
      have HZ4 := Lib.hid (HZ3.out.later hB0)
      have HWZ4 := Lib.hid hw0
      have HB4 := Lib.hid (HB3.out.trans (hB0.mono HB3.out.size))
      have HW4 := Lib.hid hW4
      have HGZ := Lib.hid hgz
      have GZ := HGZ0
      clear hw0 hB0 hW4 hgz
      obtain ⟨c0, c1, c2, c3', c4, c5', c6⟩ := zo_facts HWZ4.out
      rw [HW4.out, HGZ.out] at c0 c1 c2 c3' c4 c5' c6
      go_wp2_with fail
      rw [← HW4.out, ← HGZ.out]
      clear c0 c1 c2 c3' c4 c5' c6
      refine (All_any ⟨#[2, 101, 120, 0]⟩ D _ _ HZ4.out (by omega)).mono ?_
      rintro e w5 ⟨u, rfl, ho, hB⟩
      have HWZ5 := Lib.hid (HWZ4.out.below hB HWZ4.out.lt)
      have HZ5 := Lib.hid (HZ4.out.later hB)
      have HB5 := Lib.hid (HB4.out.trans (hB.mono HB4.out.size))
      obtain ⟨m, hm⟩ : ∃ m, m = D.length := ⟨_, rfl⟩
      have hm0 : 0 < m := by
        have h := HSOA.out
        rw [hm]
        cases D with
        | nil => cases h
        | cons x l => simp
      rw [← hm] at ho
      obtain ⟨g, cu, _, rfl, _⟩ := own_first ho hm0
      obtain ⟨i, hi⟩ : ∃ i, i = kk % m := ⟨_, rfl⟩
      have him : i < m := by rw [hi]; exact Nat.mod_lt _ hm0
      obtain ⟨x, hx⟩ : ∃ x, D[i]? = some x := ⟨D[i]'(by rw [← hm]; exact him), List.getElem?_eq_getElem _⟩
      obtain ⟨x0, x1, x2, x3, x4⟩ := RowX.five (show RowX W4.heap.size g m cu D w5 from ho) hx
      have HOA5 := Lib.hid ho
      have HXM := Lib.hid (List.mem_of_getElem? hx)
      have HXS := Lib.hid (show x.s = mk (nmX x) from rrd_name x)
      have HXL := Lib.hid (show (nmX x).length ≤ 255 from (GZ.out.ok x HXM.out).name)
      have HM := Lib.hid hm
      have gm : ((m : Int) == 0) = false := by rw [beq_eq_false_iff_ne]; omega
      have gi : (kk : Int) % (m : Int) = (i : Int) := by rw [hi]; exact (Int.natCast_emod kk m).symm
      have gi0 : (0 : Int) ≤ (i : Int) := by omega
      have gim : (i : Int) < (m : Int) := by omega
      have HGI := Lib.hid gi
      have hw6 := Whole.new w5 26 #[.string x.s, .int .i64 x.t, .int .i64 x.c, .int .i64 x.l, .string x.d]
      have hB6 : Below w5.heap.size w5 (w5.alloc (.cells #[.string x.s, .int .i64 x.t, .int .i64 x.c, .int .i64 x.l, .string x.d] 26)) := (Below.refl _ _).alloc (Nat.le_refl _) _
      obtain ⟨W6, hW6⟩ : ∃ W, W = w5.alloc (.cells #[.string x.s, .int .i64 x.t, .int .i64 x.c, .int .i64 x.l, .string x.d] 26) := ⟨_, rfl⟩
      rw [← hW6] at hw6 hB6
      obtain ⟨gx, hgx⟩ : ∃ g, g = w5.heap.size := ⟨_, rfl⟩
      rw [← hgx] at hw6
      have HOA6 := Lib.hid (own_keep ho hB6)
      have HWX6 := Lib.hid hw6
      have HW6 := Lib.hid hW6
      have HGX := Lib.hid hgx
      clear hB hi hx ho hm hgx hW6 hw6
      have hB := hB6
      clear hB6
      have HWZ6 := Lib.hid (HWZ5.out.below hB HWZ5.out.lt)
      have HZ6 := Lib.hid (HZ5.out.later hB)
      have HB6 := Lib.hid (HB5.out.trans (hB.mono HB5.out.size))
      clear hB
      obtain ⟨c0, c1, c2, c3', c4, c5', c6⟩ := zo_facts HWZ6.out
      obtain ⟨y0, y1, y2, y3, y4⟩ := an_cells HWX6.out
      rw [HW6.out] at c0 c1 c2 c3' c4 c5' c6
      rw [HW6.out, HGX.out] at y0 y1 y2 y3 y4
      go_wp2_with fail
      rw [← HW6.out, ← HGX.out]
      refine (LCut_any ⟨#[2, 101, 120, 0]⟩ nn D _ _ HZ6.out GZ.out x.s (nmX x) HN.out HXS.out (by have := HXL.out; omega)).mono ?_
      clear c0 c1 c2 c3' c4 c5' c6 y0 y1 y2 y3 y4
      cases hc : cutZ D nn (nmX x) with
      | some cc =>
        rintro e w7 ⟨rfl, hB⟩
        have HB7 := Lib.hid (HB6.out.trans (hB.mono HB6.out.size))
        clear hB hc
        go_wp2_with fail
        go_ret
        exact ⟨rfl, HB7.out⟩
      | none =>
        have HC := Lib.hid hc
        rintro e w7 ⟨rfl, hB⟩
        have HWZ7 := Lib.hid (HWZ6.out.below hB HWZ6.out.lt)
        have HZ7 := Lib.hid (HZ6.out.later hB)
        have HB7 := Lib.hid (HB6.out.trans (hB.mono HB6.out.size))
        have HWX7 := Lib.hid (HWX6.out.below hB HWX6.out.lt)
        have HOA7 := Lib.hid (own_keep HOA6.out hB)
        clear hB hc
        obtain ⟨c0, c1, c2, c3', c4, c5', c6⟩ := zo_facts HWZ7.out
        obtain ⟨y0, y1, y2, y3, y4⟩ := an_cells HWX7.out
        by_cases h5 : x.t = 5
        · have g5 : (x.t == 5) = true := by rw [beq_iff_eq]; exact h5
          clear h5
          go_wp2_with fail
          go_ret
          exact ⟨rfl, HB7.out⟩
        · have g5 : (x.t == 5) = false := by rw [beq_eq_false_iff_ne]; exact h5
          obtain ⟨Y, hY⟩ : ∃ Y, Y = typX x.t (atX (nmX x) D) := ⟨_, rfl⟩
          have HASK := Lib.hid (show askZ D nn (nmX x) x.t = ⟨0, true, Y, [], []⟩ by rw [hY]; exact ask_there GZ.out HXM.out HC.out h5)
          obtain ⟨Z, hZ⟩ : ∃ Z, Z = atX (nmX x) D := ⟨_, rfl⟩
          have HY := Lib.hid (show Y = typX x.t Z by rw [hZ]; exact hY)
          have HZE := Lib.hid hZ
          have HZL := Lib.hid (show Z.length ≤ 30 by rw [hZ]; have := atX_len (nmX x) D; omega)
          have HYL := Lib.hid (show Y.length ≤ 1073741824 by rw [hY]; have h1 := typX_len x.t (atX (nmX x) D); have h2 := atX_len (nmX x) D; omega)
          clear h5 hY hZ
          go_wp2_with fail
          refine (LAsk_any ⟨#[2, 101, 120, 0]⟩ nn D _ _ HZ7.out GZ.out HN.out x.s (nmX x) x.t HXS.out (by have := HXL.out; omega)).mono ?_
          rw [HASK.out]
          rintro e w8 ⟨⟨vx, vy, vz, rfl, ⟨Ax, kx, rfl, hsx⟩, ⟨Ay, ky, rfl, hsy⟩, ⟨Az, kz, rfl, hsz⟩⟩, hB⟩
          rw [show ([] : List Rrd).length = 0 from rfl] at hsy hsz ⊢
          have hw9 := Whole.new w8 anT #[.int .i64 0, .bool true, .slice Ax Y.length kx, .slice Ay 0 ky, .slice Az 0 kz]
          have hB9 : Below w8.heap.size w8 (w8.alloc (.cells #[.int .i64 0, .bool true, .slice Ax Y.length kx, .slice Ay 0 ky, .slice Az 0 kz] anT)) := (Below.refl _ _).alloc (Nat.le_refl _) _
          have hBB := hB.trans (hB9.mono hB.size)
          obtain ⟨W9, hW9⟩ : ∃ W, W = w8.alloc (.cells #[.int .i64 0, .bool true, .slice Ax Y.length kx, .slice Ay 0 ky, .slice Az 0 kz] anT) := ⟨_, rfl⟩
          rw [← hW9] at hw9 hB9 hBB
          obtain ⟨ga, hga⟩ : ∃ g, g = w8.heap.size := ⟨_, rfl⟩
          rw [← hga] at hw9
          have HSX := Lib.hid ((hsx.keep hB9).more hB9.size)
          have HSY := Lib.hid ((hsy.keep hB9).more hB9.size)
          have HSZ := Lib.hid ((hsz.keep hB9).more hB9.size)
          have HWA9 := Lib.hid hw9
          have HWX9 := Lib.hid (HWX7.out.below hBB HWX7.out.lt)
          have HOA9 := Lib.hid (own_keep HOA7.out hBB)
          have HB9 := Lib.hid (HB7.out.trans (hBB.mono HB7.out.size))
          have HW9 := Lib.hid hW9
          have HGA := Lib.hid hga
          clear hsx hsy hsz hw9 hB9 hBB hB hW9 hga c0 c1 c2 c3' c4 c5' c6 y0 y1 y2 y3 y4
          have a0 : ∀ w', Below W9.heap.size W9 w' → w'.cell? ⟨ga, 0, none⟩ = some (.int .i64 0) := fun w' h => ((HWA9.out.below h HWA9.out.lt).cell 0).trans rfl
          have a1 : ∀ w', Below W9.heap.size W9 w' → w'.cell? ⟨ga, 1, none⟩ = some (.bool true) := fun w' h => ((HWA9.out.below h HWA9.out.lt).cell 1).trans rfl
          have a2 : ∀ w', Below W9.heap.size W9 w' → w'.cell? ⟨ga, 2, none⟩ = some (.slice Ax Y.length kx) := fun w' h => ((HWA9.out.below h HWA9.out.lt).cell 2).trans rfl
          have a3 : ∀ w', Below W9.heap.size W9 w' → w'.cell? ⟨ga, 3, none⟩ = some (.slice Ay 0 ky) := fun w' h => ((HWA9.out.below h HWA9.out.lt).cell 3).trans rfl
          have a4 : ∀ w', Below W9.heap.size W9 w' → w'.cell? ⟨ga, 4, none⟩ = some (.slice Az 0 kz) := fun w' h => ((HWA9.out.below h HWA9.out.lt).cell 4).trans rfl
          have b0 : ∀ w', Below W9.heap.size W9 w' → w'.cell? ⟨gx, 0, none⟩ = some (.string x.s) := fun w' h => ((HWX9.out.below h HWX9.out.lt).cell 0).trans rfl
          have b1 : ∀ w', Below W9.heap.size W9 w' → w'.cell? ⟨gx, 1, none⟩ = some (.int .i64 x.t) := fun w' h => ((HWX9.out.below h HWX9.out.lt).cell 1).trans rfl
          have hT0 : Below W9.heap.size W9 W9.drew := (Below.refl _ _).drew
          go_wp2_with fail
          rw [← HW9.out, ← HGA.out]
          go_region_held3 (fun w' => Below W9.heap.size W9 w') (go_keep) (first
            | (go_at_call 27; (refine (RefAt_any (some ⟨g, 0, none⟩) m cu D x.s (nmX x) _ (((own_sees' HOA9.out).keep hT0).more hT0.size) (by have := HM.out; omega) HXS.out).mono ?_; rw [show (D.filter fun y => alikeN (nmX y) (nmX x)) = Z from HZE.out.symm]; rintro e w10 ⟨u10, rfl, ho10, hB10⟩; obtain ⟨A10, k10, rfl, hs10⟩ := SeesR.own ho10; have hT10 := hT0.trans (hB10.mono hT0.size)))
            | (go_at_call 26; (refine (RefTyped_any A10 Z.length k10 Z x.t _ hs10 (by have := HZL.out; omega)).mono ?_; rw [show (Z.filter fun y => decide (y.t = x.t)) = Y from HY.out.symm]; rintro e w11 ⟨u11, rfl, ho11, hB11⟩; obtain ⟨A11, k11, rfl, hs11⟩ := SeesR.own ho11; have hT11 := hT10.trans (hB11.mono hT10.size)))
            | (go_at_call 12; (refine (lawSame_any ⟨0, true, Y, [], []⟩ HYL.out (by simp) (by simp) (.slice Ax Y.length kx) (.slice Ay 0 ky) (.slice Az 0 kz) (.slice A11 Y.length k11) (.slice none 0 0) (.slice none 0 0) _ ⟨Ax, kx, rfl, (HSX.out.keep hT11).more hT11.size⟩ ⟨Ay, ky, rfl, (HSY.out.keep hT11).more hT11.size⟩ ⟨Az, kz, rfl, (HSZ.out.keep hT11).more hT11.size⟩ ⟨A11, k11, rfl, hs11⟩ (RecsAt.nil _) (RecsAt.nil _)).mono ?_; rintro e w12 ⟨rfl, hB12⟩; have hT12 := hT11.trans (hB12.mono hT11.size))))
          all_goals (
            have HBF := Lib.hid (HB9.out.trans (hT12.mono HB9.out.size))
            go_wp2_with fail
            go_ret
            exact ⟨rfl, HBF.out⟩)
theorem u8_is {a : Int} (h : (Lit.int .u8 a).wf = true) : ∃ v : Nat, a = (v : Int) ∧ v < 256 := by
  have h2 : 0 ≤ a ∧ a ≤ 255 := by simpa [Lit.wf, IntKind.min, IntKind.max, IntKind.bits, IntKind.signed] using h
  exact ⟨a.toNat, by omega, by omega⟩
theorem LookupThere_walk (A : Option Addr) (n c : Nat) (xs : List Rrd) (by0 : Int) (w : World) (hx : SeesR w w.heap.size A n xs) (h63 : n ≤ 9223372036854775807) (hby : (Lit.int .u8 by0).wf = true) :
    Calls Tryz.prog 6 #[.slice A n c, .int .u8 by0] w fun e w' => e = .returned (.bool true) ∧ Below w.heap.size w w' := by
  obtain ⟨v, rfl, hv⟩ := u8_is hby
  exact LookupThere_walk' A n c xs v w hx h63 hv
end Go.Proofs.YtkgihfoknpimfaaGreat
