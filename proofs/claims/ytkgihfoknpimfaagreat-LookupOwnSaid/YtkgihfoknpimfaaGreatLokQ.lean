/- LookupOwn. No statement of the seat is proved here. (written by gen_q.py) -/
import Derived.Test.YtkgihfoknpimfaaGreatLokV
import Derived.Test.YtkgihfoknpimfaaGreatRrsA
namespace Go.Proofs.YtkgihfoknpimfaaGreat
open Go.RowKit Go.Op
set_option linter.unusedVariables false
attribute [local go_sem] rr_eql rr_guard

theorem five_set {w : World} {b o g : Nat} {x : Rrd} (h : Five w b o x) (hne : b ≠ g) (i : Nat) (u : Value) : Five (w.setCell ⟨g, i, none⟩ u) b o x := by
  have hk : ∀ p, (w.setCell ⟨g, i, none⟩ u).cell? ⟨b, p, none⟩ = w.cell? ⟨b, p, none⟩ := fun p => World.cell?_of_block (Below.heap_setCell _ _ _ _ hne)
  obtain ⟨a0, a1, a2, a3, a4⟩ := h
  exact ⟨(hk _).trans a0, (hk _).trans a1, (hk _).trans a2, (hk _).trans a3, (hk _).trans a4⟩
set_option maxHeartbeats 32000000 in
set_option maxRecDepth 20000 in
theorem LookupOwn_walk (A : Option Addr) (n c : Nat) (xs : List Rrd) (P : ByteArray) (t : Int) (w : World) (hx : SeesR w w.heap.size A n xs) (h63 : n ≤ 9223372036854775807) :
    Calls Tryz.prog 5 #[.slice A n c, .string P, .int .i64 t] w fun e w' => e = .returned (.bool true) ∧ Below w.heap.size w w' := by
  obtain ⟨nn, hnn⟩ : ∃ nn : List UInt8, nn = [2, 101, 120, 0] := ⟨_, rfl⟩
  have HN := Lib.hid (show (⟨#[2, 101, 120, 0]⟩ : ByteArray) = mk nn by rw [hnn]; rfl)
  have HX := Lib.hid hx
  have HLX := Lib.hid hx.1
  clear hx hnn
  obtain ⟨pp, hpp⟩ : ∃ pp, P = mk pp := ⟨_, (mk_toList P).symm⟩
  have HP := Lib.hid hpp
  have HPL := Lib.hid (show pp.length = P.size by rw [hpp, mk_size])
  clear hpp
  cases hf : fewL xs with
  | false =>
    have HF := Lib.hid hf
    clear hf
    go_enter Tryz.func5, Tryz.ntmps5
    go_wp2_with fail
    refine (lawake_any _).mono ?_
    rintro e w1 ⟨rfl, hB⟩
    have HB1 := Lib.hid hB
    have HX1 := Lib.hid ((HX.out.keep hB).more hB.size)
    clear hB
    go_wp2_with fail
    refine (Few_any A n c xs _ HX1.out h63).mono ?_
    rw [HF.out]
    rintro e w2 ⟨rfl, hB⟩
    have HB2 := Lib.hid (HB1.out.trans (hB.mono HB1.out.size))
    have HX2 := Lib.hid ((HX1.out.keep hB).more hB.size)
    clear hB
    go_wp2_with fail
    refine (lawake_any _).mono ?_
    rintro e w3 ⟨rfl, hB⟩
    have HB3 := Lib.hid (HB2.out.trans (hB.mono HB2.out.size))
    have HX3 := Lib.hid ((HX2.out.keep hB).more hB.size)
    clear hB
    go_wp2_with fail
    go_ret
    exact ⟨rfl, HB3.out⟩
  | true =>
    obtain ⟨h30, hlow⟩ := fewL_is hf
    have hn30 : n ≤ 30 := by have := HLX.out; omega
    have HLOW := Lib.hid hlow
    have HF := Lib.hid hf
    clear hf hlow h30
    by_cases hp6 : P.size ≤ 600
    · have gp : ¬ ((P.size : Int) > 600) := by omega
      have hl : pp.length ≤ 1000000 := by have := HPL.out; omega
      go_enter Tryz.func5, Tryz.ntmps5
      go_wp2_with fail
      refine (lawake_any _).mono ?_
      rintro e w1 ⟨rfl, hB⟩
      have HB1 := Lib.hid hB
      have HX1 := Lib.hid ((HX.out.keep hB).more hB.size)
      clear hB
      go_wp2_with fail
      refine (Few_any A n c xs _ HX1.out h63).mono ?_
      rw [HF.out]
      rintro e w2 ⟨rfl, hB⟩
      have HB2 := Lib.hid (HB1.out.trans (hB.mono HB1.out.size))
      have HX2 := Lib.hid ((HX1.out.keep hB).more hB.size)
      clear hB
      go_wp2_with fail
      refine (ZNew_any A n c ⟨#[2, 101, 120, 0]⟩ nn xs _ HN.out HX2.out (by omega) HLOW.out).mono ?_
      rintro e w3 ⟨h, hB⟩
      have HB3 := Lib.hid (HB2.out.trans (hB.mono HB2.out.size))
      have HX3 := Lib.hid ((HX2.out.keep hB).more hB.size)
      clear hB
      rcases h with ⟨hc, rfl⟩ | ⟨hc, rfl⟩ | ⟨hc, z, rfl, hz⟩
      · clear hc
        unfold zeroZ
        go_wp2_with fail
        go_ret
        exact ⟨rfl, HB3.out.alloc HB3.out.size _⟩
      · clear hc
        unfold zeroZ
        go_wp2_with fail
        go_ret
        exact ⟨rfl, HB3.out.alloc HB3.out.size _⟩
      · have HC := Lib.hid hc
        obtain ⟨hname, hall, hisz⟩ := codeZ_zero hc
        have hok := HLOW.out.ok hall
        obtain ⟨D, hD⟩ : ∃ D, D = ofC xs := ⟨_, rfl⟩
        have hset : SetL cX D := by rw [hD]; exact ofC_set xs
        have hokD : OkL D := by rw [hD]; exact hok.ofC
        have hDl : D.length ≤ 30 := by rw [hD]; have := ofC_len xs; have := HLX.out; omega
        rw [← hD] at hz hisz
        have HGZ0 := Lib.hid (show GoodZ nn D from ⟨hokD, hset.keys, hisz, hname, by omega⟩)
        have HZ3 := Lib.hid hz
        obtain ⟨A3, c3, s3, rfl, _, _, hsoa⟩ := hz
        have HSOA := Lib.hid hsoa
        clear hc hname hall hisz hok hD hset hokD hsoa
        have hw0 := Whole.new w3 zoT #[.string ⟨#[2, 101, 120, 0]⟩, .slice A3 D.length c3, .string s3.s, .int .i64 s3.t, .int .i64 s3.c, .int .i64 s3.l, .string s3.d]
        have hB0 : Below w3.heap.size w3 (w3.alloc (.cells #[.string ⟨#[2, 101, 120, 0]⟩, .slice A3 D.length c3, .string s3.s, .int .i64 s3.t, .int .i64 s3.c, .int .i64 s3.l, .string s3.d] zoT)) := (Below.refl _ _).alloc (Nat.le_refl _) _
        obtain ⟨W4, hW4⟩ : ∃ W, W = w3.alloc (.cells #[.string ⟨#[2, 101, 120, 0]⟩, .slice A3 D.length c3, .string s3.s, .int .i64 s3.t, .int .i64 s3.c, .int .i64 s3.l, .string s3.d] zoT) := ⟨_, rfl⟩
        rw [← hW4] at hw0 hB0
        obtain ⟨gz, hgz⟩ : ∃ g, g = w3.heap.size := ⟨_, rfl⟩
        rw [← hgz] at hw0
        have HZ4 := Lib.hid (HZ3.out.later hB0)
        have HWZ4 := Lib.hid hw0
        have HB4 := Lib.hid (HB3.out.trans (hB0.mono HB3.out.size))
        have HW4 := Lib.hid hW4
        have HGZ := Lib.hid hgz
        have GZ := HGZ0
        clear hw0 hB0 hW4 hgz
        obtain ⟨c0, c1, c2, c3', c4, c5', c6⟩ := zo_facts HWZ4.out
        rw [HW4.out, HGZ.out] at c0 c1 c2 c3' c4 c5' c6
        go_wp2_with fail
        rw [← HW4.out, ← HGZ.out]
        clear c0 c1 c2 c3' c4 c5' c6
        refine (LAsk_any ⟨#[2, 101, 120, 0]⟩ nn D _ _ HZ4.out GZ.out HN.out P pp t HP.out hl).mono ?_
        obtain ⟨R, hR⟩ : ∃ R, R = askZ D nn pp t := ⟨_, rfl⟩
        have HOWN := Lib.hid (show OwnA D R by rw [hR]; exact own_all GZ.out t)
        obtain ⟨hb1, hb2, hb3⟩ := ask_bounds GZ.out.len nn pp t
        rw [← hR] at hb1 hb2 hb3 ⊢
        have HL1 := Lib.hid hb1
        have HL2 := Lib.hid hb2
        have HL3 := Lib.hid hb3
        clear hR hb1 hb2 hb3
        rintro e w5 ⟨⟨vx, vy, vz, rfl, ⟨Ax, kx, rfl, hsx⟩, ⟨Ay, ky, rfl, hsy⟩, ⟨Az, kz, rfl, hsz⟩⟩, hB⟩
        have hw6 := Whole.new w5 anT #[.int .i64 R.rc, .bool R.aa, .slice Ax R.an.length kx, .slice Ay R.ns.length ky, .slice Az R.ad.length kz]
        have hB6 : Below w5.heap.size w5 (w5.alloc (.cells #[.int .i64 R.rc, .bool R.aa, .slice Ax R.an.length kx, .slice Ay R.ns.length ky, .slice Az R.ad.length kz] anT)) := (Below.refl _ _).alloc (Nat.le_refl _) _
        obtain ⟨W6, hW6⟩ : ∃ W, W = w5.alloc (.cells #[.int .i64 R.rc, .bool R.aa, .slice Ax R.an.length kx, .slice Ay R.ns.length ky, .slice Az R.ad.length kz] anT) := ⟨_, rfl⟩
        rw [← hW6] at hw6 hB6
        obtain ⟨ga, hga⟩ : ∃ g, g = w5.heap.size := ⟨_, rfl⟩
        rw [← hga] at hw6
        have HSX := Lib.hid ((hsx.keep hB6).more hB6.size)
        have HSY := Lib.hid ((hsy.keep hB6).more hB6.size)
        have HSZ := Lib.hid ((hsz.keep hB6).more hB6.size)
        have hB := hB.trans (hB6.mono hB.size)
        have HWZ6 := Lib.hid (HWZ4.out.below hB HWZ4.out.lt)
        have HZ6 := Lib.hid (HZ4.out.later hB)
        have HB6 := Lib.hid (HB4.out.trans (hB.mono HB4.out.size))
        have HWA := Lib.hid hw6
        have HW6 := Lib.hid hW6
        have HGA := Lib.hid hga
        clear hsx hsy hsz hB6 hB hw6 hW6 hga
        have a2 : ∀ w', Below W6.heap.size W6 w' → w'.cell? ⟨ga, 2, none⟩ = some (.slice Ax R.an.length kx) := fun w' h => ((HWA.out.below h HWA.out.lt).cell 2).trans rfl
        have a3 : ∀ w', Below W6.heap.size W6 w' → w'.cell? ⟨ga, 3, none⟩ = some (.slice Ay R.ns.length ky) := fun w' h => ((HWA.out.below h HWA.out.lt).cell 3).trans rfl
        have a4 : ∀ w', Below W6.heap.size W6 w' → w'.cell? ⟨ga, 4, none⟩ = some (.slice Az R.ad.length kz) := fun w' h => ((HWA.out.below h HWA.out.lt).cell 4).trans rfl
        have hT0 : Below W6.heap.size W6 W6.drew := (Below.refl _ _).drew
        have hTE : Below W6.heap.size W6 (W6.drew.alloc (.cells #[] 26)) := hT0.alloc (Nat.le_refl _) _
        have HBE := Lib.hid (show Below W6.heap.size W6 (W6.alloc (.cells #[] 26)) from (Below.refl _ _).alloc (Nat.le_refl _) _)
        have HOE := Lib.hid (own_noneR W6 W6.heap.size (Nat.le_refl _))
        go_wp2_with fail
        rw [← HW6.out, ← HGA.out]
        go_region_held3 (fun w' => Below W6.heap.size W6 w') (first | exact hT0 | exact hTE | assumption | go_keep) (first
          | (refine step_append_R (by rfl) (.tmp 40) (.tmp 42) (by rfl) W6.heap.size (.slice (some ⟨W6.heap.size, 0, none⟩) 0 0) 0 [] (by rfl) (own_below HOE.out (Below.refl _ _).drew) (by simp) W6.heap.size Ax R.an.length kx R.an (by rfl) (HSX.out.keep HBE.out.drew) R.an.length (Nat.zero_add _) (rcells R.an) (by rfl) (by have := HL1.out; omega) HBE.out.drew.size ?_; intro v7 w7 ho7 hg7 hn7; have HO7 := Lib.hid ho7; have HN7 := Lib.hid hn7; have hT7 := HBE.out.drew.grown hg7 HBE.out.drew.size (fun z hz => by simp [Value.ownBlock] at hz; omega); clear ho7 hg7 hn7)
          | (refine step_append_R (by rfl) (.tmp 43) (.tmp 45) (by rfl) W6.heap.size v7 R.an.length (rcells R.an) (by rfl) HO7.out HN7.out W6.heap.size Ay R.ns.length ky R.ns (by rfl) (HSY.out.keep hT7) (R.an.length + R.ns.length) rfl (rcells (R.an ++ R.ns)) (by rw [rcells_append]) (by have := HL1.out; have := HL2.out; omega) hT7.size ?_; intro v8 w8 ho8 hg8 hn8; have HO8 := Lib.hid ho8; have HN8 := Lib.hid hn8; have hT8 := hT7.grown hg8 hT7.size (fun z hz => (HO7.out.lt z hz).1); clear ho8 hg8 hn8)
          | (refine step_append_R (by rfl) (.tmp 46) (.tmp 48) (by rfl) W6.heap.size v8 (R.an.length + R.ns.length) (rcells (R.an ++ R.ns)) (by rfl) HO8.out HN8.out W6.heap.size Az R.ad.length kz R.ad (by rfl) (HSZ.out.keep hT8) (R.an.length + R.ns.length + R.ad.length) rfl (rcells (R.an ++ R.ns ++ R.ad)) (by rw [rcells_append (R.an ++ R.ns)]) (by have := HL1.out; have := HL2.out; have := HL3.out; omega) hT8.size ?_; intro v9 w9 ho9 hg9 _; have hT9 := hT8.grown hg9 hT8.size (fun z hz => (HO8.out.lt z hz).1); obtain ⟨A9, k9, rfl, hs9⟩ := SeesR.own ho9))
        all_goals (
          have hB := hT9
          have HB9 := Lib.hid (HB6.out.trans (hB.mono HB6.out.size))
          have HWZ9 := Lib.hid (HWZ6.out.below hB HWZ6.out.lt)
          have HZ9 := Lib.hid (HZ6.out.later hB)
          have HS9 := Lib.hid hs9
          clear a2 a3 a4 hT0 hTE hT7 hT8 hT9 hB hs9 ho9 hg9
          obtain ⟨al, hal⟩ : ∃ al, al = R.an ++ R.ns ++ R.ad := ⟨_, rfl⟩
          obtain ⟨na, hna⟩ : ∃ na, na = R.an.length + R.ns.length + R.ad.length := ⟨_, rfl⟩
          have HALL := Lib.hid (show ∀ y ∈ al, OwnY D y by rw [hal]; exact own_app (own_app HOWN.out.1 HOWN.out.2.1) HOWN.out.2.2)
          have hnab : na ≤ 1073741824 := by have := HL1.out; have := HL2.out; have := HL3.out; omega
          rw [← hal, ← hna] at HS9
          rw [← hna]
          clear hal hna
          obtain ⟨c0, c1, c2, c3', c4, c5', c6⟩ := zo_facts HWZ9.out
          go_wp2_with fail
          clear c0 c1 c2 c3' c4 c5' c6
          refine (All_any ⟨#[2, 101, 120, 0]⟩ D _ _ HZ9.out (by omega)).mono ?_
          obtain ⟨m, hm⟩ : ∃ m, m = D.length := ⟨_, rfl⟩
          rw [← hm]
          have HM := Lib.hid hm
          have hm30 : m ≤ 30 := by omega
          clear hm
          rintro e w10 ⟨u, rfl, ho, hB⟩
          obtain ⟨Au, ku, rfl, hsu⟩ := SeesR.own ho
          have HSU := Lib.hid hsu
          have HS10 := Lib.hid ((HS9.out.keep hB).more hB.size)
          have HB10 := Lib.hid (HB9.out.trans (hB.mono HB9.out.size))
          clear ho hsu hB
          go_wp2_with fail
          go_loopw [12] (fun i wr => ∃ k : Nat, k ≤ na ∧ i = .int .i64 (k : Nat) ∧ Below w10.heap.size w10 wr) (fun i _ => na - (intOf i).toNat)
          case atStart => exact ⟨0, Nat.zero_le _, rfl, Below.refl _ _⟩
          case round =>
            obtain ⟨k, hk, rfl, hB⟩ := hrel
            have HBR := Lib.hid hB
            clear hB
            by_cases hkn : k < na
            · have g2 : (k : Int) < (na : Int) := by omega
              have g0 : (0 : Int) ≤ (k : Int) := by omega
              obtain ⟨by', offy, y, rfl, hby, hyk, hfy⟩ := HS10.out.at hkn
              have HFY0 := Lib.hid hfy
              have HBY0 := Lib.hid hby
              have HOY := Lib.hid (show D.any (fun x => eqX (fitX x y) y) = true by
                obtain ⟨x, hx, hxy⟩ := HALL.out y (List.mem_of_getElem? hyk)
                exact List.any_eq_true.2 ⟨x, hx, eqX_is.2 hxy⟩)
              clear hby hyk hfy
              go_wp2_with fail
              go_loopw [13, 14] (fun o i wr => ∃ (q : Nat) (z : Bool), q ≤ m ∧ i = .int .i64 (q : Nat) ∧ o = .bool z ∧ z = ((D.take q).any fun x => eqX (fitX x y) y) ∧ Below w10.heap.size w10 wr) (fun _ i _ => m - (intOf i).toNat)
              case atStart => exact ⟨0, false, Nat.zero_le _, rfl, rfl, rfl, HBR.out⟩
              case round =>
                obtain ⟨q, z, hq, rfl, rfl, hz, hB⟩ := hrel
                have HZQ := Lib.hid hz
                have HBI := Lib.hid hB
                clear hz hB
                by_cases hqm : q < m
                · have g3 : (q : Int) < (m : Int) := by omega
                  have g4 : (0 : Int) ≤ (q : Int) := by omega
                  obtain ⟨bx, offx, x, rfl, hbx, hxq, hfx⟩ := (HSU.out.keep HBI.out).at hqm
                  have HST := Lib.hid (show ((D.take (q + 1)).any fun x => eqX (fitX x y) y) = (z || eqX (fitX x y) y) by
                    rw [List.take_add_one, hxq, List.any_append, ← HZQ.out]; simp)
                  have HFY := Lib.hid (HFY0.out.keep HBI.out HBY0.out)
                  have HBY := Lib.hid (Nat.lt_of_lt_of_le HBY0.out HBI.out.size)
                  have hfy2 := HFY.out.keep (show Below wr.heap.size wr (wr.alloc (.cells #[.string x.s, .int .i64 x.t, .int .i64 x.c, .int .i64 x.l, .string x.d] 26)) from (Below.refl _ _).alloc (Nat.le_refl _) _) HBY.out
                  have hnb : by' ≠ wr.heap.size := by have := HBY.out; omega
                  obtain ⟨x0, x1, x2, x3, x4⟩ := hfx
                  obtain ⟨y0, y1, y2, y3, y4⟩ := HFY.out
                  obtain ⟨e0, e1, e2, e3, e4⟩ := hfy2
                  clear hxq
                  by_cases h6x : x.t = 6
                  · have g6x : (x.t == 6) = true := by rw [beq_iff_eq]; exact h6x
                    by_cases h6y : y.t = 6
                    · have g6y : (y.t == 6) = true := by rw [beq_iff_eq]; exact h6y
                      have HTT := Lib.hid (show ttlX x y = ⟨x.s, x.t, x.c, y.l, x.d⟩ by unfold ttlX; rw [if_pos ⟨h6x, h6y⟩])
                      clear h6x h6y
                      go_wp2_with fail
                      refine (RefWild_any x.s (nmX x) _ (rrd_name x)).mono ?_
                      have hwb := Whole.new wr 26 #[.string x.s, .int .i64 x.t, .int .i64 x.c, .int .i64 y.l, .string x.d]
                      have hbb : Below wr.heap.size wr (wr.alloc (.cells #[.string x.s, .int .i64 x.t, .int .i64 x.c, .int .i64 y.l, .string x.d] 26)) := (Below.refl _ _).alloc (Nat.le_refl _) _
                      clear y0 y1 y2 y3 y4 x0 x1 x2 x3 x4 e0 e1 e2 e3 e4
                      cases hw : wildN (nmX x) with
                      | true =>
                        have HX2 := Lib.hid (show (⟨y.s, x.t, x.c, y.l, x.d⟩ : Rrd) = fitX x y by unfold fitX; rw [if_pos hw, HTT.out])
                        rintro e w3 ⟨rfl, hB⟩
                        have hw3 := hwb.below hB hwb.lt
                        have hb3 := hbb.trans (hB.mono hbb.size)
                        have hfy := HFY.out.keep hb3 HBY.out
                        have HB3 := Lib.hid (HBI.out.trans (hb3.mono HBI.out.size))
                        have HF3 := Lib.hid hfy
                        have HW3 := Lib.hid hw3
                        have HLT3 := Lib.hid (show by' < w3.heap.size from Nat.lt_of_lt_of_le HBY.out hb3.size)
                        have HNE := Lib.hid (show by' ≠ wr.heap.size by have := HBY.out; omega)
                        obtain ⟨y0, y1, y2, y3, y4⟩ := hfy
                        have f0 := hw3.frozen 0
                        have w0 : w3.cell? ⟨wr.heap.size, 0, none⟩ = some (.string x.s) := (hw3.cell 0).trans rfl
                        have HGB := Lib.hid (show w10.heap.size ≤ wr.heap.size from HBI.out.size)
                        clear hw hwb hbb hB hw3 hb3
                        go_wp2_with fail
                        clear y0 y1 y2 y3 y4 f0 w0
                        obtain ⟨x2, hx2⟩ : ∃ x2 : Rrd, x2 = ⟨y.s, x.t, x.c, y.l, x.d⟩ := ⟨_, rfl⟩
                        rw [← hx2] at HX2
                        have hwb := HW3.out.put 0 (.string y.s)
                        have hwb2 : Whole (w3.setCell ⟨wr.heap.size, 0, none⟩ (.string y.s)) wr.heap.size 26 #[.string x2.s, .int .i64 x2.t, .int .i64 x2.c, .int .i64 x2.l, .string x2.d] := by
                          rw [hx2]; simpa using hwb
                        have hfy := five_set HF3.out HNE.out 0 (.string y.s)
                        have hb4 := HB3.out.setCell (p := ⟨wr.heap.size, 0, none⟩) HGB.out (.string y.s)
                        have hlt4 : by' < (w3.setCell ⟨wr.heap.size, 0, none⟩ (.string y.s)).heap.size := Nat.lt_of_lt_of_le HLT3.out (gset w3 ⟨wr.heap.size, 0, none⟩ (.string y.s)).size
                        generalize (w3.setCell ⟨wr.heap.size, 0, none⟩ (.string y.s)) = w4 at hwb2 hfy hb4 hlt4 ⊢
                        generalize wr.heap.size = gb at hwb2 ⊢
                        have HWB := Lib.hid hwb2
                        have HFY := Lib.hid hfy
                        have HB4 := Lib.hid hb4
                        have HBY := Lib.hid hlt4
                        clear hwb hwb2 hfy hb4 hlt4 hx2
                        have y0 : ∀ q : Later w4, q.val.cell? ⟨by', offy + k * 5, none⟩ = some (.string y.s) := fun q => ((HFY.out.keep q.below HBY.out).1)
                        have y1 : ∀ q : Later w4, q.val.cell? ⟨by', offy + k * 5 + 1, none⟩ = some (.int .i64 y.t) := fun q => ((HFY.out.keep q.below HBY.out).2.1)
                        have y2 : ∀ q : Later w4, q.val.cell? ⟨by', offy + k * 5 + 2, none⟩ = some (.int .i64 y.c) := fun q => ((HFY.out.keep q.below HBY.out).2.2.1)
                        have y3 : ∀ q : Later w4, q.val.cell? ⟨by', offy + k * 5 + 3, none⟩ = some (.int .i64 y.l) := fun q => ((HFY.out.keep q.below HBY.out).2.2.2.1)
                        have y4 : ∀ q : Later w4, q.val.cell? ⟨by', offy + k * 5 + 4, none⟩ = some (.string y.d) := fun q => ((HFY.out.keep q.below HBY.out).2.2.2.2)
                        have z0 : ∀ q : Later w4, q.val.cell? ⟨gb, 0, none⟩ = some (.string x2.s) := fun q => ((HWB.out.later q).cell 0).trans rfl
                        have z1 : ∀ q : Later w4, q.val.cell? ⟨gb, 1, none⟩ = some (.int .i64 x2.t) := fun q => ((HWB.out.later q).cell 1).trans rfl
                        have z2 : ∀ q : Later w4, q.val.cell? ⟨gb, 2, none⟩ = some (.int .i64 x2.c) := fun q => ((HWB.out.later q).cell 2).trans rfl
                        have z3 : ∀ q : Later w4, q.val.cell? ⟨gb, 3, none⟩ = some (.int .i64 x2.l) := fun q => ((HWB.out.later q).cell 3).trans rfl
                        have z4 : ∀ q : Later w4, q.val.cell? ⟨gb, 4, none⟩ = some (.string x2.d) := fun q => ((HWB.out.later q).cell 4).trans rfl
                        obtain ⟨eq2, heq2⟩ : ∃ e, e = eqX x2 y := ⟨_, rfl⟩
                        have heq3 : eqX x2 y = eq2 := heq2.symm
                        have HEQ := Lib.hid heq2
                        clear heq2
                        have hne := rr_eql x2 y
                        have hgd := fun op a b => rr_guard op a b x2 y
                        cases z with
                        | true =>
                          refine region_later (by kernel_rfl) ?_
                          repeat (go_big_quiet_step (fail))
                          refine wpQuiet_nil ?_
                          rintro _ ⟨q2, rfl⟩
                          clear y0 y1 y2 y3 y4 z0 z1 z2 z3 z4 heq3 hne hgd
                          go_wp2_with fail
                          go_roundw
                          case rel => exact ⟨q + 1, true, by omega, by go_num, rfl, by rw [HST.out]; rfl, HB4.out.trans (q2.below.mono HB4.out.size)⟩
                          case measure => simp [intOf]; omega
                        | false =>
                          refine region_later (by kernel_rfl) ?_
                          repeat (go_big_quiet_step (fail))
                          refine wpQuiet_nil ?_
                          rintro _ ⟨q2, rfl⟩
                          clear y0 y1 y2 y3 y4 z0 z1 z2 z3 z4 heq3 hne hgd
                          go_wp2_with fail
                          go_roundw
                          case rel => exact ⟨q + 1, eq2, by omega, by go_num, rfl, by rw [HST.out, HEQ.out, HX2.out]; rfl, HB4.out.trans (q2.below.mono HB4.out.size)⟩
                          case measure => simp [intOf]; omega
                      | false =>
                        have HX2 := Lib.hid (show (⟨x.s, x.t, x.c, y.l, x.d⟩ : Rrd) = fitX x y by unfold fitX; rw [if_neg (by rw [hw]; simp), HTT.out])
                        rintro e w4 ⟨rfl, hB⟩
                        have hw3 := hwb.below hB hwb.lt
                        have hb3 := hbb.trans (hB.mono hbb.size)
                        have hfy := HFY.out.keep hb3 HBY.out
                        have hb4 := HBI.out.trans (hb3.mono HBI.out.size)
                        have hlt4 := Nat.lt_of_lt_of_le HBY.out hb3.size
                        obtain ⟨x2, hx2⟩ : ∃ x2 : Rrd, x2 = ⟨x.s, x.t, x.c, y.l, x.d⟩ := ⟨_, rfl⟩
                        rw [← hx2] at HX2
                        have hwb2 : Whole w4 wr.heap.size 26 #[.string x2.s, .int .i64 x2.t, .int .i64 x2.c, .int .i64 x2.l, .string x2.d] := by
                          rw [hx2]; exact hw3
                        have HWB := Lib.hid hwb2
                        have HFY := Lib.hid hfy
                        have HB4 := Lib.hid hb4
                        have HBY := Lib.hid hlt4
                        clear hw hwb hbb hB hw3 hb3 hwb2 hfy hb4 hlt4 hx2
                        go_wp2_with fail
                        replace HWB := Lib.hid HWB.out
                        generalize wr.heap.size = gb at HWB ⊢
                        have y0 : ∀ q : Later w4, q.val.cell? ⟨by', offy + k * 5, none⟩ = some (.string y.s) := fun q => ((HFY.out.keep q.below HBY.out).1)
                        have y1 : ∀ q : Later w4, q.val.cell? ⟨by', offy + k * 5 + 1, none⟩ = some (.int .i64 y.t) := fun q => ((HFY.out.keep q.below HBY.out).2.1)
                        have y2 : ∀ q : Later w4, q.val.cell? ⟨by', offy + k * 5 + 2, none⟩ = some (.int .i64 y.c) := fun q => ((HFY.out.keep q.below HBY.out).2.2.1)
                        have y3 : ∀ q : Later w4, q.val.cell? ⟨by', offy + k * 5 + 3, none⟩ = some (.int .i64 y.l) := fun q => ((HFY.out.keep q.below HBY.out).2.2.2.1)
                        have y4 : ∀ q : Later w4, q.val.cell? ⟨by', offy + k * 5 + 4, none⟩ = some (.string y.d) := fun q => ((HFY.out.keep q.below HBY.out).2.2.2.2)
                        have z0 : ∀ q : Later w4, q.val.cell? ⟨gb, 0, none⟩ = some (.string x2.s) := fun q => ((HWB.out.later q).cell 0).trans rfl
                        have z1 : ∀ q : Later w4, q.val.cell? ⟨gb, 1, none⟩ = some (.int .i64 x2.t) := fun q => ((HWB.out.later q).cell 1).trans rfl
                        have z2 : ∀ q : Later w4, q.val.cell? ⟨gb, 2, none⟩ = some (.int .i64 x2.c) := fun q => ((HWB.out.later q).cell 2).trans rfl
                        have z3 : ∀ q : Later w4, q.val.cell? ⟨gb, 3, none⟩ = some (.int .i64 x2.l) := fun q => ((HWB.out.later q).cell 3).trans rfl
                        have z4 : ∀ q : Later w4, q.val.cell? ⟨gb, 4, none⟩ = some (.string x2.d) := fun q => ((HWB.out.later q).cell 4).trans rfl
                        obtain ⟨eq2, heq2⟩ : ∃ e, e = eqX x2 y := ⟨_, rfl⟩
                        have heq3 : eqX x2 y = eq2 := heq2.symm
                        have HEQ := Lib.hid heq2
                        clear heq2
                        have hne := rr_eql x2 y
                        have hgd := fun op a b => rr_guard op a b x2 y
                        cases z with
                        | true =>
                          refine region_later (by kernel_rfl) ?_
                          repeat (go_big_quiet_step (fail))
                          refine wpQuiet_nil ?_
                          rintro _ ⟨q2, rfl⟩
                          clear y0 y1 y2 y3 y4 z0 z1 z2 z3 z4 heq3 hne hgd
                          go_wp2_with fail
                          go_roundw
                          case rel => exact ⟨q + 1, true, by omega, by go_num, rfl, by rw [HST.out]; rfl, HB4.out.trans (q2.below.mono HB4.out.size)⟩
                          case measure => simp [intOf]; omega
                        | false =>
                          refine region_later (by kernel_rfl) ?_
                          repeat (go_big_quiet_step (fail))
                          refine wpQuiet_nil ?_
                          rintro _ ⟨q2, rfl⟩
                          clear y0 y1 y2 y3 y4 z0 z1 z2 z3 z4 heq3 hne hgd
                          go_wp2_with fail
                          go_roundw
                          case rel => exact ⟨q + 1, eq2, by omega, by go_num, rfl, by rw [HST.out, HEQ.out, HX2.out]; rfl, HB4.out.trans (q2.below.mono HB4.out.size)⟩
                          case measure => simp [intOf]; omega
                    · have g6y : (y.t == 6) = false := by rw [beq_eq_false_iff_ne]; exact h6y
                      have HTT := Lib.hid (show ttlX x y = ⟨x.s, x.t, x.c, x.l, x.d⟩ by unfold ttlX; rw [if_neg (fun h => h6y h.2)])
                      clear h6x h6y
                      go_wp2_with fail
                      refine (RefWild_any x.s (nmX x) _ (rrd_name x)).mono ?_
                      have hwb := Whole.new wr 26 #[.string x.s, .int .i64 x.t, .int .i64 x.c, .int .i64 x.l, .string x.d]
                      have hbb : Below wr.heap.size wr (wr.alloc (.cells #[.string x.s, .int .i64 x.t, .int .i64 x.c, .int .i64 x.l, .string x.d] 26)) := (Below.refl _ _).alloc (Nat.le_refl _) _
                      clear y0 y1 y2 y3 y4 x0 x1 x2 x3 x4 e0 e1 e2 e3 e4
                      cases hw : wildN (nmX x) with
                      | true =>
                        have HX2 := Lib.hid (show (⟨y.s, x.t, x.c, x.l, x.d⟩ : Rrd) = fitX x y by unfold fitX; rw [if_pos hw, HTT.out])
                        rintro e w3 ⟨rfl, hB⟩
                        have hw3 := hwb.below hB hwb.lt
                        have hb3 := hbb.trans (hB.mono hbb.size)
                        have hfy := HFY.out.keep hb3 HBY.out
                        have HB3 := Lib.hid (HBI.out.trans (hb3.mono HBI.out.size))
                        have HF3 := Lib.hid hfy
                        have HW3 := Lib.hid hw3
                        have HLT3 := Lib.hid (show by' < w3.heap.size from Nat.lt_of_lt_of_le HBY.out hb3.size)
                        have HNE := Lib.hid (show by' ≠ wr.heap.size by have := HBY.out; omega)
                        obtain ⟨y0, y1, y2, y3, y4⟩ := hfy
                        have f0 := hw3.frozen 0
                        have w0 : w3.cell? ⟨wr.heap.size, 0, none⟩ = some (.string x.s) := (hw3.cell 0).trans rfl
                        have HGB := Lib.hid (show w10.heap.size ≤ wr.heap.size from HBI.out.size)
                        clear hw hwb hbb hB hw3 hb3
                        go_wp2_with fail
                        clear y0 y1 y2 y3 y4 f0 w0
                        obtain ⟨x2, hx2⟩ : ∃ x2 : Rrd, x2 = ⟨y.s, x.t, x.c, x.l, x.d⟩ := ⟨_, rfl⟩
                        rw [← hx2] at HX2
                        have hwb := HW3.out.put 0 (.string y.s)
                        have hwb2 : Whole (w3.setCell ⟨wr.heap.size, 0, none⟩ (.string y.s)) wr.heap.size 26 #[.string x2.s, .int .i64 x2.t, .int .i64 x2.c, .int .i64 x2.l, .string x2.d] := by
                          rw [hx2]; simpa using hwb
                        have hfy := five_set HF3.out HNE.out 0 (.string y.s)
                        have hb4 := HB3.out.setCell (p := ⟨wr.heap.size, 0, none⟩) HGB.out (.string y.s)
                        have hlt4 : by' < (w3.setCell ⟨wr.heap.size, 0, none⟩ (.string y.s)).heap.size := Nat.lt_of_lt_of_le HLT3.out (gset w3 ⟨wr.heap.size, 0, none⟩ (.string y.s)).size
                        generalize (w3.setCell ⟨wr.heap.size, 0, none⟩ (.string y.s)) = w4 at hwb2 hfy hb4 hlt4 ⊢
                        generalize wr.heap.size = gb at hwb2 ⊢
                        have HWB := Lib.hid hwb2
                        have HFY := Lib.hid hfy
                        have HB4 := Lib.hid hb4
                        have HBY := Lib.hid hlt4
                        clear hwb hwb2 hfy hb4 hlt4 hx2
                        have y0 : ∀ q : Later w4, q.val.cell? ⟨by', offy + k * 5, none⟩ = some (.string y.s) := fun q => ((HFY.out.keep q.below HBY.out).1)
                        have y1 : ∀ q : Later w4, q.val.cell? ⟨by', offy + k * 5 + 1, none⟩ = some (.int .i64 y.t) := fun q => ((HFY.out.keep q.below HBY.out).2.1)
                        have y2 : ∀ q : Later w4, q.val.cell? ⟨by', offy + k * 5 + 2, none⟩ = some (.int .i64 y.c) := fun q => ((HFY.out.keep q.below HBY.out).2.2.1)
                        have y3 : ∀ q : Later w4, q.val.cell? ⟨by', offy + k * 5 + 3, none⟩ = some (.int .i64 y.l) := fun q => ((HFY.out.keep q.below HBY.out).2.2.2.1)
                        have y4 : ∀ q : Later w4, q.val.cell? ⟨by', offy + k * 5 + 4, none⟩ = some (.string y.d) := fun q => ((HFY.out.keep q.below HBY.out).2.2.2.2)
                        have z0 : ∀ q : Later w4, q.val.cell? ⟨gb, 0, none⟩ = some (.string x2.s) := fun q => ((HWB.out.later q).cell 0).trans rfl
                        have z1 : ∀ q : Later w4, q.val.cell? ⟨gb, 1, none⟩ = some (.int .i64 x2.t) := fun q => ((HWB.out.later q).cell 1).trans rfl
                        have z2 : ∀ q : Later w4, q.val.cell? ⟨gb, 2, none⟩ = some (.int .i64 x2.c) := fun q => ((HWB.out.later q).cell 2).trans rfl
                        have z3 : ∀ q : Later w4, q.val.cell? ⟨gb, 3, none⟩ = some (.int .i64 x2.l) := fun q => ((HWB.out.later q).cell 3).trans rfl
                        have z4 : ∀ q : Later w4, q.val.cell? ⟨gb, 4, none⟩ = some (.string x2.d) := fun q => ((HWB.out.later q).cell 4).trans rfl
                        obtain ⟨eq2, heq2⟩ : ∃ e, e = eqX x2 y := ⟨_, rfl⟩
                        have heq3 : eqX x2 y = eq2 := heq2.symm
                        have HEQ := Lib.hid heq2
                        clear heq2
                        have hne := rr_eql x2 y
                        have hgd := fun op a b => rr_guard op a b x2 y
                        cases z with
                        | true =>
                          refine region_later (by kernel_rfl) ?_
                          repeat (go_big_quiet_step (fail))
                          refine wpQuiet_nil ?_
                          rintro _ ⟨q2, rfl⟩
                          clear y0 y1 y2 y3 y4 z0 z1 z2 z3 z4 heq3 hne hgd
                          go_wp2_with fail
                          go_roundw
                          case rel => exact ⟨q + 1, true, by omega, by go_num, rfl, by rw [HST.out]; rfl, HB4.out.trans (q2.below.mono HB4.out.size)⟩
                          case measure => simp [intOf]; omega
                        | false =>
                          refine region_later (by kernel_rfl) ?_
                          repeat (go_big_quiet_step (fail))
                          refine wpQuiet_nil ?_
                          rintro _ ⟨q2, rfl⟩
                          clear y0 y1 y2 y3 y4 z0 z1 z2 z3 z4 heq3 hne hgd
                          go_wp2_with fail
                          go_roundw
                          case rel => exact ⟨q + 1, eq2, by omega, by go_num, rfl, by rw [HST.out, HEQ.out, HX2.out]; rfl, HB4.out.trans (q2.below.mono HB4.out.size)⟩
                          case measure => simp [intOf]; omega
                      | false =>
                        have HX2 := Lib.hid (show (⟨x.s, x.t, x.c, x.l, x.d⟩ : Rrd) = fitX x y by unfold fitX; rw [if_neg (by rw [hw]; simp), HTT.out])
                        rintro e w4 ⟨rfl, hB⟩
                        have hw3 := hwb.below hB hwb.lt
                        have hb3 := hbb.trans (hB.mono hbb.size)
                        have hfy := HFY.out.keep hb3 HBY.out
                        have hb4 := HBI.out.trans (hb3.mono HBI.out.size)
                        have hlt4 := Nat.lt_of_lt_of_le HBY.out hb3.size
                        obtain ⟨x2, hx2⟩ : ∃ x2 : Rrd, x2 = ⟨x.s, x.t, x.c, x.l, x.d⟩ := ⟨_, rfl⟩
                        rw [← hx2] at HX2
                        have hwb2 : Whole w4 wr.heap.size 26 #[.string x2.s, .int .i64 x2.t, .int .i64 x2.c, .int .i64 x2.l, .string x2.d] := by
                          rw [hx2]; exact hw3
                        have HWB := Lib.hid hwb2
                        have HFY := Lib.hid hfy
                        have HB4 := Lib.hid hb4
                        have HBY := Lib.hid hlt4
                        clear hw hwb hbb hB hw3 hb3 hwb2 hfy hb4 hlt4 hx2
                        go_wp2_with fail
                        replace HWB := Lib.hid HWB.out
                        generalize wr.heap.size = gb at HWB ⊢
                        have y0 : ∀ q : Later w4, q.val.cell? ⟨by', offy + k * 5, none⟩ = some (.string y.s) := fun q => ((HFY.out.keep q.below HBY.out).1)
                        have y1 : ∀ q : Later w4, q.val.cell? ⟨by', offy + k * 5 + 1, none⟩ = some (.int .i64 y.t) := fun q => ((HFY.out.keep q.below HBY.out).2.1)
                        have y2 : ∀ q : Later w4, q.val.cell? ⟨by', offy + k * 5 + 2, none⟩ = some (.int .i64 y.c) := fun q => ((HFY.out.keep q.below HBY.out).2.2.1)
                        have y3 : ∀ q : Later w4, q.val.cell? ⟨by', offy + k * 5 + 3, none⟩ = some (.int .i64 y.l) := fun q => ((HFY.out.keep q.below HBY.out).2.2.2.1)
                        have y4 : ∀ q : Later w4, q.val.cell? ⟨by', offy + k * 5 + 4, none⟩ = some (.string y.d) := fun q => ((HFY.out.keep q.below HBY.out).2.2.2.2)
                        have z0 : ∀ q : Later w4, q.val.cell? ⟨gb, 0, none⟩ = some (.string x2.s) := fun q => ((HWB.out.later q).cell 0).trans rfl
                        have z1 : ∀ q : Later w4, q.val.cell? ⟨gb, 1, none⟩ = some (.int .i64 x2.t) := fun q => ((HWB.out.later q).cell 1).trans rfl
                        have z2 : ∀ q : Later w4, q.val.cell? ⟨gb, 2, none⟩ = some (.int .i64 x2.c) := fun q => ((HWB.out.later q).cell 2).trans rfl
                        have z3 : ∀ q : Later w4, q.val.cell? ⟨gb, 3, none⟩ = some (.int .i64 x2.l) := fun q => ((HWB.out.later q).cell 3).trans rfl
                        have z4 : ∀ q : Later w4, q.val.cell? ⟨gb, 4, none⟩ = some (.string x2.d) := fun q => ((HWB.out.later q).cell 4).trans rfl
                        obtain ⟨eq2, heq2⟩ : ∃ e, e = eqX x2 y := ⟨_, rfl⟩
                        have heq3 : eqX x2 y = eq2 := heq2.symm
                        have HEQ := Lib.hid heq2
                        clear heq2
                        have hne := rr_eql x2 y
                        have hgd := fun op a b => rr_guard op a b x2 y
                        cases z with
                        | true =>
                          refine region_later (by kernel_rfl) ?_
                          repeat (go_big_quiet_step (fail))
                          refine wpQuiet_nil ?_
                          rintro _ ⟨q2, rfl⟩
                          clear y0 y1 y2 y3 y4 z0 z1 z2 z3 z4 heq3 hne hgd
                          go_wp2_with fail
                          go_roundw
                          case rel => exact ⟨q + 1, true, by omega, by go_num, rfl, by rw [HST.out]; rfl, HB4.out.trans (q2.below.mono HB4.out.size)⟩
                          case measure => simp [intOf]; omega
                        | false =>
                          refine region_later (by kernel_rfl) ?_
                          repeat (go_big_quiet_step (fail))
                          refine wpQuiet_nil ?_
                          rintro _ ⟨q2, rfl⟩
                          clear y0 y1 y2 y3 y4 z0 z1 z2 z3 z4 heq3 hne hgd
                          go_wp2_with fail
                          go_roundw
                          case rel => exact ⟨q + 1, eq2, by omega, by go_num, rfl, by rw [HST.out, HEQ.out, HX2.out]; rfl, HB4.out.trans (q2.below.mono HB4.out.size)⟩
                          case measure => simp [intOf]; omega
                  · have g6x : (x.t == 6) = false := by rw [beq_eq_false_iff_ne]; exact h6x
                    have HTT := Lib.hid (show ttlX x y = ⟨x.s, x.t, x.c, x.l, x.d⟩ by unfold ttlX; rw [if_neg (fun h => h6x h.1)])
                    clear h6x
                    go_wp2_with fail
                    refine (RefWild_any x.s (nmX x) _ (rrd_name x)).mono ?_
                    have hwb := Whole.new wr 26 #[.string x.s, .int .i64 x.t, .int .i64 x.c, .int .i64 x.l, .string x.d]
                    have hbb : Below wr.heap.size wr (wr.alloc (.cells #[.string x.s, .int .i64 x.t, .int .i64 x.c, .int .i64 x.l, .string x.d] 26)) := (Below.refl _ _).alloc (Nat.le_refl _) _
                    clear y0 y1 y2 y3 y4 x0 x1 x2 x3 x4 e0 e1 e2 e3 e4
                    cases hw : wildN (nmX x) with
                    | true =>
                      have HX2 := Lib.hid (show (⟨y.s, x.t, x.c, x.l, x.d⟩ : Rrd) = fitX x y by unfold fitX; rw [if_pos hw, HTT.out])
                      rintro e w3 ⟨rfl, hB⟩
                      have hw3 := hwb.below hB hwb.lt
                      have hb3 := hbb.trans (hB.mono hbb.size)
                      have hfy := HFY.out.keep hb3 HBY.out
                      have HB3 := Lib.hid (HBI.out.trans (hb3.mono HBI.out.size))
                      have HF3 := Lib.hid hfy
                      have HW3 := Lib.hid hw3
                      have HLT3 := Lib.hid (show by' < w3.heap.size from Nat.lt_of_lt_of_le HBY.out hb3.size)
                      have HNE := Lib.hid (show by' ≠ wr.heap.size by have := HBY.out; omega)
                      obtain ⟨y0, y1, y2, y3, y4⟩ := hfy
                      have f0 := hw3.frozen 0
                      have w0 : w3.cell? ⟨wr.heap.size, 0, none⟩ = some (.string x.s) := (hw3.cell 0).trans rfl
                      have HGB := Lib.hid (show w10.heap.size ≤ wr.heap.size from HBI.out.size)
                      clear hw hwb hbb hB hw3 hb3
                      go_wp2_with fail
                      clear y0 y1 y2 y3 y4 f0 w0
                      obtain ⟨x2, hx2⟩ : ∃ x2 : Rrd, x2 = ⟨y.s, x.t, x.c, x.l, x.d⟩ := ⟨_, rfl⟩
                      rw [← hx2] at HX2
                      have hwb := HW3.out.put 0 (.string y.s)
                      have hwb2 : Whole (w3.setCell ⟨wr.heap.size, 0, none⟩ (.string y.s)) wr.heap.size 26 #[.string x2.s, .int .i64 x2.t, .int .i64 x2.c, .int .i64 x2.l, .string x2.d] := by
                        rw [hx2]; simpa using hwb
                      have hfy := five_set HF3.out HNE.out 0 (.string y.s)
                      have hb4 := HB3.out.setCell (p := ⟨wr.heap.size, 0, none⟩) HGB.out (.string y.s)
                      have hlt4 : by' < (w3.setCell ⟨wr.heap.size, 0, none⟩ (.string y.s)).heap.size := Nat.lt_of_lt_of_le HLT3.out (gset w3 ⟨wr.heap.size, 0, none⟩ (.string y.s)).size
                      generalize (w3.setCell ⟨wr.heap.size, 0, none⟩ (.string y.s)) = w4 at hwb2 hfy hb4 hlt4 ⊢
                      generalize wr.heap.size = gb at hwb2 ⊢
                      have HWB := Lib.hid hwb2
                      have HFY := Lib.hid hfy
                      have HB4 := Lib.hid hb4
                      have HBY := Lib.hid hlt4
                      clear hwb hwb2 hfy hb4 hlt4 hx2
                      have y0 : ∀ q : Later w4, q.val.cell? ⟨by', offy + k * 5, none⟩ = some (.string y.s) := fun q => ((HFY.out.keep q.below HBY.out).1)
                      have y1 : ∀ q : Later w4, q.val.cell? ⟨by', offy + k * 5 + 1, none⟩ = some (.int .i64 y.t) := fun q => ((HFY.out.keep q.below HBY.out).2.1)
                      have y2 : ∀ q : Later w4, q.val.cell? ⟨by', offy + k * 5 + 2, none⟩ = some (.int .i64 y.c) := fun q => ((HFY.out.keep q.below HBY.out).2.2.1)
                      have y3 : ∀ q : Later w4, q.val.cell? ⟨by', offy + k * 5 + 3, none⟩ = some (.int .i64 y.l) := fun q => ((HFY.out.keep q.below HBY.out).2.2.2.1)
                      have y4 : ∀ q : Later w4, q.val.cell? ⟨by', offy + k * 5 + 4, none⟩ = some (.string y.d) := fun q => ((HFY.out.keep q.below HBY.out).2.2.2.2)
                      have z0 : ∀ q : Later w4, q.val.cell? ⟨gb, 0, none⟩ = some (.string x2.s) := fun q => ((HWB.out.later q).cell 0).trans rfl
                      have z1 : ∀ q : Later w4, q.val.cell? ⟨gb, 1, none⟩ = some (.int .i64 x2.t) := fun q => ((HWB.out.later q).cell 1).trans rfl
                      have z2 : ∀ q : Later w4, q.val.cell? ⟨gb, 2, none⟩ = some (.int .i64 x2.c) := fun q => ((HWB.out.later q).cell 2).trans rfl
                      have z3 : ∀ q : Later w4, q.val.cell? ⟨gb, 3, none⟩ = some (.int .i64 x2.l) := fun q => ((HWB.out.later q).cell 3).trans rfl
                      have z4 : ∀ q : Later w4, q.val.cell? ⟨gb, 4, none⟩ = some (.string x2.d) := fun q => ((HWB.out.later q).cell 4).trans rfl
                      obtain ⟨eq2, heq2⟩ : ∃ e, e = eqX x2 y := ⟨_, rfl⟩
                      have heq3 : eqX x2 y = eq2 := heq2.symm
                      have HEQ := Lib.hid heq2
                      clear heq2
                      have hne := rr_eql x2 y
                      have hgd := fun op a b => rr_guard op a b x2 y
                      cases z with
                      | true =>
                        refine region_later (by kernel_rfl) ?_
                        repeat (go_big_quiet_step (fail))
                        refine wpQuiet_nil ?_
                        rintro _ ⟨q2, rfl⟩
                        clear y0 y1 y2 y3 y4 z0 z1 z2 z3 z4 heq3 hne hgd
                        go_wp2_with fail
                        go_roundw
                        case rel => exact ⟨q + 1, true, by omega, by go_num, rfl, by rw [HST.out]; rfl, HB4.out.trans (q2.below.mono HB4.out.size)⟩
                        case measure => simp [intOf]; omega
                      | false =>
                        refine region_later (by kernel_rfl) ?_
                        repeat (go_big_quiet_step (fail))
                        refine wpQuiet_nil ?_
                        rintro _ ⟨q2, rfl⟩
                        clear y0 y1 y2 y3 y4 z0 z1 z2 z3 z4 heq3 hne hgd
                        go_wp2_with fail
                        go_roundw
                        case rel => exact ⟨q + 1, eq2, by omega, by go_num, rfl, by rw [HST.out, HEQ.out, HX2.out]; rfl, HB4.out.trans (q2.below.mono HB4.out.size)⟩
                        case measure => simp [intOf]; omega
                    | false =>
                      have HX2 := Lib.hid (show (⟨x.s, x.t, x.c, x.l, x.d⟩ : Rrd) = fitX x y by unfold fitX; rw [if_neg (by rw [hw]; simp), HTT.out])
                      rintro e w4 ⟨rfl, hB⟩
                      have hw3 := hwb.below hB hwb.lt
                      have hb3 := hbb.trans (hB.mono hbb.size)
                      have hfy := HFY.out.keep hb3 HBY.out
                      have hb4 := HBI.out.trans (hb3.mono HBI.out.size)
                      have hlt4 := Nat.lt_of_lt_of_le HBY.out hb3.size
                      obtain ⟨x2, hx2⟩ : ∃ x2 : Rrd, x2 = ⟨x.s, x.t, x.c, x.l, x.d⟩ := ⟨_, rfl⟩
                      rw [← hx2] at HX2
                      have hwb2 : Whole w4 wr.heap.size 26 #[.string x2.s, .int .i64 x2.t, .int .i64 x2.c, .int .i64 x2.l, .string x2.d] := by
                        rw [hx2]; exact hw3
                      have HWB := Lib.hid hwb2
                      have HFY := Lib.hid hfy
                      have HB4 := Lib.hid hb4
                      have HBY := Lib.hid hlt4
                      clear hw hwb hbb hB hw3 hb3 hwb2 hfy hb4 hlt4 hx2
                      go_wp2_with fail
                      replace HWB := Lib.hid HWB.out
                      generalize wr.heap.size = gb at HWB ⊢
                      have y0 : ∀ q : Later w4, q.val.cell? ⟨by', offy + k * 5, none⟩ = some (.string y.s) := fun q => ((HFY.out.keep q.below HBY.out).1)
                      have y1 : ∀ q : Later w4, q.val.cell? ⟨by', offy + k * 5 + 1, none⟩ = some (.int .i64 y.t) := fun q => ((HFY.out.keep q.below HBY.out).2.1)
                      have y2 : ∀ q : Later w4, q.val.cell? ⟨by', offy + k * 5 + 2, none⟩ = some (.int .i64 y.c) := fun q => ((HFY.out.keep q.below HBY.out).2.2.1)
                      have y3 : ∀ q : Later w4, q.val.cell? ⟨by', offy + k * 5 + 3, none⟩ = some (.int .i64 y.l) := fun q => ((HFY.out.keep q.below HBY.out).2.2.2.1)
                      have y4 : ∀ q : Later w4, q.val.cell? ⟨by', offy + k * 5 + 4, none⟩ = some (.string y.d) := fun q => ((HFY.out.keep q.below HBY.out).2.2.2.2)
                      have z0 : ∀ q : Later w4, q.val.cell? ⟨gb, 0, none⟩ = some (.string x2.s) := fun q => ((HWB.out.later q).cell 0).trans rfl
                      have z1 : ∀ q : Later w4, q.val.cell? ⟨gb, 1, none⟩ = some (.int .i64 x2.t) := fun q => ((HWB.out.later q).cell 1).trans rfl
                      have z2 : ∀ q : Later w4, q.val.cell? ⟨gb, 2, none⟩ = some (.int .i64 x2.c) := fun q => ((HWB.out.later q).cell 2).trans rfl
                      have z3 : ∀ q : Later w4, q.val.cell? ⟨gb, 3, none⟩ = some (.int .i64 x2.l) := fun q => ((HWB.out.later q).cell 3).trans rfl
                      have z4 : ∀ q : Later w4, q.val.cell? ⟨gb, 4, none⟩ = some (.string x2.d) := fun q => ((HWB.out.later q).cell 4).trans rfl
                      obtain ⟨eq2, heq2⟩ : ∃ e, e = eqX x2 y := ⟨_, rfl⟩
                      have heq3 : eqX x2 y = eq2 := heq2.symm
                      have HEQ := Lib.hid heq2
                      clear heq2
                      have hne := rr_eql x2 y
                      have hgd := fun op a b => rr_guard op a b x2 y
                      cases z with
                      | true =>
                        refine region_later (by kernel_rfl) ?_
                        repeat (go_big_quiet_step (fail))
                        refine wpQuiet_nil ?_
                        rintro _ ⟨q2, rfl⟩
                        clear y0 y1 y2 y3 y4 z0 z1 z2 z3 z4 heq3 hne hgd
                        go_wp2_with fail
                        go_roundw
                        case rel => exact ⟨q + 1, true, by omega, by go_num, rfl, by rw [HST.out]; rfl, HB4.out.trans (q2.below.mono HB4.out.size)⟩
                        case measure => simp [intOf]; omega
                      | false =>
                        refine region_later (by kernel_rfl) ?_
                        repeat (go_big_quiet_step (fail))
                        refine wpQuiet_nil ?_
                        rintro _ ⟨q2, rfl⟩
                        clear y0 y1 y2 y3 y4 z0 z1 z2 z3 z4 heq3 hne hgd
                        go_wp2_with fail
                        go_roundw
                        case rel => exact ⟨q + 1, eq2, by omega, by go_num, rfl, by rw [HST.out, HEQ.out, HX2.out]; rfl, HB4.out.trans (q2.below.mono HB4.out.size)⟩
                        case measure => simp [intOf]; omega
                · obtain rfl : q = m := by omega
                  have g3 : ¬ ((q : Int) < (q : Int)) := by omega
                  have HZ2 := Lib.hid (show z = true by
                    rw [HZQ.out, List.take_of_length_le (by rw [HM.out]; exact Nat.le_refl _)]; exact HOY.out)
                  obtain rfl : z = true := HZ2.out
                  go_wp2_with fail
                  go_roundw
                  case rel => exact ⟨k + 1, by omega, by go_num, HBI.out⟩
                  case measure => simp [intOf]; omega
            · obtain rfl : k = na := by omega
              have g2 : ¬ ((k : Int) < (k : Int)) := by omega
              go_wp2_with fail
              go_ret
              exact ⟨rfl, HB10.out.trans (HBR.out.mono HB10.out.size)⟩)
    · have gp : (P.size : Int) > 600 := by omega
      go_enter Tryz.func5, Tryz.ntmps5
      go_wp2_with fail
      refine (lawake_any _).mono ?_
      rintro e w1 ⟨rfl, hB⟩
      have HB1 := Lib.hid hB
      have HX1 := Lib.hid ((HX.out.keep hB).more hB.size)
      clear hB
      go_wp2_with fail
      refine (Few_any A n c xs _ HX1.out h63).mono ?_
      rw [HF.out]
      rintro e w2 ⟨rfl, hB⟩
      have HB2 := Lib.hid (HB1.out.trans (hB.mono HB1.out.size))
      have HX2 := Lib.hid ((HX1.out.keep hB).more hB.size)
      clear hB
      go_wp2_with fail
      refine (lawake_any _).mono ?_
      rintro e w3 ⟨rfl, hB⟩
      have HB3 := Lib.hid (HB2.out.trans (hB.mono HB2.out.size))
      have HX3 := Lib.hid ((HX2.out.keep hB).more hB.size)
      clear hB
      go_wp2_with fail
      go_ret
      exact ⟨rfl, HB3.out⟩
end Go.Proofs.YtkgihfoknpimfaaGreat
