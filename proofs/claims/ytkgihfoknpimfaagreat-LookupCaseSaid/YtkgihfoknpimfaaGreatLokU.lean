/- LookupCase. No statement of the seat is proved here. (written by gen_u.py) -/
import Derived.Test.YtkgihfoknpimfaaGreatLokO
import Derived.Deep.DeepCutAuto
import Derived.Deep.RegionHeld3
namespace Go.Proofs.YtkgihfoknpimfaaGreat
open Go.RowKit Go.Op
set_option linter.unusedVariables false
attribute [local go_sem] rr_eql rr_guard

theorem bel_alloc {w w' : World} {o : Obj} (h : Below w.heap.size w w') : Below w.heap.size w (w'.alloc o) := h.alloc h.size o
theorem bel_set {w w' : World} {p : Addr} {v : Value} (h : Below w.heap.size w w') (hp : w.heap.size ≤ p.block) : Below w.heap.size w (w'.setCell p v) := h.setCell hp v
theorem wbel {w d : World} {g t : Nat} {cs : Array Value} (h : Whole w g t cs) (hB : Below w.heap.size w d) : Whole d g t cs := h.below hB h.lt
theorem wne {w : World} {g t : Nat} {cs : Array Value} (h : Whole w g t cs) : g ≠ w.heap.size := by have := h.lt; omega
theorem wnew1 {W w d : World} {t : TypeId} {cs : Array Value} (hw : Below W.heap.size W w) (h : Below (w.alloc (.cells cs t)).heap.size (w.alloc (.cells cs t)) d) : Whole d w.heap.size t cs ∧ W.heap.size ≤ w.heap.size := ⟨wbel (Whole.new w t cs) h, hw.size⟩
theorem wnew2 {W w d : World} {t t' : TypeId} {cs cs' : Array Value} (hw : Below W.heap.size W w) (h : Below ((w.alloc (.cells cs t)).alloc (.cells cs' t')).heap.size ((w.alloc (.cells cs t)).alloc (.cells cs' t')) d) : Whole d w.heap.size t cs ∧ W.heap.size ≤ w.heap.size ∧ w.heap.size ≠ (w.alloc (.cells cs t)).heap.size := ⟨wbel ((Whole.new w t cs).alloc _) h, hw.size, by rw [World.size_alloc]; omega⟩
theorem sees_bel {w d : World} {A : Option Addr} {n : Nat} {xs : List Rrd} (h : SeesR w w.heap.size A n xs) (b : Below w.heap.size w d) : SeesR d d.heap.size A n xs := (h.keep b).more b.size
theorem sees_alloc {w : World} {o : Obj} {A : Option Addr} {n : Nat} {xs : List Rrd} (h : SeesR w w.heap.size A n xs) : SeesR (w.alloc o) (w.alloc o).heap.size A n xs := sees_bel h ((Below.refl _ _).alloc (Nat.le_refl _) _)
theorem wnewS (w : World) (o : Obj) (t : TypeId) (cs : Array Value) : Whole ((w.alloc o).alloc (.cells cs t)) (w.heap.size + 1) t cs := by have h := Whole.new (w.alloc o) t cs; rwa [World.size_alloc] at h
theorem whole_far5 {w : World} {g r t : Nat} {cs : Array Value} (h : Whole w g t cs) (hne : g ≠ r) (u0 u1 u2 u3 u4 : Value) :
    Whole (((((w.setCell ⟨r, 0, none⟩ u0).setCell ⟨r, 1, none⟩ u1).setCell ⟨r, 2, none⟩ u2).setCell ⟨r, 3, none⟩ u3).setCell ⟨r, 4, none⟩ u4) g t cs :=
  ((((h.far (p := ⟨r, 0, none⟩) hne u0).far (p := ⟨r, 1, none⟩) hne u1).far (p := ⟨r, 2, none⟩) hne u2).far (p := ⟨r, 3, none⟩) hne u3).far (p := ⟨r, 4, none⟩) hne u4
theorem ansB {w : World} {rc : Int} {aa : Bool} {l ns ad : List Rrd} {n : Nat} {e : Ending} (h : AnsOut w ⟨rc, aa, l, ns, ad⟩ e) (hn : l.length = n) : ∃ Bx jx By jy Bz jz, e = .returned (.agg #[.int .i64 rc, .bool aa, .slice Bx n jx, .slice By ns.length jy, .slice Bz ad.length jz]) ∧ SeesR w w.heap.size Bx n l ∧ SeesR w w.heap.size By ns.length ns ∧ SeesR w w.heap.size Bz ad.length ad := by
  obtain ⟨ux, uy, uz, rfl, ⟨Bx, jx, rfl, hux⟩, ⟨By, jy, rfl, huy⟩, ⟨Bz, jz, rfl, huz⟩⟩ := h
  subst hn
  exact ⟨Bx, jx, By, jy, Bz, jz, rfl, hux, huy, huz⟩
theorem bel_then {w c d : World} (h : Below w.heap.size w c) (h' : Below c.heap.size c d) : Below w.heap.size w d := h.trans (h'.mono h.size)
theorem joinT {T G : Prop} (h : Shut T → G) (t : T) : G := h t
theorem box_new {W v : World} (h : Below W.heap.size W v) : ∃ u, u = v.alloc (.cells #[.int .i64 0, .bool false, .slice none 0 0, .slice none 0 0, .slice none 0 0] 39) ∧ ∃ g, g = v.heap.size ∧ Below v.heap.size v u ∧ W.heap.size ≤ g ∧ Whole u g anT #[.int .i64 0, .bool false, .slice none 0 0, .slice none 0 0, .slice none 0 0] :=
  ⟨_, rfl, _, rfl, bel_alloc (Below.refl _ _), h.size, Whole.new _ _ _⟩
set_option maxHeartbeats 32000000 in
set_option maxRecDepth 20000 in
theorem LookupCase_walk (A : Option Addr) (n c : Nat) (xs : List Rrd) (P : ByteArray) (t : Int) (w : World) (hx : SeesR w w.heap.size A n xs) (h63 : n ≤ 9223372036854775807) :
    Calls Tryz.prog 7 #[.slice A n c, .string P, .int .i64 t] w fun e w' => e = .returned (.bool true) ∧ Below w.heap.size w w' := by
  obtain ⟨nn, hnn⟩ : ∃ nn : List UInt8, nn = [2, 101, 120, 0] := ⟨_, rfl⟩
  have HN := Lib.hid (show (⟨#[2, 101, 120, 0]⟩ : ByteArray) = mk nn by rw [hnn]; rfl)
  have HX := Lib.hid hx
  have HLX := Lib.hid hx.1
  clear hx hnn
  obtain ⟨pp, hpp⟩ : ∃ pp, P = mk pp := ⟨_, (mk_toList P).symm⟩
  have HP := Lib.hid hpp
  have HPL := Lib.hid (show pp.length = P.size by rw [hpp, mk_size])
  clear hpp
  cases hf : fewL xs with
  | false =>
    have HF := Lib.hid hf
    clear hf
    go_enter Tryz.func7, Tryz.ntmps7
    go_wp2_with fail
    refine (lawake_any _).mono ?_
    rintro e w1 ⟨rfl, hB⟩
    have HB1 := Lib.hid hB
    have HX1 := Lib.hid ((HX.out.keep hB).more hB.size)
    clear hB
    go_wp2_with fail
    refine (Few_any A n c xs _ HX1.out h63).mono ?_
    rw [HF.out]
    rintro e w2 ⟨rfl, hB⟩
    have HB2 := Lib.hid (HB1.out.trans (hB.mono HB1.out.size))
    have HX2 := Lib.hid ((HX1.out.keep hB).more hB.size)
    clear hB
    go_wp2_with fail
    refine (lawake_any _).mono ?_
    rintro e w3 ⟨rfl, hB⟩
    have HB3 := Lib.hid (HB2.out.trans (hB.mono HB2.out.size))
    have HX3 := Lib.hid ((HX2.out.keep hB).more hB.size)
    clear hB
    go_wp2_with fail
    go_ret
    exact ⟨rfl, HB3.out⟩
  | true =>
    obtain ⟨h30, hlow⟩ := fewL_is hf
    have hn30 : n ≤ 30 := by have := HLX.out; omega
    have HLOW := Lib.hid hlow
    have HF := Lib.hid hf
    clear hf hlow h30
    by_cases hp6 : P.size ≤ 600
    · have gp : ¬ ((P.size : Int) > 600) := by omega
      have hl : pp.length ≤ 1000000 := by have := HPL.out; omega
      go_enter Tryz.func7, Tryz.ntmps7
      go_wp2_with fail
      refine (lawake_any _).mono ?_
      rintro e w1 ⟨rfl, hB⟩
      have HB1 := Lib.hid hB
      have HX1 := Lib.hid ((HX.out.keep hB).more hB.size)
      clear hB
      go_wp2_with fail
      refine (Few_any A n c xs _ HX1.out h63).mono ?_
      rw [HF.out]
      rintro e w2 ⟨rfl, hB⟩
      have HB2 := Lib.hid (HB1.out.trans (hB.mono HB1.out.size))
      have HX2 := Lib.hid ((HX1.out.keep hB).more hB.size)
      clear hB
      go_wp2_with fail
      refine (RefRight_any P pp _ HP.out).mono ?_
      cases hr : (nameL pp).isSome with
      | false =>
        clear hr
        rintro e w2' ⟨rfl, hB⟩
        have HB2 := Lib.hid (HB2.out.trans (hB.mono HB2.out.size))
        have HX2 := Lib.hid ((HX2.out.keep hB).more hB.size)
        clear hB
        go_wp2_with fail
        refine (lawake_any _).mono ?_
        rintro e w3 ⟨rfl, hB⟩
        have HB3 := Lib.hid (HB2.out.trans (hB.mono HB2.out.size))
        have HX3 := Lib.hid ((HX2.out.keep hB).more hB.size)
        clear hB
        go_wp2_with fail
        go_ret
        exact ⟨rfl, HB3.out⟩
      | true =>
        have HRT := Lib.hid hr
        clear hr
        rintro e w2' ⟨rfl, hB⟩
        have HB2 := Lib.hid (HB2.out.trans (hB.mono HB2.out.size))
        have HX2 := Lib.hid ((HX2.out.keep hB).more hB.size)
        clear hB
        go_wp2_with fail
        refine (ZNew_any A n c ⟨#[2, 101, 120, 0]⟩ nn xs _ HN.out HX2.out (by omega) HLOW.out).mono ?_
        rintro e w3 ⟨h, hB⟩
        have HB3 := Lib.hid (HB2.out.trans (hB.mono HB2.out.size))
        have HX3 := Lib.hid ((HX2.out.keep hB).more hB.size)
        clear hB
        rcases h with ⟨hc, rfl⟩ | ⟨hc, rfl⟩ | ⟨hc, z, rfl, hz⟩
        · clear hc
          unfold zeroZ
          go_wp2_with fail
          go_ret
          exact ⟨rfl, HB3.out.alloc HB3.out.size _⟩
        · clear hc
          unfold zeroZ
          go_wp2_with fail
          go_ret
          exact ⟨rfl, HB3.out.alloc HB3.out.size _⟩
        · have HC := Lib.hid hc
          obtain ⟨hname, hall, hisz⟩ := codeZ_zero hc
          have hok := HLOW.out.ok hall
          obtain ⟨D, hD⟩ : ∃ D, D = ofC xs := ⟨_, rfl⟩
          have hset : SetL cX D := by rw [hD]; exact ofC_set xs
          have hokD : OkL D := by rw [hD]; exact hok.ofC
          have hDl : D.length ≤ 30 := by rw [hD]; have := ofC_len xs; have := HLX.out; omega
          rw [← hD] at hz hisz
          have HGZ0 := Lib.hid (show GoodZ nn D from ⟨hokD, hset.keys, hisz, hname, by omega⟩)
          have HZ3 := Lib.hid hz
          obtain ⟨A3, c3, s3, rfl, _, _, hsoa⟩ := hz
          have HSOA := Lib.hid hsoa
          clear hc hname hall hisz hok hD hset hokD hsoa
          have hw0 := Whole.new w3 zoT #[.string ⟨#[2, 101, 120, 0]⟩, .slice A3 D.length c3, .string s3.s, .int .i64 s3.t, .int .i64 s3.c, .int .i64 s3.l, .string s3.d]
          have hB0 : Below w3.heap.size w3 (w3.alloc (.cells #[.string ⟨#[2, 101, 120, 0]⟩, .slice A3 D.length c3, .string s3.s, .int .i64 s3.t, .int .i64 s3.c, .int .i64 s3.l, .string s3.d] zoT)) := (Below.refl _ _).alloc (Nat.le_refl _) _
          obtain ⟨W4, hW4⟩ : ∃ W, W = w3.alloc (.cells #[.string ⟨#[2, 101, 120, 0]⟩, .slice A3 D.length c3, .string s3.s, .int .i64 s3.t, .int .i64 s3.c, .int .i64 s3.l, .string s3.d] zoT) := ⟨_, rfl⟩
          rw [← hW4] at hw0 hB0
          obtain ⟨gz, hgz⟩ : ∃ g, g = w3.heap.size := ⟨_, rfl⟩
          rw [← hgz] at hw0
          have HZ4 := Lib.hid (HZ3.out.later hB0)
          have HWZ4 := Lib.hid hw0
          have HB4 := Lib.hid (HB3.out.trans (hB0.mono HB3.out.size))
          have HW4 := Lib.hid hW4
          have HGZ := Lib.hid hgz
          have GZ := HGZ0
          clear hw0 hB0 hW4 hgz
          obtain ⟨c0, c1, c2, c3', c4, c5', c6⟩ := zo_facts HWZ4.out
          rw [HW4.out, HGZ.out] at c0 c1 c2 c3' c4 c5' c6
          go_wp2_with fail
          rw [← HW4.out, ← HGZ.out]
          clear c0 c1 c2 c3' c4 c5' c6
          obtain ⟨R, hR⟩ : ∃ R, R = askZ D nn pp t := ⟨_, rfl⟩
          have hsim := ask_sim GZ.out t (fold_like HRT.out)
          rw [← hR] at hsim
          obtain ⟨l', hl'⟩ : ∃ l, l = (askZ D nn (foldL pp) t).an := ⟨_, rfl⟩
          have HR2 := Lib.hid (show askZ D nn (foldL pp) t = ⟨R.rc, R.aa, l', R.ns, R.ad⟩ by
            rw [hsim.rc, hsim.aa, hsim.ns, hsim.ad, hl'])
          have HSIM := Lib.hid (show SimL R.an l' by rw [hl']; exact hsim.an)
          have HLN := Lib.hid (show l'.length = R.an.length from (sim_len HSIM.out).symm)
          obtain ⟨hb1, hb2, hb3⟩ := ask_bounds GZ.out.len nn pp t
          rw [← hR] at hb1 hb2 hb3
          have HR := Lib.hid hR
          have HL1 := Lib.hid (show R.an.length ≤ 1073741824 by omega)
          have HL2 := Lib.hid (show R.ns.length ≤ 1073741824 by omega)
          have HL3 := Lib.hid (show R.ad.length ≤ 1073741824 by omega)
          have HFL := Lib.hid (show (foldL pp).length ≤ 1000000 by
            obtain ⟨_, h2, _⟩ := alike_labs (fold_like HRT.out)
            have := (nameL_is h2).2.2; omega)
          clear hR hl' hsim hb1 hb2 hb3
          obtain ⟨FP, hFP⟩ : ∃ FP, FP = mk (foldL pp) := ⟨_, rfl⟩
          obtain ⟨fl, hfl⟩ : ∃ fl, fl = foldL pp := ⟨_, rfl⟩
          have HFO := Lib.hid hFP.symm
          rw [← hfl] at hFP
          have HFP := Lib.hid hFP
          rw [← hfl] at HR2 HFL
          clear hFP hfl
          go_cut [9, 10] (fun v9 v10 V => ∃ ga gb Ax kx Ay ky Az kz Bx jx By jy Bz jz, v9 = .pointer (some ⟨ga, 0, none⟩) ∧ v10 = .pointer (some ⟨gb, 0, none⟩) ∧ Whole V ga anT #[.int .i64 R.rc, .bool R.aa, .slice Ax R.an.length kx, .slice Ay R.ns.length ky, .slice Az R.ad.length kz] ∧ Whole V gb anT #[.int .i64 R.rc, .bool R.aa, .slice Bx R.an.length jx, .slice By R.ns.length jy, .slice Bz R.ad.length jz] ∧ SeesR V V.heap.size Ax R.an.length R.an ∧ SeesR V V.heap.size Ay R.ns.length R.ns ∧ SeesR V V.heap.size Az R.ad.length R.ad ∧ SeesR V V.heap.size Bx R.an.length l' ∧ SeesR V V.heap.size By R.ns.length R.ns ∧ SeesR V V.heap.size Bz R.ad.length R.ad ∧ Below W4.heap.size W4 V)
          case first =>
            have z0 : ∀ w', Below W4.heap.size W4 w' → w'.cell? ⟨gz, 0, none⟩ = some (.string ⟨#[2, 101, 120, 0]⟩) := fun w' h => ((HWZ4.out.below h HWZ4.out.lt).cell 0).trans rfl
            have z1 : ∀ w', Below W4.heap.size W4 w' → w'.cell? ⟨gz, 1, none⟩ = some (.slice A3 D.length c3) := fun w' h => ((HWZ4.out.below h HWZ4.out.lt).cell 1).trans rfl
            have z2 : ∀ w', Below W4.heap.size W4 w' → w'.cell? ⟨gz, 2, none⟩ = some (.string s3.s) := fun w' h => ((HWZ4.out.below h HWZ4.out.lt).cell 2).trans rfl
            have z3 : ∀ w', Below W4.heap.size W4 w' → w'.cell? ⟨gz, 3, none⟩ = some (.int .i64 s3.t) := fun w' h => ((HWZ4.out.below h HWZ4.out.lt).cell 3).trans rfl
            have z4 : ∀ w', Below W4.heap.size W4 w' → w'.cell? ⟨gz, 4, none⟩ = some (.int .i64 s3.c) := fun w' h => ((HWZ4.out.below h HWZ4.out.lt).cell 4).trans rfl
            have z5 : ∀ w', Below W4.heap.size W4 w' → w'.cell? ⟨gz, 5, none⟩ = some (.int .i64 s3.l) := fun w' h => ((HWZ4.out.below h HWZ4.out.lt).cell 5).trans rfl
            have z6 : ∀ w', Below W4.heap.size W4 w' → w'.cell? ⟨gz, 6, none⟩ = some (.string s3.d) := fun w' h => ((HWZ4.out.below h HWZ4.out.lt).cell 6).trans rfl
            refine wp_region_held_drew (S := fun w' => Below W4.heap.size W4 w') (by kernel_rfl) ?hS (fun hHeld => ?go)
            case hS => exact (Below.refl _ _).drew
            case go =>
             refine takeH (i := 0) (v := ?_) rfl (by kernel_rfl) (by kernel_rfl) (by kernel_rfl) (fun _ _ _ h => h) (Or.inl ⟨by rfl, ?_⟩) hHeld ?_
             rotate_left
             · (intro w hSw; (try dsimp only at hSw); go_simp; (try with_reducible rfl))
             try simp only [Act.put, List.setIfInBounds_toArray, List.set_cons_zero, List.set_cons_succ]
             refine takeH (i := 1) (v := ?_) rfl (by kernel_rfl) (by kernel_rfl) (by kernel_rfl) (fun _ _ _ h => h) (Or.inl ⟨by rfl, ?_⟩) hHeld ?_
             rotate_left
             · (intro w hSw; (try dsimp only at hSw); go_simp; (try with_reducible rfl))
             try simp only [Act.put, List.setIfInBounds_toArray, List.set_cons_zero, List.set_cons_succ]
             refine takeH (i := 2) (v := ?_) rfl (by kernel_rfl) (by kernel_rfl) (by kernel_rfl) (fun _ _ _ h => h) (Or.inl ⟨by rfl, ?_⟩) hHeld ?_
             rotate_left
             · (intro w hSw; (try dsimp only at hSw); go_simp; (try with_reducible rfl))
             try simp only [Act.put, List.setIfInBounds_toArray, List.set_cons_zero, List.set_cons_succ]
             refine takeH (i := 4) (v := ?_) rfl (by kernel_rfl) (by kernel_rfl) (by kernel_rfl) (fun _ _ _ h => h) (Or.inl ⟨by rfl, ?_⟩) hHeld ?_
             rotate_left
             · (intro w hSw; (try dsimp only at hSw); go_simp; (try with_reducible rfl))
             try simp only [Act.put, List.setIfInBounds_toArray, List.set_cons_zero, List.set_cons_succ]
             refine takeH (i := 5) (v := ?_) rfl (by kernel_rfl) (by kernel_rfl) (by kernel_rfl) (fun _ _ _ h => h) (Or.inl ⟨by rfl, ?_⟩) hHeld ?_
             rotate_left
             · (intro w hSw; (try dsimp only at hSw); go_simp; (try with_reducible rfl))
             try simp only [Act.put, List.setIfInBounds_toArray, List.set_cons_zero, List.set_cons_succ]
             refine takeH (i := 7) (v := ?_) rfl (by kernel_rfl) (by kernel_rfl) (by kernel_rfl) (fun _ _ _ h => h) (Or.inl ⟨by rfl, ?_⟩) hHeld ?_
             rotate_left
             · (intro w hSw; (try dsimp only at hSw); go_simp; (try with_reducible rfl))
             try simp only [Act.put, List.setIfInBounds_toArray, List.set_cons_zero, List.set_cons_succ]
             obtain ⟨v0, hv⟩ : ∃ v, v = W4.drew := ⟨_, rfl⟩
             rw [← hv] at hHeld ⊢
             have hB := Lib.hid hHeld
             clear hv z0 z1 z2 z3 z4 z5 z6 hHeld
             refine joinT (T := ∀ (v : World) (ga gb : Nat) (Ax Ay Az Bx By Bz : Option Addr) (kx ky kz jx jy jz : Nat), Hid (Below W4.heap.size W4 v) → Hid (Whole v ga anT #[.int .i64 0, .bool false, .slice none 0 0, .slice none 0 0, .slice none 0 0]) → Hid (Whole v gb anT #[.int .i64 0, .bool false, .slice none 0 0, .slice none 0 0, .slice none 0 0]) → Hid (SeesR v v.heap.size Ax R.an.length R.an) → Hid (SeesR v v.heap.size Ay R.ns.length R.ns) → Hid (SeesR v v.heap.size Az R.ad.length R.ad) → Hid (SeesR v v.heap.size Bx R.an.length l') → Hid (SeesR v v.heap.size By R.ns.length R.ns) → Hid (SeesR v v.heap.size Bz R.ad.length R.ad) → ga ≠ gb → W4.heap.size ≤ ga → W4.heap.size ≤ gb → wpAnyH Tryz.prog .any ?opsJ ?qJ (fun w' => Below W4.heap.size W4 w') ?fuelJ ?listJ ((?actJ : Nat → Nat → Option Addr → Option Addr → Option Addr → Option Addr → Option Addr → Option Addr → Nat → Nat → Nat → Nat → Nat → Nat → Act) ga gb Ax Ay Az Bx By Bz kx ky kz jx jy jz) v) (fun HT => ?tree) ?tail
             case tree =>
              refine wpAnyH_ready (rs := [3, 9, 10]) (by kernel_rfl) (by simp) ?_
              refine consH (i := 3) rfl (fun K hK => ?_) (consH (i := 9) rfl (fun K hK => ?_) (consH (i := 10) rfl (fun K hK => ?_) AllReadyH.nil))
              ·
               go_simp
               refine (LAsk_any ⟨#[2, 101, 120, 0]⟩ nn D _ _ (HZ4.out.later hB.out) GZ.out HN.out P pp t HP.out hl).mono ?_
               rw [← HR.out]
               rintro e v ⟨⟨vx, vy, vz, rfl, ⟨Ax, kx, rfl, hx⟩, ⟨Ay, ky, rfl, hy⟩, ⟨Az, kz, rfl, hz⟩⟩, hb⟩
               replace hB := Lib.hid (bel_then hB.out hb)
               replace hsx := Lib.hid hx
               replace hsy := Lib.hid hy
               replace hsz := Lib.hid hz
               clear hb hx hy hz
               go_wp2_with fail
               refine hK.out _ _ hB.out (fun hHeld => ?_)
               clear hK K hHeld
               try simp only [Act.put, List.setIfInBounds_toArray, List.set_cons_zero, List.set_cons_succ]
               refine wpAnyH_ready (rs := [6, 9, 10]) (by kernel_rfl) (by simp) ?_
               refine consH (i := 6) rfl (fun K hK => ?_) (consH (i := 9) rfl (fun K hK => ?_) (consH (i := 10) rfl (fun K hK => ?_) AllReadyH.nil))
               ·
                go_simp
                refine (RefFold_any P pp _ HP.out).mono ?_
                rw [HFO.out]
                rintro e v ⟨rfl, hb⟩
                replace hB := Lib.hid (bel_then hB.out hb)
                replace hsx := Lib.hid (sees_bel hsx.out hb)
                replace hsy := Lib.hid (sees_bel hsy.out hb)
                replace hsz := Lib.hid (sees_bel hsz.out hb)
                clear hb
                go_wp2_with fail
                refine hK.out _ _ hB.out (fun hHeld => ?_)
                clear hK K hHeld
                try simp only [Act.put, List.setIfInBounds_toArray, List.set_cons_zero, List.set_cons_succ]
                refine wpAnyH_ready (rs := [8, 9, 10]) (by kernel_rfl) (by simp) ?_
                refine consH (i := 8) rfl (fun K hK => ?_) (consH (i := 9) rfl (fun K hK => ?_) (consH (i := 10) rfl (fun K hK => ?_) AllReadyH.nil))
                ·
                 go_simp
                 refine (LAsk_any ⟨#[2, 101, 120, 0]⟩ nn D _ _ (HZ4.out.later hB.out) GZ.out HN.out FP fl t HFP.out HFL.out).mono ?_
                 rw [HR2.out]
                 rintro e v ⟨ho, hb⟩
                 have hq := ansB ho HLN.out
                 clear ho
                 obtain ⟨Bx, jx, By, jy, Bz, jz, rfl, hx, hy, hz⟩ := hq
                 replace hB := Lib.hid (bel_then hB.out hb)
                 replace hsx := Lib.hid (sees_bel hsx.out hb)
                 replace hsy := Lib.hid (sees_bel hsy.out hb)
                 replace hsz := Lib.hid (sees_bel hsz.out hb)
                 have htx := Lib.hid hx
                 have hty := Lib.hid hy
                 have htz := Lib.hid hz
                 clear hb hx hy hz
                 go_wp2_with fail
                 refine hK.out _ _ hB.out (fun hHeld => ?_)
                 clear hK K hHeld
                 try simp only [Act.put, List.setIfInBounds_toArray, List.set_cons_zero, List.set_cons_succ]
                 refine wpAnyH_ready (rs := [9, 10]) (by kernel_rfl) (by simp) ?_
                 refine consH (i := 9) rfl (fun K hK => ?_) (consH (i := 10) rfl (fun K hK => ?_) AllReadyH.nil)
                 ·
                  go_simp
                  obtain ⟨v, hv, ga, hg, hb, bga, hW⟩ := box_new hB.out
                  rw [← hv, ← hg]
                  replace hB := Lib.hid (bel_then hB.out hb)
                  replace hsx := Lib.hid (sees_bel hsx.out hb)
                  replace hsy := Lib.hid (sees_bel hsy.out hb)
                  replace hsz := Lib.hid (sees_bel hsz.out hb)
                  replace htx := Lib.hid (sees_bel htx.out hb)
                  replace hty := Lib.hid (sees_bel hty.out hb)
                  replace htz := Lib.hid (sees_bel htz.out hb)
                  have hga := Lib.hid hW
                  clear hW hb hv hg
                  refine hK.out _ _ hB.out (fun hHeld => ?_)
                  clear hK K hHeld
                  try simp only [Act.put, List.setIfInBounds_toArray, List.set_cons_zero, List.set_cons_succ]
                  refine wpAnyH_ready (rs := [10]) (by kernel_rfl) (by simp) ?_
                  refine consH (i := 10) rfl (fun K hK => ?_) AllReadyH.nil
                  go_simp
                  obtain ⟨v, hv, gb, hg, hb, bgb, hW⟩ := box_new hB.out
                  rw [← hv, ← hg]
                  have nab : ga ≠ gb := by have := hga.out.lt; omega
                  replace hB := Lib.hid (bel_then hB.out hb)
                  replace hsx := Lib.hid (sees_bel hsx.out hb)
                  replace hsy := Lib.hid (sees_bel hsy.out hb)
                  replace hsz := Lib.hid (sees_bel hsz.out hb)
                  replace htx := Lib.hid (sees_bel htx.out hb)
                  replace hty := Lib.hid (sees_bel hty.out hb)
                  replace htz := Lib.hid (sees_bel htz.out hb)
                  replace hga := Lib.hid (wbel hga.out hb)
                  have hgb := Lib.hid hW
                  clear hW hb hv hg
                  refine hK.out _ _ hB.out (fun hHeld => ?_)
                  clear hK K hHeld
                  try simp only [Act.put, List.setIfInBounds_toArray, List.set_cons_zero, List.set_cons_succ]
                  exact HT.out v ga gb Ax Ay Az Bx By Bz kx ky kz jx jy jz hB hga hgb hsx hsy hsz htx hty htz nab bga bgb
                 ·
                  go_simp
                  obtain ⟨v, hv, gb, hg, hb, bgb, hW⟩ := box_new hB.out
                  rw [← hv, ← hg]
                  replace hB := Lib.hid (bel_then hB.out hb)
                  replace hsx := Lib.hid (sees_bel hsx.out hb)
                  replace hsy := Lib.hid (sees_bel hsy.out hb)
                  replace hsz := Lib.hid (sees_bel hsz.out hb)
                  replace htx := Lib.hid (sees_bel htx.out hb)
                  replace hty := Lib.hid (sees_bel hty.out hb)
                  replace htz := Lib.hid (sees_bel htz.out hb)
                  have hgb := Lib.hid hW
                  clear hW hb hv hg
                  refine hK.out _ _ hB.out (fun hHeld => ?_)
                  clear hK K hHeld
                  try simp only [Act.put, List.setIfInBounds_toArray, List.set_cons_zero, List.set_cons_succ]
                  refine wpAnyH_ready (rs := [9]) (by kernel_rfl) (by simp) ?_
                  refine consH (i := 9) rfl (fun K hK => ?_) AllReadyH.nil
                  go_simp
                  obtain ⟨v, hv, ga, hg, hb, bga, hW⟩ := box_new hB.out
                  rw [← hv, ← hg]
                  have nab : ga ≠ gb := by have := hgb.out.lt; omega
                  replace hB := Lib.hid (bel_then hB.out hb)
                  replace hsx := Lib.hid (sees_bel hsx.out hb)
                  replace hsy := Lib.hid (sees_bel hsy.out hb)
                  replace hsz := Lib.hid (sees_bel hsz.out hb)
                  replace htx := Lib.hid (sees_bel htx.out hb)
                  replace hty := Lib.hid (sees_bel hty.out hb)
                  replace htz := Lib.hid (sees_bel htz.out hb)
                  replace hgb := Lib.hid (wbel hgb.out hb)
                  have hga := Lib.hid hW
                  clear hW hb hv hg
                  refine hK.out _ _ hB.out (fun hHeld => ?_)
                  clear hK K hHeld
                  try simp only [Act.put, List.setIfInBounds_toArray, List.set_cons_zero, List.set_cons_succ]
                  exact HT.out v ga gb Ax Ay Az Bx By Bz kx ky kz jx jy jz hB hga hgb hsx hsy hsz htx hty htz nab bga bgb
                ·
                 go_simp
                 obtain ⟨v, hv, ga, hg, hb, bga, hW⟩ := box_new hB.out
                 rw [← hv, ← hg]
                 replace hB := Lib.hid (bel_then hB.out hb)
                 replace hsx := Lib.hid (sees_bel hsx.out hb)
                 replace hsy := Lib.hid (sees_bel hsy.out hb)
                 replace hsz := Lib.hid (sees_bel hsz.out hb)
                 have hga := Lib.hid hW
                 clear hW hb hv hg
                 refine hK.out _ _ hB.out (fun hHeld => ?_)
                 clear hK K hHeld
                 try simp only [Act.put, List.setIfInBounds_toArray, List.set_cons_zero, List.set_cons_succ]
                 refine wpAnyH_ready (rs := [8, 10]) (by kernel_rfl) (by simp) ?_
                 refine consH (i := 8) rfl (fun K hK => ?_) (consH (i := 10) rfl (fun K hK => ?_) AllReadyH.nil)
                 ·
                  go_simp
                  refine (LAsk_any ⟨#[2, 101, 120, 0]⟩ nn D _ _ (HZ4.out.later hB.out) GZ.out HN.out FP fl t HFP.out HFL.out).mono ?_
                  rw [HR2.out]
                  rintro e v ⟨ho, hb⟩
                  have hq := ansB ho HLN.out
                  clear ho
                  obtain ⟨Bx, jx, By, jy, Bz, jz, rfl, hx, hy, hz⟩ := hq
                  replace hB := Lib.hid (bel_then hB.out hb)
                  replace hsx := Lib.hid (sees_bel hsx.out hb)
                  replace hsy := Lib.hid (sees_bel hsy.out hb)
                  replace hsz := Lib.hid (sees_bel hsz.out hb)
                  replace hga := Lib.hid (wbel hga.out hb)
                  have htx := Lib.hid hx
                  have hty := Lib.hid hy
                  have htz := Lib.hid hz
                  clear hb hx hy hz
                  go_wp2_with fail
                  refine hK.out _ _ hB.out (fun hHeld => ?_)
                  clear hK K hHeld
                  try simp only [Act.put, List.setIfInBounds_toArray, List.set_cons_zero, List.set_cons_succ]
                  refine wpAnyH_ready (rs := [10]) (by kernel_rfl) (by simp) ?_
                  refine consH (i := 10) rfl (fun K hK => ?_) AllReadyH.nil
                  go_simp
                  obtain ⟨v, hv, gb, hg, hb, bgb, hW⟩ := box_new hB.out
                  rw [← hv, ← hg]
                  have nab : ga ≠ gb := by have := hga.out.lt; omega
                  replace hB := Lib.hid (bel_then hB.out hb)
                  replace hsx := Lib.hid (sees_bel hsx.out hb)
                  replace hsy := Lib.hid (sees_bel hsy.out hb)
                  replace hsz := Lib.hid (sees_bel hsz.out hb)
                  replace hga := Lib.hid (wbel hga.out hb)
                  replace htx := Lib.hid (sees_bel htx.out hb)
                  replace hty := Lib.hid (sees_bel hty.out hb)
                  replace htz := Lib.hid (sees_bel htz.out hb)
                  have hgb := Lib.hid hW
                  clear hW hb hv hg
                  refine hK.out _ _ hB.out (fun hHeld => ?_)
                  clear hK K hHeld
                  try simp only [Act.put, List.setIfInBounds_toArray, List.set_cons_zero, List.set_cons_succ]
                  exact HT.out v ga gb Ax Ay Az Bx By Bz kx ky kz jx jy jz hB hga hgb hsx hsy hsz htx hty htz nab bga bgb
                 ·
                  go_simp
                  obtain ⟨v, hv, gb, hg, hb, bgb, hW⟩ := box_new hB.out
                  rw [← hv, ← hg]
                  have nab : ga ≠ gb := by have := hga.out.lt; omega
                  replace hB := Lib.hid (bel_then hB.out hb)
                  replace hsx := Lib.hid (sees_bel hsx.out hb)
                  replace hsy := Lib.hid (sees_bel hsy.out hb)
                  replace hsz := Lib.hid (sees_bel hsz.out hb)
                  replace hga := Lib.hid (wbel hga.out hb)
                  have hgb := Lib.hid hW
                  clear hW hb hv hg
                  refine hK.out _ _ hB.out (fun hHeld => ?_)
                  clear hK K hHeld
                  try simp only [Act.put, List.setIfInBounds_toArray, List.set_cons_zero, List.set_cons_succ]
                  refine wpAnyH_ready (rs := [8]) (by kernel_rfl) (by simp) ?_
                  refine consH (i := 8) rfl (fun K hK => ?_) AllReadyH.nil
                  go_simp
                  refine (LAsk_any ⟨#[2, 101, 120, 0]⟩ nn D _ _ (HZ4.out.later hB.out) GZ.out HN.out FP fl t HFP.out HFL.out).mono ?_
                  rw [HR2.out]
                  rintro e v ⟨ho, hb⟩
                  have hq := ansB ho HLN.out
                  clear ho
                  obtain ⟨Bx, jx, By, jy, Bz, jz, rfl, hx, hy, hz⟩ := hq
                  replace hB := Lib.hid (bel_then hB.out hb)
                  replace hsx := Lib.hid (sees_bel hsx.out hb)
                  replace hsy := Lib.hid (sees_bel hsy.out hb)
                  replace hsz := Lib.hid (sees_bel hsz.out hb)
                  replace hga := Lib.hid (wbel hga.out hb)
                  replace hgb := Lib.hid (wbel hgb.out hb)
                  have htx := Lib.hid hx
                  have hty := Lib.hid hy
                  have htz := Lib.hid hz
                  clear hb hx hy hz
                  go_wp2_with fail
                  refine hK.out _ _ hB.out (fun hHeld => ?_)
                  clear hK K hHeld
                  try simp only [Act.put, List.setIfInBounds_toArray, List.set_cons_zero, List.set_cons_succ]
                  exact HT.out v ga gb Ax Ay Az Bx By Bz kx ky kz jx jy jz hB hga hgb hsx hsy hsz htx hty htz nab bga bgb
                ·
                 go_simp
                 obtain ⟨v, hv, gb, hg, hb, bgb, hW⟩ := box_new hB.out
                 rw [← hv, ← hg]
                 replace hB := Lib.hid (bel_then hB.out hb)
                 replace hsx := Lib.hid (sees_bel hsx.out hb)
                 replace hsy := Lib.hid (sees_bel hsy.out hb)
                 replace hsz := Lib.hid (sees_bel hsz.out hb)
                 have hgb := Lib.hid hW
                 clear hW hb hv hg
                 refine hK.out _ _ hB.out (fun hHeld => ?_)
                 clear hK K hHeld
                 try simp only [Act.put, List.setIfInBounds_toArray, List.set_cons_zero, List.set_cons_succ]
                 refine wpAnyH_ready (rs := [8, 9]) (by kernel_rfl) (by simp) ?_
                 refine consH (i := 8) rfl (fun K hK => ?_) (consH (i := 9) rfl (fun K hK => ?_) AllReadyH.nil)
                 ·
                  go_simp
                  refine (LAsk_any ⟨#[2, 101, 120, 0]⟩ nn D _ _ (HZ4.out.later hB.out) GZ.out HN.out FP fl t HFP.out HFL.out).mono ?_
                  rw [HR2.out]
                  rintro e v ⟨ho, hb⟩
                  have hq := ansB ho HLN.out
                  clear ho
                  obtain ⟨Bx, jx, By, jy, Bz, jz, rfl, hx, hy, hz⟩ := hq
                  replace hB := Lib.hid (bel_then hB.out hb)
                  replace hsx := Lib.hid (sees_bel hsx.out hb)
                  replace hsy := Lib.hid (sees_bel hsy.out hb)
                  replace hsz := Lib.hid (sees_bel hsz.out hb)
                  replace hgb := Lib.hid (wbel hgb.out hb)
                  have htx := Lib.hid hx
                  have hty := Lib.hid hy
                  have htz := Lib.hid hz
                  clear hb hx hy hz
                  go_wp2_with fail
                  refine hK.out _ _ hB.out (fun hHeld => ?_)
                  clear hK K hHeld
                  try simp only [Act.put, List.setIfInBounds_toArray, List.set_cons_zero, List.set_cons_succ]
                  refine wpAnyH_ready (rs := [9]) (by kernel_rfl) (by simp) ?_
                  refine consH (i := 9) rfl (fun K hK => ?_) AllReadyH.nil
                  go_simp
                  obtain ⟨v, hv, ga, hg, hb, bga, hW⟩ := box_new hB.out
                  rw [← hv, ← hg]
                  have nab : ga ≠ gb := by have := hgb.out.lt; omega
                  replace hB := Lib.hid (bel_then hB.out hb)
                  replace hsx := Lib.hid (sees_bel hsx.out hb)
                  replace hsy := Lib.hid (sees_bel hsy.out hb)
                  replace hsz := Lib.hid (sees_bel hsz.out hb)
                  replace hgb := Lib.hid (wbel hgb.out hb)
                  replace htx := Lib.hid (sees_bel htx.out hb)
                  replace hty := Lib.hid (sees_bel hty.out hb)
                  replace htz := Lib.hid (sees_bel htz.out hb)
                  have hga := Lib.hid hW
                  clear hW hb hv hg
                  refine hK.out _ _ hB.out (fun hHeld => ?_)
                  clear hK K hHeld
                  try simp only [Act.put, List.setIfInBounds_toArray, List.set_cons_zero, List.set_cons_succ]
                  exact HT.out v ga gb Ax Ay Az Bx By Bz kx ky kz jx jy jz hB hga hgb hsx hsy hsz htx hty htz nab bga bgb
                 ·
                  go_simp
                  obtain ⟨v, hv, ga, hg, hb, bga, hW⟩ := box_new hB.out
                  rw [← hv, ← hg]
                  have nab : ga ≠ gb := by have := hgb.out.lt; omega
                  replace hB := Lib.hid (bel_then hB.out hb)
                  replace hsx := Lib.hid (sees_bel hsx.out hb)
                  replace hsy := Lib.hid (sees_bel hsy.out hb)
                  replace hsz := Lib.hid (sees_bel hsz.out hb)
                  replace hgb := Lib.hid (wbel hgb.out hb)
                  have hga := Lib.hid hW
                  clear hW hb hv hg
                  refine hK.out _ _ hB.out (fun hHeld => ?_)
                  clear hK K hHeld
                  try simp only [Act.put, List.setIfInBounds_toArray, List.set_cons_zero, List.set_cons_succ]
                  refine wpAnyH_ready (rs := [8]) (by kernel_rfl) (by simp) ?_
                  refine consH (i := 8) rfl (fun K hK => ?_) AllReadyH.nil
                  go_simp
                  refine (LAsk_any ⟨#[2, 101, 120, 0]⟩ nn D _ _ (HZ4.out.later hB.out) GZ.out HN.out FP fl t HFP.out HFL.out).mono ?_
                  rw [HR2.out]
                  rintro e v ⟨ho, hb⟩
                  have hq := ansB ho HLN.out
                  clear ho
                  obtain ⟨Bx, jx, By, jy, Bz, jz, rfl, hx, hy, hz⟩ := hq
                  replace hB := Lib.hid (bel_then hB.out hb)
                  replace hsx := Lib.hid (sees_bel hsx.out hb)
                  replace hsy := Lib.hid (sees_bel hsy.out hb)
                  replace hsz := Lib.hid (sees_bel hsz.out hb)
                  replace hgb := Lib.hid (wbel hgb.out hb)
                  replace hga := Lib.hid (wbel hga.out hb)
                  have htx := Lib.hid hx
                  have hty := Lib.hid hy
                  have htz := Lib.hid hz
                  clear hb hx hy hz
                  go_wp2_with fail
                  refine hK.out _ _ hB.out (fun hHeld => ?_)
                  clear hK K hHeld
                  try simp only [Act.put, List.setIfInBounds_toArray, List.set_cons_zero, List.set_cons_succ]
                  exact HT.out v ga gb Ax Ay Az Bx By Bz kx ky kz jx jy jz hB hga hgb hsx hsy hsz htx hty htz nab bga bgb
               ·
                go_simp
                obtain ⟨v, hv, ga, hg, hb, bga, hW⟩ := box_new hB.out
                rw [← hv, ← hg]
                replace hB := Lib.hid (bel_then hB.out hb)
                replace hsx := Lib.hid (sees_bel hsx.out hb)
                replace hsy := Lib.hid (sees_bel hsy.out hb)
                replace hsz := Lib.hid (sees_bel hsz.out hb)
                have hga := Lib.hid hW
                clear hW hb hv hg
                refine hK.out _ _ hB.out (fun hHeld => ?_)
                clear hK K hHeld
                try simp only [Act.put, List.setIfInBounds_toArray, List.set_cons_zero, List.set_cons_succ]
                refine wpAnyH_ready (rs := [6, 10]) (by kernel_rfl) (by simp) ?_
                refine consH (i := 6) rfl (fun K hK => ?_) (consH (i := 10) rfl (fun K hK => ?_) AllReadyH.nil)
                ·
                 go_simp
                 refine (RefFold_any P pp _ HP.out).mono ?_
                 rw [HFO.out]
                 rintro e v ⟨rfl, hb⟩
                 replace hB := Lib.hid (bel_then hB.out hb)
                 replace hsx := Lib.hid (sees_bel hsx.out hb)
                 replace hsy := Lib.hid (sees_bel hsy.out hb)
                 replace hsz := Lib.hid (sees_bel hsz.out hb)
                 replace hga := Lib.hid (wbel hga.out hb)
                 clear hb
                 go_wp2_with fail
                 refine hK.out _ _ hB.out (fun hHeld => ?_)
                 clear hK K hHeld
                 try simp only [Act.put, List.setIfInBounds_toArray, List.set_cons_zero, List.set_cons_succ]
                 refine wpAnyH_ready (rs := [8, 10]) (by kernel_rfl) (by simp) ?_
                 refine consH (i := 8) rfl (fun K hK => ?_) (consH (i := 10) rfl (fun K hK => ?_) AllReadyH.nil)
                 ·
                  go_simp
                  refine (LAsk_any ⟨#[2, 101, 120, 0]⟩ nn D _ _ (HZ4.out.later hB.out) GZ.out HN.out FP fl t HFP.out HFL.out).mono ?_
                  rw [HR2.out]
                  rintro e v ⟨ho, hb⟩
                  have hq := ansB ho HLN.out
                  clear ho
                  obtain ⟨Bx, jx, By, jy, Bz, jz, rfl, hx, hy, hz⟩ := hq
                  replace hB := Lib.hid (bel_then hB.out hb)
                  replace hsx := Lib.hid (sees_bel hsx.out hb)
                  replace hsy := Lib.hid (sees_bel hsy.out hb)
                  replace hsz := Lib.hid (sees_bel hsz.out hb)
                  replace hga := Lib.hid (wbel hga.out hb)
                  have htx := Lib.hid hx
                  have hty := Lib.hid hy
                  have htz := Lib.hid hz
                  clear hb hx hy hz
                  go_wp2_with fail
                  refine hK.out _ _ hB.out (fun hHeld => ?_)
                  clear hK K hHeld
                  try simp only [Act.put, List.setIfInBounds_toArray, List.set_cons_zero, List.set_cons_succ]
                  refine wpAnyH_ready (rs := [10]) (by kernel_rfl) (by simp) ?_
                  refine consH (i := 10) rfl (fun K hK => ?_) AllReadyH.nil
                  go_simp
                  obtain ⟨v, hv, gb, hg, hb, bgb, hW⟩ := box_new hB.out
                  rw [← hv, ← hg]
                  have nab : ga ≠ gb := by have := hga.out.lt; omega
                  replace hB := Lib.hid (bel_then hB.out hb)
                  replace hsx := Lib.hid (sees_bel hsx.out hb)
                  replace hsy := Lib.hid (sees_bel hsy.out hb)
                  replace hsz := Lib.hid (sees_bel hsz.out hb)
                  replace hga := Lib.hid (wbel hga.out hb)
                  replace htx := Lib.hid (sees_bel htx.out hb)
                  replace hty := Lib.hid (sees_bel hty.out hb)
                  replace htz := Lib.hid (sees_bel htz.out hb)
                  have hgb := Lib.hid hW
                  clear hW hb hv hg
                  refine hK.out _ _ hB.out (fun hHeld => ?_)
                  clear hK K hHeld
                  try simp only [Act.put, List.setIfInBounds_toArray, List.set_cons_zero, List.set_cons_succ]
                  exact HT.out v ga gb Ax Ay Az Bx By Bz kx ky kz jx jy jz hB hga hgb hsx hsy hsz htx hty htz nab bga bgb
                 ·
                  go_simp
                  obtain ⟨v, hv, gb, hg, hb, bgb, hW⟩ := box_new hB.out
                  rw [← hv, ← hg]
                  have nab : ga ≠ gb := by have := hga.out.lt; omega
                  replace hB := Lib.hid (bel_then hB.out hb)
                  replace hsx := Lib.hid (sees_bel hsx.out hb)
                  replace hsy := Lib.hid (sees_bel hsy.out hb)
                  replace hsz := Lib.hid (sees_bel hsz.out hb)
                  replace hga := Lib.hid (wbel hga.out hb)
                  have hgb := Lib.hid hW
                  clear hW hb hv hg
                  refine hK.out _ _ hB.out (fun hHeld => ?_)
                  clear hK K hHeld
                  try simp only [Act.put, List.setIfInBounds_toArray, List.set_cons_zero, List.set_cons_succ]
                  refine wpAnyH_ready (rs := [8]) (by kernel_rfl) (by simp) ?_
                  refine consH (i := 8) rfl (fun K hK => ?_) AllReadyH.nil
                  go_simp
                  refine (LAsk_any ⟨#[2, 101, 120, 0]⟩ nn D _ _ (HZ4.out.later hB.out) GZ.out HN.out FP fl t HFP.out HFL.out).mono ?_
                  rw [HR2.out]
                  rintro e v ⟨ho, hb⟩
                  have hq := ansB ho HLN.out
                  clear ho
                  obtain ⟨Bx, jx, By, jy, Bz, jz, rfl, hx, hy, hz⟩ := hq
                  replace hB := Lib.hid (bel_then hB.out hb)
                  replace hsx := Lib.hid (sees_bel hsx.out hb)
                  replace hsy := Lib.hid (sees_bel hsy.out hb)
                  replace hsz := Lib.hid (sees_bel hsz.out hb)
                  replace hga := Lib.hid (wbel hga.out hb)
                  replace hgb := Lib.hid (wbel hgb.out hb)
                  have htx := Lib.hid hx
                  have hty := Lib.hid hy
                  have htz := Lib.hid hz
                  clear hb hx hy hz
                  go_wp2_with fail
                  refine hK.out _ _ hB.out (fun hHeld => ?_)
                  clear hK K hHeld
                  try simp only [Act.put, List.setIfInBounds_toArray, List.set_cons_zero, List.set_cons_succ]
                  exact HT.out v ga gb Ax Ay Az Bx By Bz kx ky kz jx jy jz hB hga hgb hsx hsy hsz htx hty htz nab bga bgb
                ·
                 go_simp
                 obtain ⟨v, hv, gb, hg, hb, bgb, hW⟩ := box_new hB.out
                 rw [← hv, ← hg]
                 have nab : ga ≠ gb := by have := hga.out.lt; omega
                 replace hB := Lib.hid (bel_then hB.out hb)
                 replace hsx := Lib.hid (sees_bel hsx.out hb)
                 replace hsy := Lib.hid (sees_bel hsy.out hb)
                 replace hsz := Lib.hid (sees_bel hsz.out hb)
                 replace hga := Lib.hid (wbel hga.out hb)
                 have hgb := Lib.hid hW
                 clear hW hb hv hg
                 refine hK.out _ _ hB.out (fun hHeld => ?_)
                 clear hK K hHeld
                 try simp only [Act.put, List.setIfInBounds_toArray, List.set_cons_zero, List.set_cons_succ]
                 refine wpAnyH_ready (rs := [6]) (by kernel_rfl) (by simp) ?_
                 refine consH (i := 6) rfl (fun K hK => ?_) AllReadyH.nil
                 go_simp
                 refine (RefFold_any P pp _ HP.out).mono ?_
                 rw [HFO.out]
                 rintro e v ⟨rfl, hb⟩
                 replace hB := Lib.hid (bel_then hB.out hb)
                 replace hsx := Lib.hid (sees_bel hsx.out hb)
                 replace hsy := Lib.hid (sees_bel hsy.out hb)
                 replace hsz := Lib.hid (sees_bel hsz.out hb)
                 replace hga := Lib.hid (wbel hga.out hb)
                 replace hgb := Lib.hid (wbel hgb.out hb)
                 clear hb
                 go_wp2_with fail
                 refine hK.out _ _ hB.out (fun hHeld => ?_)
                 clear hK K hHeld
                 try simp only [Act.put, List.setIfInBounds_toArray, List.set_cons_zero, List.set_cons_succ]
                 refine wpAnyH_ready (rs := [8]) (by kernel_rfl) (by simp) ?_
                 refine consH (i := 8) rfl (fun K hK => ?_) AllReadyH.nil
                 go_simp
                 refine (LAsk_any ⟨#[2, 101, 120, 0]⟩ nn D _ _ (HZ4.out.later hB.out) GZ.out HN.out FP fl t HFP.out HFL.out).mono ?_
                 rw [HR2.out]
                 rintro e v ⟨ho, hb⟩
                 have hq := ansB ho HLN.out
                 clear ho
                 obtain ⟨Bx, jx, By, jy, Bz, jz, rfl, hx, hy, hz⟩ := hq
                 replace hB := Lib.hid (bel_then hB.out hb)
                 replace hsx := Lib.hid (sees_bel hsx.out hb)
                 replace hsy := Lib.hid (sees_bel hsy.out hb)
                 replace hsz := Lib.hid (sees_bel hsz.out hb)
                 replace hga := Lib.hid (wbel hga.out hb)
                 replace hgb := Lib.hid (wbel hgb.out hb)
                 have htx := Lib.hid hx
                 have hty := Lib.hid hy
                 have htz := Lib.hid hz
                 clear hb hx hy hz
                 go_wp2_with fail
                 refine hK.out _ _ hB.out (fun hHeld => ?_)
                 clear hK K hHeld
                 try simp only [Act.put, List.setIfInBounds_toArray, List.set_cons_zero, List.set_cons_succ]
                 exact HT.out v ga gb Ax Ay Az Bx By Bz kx ky kz jx jy jz hB hga hgb hsx hsy hsz htx hty htz nab bga bgb
               ·
                go_simp
                obtain ⟨v, hv, gb, hg, hb, bgb, hW⟩ := box_new hB.out
                rw [← hv, ← hg]
                replace hB := Lib.hid (bel_then hB.out hb)
                replace hsx := Lib.hid (sees_bel hsx.out hb)
                replace hsy := Lib.hid (sees_bel hsy.out hb)
                replace hsz := Lib.hid (sees_bel hsz.out hb)
                have hgb := Lib.hid hW
                clear hW hb hv hg
                refine hK.out _ _ hB.out (fun hHeld => ?_)
                clear hK K hHeld
                try simp only [Act.put, List.setIfInBounds_toArray, List.set_cons_zero, List.set_cons_succ]
                refine wpAnyH_ready (rs := [6, 9]) (by kernel_rfl) (by simp) ?_
                refine consH (i := 6) rfl (fun K hK => ?_) (consH (i := 9) rfl (fun K hK => ?_) AllReadyH.nil)
                ·
                 go_simp
                 refine (RefFold_any P pp _ HP.out).mono ?_
                 rw [HFO.out]
                 rintro e v ⟨rfl, hb⟩
                 replace hB := Lib.hid (bel_then hB.out hb)
                 replace hsx := Lib.hid (sees_bel hsx.out hb)
                 replace hsy := Lib.hid (sees_bel hsy.out hb)
                 replace hsz := Lib.hid (sees_bel hsz.out hb)
                 replace hgb := Lib.hid (wbel hgb.out hb)
                 clear hb
                 go_wp2_with fail
                 refine hK.out _ _ hB.out (fun hHeld => ?_)
                 clear hK K hHeld
                 try simp only [Act.put, List.setIfInBounds_toArray, List.set_cons_zero, List.set_cons_succ]
                 refine wpAnyH_ready (rs := [8, 9]) (by kernel_rfl) (by simp) ?_
                 refine consH (i := 8) rfl (fun K hK => ?_) (consH (i := 9) rfl (fun K hK => ?_) AllReadyH.nil)
                 ·
                  go_simp
                  refine (LAsk_any ⟨#[2, 101, 120, 0]⟩ nn D _ _ (HZ4.out.later hB.out) GZ.out HN.out FP fl t HFP.out HFL.out).mono ?_
                  rw [HR2.out]
                  rintro e v ⟨ho, hb⟩
                  have hq := ansB ho HLN.out
                  clear ho
                  obtain ⟨Bx, jx, By, jy, Bz, jz, rfl, hx, hy, hz⟩ := hq
                  replace hB := Lib.hid (bel_then hB.out hb)
                  replace hsx := Lib.hid (sees_bel hsx.out hb)
                  replace hsy := Lib.hid (sees_bel hsy.out hb)
                  replace hsz := Lib.hid (sees_bel hsz.out hb)
                  replace hgb := Lib.hid (wbel hgb.out hb)
                  have htx := Lib.hid hx
                  have hty := Lib.hid hy
                  have htz := Lib.hid hz
                  clear hb hx hy hz
                  go_wp2_with fail
                  refine hK.out _ _ hB.out (fun hHeld => ?_)
                  clear hK K hHeld
                  try simp only [Act.put, List.setIfInBounds_toArray, List.set_cons_zero, List.set_cons_succ]
                  refine wpAnyH_ready (rs := [9]) (by kernel_rfl) (by simp) ?_
                  refine consH (i := 9) rfl (fun K hK => ?_) AllReadyH.nil
                  go_simp
                  obtain ⟨v, hv, ga, hg, hb, bga, hW⟩ := box_new hB.out
                  rw [← hv, ← hg]
                  have nab : ga ≠ gb := by have := hgb.out.lt; omega
                  replace hB := Lib.hid (bel_then hB.out hb)
                  replace hsx := Lib.hid (sees_bel hsx.out hb)
                  replace hsy := Lib.hid (sees_bel hsy.out hb)
                  replace hsz := Lib.hid (sees_bel hsz.out hb)
                  replace hgb := Lib.hid (wbel hgb.out hb)
                  replace htx := Lib.hid (sees_bel htx.out hb)
                  replace hty := Lib.hid (sees_bel hty.out hb)
                  replace htz := Lib.hid (sees_bel htz.out hb)
                  have hga := Lib.hid hW
                  clear hW hb hv hg
                  refine hK.out _ _ hB.out (fun hHeld => ?_)
                  clear hK K hHeld
                  try simp only [Act.put, List.setIfInBounds_toArray, List.set_cons_zero, List.set_cons_succ]
                  exact HT.out v ga gb Ax Ay Az Bx By Bz kx ky kz jx jy jz hB hga hgb hsx hsy hsz htx hty htz nab bga bgb
                 ·
                  go_simp
                  obtain ⟨v, hv, ga, hg, hb, bga, hW⟩ := box_new hB.out
                  rw [← hv, ← hg]
                  have nab : ga ≠ gb := by have := hgb.out.lt; omega
                  replace hB := Lib.hid (bel_then hB.out hb)
                  replace hsx := Lib.hid (sees_bel hsx.out hb)
                  replace hsy := Lib.hid (sees_bel hsy.out hb)
                  replace hsz := Lib.hid (sees_bel hsz.out hb)
                  replace hgb := Lib.hid (wbel hgb.out hb)
                  have hga := Lib.hid hW
                  clear hW hb hv hg
                  refine hK.out _ _ hB.out (fun hHeld => ?_)
                  clear hK K hHeld
                  try simp only [Act.put, List.setIfInBounds_toArray, List.set_cons_zero, List.set_cons_succ]
                  refine wpAnyH_ready (rs := [8]) (by kernel_rfl) (by simp) ?_
                  refine consH (i := 8) rfl (fun K hK => ?_) AllReadyH.nil
                  go_simp
                  refine (LAsk_any ⟨#[2, 101, 120, 0]⟩ nn D _ _ (HZ4.out.later hB.out) GZ.out HN.out FP fl t HFP.out HFL.out).mono ?_
                  rw [HR2.out]
                  rintro e v ⟨ho, hb⟩
                  have hq := ansB ho HLN.out
                  clear ho
                  obtain ⟨Bx, jx, By, jy, Bz, jz, rfl, hx, hy, hz⟩ := hq
                  replace hB := Lib.hid (bel_then hB.out hb)
                  replace hsx := Lib.hid (sees_bel hsx.out hb)
                  replace hsy := Lib.hid (sees_bel hsy.out hb)
                  replace hsz := Lib.hid (sees_bel hsz.out hb)
                  replace hgb := Lib.hid (wbel hgb.out hb)
                  replace hga := Lib.hid (wbel hga.out hb)
                  have htx := Lib.hid hx
                  have hty := Lib.hid hy
                  have htz := Lib.hid hz
                  clear hb hx hy hz
                  go_wp2_with fail
                  refine hK.out _ _ hB.out (fun hHeld => ?_)
                  clear hK K hHeld
                  try simp only [Act.put, List.setIfInBounds_toArray, List.set_cons_zero, List.set_cons_succ]
                  exact HT.out v ga gb Ax Ay Az Bx By Bz kx ky kz jx jy jz hB hga hgb hsx hsy hsz htx hty htz nab bga bgb
                ·
                 go_simp
                 obtain ⟨v, hv, ga, hg, hb, bga, hW⟩ := box_new hB.out
                 rw [← hv, ← hg]
                 have nab : ga ≠ gb := by have := hgb.out.lt; omega
                 replace hB := Lib.hid (bel_then hB.out hb)
                 replace hsx := Lib.hid (sees_bel hsx.out hb)
                 replace hsy := Lib.hid (sees_bel hsy.out hb)
                 replace hsz := Lib.hid (sees_bel hsz.out hb)
                 replace hgb := Lib.hid (wbel hgb.out hb)
                 have hga := Lib.hid hW
                 clear hW hb hv hg
                 refine hK.out _ _ hB.out (fun hHeld => ?_)
                 clear hK K hHeld
                 try simp only [Act.put, List.setIfInBounds_toArray, List.set_cons_zero, List.set_cons_succ]
                 refine wpAnyH_ready (rs := [6]) (by kernel_rfl) (by simp) ?_
                 refine consH (i := 6) rfl (fun K hK => ?_) AllReadyH.nil
                 go_simp
                 refine (RefFold_any P pp _ HP.out).mono ?_
                 rw [HFO.out]
                 rintro e v ⟨rfl, hb⟩
                 replace hB := Lib.hid (bel_then hB.out hb)
                 replace hsx := Lib.hid (sees_bel hsx.out hb)
                 replace hsy := Lib.hid (sees_bel hsy.out hb)
                 replace hsz := Lib.hid (sees_bel hsz.out hb)
                 replace hgb := Lib.hid (wbel hgb.out hb)
                 replace hga := Lib.hid (wbel hga.out hb)
                 clear hb
                 go_wp2_with fail
                 refine hK.out _ _ hB.out (fun hHeld => ?_)
                 clear hK K hHeld
                 try simp only [Act.put, List.setIfInBounds_toArray, List.set_cons_zero, List.set_cons_succ]
                 refine wpAnyH_ready (rs := [8]) (by kernel_rfl) (by simp) ?_
                 refine consH (i := 8) rfl (fun K hK => ?_) AllReadyH.nil
                 go_simp
                 refine (LAsk_any ⟨#[2, 101, 120, 0]⟩ nn D _ _ (HZ4.out.later hB.out) GZ.out HN.out FP fl t HFP.out HFL.out).mono ?_
                 rw [HR2.out]
                 rintro e v ⟨ho, hb⟩
                 have hq := ansB ho HLN.out
                 clear ho
                 obtain ⟨Bx, jx, By, jy, Bz, jz, rfl, hx, hy, hz⟩ := hq
                 replace hB := Lib.hid (bel_then hB.out hb)
                 replace hsx := Lib.hid (sees_bel hsx.out hb)
                 replace hsy := Lib.hid (sees_bel hsy.out hb)
                 replace hsz := Lib.hid (sees_bel hsz.out hb)
                 replace hgb := Lib.hid (wbel hgb.out hb)
                 replace hga := Lib.hid (wbel hga.out hb)
                 have htx := Lib.hid hx
                 have hty := Lib.hid hy
                 have htz := Lib.hid hz
                 clear hb hx hy hz
                 go_wp2_with fail
                 refine hK.out _ _ hB.out (fun hHeld => ?_)
                 clear hK K hHeld
                 try simp only [Act.put, List.setIfInBounds_toArray, List.set_cons_zero, List.set_cons_succ]
                 exact HT.out v ga gb Ax Ay Az Bx By Bz kx ky kz jx jy jz hB hga hgb hsx hsy hsz htx hty htz nab bga bgb
              ·
               go_simp
               obtain ⟨v, hv, ga, hg, hb, bga, hW⟩ := box_new hB.out
               rw [← hv, ← hg]
               replace hB := Lib.hid (bel_then hB.out hb)
               have hga := Lib.hid hW
               clear hW hb hv hg
               refine hK.out _ _ hB.out (fun hHeld => ?_)
               clear hK K hHeld
               try simp only [Act.put, List.setIfInBounds_toArray, List.set_cons_zero, List.set_cons_succ]
               refine wpAnyH_ready (rs := [3, 10]) (by kernel_rfl) (by simp) ?_
               refine consH (i := 3) rfl (fun K hK => ?_) (consH (i := 10) rfl (fun K hK => ?_) AllReadyH.nil)
               ·
                go_simp
                refine (LAsk_any ⟨#[2, 101, 120, 0]⟩ nn D _ _ (HZ4.out.later hB.out) GZ.out HN.out P pp t HP.out hl).mono ?_
                rw [← HR.out]
                rintro e v ⟨⟨vx, vy, vz, rfl, ⟨Ax, kx, rfl, hx⟩, ⟨Ay, ky, rfl, hy⟩, ⟨Az, kz, rfl, hz⟩⟩, hb⟩
                replace hB := Lib.hid (bel_then hB.out hb)
                replace hga := Lib.hid (wbel hga.out hb)
                replace hsx := Lib.hid hx
                replace hsy := Lib.hid hy
                replace hsz := Lib.hid hz
                clear hb hx hy hz
                go_wp2_with fail
                refine hK.out _ _ hB.out (fun hHeld => ?_)
                clear hK K hHeld
                try simp only [Act.put, List.setIfInBounds_toArray, List.set_cons_zero, List.set_cons_succ]
                refine wpAnyH_ready (rs := [6, 10]) (by kernel_rfl) (by simp) ?_
                refine consH (i := 6) rfl (fun K hK => ?_) (consH (i := 10) rfl (fun K hK => ?_) AllReadyH.nil)
                ·
                 go_simp
                 refine (RefFold_any P pp _ HP.out).mono ?_
                 rw [HFO.out]
                 rintro e v ⟨rfl, hb⟩
                 replace hB := Lib.hid (bel_then hB.out hb)
                 replace hga := Lib.hid (wbel hga.out hb)
                 replace hsx := Lib.hid (sees_bel hsx.out hb)
                 replace hsy := Lib.hid (sees_bel hsy.out hb)
                 replace hsz := Lib.hid (sees_bel hsz.out hb)
                 clear hb
                 go_wp2_with fail
                 refine hK.out _ _ hB.out (fun hHeld => ?_)
                 clear hK K hHeld
                 try simp only [Act.put, List.setIfInBounds_toArray, List.set_cons_zero, List.set_cons_succ]
                 refine wpAnyH_ready (rs := [8, 10]) (by kernel_rfl) (by simp) ?_
                 refine consH (i := 8) rfl (fun K hK => ?_) (consH (i := 10) rfl (fun K hK => ?_) AllReadyH.nil)
                 ·
                  go_simp
                  refine (LAsk_any ⟨#[2, 101, 120, 0]⟩ nn D _ _ (HZ4.out.later hB.out) GZ.out HN.out FP fl t HFP.out HFL.out).mono ?_
                  rw [HR2.out]
                  rintro e v ⟨ho, hb⟩
                  have hq := ansB ho HLN.out
                  clear ho
                  obtain ⟨Bx, jx, By, jy, Bz, jz, rfl, hx, hy, hz⟩ := hq
                  replace hB := Lib.hid (bel_then hB.out hb)
                  replace hga := Lib.hid (wbel hga.out hb)
                  replace hsx := Lib.hid (sees_bel hsx.out hb)
                  replace hsy := Lib.hid (sees_bel hsy.out hb)
                  replace hsz := Lib.hid (sees_bel hsz.out hb)
                  have htx := Lib.hid hx
                  have hty := Lib.hid hy
                  have htz := Lib.hid hz
                  clear hb hx hy hz
                  go_wp2_with fail
                  refine hK.out _ _ hB.out (fun hHeld => ?_)
                  clear hK K hHeld
                  try simp only [Act.put, List.setIfInBounds_toArray, List.set_cons_zero, List.set_cons_succ]
                  refine wpAnyH_ready (rs := [10]) (by kernel_rfl) (by simp) ?_
                  refine consH (i := 10) rfl (fun K hK => ?_) AllReadyH.nil
                  go_simp
                  obtain ⟨v, hv, gb, hg, hb, bgb, hW⟩ := box_new hB.out
                  rw [← hv, ← hg]
                  have nab : ga ≠ gb := by have := hga.out.lt; omega
                  replace hB := Lib.hid (bel_then hB.out hb)
                  replace hga := Lib.hid (wbel hga.out hb)
                  replace hsx := Lib.hid (sees_bel hsx.out hb)
                  replace hsy := Lib.hid (sees_bel hsy.out hb)
                  replace hsz := Lib.hid (sees_bel hsz.out hb)
                  replace htx := Lib.hid (sees_bel htx.out hb)
                  replace hty := Lib.hid (sees_bel hty.out hb)
                  replace htz := Lib.hid (sees_bel htz.out hb)
                  have hgb := Lib.hid hW
                  clear hW hb hv hg
                  refine hK.out _ _ hB.out (fun hHeld => ?_)
                  clear hK K hHeld
                  try simp only [Act.put, List.setIfInBounds_toArray, List.set_cons_zero, List.set_cons_succ]
                  exact HT.out v ga gb Ax Ay Az Bx By Bz kx ky kz jx jy jz hB hga hgb hsx hsy hsz htx hty htz nab bga bgb
                 ·
                  go_simp
                  obtain ⟨v, hv, gb, hg, hb, bgb, hW⟩ := box_new hB.out
                  rw [← hv, ← hg]
                  have nab : ga ≠ gb := by have := hga.out.lt; omega
                  replace hB := Lib.hid (bel_then hB.out hb)
                  replace hga := Lib.hid (wbel hga.out hb)
                  replace hsx := Lib.hid (sees_bel hsx.out hb)
                  replace hsy := Lib.hid (sees_bel hsy.out hb)
                  replace hsz := Lib.hid (sees_bel hsz.out hb)
                  have hgb := Lib.hid hW
                  clear hW hb hv hg
                  refine hK.out _ _ hB.out (fun hHeld => ?_)
                  clear hK K hHeld
                  try simp only [Act.put, List.setIfInBounds_toArray, List.set_cons_zero, List.set_cons_succ]
                  refine wpAnyH_ready (rs := [8]) (by kernel_rfl) (by simp) ?_
                  refine consH (i := 8) rfl (fun K hK => ?_) AllReadyH.nil
                  go_simp
                  refine (LAsk_any ⟨#[2, 101, 120, 0]⟩ nn D _ _ (HZ4.out.later hB.out) GZ.out HN.out FP fl t HFP.out HFL.out).mono ?_
                  rw [HR2.out]
                  rintro e v ⟨ho, hb⟩
                  have hq := ansB ho HLN.out
                  clear ho
                  obtain ⟨Bx, jx, By, jy, Bz, jz, rfl, hx, hy, hz⟩ := hq
                  replace hB := Lib.hid (bel_then hB.out hb)
                  replace hga := Lib.hid (wbel hga.out hb)
                  replace hsx := Lib.hid (sees_bel hsx.out hb)
                  replace hsy := Lib.hid (sees_bel hsy.out hb)
                  replace hsz := Lib.hid (sees_bel hsz.out hb)
                  replace hgb := Lib.hid (wbel hgb.out hb)
                  have htx := Lib.hid hx
                  have hty := Lib.hid hy
                  have htz := Lib.hid hz
                  clear hb hx hy hz
                  go_wp2_with fail
                  refine hK.out _ _ hB.out (fun hHeld => ?_)
                  clear hK K hHeld
                  try simp only [Act.put, List.setIfInBounds_toArray, List.set_cons_zero, List.set_cons_succ]
                  exact HT.out v ga gb Ax Ay Az Bx By Bz kx ky kz jx jy jz hB hga hgb hsx hsy hsz htx hty htz nab bga bgb
                ·
                 go_simp
                 obtain ⟨v, hv, gb, hg, hb, bgb, hW⟩ := box_new hB.out
                 rw [← hv, ← hg]
                 have nab : ga ≠ gb := by have := hga.out.lt; omega
                 replace hB := Lib.hid (bel_then hB.out hb)
                 replace hga := Lib.hid (wbel hga.out hb)
                 replace hsx := Lib.hid (sees_bel hsx.out hb)
                 replace hsy := Lib.hid (sees_bel hsy.out hb)
                 replace hsz := Lib.hid (sees_bel hsz.out hb)
                 have hgb := Lib.hid hW
                 clear hW hb hv hg
                 refine hK.out _ _ hB.out (fun hHeld => ?_)
                 clear hK K hHeld
                 try simp only [Act.put, List.setIfInBounds_toArray, List.set_cons_zero, List.set_cons_succ]
                 refine wpAnyH_ready (rs := [6]) (by kernel_rfl) (by simp) ?_
                 refine consH (i := 6) rfl (fun K hK => ?_) AllReadyH.nil
                 go_simp
                 refine (RefFold_any P pp _ HP.out).mono ?_
                 rw [HFO.out]
                 rintro e v ⟨rfl, hb⟩
                 replace hB := Lib.hid (bel_then hB.out hb)
                 replace hga := Lib.hid (wbel hga.out hb)
                 replace hsx := Lib.hid (sees_bel hsx.out hb)
                 replace hsy := Lib.hid (sees_bel hsy.out hb)
                 replace hsz := Lib.hid (sees_bel hsz.out hb)
                 replace hgb := Lib.hid (wbel hgb.out hb)
                 clear hb
                 go_wp2_with fail
                 refine hK.out _ _ hB.out (fun hHeld => ?_)
                 clear hK K hHeld
                 try simp only [Act.put, List.setIfInBounds_toArray, List.set_cons_zero, List.set_cons_succ]
                 refine wpAnyH_ready (rs := [8]) (by kernel_rfl) (by simp) ?_
                 refine consH (i := 8) rfl (fun K hK => ?_) AllReadyH.nil
                 go_simp
                 refine (LAsk_any ⟨#[2, 101, 120, 0]⟩ nn D _ _ (HZ4.out.later hB.out) GZ.out HN.out FP fl t HFP.out HFL.out).mono ?_
                 rw [HR2.out]
                 rintro e v ⟨ho, hb⟩
                 have hq := ansB ho HLN.out
                 clear ho
                 obtain ⟨Bx, jx, By, jy, Bz, jz, rfl, hx, hy, hz⟩ := hq
                 replace hB := Lib.hid (bel_then hB.out hb)
                 replace hga := Lib.hid (wbel hga.out hb)
                 replace hsx := Lib.hid (sees_bel hsx.out hb)
                 replace hsy := Lib.hid (sees_bel hsy.out hb)
                 replace hsz := Lib.hid (sees_bel hsz.out hb)
                 replace hgb := Lib.hid (wbel hgb.out hb)
                 have htx := Lib.hid hx
                 have hty := Lib.hid hy
                 have htz := Lib.hid hz
                 clear hb hx hy hz
                 go_wp2_with fail
                 refine hK.out _ _ hB.out (fun hHeld => ?_)
                 clear hK K hHeld
                 try simp only [Act.put, List.setIfInBounds_toArray, List.set_cons_zero, List.set_cons_succ]
                 exact HT.out v ga gb Ax Ay Az Bx By Bz kx ky kz jx jy jz hB hga hgb hsx hsy hsz htx hty htz nab bga bgb
               ·
                go_simp
                obtain ⟨v, hv, gb, hg, hb, bgb, hW⟩ := box_new hB.out
                rw [← hv, ← hg]
                have nab : ga ≠ gb := by have := hga.out.lt; omega
                replace hB := Lib.hid (bel_then hB.out hb)
                replace hga := Lib.hid (wbel hga.out hb)
                have hgb := Lib.hid hW
                clear hW hb hv hg
                refine hK.out _ _ hB.out (fun hHeld => ?_)
                clear hK K hHeld
                try simp only [Act.put, List.setIfInBounds_toArray, List.set_cons_zero, List.set_cons_succ]
                refine wpAnyH_ready (rs := [3]) (by kernel_rfl) (by simp) ?_
                refine consH (i := 3) rfl (fun K hK => ?_) AllReadyH.nil
                go_simp
                refine (LAsk_any ⟨#[2, 101, 120, 0]⟩ nn D _ _ (HZ4.out.later hB.out) GZ.out HN.out P pp t HP.out hl).mono ?_
                rw [← HR.out]
                rintro e v ⟨⟨vx, vy, vz, rfl, ⟨Ax, kx, rfl, hx⟩, ⟨Ay, ky, rfl, hy⟩, ⟨Az, kz, rfl, hz⟩⟩, hb⟩
                replace hB := Lib.hid (bel_then hB.out hb)
                replace hga := Lib.hid (wbel hga.out hb)
                replace hgb := Lib.hid (wbel hgb.out hb)
                replace hsx := Lib.hid hx
                replace hsy := Lib.hid hy
                replace hsz := Lib.hid hz
                clear hb hx hy hz
                go_wp2_with fail
                refine hK.out _ _ hB.out (fun hHeld => ?_)
                clear hK K hHeld
                try simp only [Act.put, List.setIfInBounds_toArray, List.set_cons_zero, List.set_cons_succ]
                refine wpAnyH_ready (rs := [6]) (by kernel_rfl) (by simp) ?_
                refine consH (i := 6) rfl (fun K hK => ?_) AllReadyH.nil
                go_simp
                refine (RefFold_any P pp _ HP.out).mono ?_
                rw [HFO.out]
                rintro e v ⟨rfl, hb⟩
                replace hB := Lib.hid (bel_then hB.out hb)
                replace hga := Lib.hid (wbel hga.out hb)
                replace hgb := Lib.hid (wbel hgb.out hb)
                replace hsx := Lib.hid (sees_bel hsx.out hb)
                replace hsy := Lib.hid (sees_bel hsy.out hb)
                replace hsz := Lib.hid (sees_bel hsz.out hb)
                clear hb
                go_wp2_with fail
                refine hK.out _ _ hB.out (fun hHeld => ?_)
                clear hK K hHeld
                try simp only [Act.put, List.setIfInBounds_toArray, List.set_cons_zero, List.set_cons_succ]
                refine wpAnyH_ready (rs := [8]) (by kernel_rfl) (by simp) ?_
                refine consH (i := 8) rfl (fun K hK => ?_) AllReadyH.nil
                go_simp
                refine (LAsk_any ⟨#[2, 101, 120, 0]⟩ nn D _ _ (HZ4.out.later hB.out) GZ.out HN.out FP fl t HFP.out HFL.out).mono ?_
                rw [HR2.out]
                rintro e v ⟨ho, hb⟩
                have hq := ansB ho HLN.out
                clear ho
                obtain ⟨Bx, jx, By, jy, Bz, jz, rfl, hx, hy, hz⟩ := hq
                replace hB := Lib.hid (bel_then hB.out hb)
                replace hga := Lib.hid (wbel hga.out hb)
                replace hgb := Lib.hid (wbel hgb.out hb)
                replace hsx := Lib.hid (sees_bel hsx.out hb)
                replace hsy := Lib.hid (sees_bel hsy.out hb)
                replace hsz := Lib.hid (sees_bel hsz.out hb)
                have htx := Lib.hid hx
                have hty := Lib.hid hy
                have htz := Lib.hid hz
                clear hb hx hy hz
                go_wp2_with fail
                refine hK.out _ _ hB.out (fun hHeld => ?_)
                clear hK K hHeld
                try simp only [Act.put, List.setIfInBounds_toArray, List.set_cons_zero, List.set_cons_succ]
                exact HT.out v ga gb Ax Ay Az Bx By Bz kx ky kz jx jy jz hB hga hgb hsx hsy hsz htx hty htz nab bga bgb
              ·
               go_simp
               obtain ⟨v, hv, gb, hg, hb, bgb, hW⟩ := box_new hB.out
               rw [← hv, ← hg]
               replace hB := Lib.hid (bel_then hB.out hb)
               have hgb := Lib.hid hW
               clear hW hb hv hg
               refine hK.out _ _ hB.out (fun hHeld => ?_)
               clear hK K hHeld
               try simp only [Act.put, List.setIfInBounds_toArray, List.set_cons_zero, List.set_cons_succ]
               refine wpAnyH_ready (rs := [3, 9]) (by kernel_rfl) (by simp) ?_
               refine consH (i := 3) rfl (fun K hK => ?_) (consH (i := 9) rfl (fun K hK => ?_) AllReadyH.nil)
               ·
                go_simp
                refine (LAsk_any ⟨#[2, 101, 120, 0]⟩ nn D _ _ (HZ4.out.later hB.out) GZ.out HN.out P pp t HP.out hl).mono ?_
                rw [← HR.out]
                rintro e v ⟨⟨vx, vy, vz, rfl, ⟨Ax, kx, rfl, hx⟩, ⟨Ay, ky, rfl, hy⟩, ⟨Az, kz, rfl, hz⟩⟩, hb⟩
                replace hB := Lib.hid (bel_then hB.out hb)
                replace hgb := Lib.hid (wbel hgb.out hb)
                replace hsx := Lib.hid hx
                replace hsy := Lib.hid hy
                replace hsz := Lib.hid hz
                clear hb hx hy hz
                go_wp2_with fail
                refine hK.out _ _ hB.out (fun hHeld => ?_)
                clear hK K hHeld
                try simp only [Act.put, List.setIfInBounds_toArray, List.set_cons_zero, List.set_cons_succ]
                refine wpAnyH_ready (rs := [6, 9]) (by kernel_rfl) (by simp) ?_
                refine consH (i := 6) rfl (fun K hK => ?_) (consH (i := 9) rfl (fun K hK => ?_) AllReadyH.nil)
                ·
                 go_simp
                 refine (RefFold_any P pp _ HP.out).mono ?_
                 rw [HFO.out]
                 rintro e v ⟨rfl, hb⟩
                 replace hB := Lib.hid (bel_then hB.out hb)
                 replace hgb := Lib.hid (wbel hgb.out hb)
                 replace hsx := Lib.hid (sees_bel hsx.out hb)
                 replace hsy := Lib.hid (sees_bel hsy.out hb)
                 replace hsz := Lib.hid (sees_bel hsz.out hb)
                 clear hb
                 go_wp2_with fail
                 refine hK.out _ _ hB.out (fun hHeld => ?_)
                 clear hK K hHeld
                 try simp only [Act.put, List.setIfInBounds_toArray, List.set_cons_zero, List.set_cons_succ]
                 refine wpAnyH_ready (rs := [8, 9]) (by kernel_rfl) (by simp) ?_
                 refine consH (i := 8) rfl (fun K hK => ?_) (consH (i := 9) rfl (fun K hK => ?_) AllReadyH.nil)
                 ·
                  go_simp
                  refine (LAsk_any ⟨#[2, 101, 120, 0]⟩ nn D _ _ (HZ4.out.later hB.out) GZ.out HN.out FP fl t HFP.out HFL.out).mono ?_
                  rw [HR2.out]
                  rintro e v ⟨ho, hb⟩
                  have hq := ansB ho HLN.out
                  clear ho
                  obtain ⟨Bx, jx, By, jy, Bz, jz, rfl, hx, hy, hz⟩ := hq
                  replace hB := Lib.hid (bel_then hB.out hb)
                  replace hgb := Lib.hid (wbel hgb.out hb)
                  replace hsx := Lib.hid (sees_bel hsx.out hb)
                  replace hsy := Lib.hid (sees_bel hsy.out hb)
                  replace hsz := Lib.hid (sees_bel hsz.out hb)
                  have htx := Lib.hid hx
                  have hty := Lib.hid hy
                  have htz := Lib.hid hz
                  clear hb hx hy hz
                  go_wp2_with fail
                  refine hK.out _ _ hB.out (fun hHeld => ?_)
                  clear hK K hHeld
                  try simp only [Act.put, List.setIfInBounds_toArray, List.set_cons_zero, List.set_cons_succ]
                  refine wpAnyH_ready (rs := [9]) (by kernel_rfl) (by simp) ?_
                  refine consH (i := 9) rfl (fun K hK => ?_) AllReadyH.nil
                  go_simp
                  obtain ⟨v, hv, ga, hg, hb, bga, hW⟩ := box_new hB.out
                  rw [← hv, ← hg]
                  have nab : ga ≠ gb := by have := hgb.out.lt; omega
                  replace hB := Lib.hid (bel_then hB.out hb)
                  replace hgb := Lib.hid (wbel hgb.out hb)
                  replace hsx := Lib.hid (sees_bel hsx.out hb)
                  replace hsy := Lib.hid (sees_bel hsy.out hb)
                  replace hsz := Lib.hid (sees_bel hsz.out hb)
                  replace htx := Lib.hid (sees_bel htx.out hb)
                  replace hty := Lib.hid (sees_bel hty.out hb)
                  replace htz := Lib.hid (sees_bel htz.out hb)
                  have hga := Lib.hid hW
                  clear hW hb hv hg
                  refine hK.out _ _ hB.out (fun hHeld => ?_)
                  clear hK K hHeld
                  try simp only [Act.put, List.setIfInBounds_toArray, List.set_cons_zero, List.set_cons_succ]
                  exact HT.out v ga gb Ax Ay Az Bx By Bz kx ky kz jx jy jz hB hga hgb hsx hsy hsz htx hty htz nab bga bgb
                 ·
                  go_simp
                  obtain ⟨v, hv, ga, hg, hb, bga, hW⟩ := box_new hB.out
                  rw [← hv, ← hg]
                  have nab : ga ≠ gb := by have := hgb.out.lt; omega
                  replace hB := Lib.hid (bel_then hB.out hb)
                  replace hgb := Lib.hid (wbel hgb.out hb)
                  replace hsx := Lib.hid (sees_bel hsx.out hb)
                  replace hsy := Lib.hid (sees_bel hsy.out hb)
                  replace hsz := Lib.hid (sees_bel hsz.out hb)
                  have hga := Lib.hid hW
                  clear hW hb hv hg
                  refine hK.out _ _ hB.out (fun hHeld => ?_)
                  clear hK K hHeld
                  try simp only [Act.put, List.setIfInBounds_toArray, List.set_cons_zero, List.set_cons_succ]
                  refine wpAnyH_ready (rs := [8]) (by kernel_rfl) (by simp) ?_
                  refine consH (i := 8) rfl (fun K hK => ?_) AllReadyH.nil
                  go_simp
                  refine (LAsk_any ⟨#[2, 101, 120, 0]⟩ nn D _ _ (HZ4.out.later hB.out) GZ.out HN.out FP fl t HFP.out HFL.out).mono ?_
                  rw [HR2.out]
                  rintro e v ⟨ho, hb⟩
                  have hq := ansB ho HLN.out
                  clear ho
                  obtain ⟨Bx, jx, By, jy, Bz, jz, rfl, hx, hy, hz⟩ := hq
                  replace hB := Lib.hid (bel_then hB.out hb)
                  replace hgb := Lib.hid (wbel hgb.out hb)
                  replace hsx := Lib.hid (sees_bel hsx.out hb)
                  replace hsy := Lib.hid (sees_bel hsy.out hb)
                  replace hsz := Lib.hid (sees_bel hsz.out hb)
                  replace hga := Lib.hid (wbel hga.out hb)
                  have htx := Lib.hid hx
                  have hty := Lib.hid hy
                  have htz := Lib.hid hz
                  clear hb hx hy hz
                  go_wp2_with fail
                  refine hK.out _ _ hB.out (fun hHeld => ?_)
                  clear hK K hHeld
                  try simp only [Act.put, List.setIfInBounds_toArray, List.set_cons_zero, List.set_cons_succ]
                  exact HT.out v ga gb Ax Ay Az Bx By Bz kx ky kz jx jy jz hB hga hgb hsx hsy hsz htx hty htz nab bga bgb
                ·
                 go_simp
                 obtain ⟨v, hv, ga, hg, hb, bga, hW⟩ := box_new hB.out
                 rw [← hv, ← hg]
                 have nab : ga ≠ gb := by have := hgb.out.lt; omega
                 replace hB := Lib.hid (bel_then hB.out hb)
                 replace hgb := Lib.hid (wbel hgb.out hb)
                 replace hsx := Lib.hid (sees_bel hsx.out hb)
                 replace hsy := Lib.hid (sees_bel hsy.out hb)
                 replace hsz := Lib.hid (sees_bel hsz.out hb)
                 have hga := Lib.hid hW
                 clear hW hb hv hg
                 refine hK.out _ _ hB.out (fun hHeld => ?_)
                 clear hK K hHeld
                 try simp only [Act.put, List.setIfInBounds_toArray, List.set_cons_zero, List.set_cons_succ]
                 refine wpAnyH_ready (rs := [6]) (by kernel_rfl) (by simp) ?_
                 refine consH (i := 6) rfl (fun K hK => ?_) AllReadyH.nil
                 go_simp
                 refine (RefFold_any P pp _ HP.out).mono ?_
                 rw [HFO.out]
                 rintro e v ⟨rfl, hb⟩
                 replace hB := Lib.hid (bel_then hB.out hb)
                 replace hgb := Lib.hid (wbel hgb.out hb)
                 replace hsx := Lib.hid (sees_bel hsx.out hb)
                 replace hsy := Lib.hid (sees_bel hsy.out hb)
                 replace hsz := Lib.hid (sees_bel hsz.out hb)
                 replace hga := Lib.hid (wbel hga.out hb)
                 clear hb
                 go_wp2_with fail
                 refine hK.out _ _ hB.out (fun hHeld => ?_)
                 clear hK K hHeld
                 try simp only [Act.put, List.setIfInBounds_toArray, List.set_cons_zero, List.set_cons_succ]
                 refine wpAnyH_ready (rs := [8]) (by kernel_rfl) (by simp) ?_
                 refine consH (i := 8) rfl (fun K hK => ?_) AllReadyH.nil
                 go_simp
                 refine (LAsk_any ⟨#[2, 101, 120, 0]⟩ nn D _ _ (HZ4.out.later hB.out) GZ.out HN.out FP fl t HFP.out HFL.out).mono ?_
                 rw [HR2.out]
                 rintro e v ⟨ho, hb⟩
                 have hq := ansB ho HLN.out
                 clear ho
                 obtain ⟨Bx, jx, By, jy, Bz, jz, rfl, hx, hy, hz⟩ := hq
                 replace hB := Lib.hid (bel_then hB.out hb)
                 replace hgb := Lib.hid (wbel hgb.out hb)
                 replace hsx := Lib.hid (sees_bel hsx.out hb)
                 replace hsy := Lib.hid (sees_bel hsy.out hb)
                 replace hsz := Lib.hid (sees_bel hsz.out hb)
                 replace hga := Lib.hid (wbel hga.out hb)
                 have htx := Lib.hid hx
                 have hty := Lib.hid hy
                 have htz := Lib.hid hz
                 clear hb hx hy hz
                 go_wp2_with fail
                 refine hK.out _ _ hB.out (fun hHeld => ?_)
                 clear hK K hHeld
                 try simp only [Act.put, List.setIfInBounds_toArray, List.set_cons_zero, List.set_cons_succ]
                 exact HT.out v ga gb Ax Ay Az Bx By Bz kx ky kz jx jy jz hB hga hgb hsx hsy hsz htx hty htz nab bga bgb
               ·
                go_simp
                obtain ⟨v, hv, ga, hg, hb, bga, hW⟩ := box_new hB.out
                rw [← hv, ← hg]
                have nab : ga ≠ gb := by have := hgb.out.lt; omega
                replace hB := Lib.hid (bel_then hB.out hb)
                replace hgb := Lib.hid (wbel hgb.out hb)
                have hga := Lib.hid hW
                clear hW hb hv hg
                refine hK.out _ _ hB.out (fun hHeld => ?_)
                clear hK K hHeld
                try simp only [Act.put, List.setIfInBounds_toArray, List.set_cons_zero, List.set_cons_succ]
                refine wpAnyH_ready (rs := [3]) (by kernel_rfl) (by simp) ?_
                refine consH (i := 3) rfl (fun K hK => ?_) AllReadyH.nil
                go_simp
                refine (LAsk_any ⟨#[2, 101, 120, 0]⟩ nn D _ _ (HZ4.out.later hB.out) GZ.out HN.out P pp t HP.out hl).mono ?_
                rw [← HR.out]
                rintro e v ⟨⟨vx, vy, vz, rfl, ⟨Ax, kx, rfl, hx⟩, ⟨Ay, ky, rfl, hy⟩, ⟨Az, kz, rfl, hz⟩⟩, hb⟩
                replace hB := Lib.hid (bel_then hB.out hb)
                replace hgb := Lib.hid (wbel hgb.out hb)
                replace hga := Lib.hid (wbel hga.out hb)
                replace hsx := Lib.hid hx
                replace hsy := Lib.hid hy
                replace hsz := Lib.hid hz
                clear hb hx hy hz
                go_wp2_with fail
                refine hK.out _ _ hB.out (fun hHeld => ?_)
                clear hK K hHeld
                try simp only [Act.put, List.setIfInBounds_toArray, List.set_cons_zero, List.set_cons_succ]
                refine wpAnyH_ready (rs := [6]) (by kernel_rfl) (by simp) ?_
                refine consH (i := 6) rfl (fun K hK => ?_) AllReadyH.nil
                go_simp
                refine (RefFold_any P pp _ HP.out).mono ?_
                rw [HFO.out]
                rintro e v ⟨rfl, hb⟩
                replace hB := Lib.hid (bel_then hB.out hb)
                replace hgb := Lib.hid (wbel hgb.out hb)
                replace hga := Lib.hid (wbel hga.out hb)
                replace hsx := Lib.hid (sees_bel hsx.out hb)
                replace hsy := Lib.hid (sees_bel hsy.out hb)
                replace hsz := Lib.hid (sees_bel hsz.out hb)
                clear hb
                go_wp2_with fail
                refine hK.out _ _ hB.out (fun hHeld => ?_)
                clear hK K hHeld
                try simp only [Act.put, List.setIfInBounds_toArray, List.set_cons_zero, List.set_cons_succ]
                refine wpAnyH_ready (rs := [8]) (by kernel_rfl) (by simp) ?_
                refine consH (i := 8) rfl (fun K hK => ?_) AllReadyH.nil
                go_simp
                refine (LAsk_any ⟨#[2, 101, 120, 0]⟩ nn D _ _ (HZ4.out.later hB.out) GZ.out HN.out FP fl t HFP.out HFL.out).mono ?_
                rw [HR2.out]
                rintro e v ⟨ho, hb⟩
                have hq := ansB ho HLN.out
                clear ho
                obtain ⟨Bx, jx, By, jy, Bz, jz, rfl, hx, hy, hz⟩ := hq
                replace hB := Lib.hid (bel_then hB.out hb)
                replace hgb := Lib.hid (wbel hgb.out hb)
                replace hga := Lib.hid (wbel hga.out hb)
                replace hsx := Lib.hid (sees_bel hsx.out hb)
                replace hsy := Lib.hid (sees_bel hsy.out hb)
                replace hsz := Lib.hid (sees_bel hsz.out hb)
                have htx := Lib.hid hx
                have hty := Lib.hid hy
                have htz := Lib.hid hz
                clear hb hx hy hz
                go_wp2_with fail
                refine hK.out _ _ hB.out (fun hHeld => ?_)
                clear hK K hHeld
                try simp only [Act.put, List.setIfInBounds_toArray, List.set_cons_zero, List.set_cons_succ]
                exact HT.out v ga gb Ax Ay Az Bx By Bz kx ky kz jx jy jz hB hga hgb hsx hsy hsz htx hty htz nab bga bgb
             case tail =>
              intro v ga gb Ax Ay Az Bx By Bz kx ky kz jx jy jz hB hga hgb hsx hsy hsz htx hty htz nab bga bgb
              try simp only [Act.put, List.setIfInBounds_toArray, List.set_cons_zero, List.set_cons_succ]
              refine wpAnyH_ready (rs := [11]) (by kernel_rfl) (by simp) ?_
              refine consH (i := 11) rfl (fun K hK => ?_) AllReadyH.nil
              have q := an_cells hga.out
              obtain ⟨c0, c1, c2, c3, c4⟩ := q
              have q := an_soft hga.out
              obtain ⟨f0, f1, f2, f3, f4⟩ := q
              go_simp
              clear c0 c1 c2 c3 c4 f0 f1 f2 f3 f4
              have hW := five_put hga.out (.int .i64 R.rc) (.bool R.aa) (.slice Ax R.an.length kx) (.slice Ay R.ns.length ky) (.slice Az R.ad.length kz)
              have hO := whole_far5 hgb.out nab.symm (.int .i64 R.rc) (.bool R.aa) (.slice Ax R.an.length kx) (.slice Ay R.ns.length ky) (.slice Az R.ad.length kz)
              have qsx := recs_far5 hsx.out hga.out (.int .i64 R.rc) (.bool R.aa) (.slice Ax R.an.length kx) (.slice Ay R.ns.length ky) (.slice Az R.ad.length kz)
              have qsy := recs_far5 hsy.out hga.out (.int .i64 R.rc) (.bool R.aa) (.slice Ax R.an.length kx) (.slice Ay R.ns.length ky) (.slice Az R.ad.length kz)
              have qsz := recs_far5 hsz.out hga.out (.int .i64 R.rc) (.bool R.aa) (.slice Ax R.an.length kx) (.slice Ay R.ns.length ky) (.slice Az R.ad.length kz)
              have qtx := recs_far5 htx.out hga.out (.int .i64 R.rc) (.bool R.aa) (.slice Ax R.an.length kx) (.slice Ay R.ns.length ky) (.slice Az R.ad.length kz)
              have qty := recs_far5 hty.out hga.out (.int .i64 R.rc) (.bool R.aa) (.slice Ax R.an.length kx) (.slice Ay R.ns.length ky) (.slice Az R.ad.length kz)
              have qtz := recs_far5 htz.out hga.out (.int .i64 R.rc) (.bool R.aa) (.slice Ax R.an.length kx) (.slice Ay R.ns.length ky) (.slice Az R.ad.length kz)
              have hb := five_below hB.out bga (.int .i64 R.rc) (.bool R.aa) (.slice Ax R.an.length kx) (.slice Ay R.ns.length ky) (.slice Az R.ad.length kz)
              obtain ⟨u, hv⟩ : ∃ V, V = (((((v.setCell ⟨ga, 0, none⟩ (.int .i64 R.rc)).setCell ⟨ga, 1, none⟩ (.bool R.aa)).setCell ⟨ga, 2, none⟩ (.slice Ax R.an.length kx)).setCell ⟨ga, 3, none⟩ (.slice Ay R.ns.length ky)).setCell ⟨ga, 4, none⟩ (.slice Az R.ad.length kz)) := ⟨_, rfl⟩
              rw [← hv] at hW hO hb qsx qsy qsz qtx qty qtz
              rw [← hv]
              clear hv hB hga hgb hsx hsy hsz htx hty htz
              have hB := Lib.hid hb
              have hga := Lib.hid hW
              have hgb := Lib.hid hO
              have hsx := Lib.hid qsx
              have hsy := Lib.hid qsy
              have hsz := Lib.hid qsz
              have htx := Lib.hid qtx
              have hty := Lib.hid qty
              have htz := Lib.hid qtz
              clear hW hO hb qsx qsy qsz qtx qty qtz
              refine hK.out _ _ hB.out (fun hHeld => ?_)
              clear hK K hHeld v
              try simp only [Act.put, List.setIfInBounds_toArray, List.set_cons_zero, List.set_cons_succ]
              obtain ⟨v, hv⟩ : ∃ v, v = u := ⟨_, rfl⟩
              rw [← hv] at hB hga hgb hsx hsy hsz htx hty htz ⊢
              clear hv u
              refine wpAnyH_ready (rs := [12]) (by kernel_rfl) (by simp) ?_
              refine consH (i := 12) rfl (fun K hK => ?_) AllReadyH.nil
              have q := an_cells hgb.out
              obtain ⟨c0, c1, c2, c3, c4⟩ := q
              have q := an_soft hgb.out
              obtain ⟨f0, f1, f2, f3, f4⟩ := q
              go_simp
              clear c0 c1 c2 c3 c4 f0 f1 f2 f3 f4
              have hW := five_put hgb.out (.int .i64 R.rc) (.bool R.aa) (.slice Bx R.an.length jx) (.slice By R.ns.length jy) (.slice Bz R.ad.length jz)
              have hO := whole_far5 hga.out nab (.int .i64 R.rc) (.bool R.aa) (.slice Bx R.an.length jx) (.slice By R.ns.length jy) (.slice Bz R.ad.length jz)
              have qsx := recs_far5 hsx.out hgb.out (.int .i64 R.rc) (.bool R.aa) (.slice Bx R.an.length jx) (.slice By R.ns.length jy) (.slice Bz R.ad.length jz)
              have qsy := recs_far5 hsy.out hgb.out (.int .i64 R.rc) (.bool R.aa) (.slice Bx R.an.length jx) (.slice By R.ns.length jy) (.slice Bz R.ad.length jz)
              have qsz := recs_far5 hsz.out hgb.out (.int .i64 R.rc) (.bool R.aa) (.slice Bx R.an.length jx) (.slice By R.ns.length jy) (.slice Bz R.ad.length jz)
              have qtx := recs_far5 htx.out hgb.out (.int .i64 R.rc) (.bool R.aa) (.slice Bx R.an.length jx) (.slice By R.ns.length jy) (.slice Bz R.ad.length jz)
              have qty := recs_far5 hty.out hgb.out (.int .i64 R.rc) (.bool R.aa) (.slice Bx R.an.length jx) (.slice By R.ns.length jy) (.slice Bz R.ad.length jz)
              have qtz := recs_far5 htz.out hgb.out (.int .i64 R.rc) (.bool R.aa) (.slice Bx R.an.length jx) (.slice By R.ns.length jy) (.slice Bz R.ad.length jz)
              have hb := five_below hB.out bgb (.int .i64 R.rc) (.bool R.aa) (.slice Bx R.an.length jx) (.slice By R.ns.length jy) (.slice Bz R.ad.length jz)
              obtain ⟨u, hv⟩ : ∃ V, V = (((((v.setCell ⟨gb, 0, none⟩ (.int .i64 R.rc)).setCell ⟨gb, 1, none⟩ (.bool R.aa)).setCell ⟨gb, 2, none⟩ (.slice Bx R.an.length jx)).setCell ⟨gb, 3, none⟩ (.slice By R.ns.length jy)).setCell ⟨gb, 4, none⟩ (.slice Bz R.ad.length jz)) := ⟨_, rfl⟩
              rw [← hv] at hW hO hb qsx qsy qsz qtx qty qtz
              rw [← hv]
              clear hv hB hga hgb hsx hsy hsz htx hty htz
              have hB := Lib.hid hb
              have hgb := Lib.hid hW
              have hga := Lib.hid hO
              have hsx := Lib.hid qsx
              have hsy := Lib.hid qsy
              have hsz := Lib.hid qsz
              have htx := Lib.hid qtx
              have hty := Lib.hid qty
              have htz := Lib.hid qtz
              clear hW hO hb qsx qsy qsz qtx qty qtz
              refine hK.out _ _ hB.out (fun hHeld => ?_)
              clear hK K hHeld
              try simp only [Act.put, List.setIfInBounds_toArray, List.set_cons_zero, List.set_cons_succ]
              refine wpAnyH_done (by kernel_rfl) ?_ _
              go_wp2_with fail
              go_meet
              case rel => exact ⟨_, _, Ax, kx, Ay, ky, Az, kz, Bx, jx, By, jy, Bz, jz, rfl, rfl, hga.out, hgb.out, hsx.out, hsy.out, hsz.out, htx.out, hty.out, htz.out, hB.out⟩
          case rest =>
            obtain ⟨ga, gb, Ax, kx, Ay, ky, Az, kz, Bx, jx, By, jy, Bz, jz, rfl, rfl, hwa, hwb, sax, say, saz, sbx, sby, sbz, hB⟩ := hcut
            have HWA := Lib.hid hwa
            have HWB := Lib.hid hwb
            have HAX := Lib.hid sax
            have HBX := Lib.hid sbx
            have HBC := Lib.hid (HB4.out.trans (hB.mono HB4.out.size))
            obtain ⟨a0, a1, a2, a3, a4⟩ := an_cells hwa
            obtain ⟨b0, b1, b2, b3, b4⟩ := an_cells hwb
            have HSS1 := Lib.hid (show sameX R.ns R.ns = true from sameX_is.2 rfl)
            have HSS2 := Lib.hid (show sameX R.ad R.ad = true from sameX_is.2 rfl)
            have HAY := Lib.hid say
            have HAZ := Lib.hid saz
            have HBY := Lib.hid sby
            have HBZ := Lib.hid sbz
            clear hwa hwb sax say saz sbx sby sbz hB
            have hgr : (R.rc != R.rc) = false := by simp
            have hga : (R.aa != R.aa) = false := by simp
            obtain ⟨m, hm⟩ : ∃ m, m = R.an.length := ⟨_, rfl⟩
            have HM := Lib.hid hm
            have hm30 : m ≤ 1073741824 := by have := HL1.out; omega
            rw [← hm] at HWA HWB HAX HBX a2 b2
            clear hm
            have hgm : ((m : Int) != (m : Int)) = false := by simp
            go_wp2_with fail
            refine (Same_any Ay By R.ns.length ky R.ns.length jy R.ns R.ns _ HAY.out HBY.out HL2.out).mono ?_
            rw [HSS1.out]
            rintro e w8 ⟨rfl, hB⟩
            have HWA8 := Lib.hid (HWA.out.below hB HWA.out.lt)
            have HWB8 := Lib.hid (HWB.out.below hB HWB.out.lt)
            have HAX8 := Lib.hid ((HAX.out.keep hB).more hB.size)
            have HBX8 := Lib.hid ((HBX.out.keep hB).more hB.size)
            have HAZ8 := Lib.hid ((HAZ.out.keep hB).more hB.size)
            have HBZ8 := Lib.hid ((HBZ.out.keep hB).more hB.size)
            have HB8 := Lib.hid (HBC.out.trans (hB.mono HBC.out.size))
            clear hB a0 a1 a2 a3 a4 b0 b1 b2 b3 b4
            obtain ⟨a0, a1, a2, a3, a4⟩ := an_cells HWA8.out
            obtain ⟨b0, b1, b2, b3, b4⟩ := an_cells HWB8.out
            go_wp2_with fail
            refine (Same_any Az Bz R.ad.length kz R.ad.length jz R.ad R.ad _ HAZ8.out HBZ8.out HL3.out).mono ?_
            rw [HSS2.out]
            rintro e w9 ⟨rfl, hB⟩
            have HWA9 := Lib.hid (HWA8.out.below hB HWA8.out.lt)
            have HWB9 := Lib.hid (HWB8.out.below hB HWB8.out.lt)
            have HAX9 := Lib.hid ((HAX8.out.keep hB).more hB.size)
            have HBX9 := Lib.hid ((HBX8.out.keep hB).more hB.size)
            have HB9 := Lib.hid (HB8.out.trans (hB.mono HB8.out.size))
            clear hB a0 a1 a2 a3 a4 b0 b1 b2 b3 b4 hgr hga hgm
            go_wp2_with fail
            go_loopw [11] (fun i wr => ∃ k : Nat, k ≤ m ∧ i = .int .i64 (k : Nat) ∧ Below w9.heap.size w9 wr) (fun i _ => m - (intOf i).toNat)
            case atStart => exact ⟨0, Nat.zero_le _, rfl, Below.refl _ _⟩
            case round =>
              obtain ⟨k, hk, rfl, hB⟩ := hrel
              have HBR := Lib.hid hB
              have HWAr := Lib.hid (HWA9.out.below hB HWA9.out.lt)
              have HWBr := Lib.hid (HWB9.out.below hB HWB9.out.lt)
              obtain ⟨a0, a1, a2, a3, a4⟩ := an_cells HWAr.out
              clear hB
              by_cases hkm : k < m
              · have g2 : (k : Int) < (m : Int) := by omega
                have g0 : (0 : Int) ≤ (k : Int) := by omega
                go_wp2_with fail
                obtain ⟨bx, ox, x, rfl, hbx, hxk, hfx⟩ := ((HAX9.out.keep HBR.out).more HBR.out.size).at hkm
                obtain ⟨by', oy, y, rfl, hby, hyk, hfy⟩ := ((HBX9.out.keep HBR.out).more HBR.out.size).at hkm
                have hsx := sim_at HSIM.out hxk hyk
                have HXD := Lib.hid hsx.2.2.2.2.2
                have HYD := Lib.hid (show y.toRec.d.length ≤ 65535 by rw [← sim_data hsx]; exact hsx.2.2.2.2.2)
                have HONE := Lib.hid (sim_one hsx)
                have hll : (x.l != y.l) = false := by rw [hsx.2.2.2.1]; simp
                clear a0 a1 a2 a3 a4
                have a2 : ∀ q : Later wr, q.val.cell? ⟨ga, 2, none⟩ = some (.slice (some ⟨bx, ox, none⟩) m kx) := fun q => ((HWAr.out.later q).cell 2).trans rfl
                have b2 : ∀ q : Later wr, q.val.cell? ⟨gb, 2, none⟩ = some (.slice (some ⟨by', oy, none⟩) m jx) := fun q => ((HWBr.out.later q).cell 2).trans rfl
                obtain ⟨x0, x1, x2, x3, x4⟩ := hfx.later hbx
                obtain ⟨y0, y1, y2, y3, y4⟩ := hfy.later hby
                have HCO := Lib.hid (show ∀ q' : Later wr, Calls Tryz.prog 30 #[.agg #[.string x.s, .int .i64 x.t, .int .i64 x.c, .int .i64 x.l, .string x.d], .agg #[.string y.s, .int .i64 y.t, .int .i64 y.c, .int .i64 y.l, .string y.d]] q'.val fun e w'' => e = .returned (.bool true) ∧ ∃ q2 : Later wr, w'' = q2.val from
                  fun q' => later_call (by rw [← HONE.out]; exact RefOne_any x.s x.d y.s y.d x.toRec y.toRec _ (rrd_name x) (rrd_data x) (rrd_name y) (rrd_data y) HXD.out HYD.out))
                clear hbx hxk hfx hby hyk hfy hsx
                refine region_later (by kernel_rfl) ?_
                repeat (go_big_quiet_step ((go_at_call 30; with_reducible exact HCO.out _)))
                refine wpQuiet_nil ?_
                rintro _ ⟨q2', rfl⟩
                have HBQ := Lib.hid (HBR.out.trans (q2'.below.mono HBR.out.size))
                go_wp2_with fail
                go_roundw
                case rel => exact ⟨k + 1, by omega, by go_num, HBQ.out⟩
                case measure => simp [intOf]; omega
              · obtain rfl : m = k := by omega
                have g2 : ¬ ((m : Int) < (m : Int)) := by omega
                go_wp2_with fail
                go_ret
                exact ⟨rfl, HB9.out.trans (HBR.out.mono HB9.out.size)⟩
    · have gp : (P.size : Int) > 600 := by omega
      go_enter Tryz.func7, Tryz.ntmps7
      go_wp2_with fail
      refine (lawake_any _).mono ?_
      rintro e w1 ⟨rfl, hB⟩
      have HB1 := Lib.hid hB
      have HX1 := Lib.hid ((HX.out.keep hB).more hB.size)
      clear hB
      go_wp2_with fail
      refine (Few_any A n c xs _ HX1.out h63).mono ?_
      rw [HF.out]
      rintro e w2 ⟨rfl, hB⟩
      have HB2 := Lib.hid (HB1.out.trans (hB.mono HB1.out.size))
      have HX2 := Lib.hid ((HX1.out.keep hB).more hB.size)
      clear hB
      go_wp2_with fail
      refine (lawake_any _).mono ?_
      rintro e w3 ⟨rfl, hB⟩
      have HB3 := Lib.hid (HB2.out.trans (hB.mono HB2.out.size))
      have HX3 := Lib.hid ((HX2.out.keep hB).more hB.size)
      clear hB
      go_wp2_with fail
      go_ret
      exact ⟨rfl, HB3.out⟩
end Go.Proofs.YtkgihfoknpimfaaGreat
