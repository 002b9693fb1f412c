/- DjF: texts DifF, DifG of our own, joined. No statement of the seat is proved here. -/
import Derived.Test.YtaijcoiepfjecaaGreatDjC
import Derived.Deep.RegionHeld3
namespace Go.Proofs.YtaijcoiepfjecaaGreat
open Go.RowKit Go.Op
set_option linter.unusedVariables false

/-- a list of one's own that goes on -/
def OwnL (w : World) (A : Option Addr) (n c : Nat) (L : List Rrd) : Prop := n = L.length ∧ SeesR w w.heap.size A n L ∧ InCap A n c
theorem OwnL.later {w w' : World} {A : Option Addr} {n c : Nat} {L : List Rrd} (h : OwnL w A n c L) (hb : Below w.heap.size w w') : OwnL w' A n c L := ⟨h.1, (h.2.1.keep hb).more hb.size, h.2.2⟩
theorem own_L {w : World} {base : Nat} {v : Value} {n : Nat} {xs : List Rrd} (h : w.ownsRow base 26 5 v n (rcells xs)) : ∃ A c, v = .slice A n c ∧ OwnL w A n c xs := by
  obtain ⟨A, c, e, hs, hc⟩ := own_sees h
  exact ⟨A, c, e, hs.1.symm, hs, hc⟩
/-- what Of returns -/
def OfOut (w' : World) (D1 D2 : List Rrd) (e : Ending) : Prop :=
  ∃ A n c A' n' c', e = .returned (.tuple #[.slice A n c, .slice A' n' c']) ∧ OwnL w' A n c (lackX D1 D2) ∧ OwnL w' A' n' c' (lackX D2 D1)
set_option maxHeartbeats 16000000 in
set_option maxRecDepth 20000 in
theorem DOf_any (N1 N2 : ByteArray) (D1 D2 : List Rrd) (v1 v2 : Value) (w : World) (h1 : ZoneAt w w.heap.size N1 D1 v1) (h2 : ZoneAt w w.heap.size N2 D2 v2) (ok1 : OkL D1) (ok2 : OkL D2) (s1 : SetL cX D1) (s2 : SetL cX D2) (l1 : D1.length ≤ 1000000) (l2 : D2.length ≤ 1000000) :
    Calls Tryz.prog 12 #[v1, v2] w fun e w' => OfOut w' D1 D2 e ∧ Below w.heap.size w w' := by
  have H1 := h1
  have H2 := h2
  obtain ⟨A1, c1, t1, rfl, _, _, _⟩ := h1
  obtain ⟨A2, c2, t2, rfl, _, _, _⟩ := h2
  obtain ⟨W, hW⟩ : ∃ W, W = (w.alloc (.cells #[.string N1, .slice A1 D1.length c1, .string t1.s, .int .i64 t1.t, .int .i64 t1.c, .int .i64 t1.l, .string t1.d] zoT)).alloc (.cells #[.string N2, .slice A2 D2.length c2, .string t2.s, .int .i64 t2.t, .int .i64 t2.c, .int .i64 t2.l, .string t2.d] zoT) := ⟨_, rfl⟩
  obtain ⟨g1, hg1⟩ : ∃ g, g = w.heap.size := ⟨_, rfl⟩
  obtain ⟨g2, hg2⟩ : ∃ g, g = w.heap.size + 1 := ⟨_, rfl⟩
  have HB0 := Lib.hid (show Below w.heap.size w W by rw [hW]; exact ((Below.refl _ _).alloc (Nat.le_refl _) _).alloc (by simp) _)
  have HW1 := Lib.hid (show Whole W g1 zoT #[.string N1, .slice A1 D1.length c1, .string t1.s, .int .i64 t1.t, .int .i64 t1.c, .int .i64 t1.l, .string t1.d] by rw [hW, hg1]; exact (Whole.new w _ _).alloc _)
  have HW2 := Lib.hid (show Whole W g2 zoT #[.string N2, .slice A2 D2.length c2, .string t2.s, .int .i64 t2.t, .int .i64 t2.c, .int .i64 t2.l, .string t2.d] by
    rw [hW, hg2]
    have := Whole.new (w.alloc (.cells #[.string N1, .slice A1 D1.length c1, .string t1.s, .int .i64 t1.t, .int .i64 t1.c, .int .i64 t1.l, .string t1.d] zoT)) zoT #[.string N2, .slice A2 D2.length c2, .string t2.s, .int .i64 t2.t, .int .i64 t2.c, .int .i64 t2.l, .string t2.d]
    rwa [World.size_alloc] at this)
  have HZ1 := Lib.hid (H1.later HB0.out)
  have HZ2 := Lib.hid (H2.later HB0.out)
  have HOK1 := Lib.hid ok1
  have HOK2 := Lib.hid ok2
  have HS1 := Lib.hid s1
  have HS2 := Lib.hid s2
  have HWW := Lib.hid hW
  have HG1 := Lib.hid hg1
  have HG2 := Lib.hid hg2
  clear H1 H2 ok1 ok2 s1 s2 hW hg1 hg2
  go_enter Tryz.func12, Tryz.ntmps12
  go_wp2_with fail
  rw [← HWW.out, ← HG2.out, ← HG1.out]
  have za0 : ∀ w' : World, Below W.heap.size W w' → w'.cell? ⟨g1, 0, none⟩ = some (.string N1) := fun w' h => (h.cell (HW1.out.lt)).trans ((HW1.out.cell 0).trans rfl)
  have za1 : ∀ w' : World, Below W.heap.size W w' → w'.cell? ⟨g1, 1, none⟩ = some (.slice A1 D1.length c1) := fun w' h => (h.cell (HW1.out.lt)).trans ((HW1.out.cell 1).trans rfl)
  have za2 : ∀ w' : World, Below W.heap.size W w' → w'.cell? ⟨g1, 2, none⟩ = some (.string t1.s) := fun w' h => (h.cell (HW1.out.lt)).trans ((HW1.out.cell 2).trans rfl)
  have za3 : ∀ w' : World, Below W.heap.size W w' → w'.cell? ⟨g1, 3, none⟩ = some (.int .i64 t1.t) := fun w' h => (h.cell (HW1.out.lt)).trans ((HW1.out.cell 3).trans rfl)
  have za4 : ∀ w' : World, Below W.heap.size W w' → w'.cell? ⟨g1, 4, none⟩ = some (.int .i64 t1.c) := fun w' h => (h.cell (HW1.out.lt)).trans ((HW1.out.cell 4).trans rfl)
  have za5 : ∀ w' : World, Below W.heap.size W w' → w'.cell? ⟨g1, 5, none⟩ = some (.int .i64 t1.l) := fun w' h => (h.cell (HW1.out.lt)).trans ((HW1.out.cell 5).trans rfl)
  have za6 : ∀ w' : World, Below W.heap.size W w' → w'.cell? ⟨g1, 6, none⟩ = some (.string t1.d) := fun w' h => (h.cell (HW1.out.lt)).trans ((HW1.out.cell 6).trans rfl)
  have zb0 : ∀ w' : World, Below W.heap.size W w' → w'.cell? ⟨g2, 0, none⟩ = some (.string N2) := fun w' h => (h.cell (HW2.out.lt)).trans ((HW2.out.cell 0).trans rfl)
  have zb1 : ∀ w' : World, Below W.heap.size W w' → w'.cell? ⟨g2, 1, none⟩ = some (.slice A2 D2.length c2) := fun w' h => (h.cell (HW2.out.lt)).trans ((HW2.out.cell 1).trans rfl)
  have zb2 : ∀ w' : World, Below W.heap.size W w' → w'.cell? ⟨g2, 2, none⟩ = some (.string t2.s) := fun w' h => (h.cell (HW2.out.lt)).trans ((HW2.out.cell 2).trans rfl)
  have zb3 : ∀ w' : World, Below W.heap.size W w' → w'.cell? ⟨g2, 3, none⟩ = some (.int .i64 t2.t) := fun w' h => (h.cell (HW2.out.lt)).trans ((HW2.out.cell 3).trans rfl)
  have zb4 : ∀ w' : World, Below W.heap.size W w' → w'.cell? ⟨g2, 4, none⟩ = some (.int .i64 t2.c) := fun w' h => (h.cell (HW2.out.lt)).trans ((HW2.out.cell 4).trans rfl)
  have zb5 : ∀ w' : World, Below W.heap.size W w' → w'.cell? ⟨g2, 5, none⟩ = some (.int .i64 t2.l) := fun w' h => (h.cell (HW2.out.lt)).trans ((HW2.out.cell 5).trans rfl)
  have zb6 : ∀ w' : World, Below W.heap.size W w' → w'.cell? ⟨g2, 6, none⟩ = some (.string t2.d) := fun w' h => (h.cell (HW2.out.lt)).trans ((HW2.out.cell 6).trans rfl)
  have hb1 : Below W.heap.size W W.drew := (Below.refl _ _).drew
  have hb0 : Below W.heap.size W W := Below.refl _ _
  go_region_held3 (fun w' => Below W.heap.size W w') (go_keep) (first
    | (go_at_call 20; (refine (All_any N2 D2 _ _ (HZ2.out.later hT3) (by omega)).mono ?_; rintro e w4 ⟨u4, rfl, ho4, hB4⟩; obtain ⟨A4, c4, rfl, hs4⟩ := own_L ho4; have hT4 : Below W.heap.size W w4 := hT3.trans (hB4.mono hT3.size)))
    | (go_at_call 20; (refine (All_any N1 D1 _ _ (HZ1.out.later hb1) (by omega)).mono ?_; rintro e w3 ⟨u3, rfl, ho3, hB3⟩; obtain ⟨A3, c3, rfl, hs3⟩ := own_L ho3; have hT3 : Below W.heap.size W w3 := hb1.trans (hB3.mono hb1.size))))
  all_goals (
    have HO3 := Lib.hid (hs3.later hB4)
    have HO4 := Lib.hid hs4
    have HB4 := Lib.hid (HB0.out.trans (hT4.mono HB0.out.size))
    clear ho3 ho4 hB3 hB4 hT3 hT4 hs3 hs4 hb0 hb1 za0 za1 za2 za3 za4 za5 za6 zb0 zb1 zb2 zb3 zb4 zb5 zb6
    go_wp2_with fail
    refine (without_any A3 A4 D1.length c3 D2.length c4 D1 D2 _ HO3.out.2.1 HO4.out.2.1 HO4.out.2.2 HOK1.out HOK2.out HS1.out HS2.out (by omega) (by omega)).mono ?_
    rintro e w5 ⟨u5, rfl, ho5, hB5⟩
    have HB5 := Lib.hid (HB4.out.trans (hB5.mono HB4.out.size))
    have HO35 := Lib.hid (HO3.out.later hB5)
    have HO45 := Lib.hid (HO4.out.later hB5)
    obtain ⟨A5, c5, rfl, hs5⟩ := own_L ho5
    have HO5 := Lib.hid hs5
    clear ho5 hB5 hs5
    obtain ⟨n5, hn5⟩ : ∃ n5, n5 = (lackX D1 D2).length := ⟨_, rfl⟩
    rw [← hn5] at HO5 ⊢
    clear hn5
    go_wp2_with fail
    refine (without_any A4 A3 D2.length c4 D1.length c3 D2 D1 _ HO45.out.2.1 HO35.out.2.1 HO35.out.2.2 HOK2.out HOK1.out HS2.out HS1.out (by omega) (by omega)).mono ?_
    rintro e w6 ⟨u6, rfl, ho6, hB6⟩
    have HB6 := Lib.hid (HB5.out.trans (hB6.mono HB5.out.size))
    have HO56 := Lib.hid (HO5.out.later hB6)
    obtain ⟨A6, c6, rfl, hs6⟩ := own_L ho6
    have HO6 := Lib.hid hs6
    clear ho6 hB6 hs6
    obtain ⟨n6, hn6⟩ : ∃ n6, n6 = (lackX D2 D1).length := ⟨_, rfl⟩
    rw [← hn6] at HO6 ⊢
    clear hn6
    go_wp2_with fail
    go_ret2
    exact ⟨⟨A5, n5, c5, A6, n6, c6, rfl, HO56.out, HO6.out⟩, HB6.out⟩)
set_option maxHeartbeats 16000000 in
set_option maxRecDepth 20000 in
theorem DSame_any (N1 : ByteArray) (D1 D2 : List Rrd) (v1 v2 : Value) (w : World) (h1 : ZoneAt w w.heap.size N1 D1 v1) (h2 : ZoneAt w w.heap.size N1 D2 v2) (ok1 : OkL D1) (ok2 : OkL D2) (s1 : SetL cX D1) (s2 : SetL cX D2) (l1 : D1.length ≤ 1000000) (l2 : D2.length ≤ 1000000) :
    Calls Tryz.prog 15 #[v1, v2] w fun e w' => e = .returned (.bool (sameX D1 D2)) ∧ Below w.heap.size w w' := by
  have H1 := h1
  have H2 := h2
  obtain ⟨A1, c1, t1, rfl, _, _, _⟩ := h1
  obtain ⟨A2, c2, t2, rfl, _, _, _⟩ := h2
  obtain ⟨W, hW⟩ : ∃ W, W = (w.alloc (.cells #[.string N1, .slice A1 D1.length c1, .string t1.s, .int .i64 t1.t, .int .i64 t1.c, .int .i64 t1.l, .string t1.d] zoT)).alloc (.cells #[.string N1, .slice A2 D2.length c2, .string t2.s, .int .i64 t2.t, .int .i64 t2.c, .int .i64 t2.l, .string t2.d] zoT) := ⟨_, rfl⟩
  obtain ⟨g1, hg1⟩ : ∃ g, g = w.heap.size := ⟨_, rfl⟩
  obtain ⟨g2, hg2⟩ : ∃ g, g = w.heap.size + 1 := ⟨_, rfl⟩
  have HB0 := Lib.hid (show Below w.heap.size w W by rw [hW]; exact ((Below.refl _ _).alloc (Nat.le_refl _) _).alloc (by simp) _)
  have HW1 := Lib.hid (show Whole W g1 zoT #[.string N1, .slice A1 D1.length c1, .string t1.s, .int .i64 t1.t, .int .i64 t1.c, .int .i64 t1.l, .string t1.d] by rw [hW, hg1]; exact (Whole.new w _ _).alloc _)
  have HW2 := Lib.hid (show Whole W g2 zoT #[.string N1, .slice A2 D2.length c2, .string t2.s, .int .i64 t2.t, .int .i64 t2.c, .int .i64 t2.l, .string t2.d] by
    rw [hW, hg2]
    have := Whole.new (w.alloc (.cells #[.string N1, .slice A1 D1.length c1, .string t1.s, .int .i64 t1.t, .int .i64 t1.c, .int .i64 t1.l, .string t1.d] zoT)) zoT #[.string N1, .slice A2 D2.length c2, .string t2.s, .int .i64 t2.t, .int .i64 t2.c, .int .i64 t2.l, .string t2.d]
    rwa [World.size_alloc] at this)
  have HZ1 := Lib.hid (H1.later HB0.out)
  have HZ2 := Lib.hid (H2.later HB0.out)
  have HOK1 := Lib.hid ok1
  have HOK2 := Lib.hid ok2
  have HS1 := Lib.hid s1
  have HS2 := Lib.hid s2
  have HWW := Lib.hid hW
  have HG1 := Lib.hid hg1
  have HG2 := Lib.hid hg2
  clear H1 H2 ok1 ok2 s1 s2 hW hg1 hg2
  go_enter Tryz.func15, Tryz.ntmps15
  go_wp2_with fail
  rw [← HWW.out, ← HG2.out, ← HG1.out]
  have za0 : ∀ w' : World, Below W.heap.size W w' → w'.cell? ⟨g1, 0, none⟩ = some (.string N1) := fun w' h => (h.cell (HW1.out.lt)).trans ((HW1.out.cell 0).trans rfl)
  have za1 : ∀ w' : World, Below W.heap.size W w' → w'.cell? ⟨g1, 1, none⟩ = some (.slice A1 D1.length c1) := fun w' h => (h.cell (HW1.out.lt)).trans ((HW1.out.cell 1).trans rfl)
  have za2 : ∀ w' : World, Below W.heap.size W w' → w'.cell? ⟨g1, 2, none⟩ = some (.string t1.s) := fun w' h => (h.cell (HW1.out.lt)).trans ((HW1.out.cell 2).trans rfl)
  have za3 : ∀ w' : World, Below W.heap.size W w' → w'.cell? ⟨g1, 3, none⟩ = some (.int .i64 t1.t) := fun w' h => (h.cell (HW1.out.lt)).trans ((HW1.out.cell 3).trans rfl)
  have za4 : ∀ w' : World, Below W.heap.size W w' → w'.cell? ⟨g1, 4, none⟩ = some (.int .i64 t1.c) := fun w' h => (h.cell (HW1.out.lt)).trans ((HW1.out.cell 4).trans rfl)
  have za5 : ∀ w' : World, Below W.heap.size W w' → w'.cell? ⟨g1, 5, none⟩ = some (.int .i64 t1.l) := fun w' h => (h.cell (HW1.out.lt)).trans ((HW1.out.cell 5).trans rfl)
  have za6 : ∀ w' : World, Below W.heap.size W w' → w'.cell? ⟨g1, 6, none⟩ = some (.string t1.d) := fun w' h => (h.cell (HW1.out.lt)).trans ((HW1.out.cell 6).trans rfl)
  have zb0 : ∀ w' : World, Below W.heap.size W w' → w'.cell? ⟨g2, 0, none⟩ = some (.string N1) := fun w' h => (h.cell (HW2.out.lt)).trans ((HW2.out.cell 0).trans rfl)
  have zb1 : ∀ w' : World, Below W.heap.size W w' → w'.cell? ⟨g2, 1, none⟩ = some (.slice A2 D2.length c2) := fun w' h => (h.cell (HW2.out.lt)).trans ((HW2.out.cell 1).trans rfl)
  have zb2 : ∀ w' : World, Below W.heap.size W w' → w'.cell? ⟨g2, 2, none⟩ = some (.string t2.s) := fun w' h => (h.cell (HW2.out.lt)).trans ((HW2.out.cell 2).trans rfl)
  have zb3 : ∀ w' : World, Below W.heap.size W w' → w'.cell? ⟨g2, 3, none⟩ = some (.int .i64 t2.t) := fun w' h => (h.cell (HW2.out.lt)).trans ((HW2.out.cell 3).trans rfl)
  have zb4 : ∀ w' : World, Below W.heap.size W w' → w'.cell? ⟨g2, 4, none⟩ = some (.int .i64 t2.c) := fun w' h => (h.cell (HW2.out.lt)).trans ((HW2.out.cell 4).trans rfl)
  have zb5 : ∀ w' : World, Below W.heap.size W w' → w'.cell? ⟨g2, 5, none⟩ = some (.int .i64 t2.l) := fun w' h => (h.cell (HW2.out.lt)).trans ((HW2.out.cell 5).trans rfl)
  have zb6 : ∀ w' : World, Below W.heap.size W w' → w'.cell? ⟨g2, 6, none⟩ = some (.string t2.d) := fun w' h => (h.cell (HW2.out.lt)).trans ((HW2.out.cell 6).trans rfl)
  have hb1 : Below W.heap.size W W.drew := (Below.refl _ _).drew
  have hb0 : Below W.heap.size W W := Below.refl _ _
  have hnn : (N1.toList == N1.toList) = true := by simp
  go_region_held3 (fun w' => Below W.heap.size W w') (go_keep) (first
    | (go_at_call 30; (refine (Equal_any A5 A6 D1.length c5 D2.length c6 D1 D2 _ ((hs5.later hB6).2.1) hs6.2.1 (by omega)).mono ?_; rintro e w7 ⟨rfl, hB7⟩; have hT7 : Below W.heap.size W w7 := hT6.trans (hB7.mono hT6.size)))
    | (go_at_call 20; (refine (All_any N1 D2 _ _ (HZ2.out.later hT5) (by omega)).mono ?_; rintro e w6 ⟨u6, rfl, ho6, hB6⟩; obtain ⟨A6, c6, rfl, hs6⟩ := own_L ho6; have hT6 : Below W.heap.size W w6 := hT5.trans (hB6.mono hT5.size)))
    | (go_at_call 20; (refine (All_any N1 D1 _ _ (HZ1.out.later hT4) (by omega)).mono ?_; rintro e w5 ⟨u5, rfl, ho5, hB5⟩; obtain ⟨A5, c5, rfl, hs5⟩ := own_L ho5; have hT5 : Below W.heap.size W w5 := hT4.trans (hB5.mono hT4.size)))
    | (go_at_call 21; (refine (Apex_any N1 D2 _ _ (HZ2.out.later hT3)).mono ?_; rintro e w4 ⟨rfl, hB4⟩; have hT4 : Below W.heap.size W w4 := hT3.trans (hB4.mono hT3.size)))
    | (go_at_call 21; (refine (Apex_any N1 D1 _ _ (HZ1.out.later hb1)).mono ?_; rintro e w3 ⟨rfl, hB3⟩; have hT3 : Below W.heap.size W w3 := hb1.trans (hB3.mono hb1.size))))
  all_goals (
    have HBF := Lib.hid (HB0.out.trans (hT7.mono HB0.out.size))
    clear hT3 hT4 hT5 hT6 hT7 za0 za1 za2 za3 za4 za5 za6 zb0 zb1 zb2 zb3 zb4 zb5 zb6
    go_wp2_with fail
    go_ret
    exact ⟨rfl, HBF.out⟩)
end Go.Proofs.YtaijcoiepfjecaaGreat
namespace Go.Proofs.YtaijcoiepfjecaaGreat
open Go.RowKit Go.Op
set_option linter.unusedVariables false

theorem sees_far {w w' : World} {B r n : Nat} {A : Option Addr} {xs : List Rrd} (h : SeesR w B A n xs) (hB : B ≤ w.heap.size) (hne : 0 < n → ∀ ad, A = some ad → ad.block ≠ r) (hg : w.grownBy w' (some r)) : SeesR w' B A n xs := by
  refine ⟨h.1, fun hn => ?_⟩
  obtain ⟨b, off, e, hb, hc⟩ := h.2 hn
  refine ⟨b, off, e, hb, fun j x hx => ?_⟩
  have k : b ≠ r := hne hn ⟨b, off, none⟩ e
  obtain ⟨c0, c1, c2, c3, c4⟩ := hc j x hx
  have far : ∀ o, w'.cell? ⟨b, o, none⟩ = w.cell? ⟨b, o, none⟩ := fun o => hg.cell_far ⟨b, o, none⟩ (Nat.lt_of_lt_of_le hb hB) (fun e => k (by cases e; rfl))
  exact ⟨(far _).trans c0, (far _).trans c1, (far _).trans c2, (far _).trans c3, (far _).trans c4⟩
theorem OkX.some {x : Rrd} (h : OkX x) : x.s ≠ ⟨#[]⟩ := by
  intro e
  have h1 := h.nm
  have h2 := name_len x
  rw [e] at h2
  have h3 : nmX x = [] := List.length_eq_zero_iff.1 h2
  rw [h3, nameL_nil] at h1
  cases h1
/-- right records do not lie in a zone that has nothing -/
theorem sees_apart {w : World} {B r n : Nat} {A : Option Addr} {D : List Rrd} (h : SeesR w B A n D) (hw : Whole w r zoT zeroZ) (ok : OkL D) : 0 < n → ∀ ad, A = some ad → ad.block ≠ r := by
  intro hn ad e c
  obtain ⟨b, off, x, e2, hb, hx, c0, _⟩ := h.at hn
  rw [e] at e2
  cases e2
  subst c
  have hok := (ok.at hx).some
  rw [hw.cell] at c0
  unfold zeroZ at c0
  rcases (show off + 0 * 5 = 0 ∨ off + 0 * 5 = 1 ∨ off + 0 * 5 = 2 ∨ off + 0 * 5 = 3 ∨ off + 0 * 5 = 4 ∨ off + 0 * 5 = 5 ∨ off + 0 * 5 = 6 ∨ 7 ≤ off + 0 * 5 by omega) with q | q | q | q | q | q | q | q
  all_goals first
    | (rw [q] at c0; simp at c0; exact hok c0.symm)
    | (rw [q] at c0; simp at c0)
    | (rw [Array.getElem?_eq_none (by simpa using q)] at c0; cases c0)
/-- a zone is kept when a block of a zone that had nothing is written -/
theorem zone_far {w w' : World} {r : Nat} {N : ByteArray} {D : List Rrd} {v : Value} (h : ZoneAt w w.heap.size N D v) (hw : Whole w r zoT zeroZ) (ok : OkL D) (hg : w.grownBy w' (some r)) : ZoneAt w' w'.heap.size N D v := by
  obtain ⟨A, c, s, e, hs, hc, ht⟩ := h
  exact ⟨A, c, s, e, (sees_far hs (Nat.le_refl _) (sees_apart hs hw ok) hg).more hg.size, hc, ht⟩
theorem sev_grown (w : World) (r : Nat) (a0 a1 a2 a3 a4 a5 a6 : Value) : w.grownBy (((((((w.setCell ⟨r, 0, none⟩ a0).setCell ⟨r, 1, none⟩ a1).setCell ⟨r, 2, none⟩ a2).setCell ⟨r, 3, none⟩ a3).setCell ⟨r, 4, none⟩ a4).setCell ⟨r, 5, none⟩ a5).setCell ⟨r, 6, none⟩ a6) (some r) :=
  grown_trans (grown_trans (grown_trans (grown_trans (grown_trans (grown_trans (gset _ ⟨r, 0, none⟩ a0) (gset _ ⟨r, 1, none⟩ a1)) (gset _ ⟨r, 2, none⟩ a2)) (gset _ ⟨r, 3, none⟩ a3)) (gset _ ⟨r, 4, none⟩ a4)) (gset _ ⟨r, 5, none⟩ a5)) (gset _ ⟨r, 6, none⟩ a6)
theorem two_slots {w : World} {A0 A2 : Option Addr} {n0 n2 c0 c2 : Nat} {l0 l2 : List Rrd} (t : TypeId) (h0 : SeesR w w.heap.size A0 n0 l0) (h2 : SeesR w w.heap.size A2 n2 l2) :
    SeesSl (w.alloc (.cells #[.slice A0 n0 c0, .slice A2 n2 c2] t)) (w.alloc (.cells #[.slice A0 n0 c0, .slice A2 n2 c2] t)).heap.size (some ⟨w.heap.size, 0, none⟩) [⟨A0, n0, c0, l0⟩, ⟨A2, n2, c2, l2⟩] :=
  SeesSl.keep (w := (w.alloc (.cells #[.slice A0 n0 c0, .slice A2 n2 c2] t)).drew) (two_drew t (Below.refl _ _) h0 h2) ⟨rfl, rfl, rfl, Nat.le_refl _, fun _ _ => rfl⟩
/-- a difference that can be applied -/
def Does (D del add : List Rrd) : Prop := Gone D del ∧ Fits (lackX D del) add
def ApplyOut (w' : World) (N : ByteArray) (nn : List UInt8) (D del add : List Rrd) (e : Ending) : Prop :=
  (¬ Does D del add ∧ e = .returned (.tuple #[.agg zeroZ, .int .i64 8])) ∨ (Does D del add ∧ NewOut w' N nn (lackX D del ++ add) e)

set_option maxHeartbeats 16000000 in
set_option maxRecDepth 20000 in
theorem Apply_any (N : ByteArray) (nn : List UInt8) (D del add : List Rrd) (v : Value) (A2 A3 : Option Addr) (n2 c2 n3 c3 : Nat) (w : World) (hN : N = mk nn) (h1 : ZoneAt w w.heap.size N D v) (h2 : SeesR w w.heap.size A2 n2 del) (h3 : SeesR w w.heap.size A3 n3 add) (ok : OkL D) (s1 : SetL cX D) (ok2 : OkL del) (ok3 : OkL add) (l1 : D.length ≤ 30) (l2 : n2 ≤ 30) (l3 : n3 ≤ 30) :
    Calls Tryz.prog 18 #[v, .slice A2 n2 c2, .slice A3 n3 c3] w fun e w' => ApplyOut w' N nn D del add e ∧ Below w.heap.size w w' := by
  have H1 := h1
  obtain ⟨A1, c1, t1, rfl, _, _, _⟩ := h1
  obtain ⟨W, hW⟩ : ∃ W, W = (w.alloc (.cells #[.string N, .slice A1 D.length c1, .string t1.s, .int .i64 t1.t, .int .i64 t1.c, .int .i64 t1.l, .string t1.d] zoT)).alloc (.cells zeroZ zoT) := ⟨_, rfl⟩
  obtain ⟨g1, hg1⟩ : ∃ g, g = w.heap.size := ⟨_, rfl⟩
  obtain ⟨r, hr⟩ : ∃ g, g = w.heap.size + 1 := ⟨_, rfl⟩
  have HB0 := Lib.hid (show Below w.heap.size w W by rw [hW]; exact ((Below.refl _ _).alloc (Nat.le_refl _) _).alloc (by simp) _)
  have HW1 := Lib.hid (show Whole W g1 zoT #[.string N, .slice A1 D.length c1, .string t1.s, .int .i64 t1.t, .int .i64 t1.c, .int .i64 t1.l, .string t1.d] by rw [hW, hg1]; exact (Whole.new w _ _).alloc _)
  have HW2 := Lib.hid (show Whole W r zoT zeroZ by
    rw [hW, hr]
    have := Whole.new (w.alloc (.cells #[.string N, .slice A1 D.length c1, .string t1.s, .int .i64 t1.t, .int .i64 t1.c, .int .i64 t1.l, .string t1.d] zoT)) zoT zeroZ
    rwa [World.size_alloc] at this)
  have HRL := Lib.hid (show w.heap.size ≤ r by omega)
  have HZ := Lib.hid (H1.later HB0.out)
  have HD := Lib.hid ((h2.keep HB0.out).more HB0.out.size)
  have HA := Lib.hid ((h3.keep HB0.out).more HB0.out.size)
  have HN := Lib.hid hN
  have HOK := Lib.hid ok
  have HS := Lib.hid s1
  have HOK2 := Lib.hid ok2
  have HOK3 := Lib.hid ok3
  have HLD := Lib.hid h2.1
  have HLA := Lib.hid h3.1
  have HWW := Lib.hid hW
  have HG1 := Lib.hid hg1
  have HR := Lib.hid hr
  clear H1 h2 h3 hN ok s1 ok2 ok3 hW hg1 hr
  go_enter Tryz.func18, Tryz.ntmps18
  obtain ⟨q0, q1, q2, q3, q4, q5, q6⟩ := zo_facts HW1.out
  unfold zeroZ at HWW
  go_wp2_with fail
  rw [← HWW.out, ← HR.out, ← HG1.out]
  refine (All_any N D _ _ HZ.out (by omega)).mono ?_
  rintro e w1 ⟨u1, rfl, ho, hB⟩
  obtain ⟨A4, c4, rfl, hs4⟩ := own_L ho
  have HB1 := Lib.hid (HB0.out.trans (hB.mono HB0.out.size))
  have HO4 := Lib.hid hs4
  have HZ1 := Lib.hid (HZ.out.later hB)
  have HD1 := Lib.hid ((HD.out.keep hB).more hB.size)
  have HA1 := Lib.hid ((HA.out.keep hB).more hB.size)
  have HWA := Lib.hid (HW1.out.below hB HW1.out.lt)
  have HWB := Lib.hid (HW2.out.below hB HW2.out.lt)
  clear ho hB hs4 q0 q1 q2 q3 q4 q5 q6
  obtain ⟨z, hz⟩ := gone_dec D del
  have HZZ := Lib.hid hz
  clear hz
  go_wp2_with fail
  refine (remaining_any A4 A2 D.length c4 n2 c2 D del _ HO4.out.2.1 HD1.out HOK.out HS.out HOK2.out (by omega) (by omega) z HZZ.out).mono ?_
  unfold RemOut
  rintro e w2 ⟨⟨A5, c5, rfl, hs5, _⟩, hB⟩
  have HB2 := Lib.hid (HB1.out.trans (hB.mono HB1.out.size))
  have HA2 := Lib.hid ((HA1.out.keep hB).more hB.size)
  have HWA2 := Lib.hid (HWA.out.below hB HWA.out.lt)
  have HWB2 := Lib.hid (HWB.out.below hB HWB.out.lt)
  have HS5 := Lib.hid hs5
  have HZ2 := Lib.hid (HZ1.out.later hB)
  have hl5 := lackX_len D (ofC del)
  obtain ⟨L, hL⟩ : ∃ L, L = lackX D (ofC del) := ⟨_, rfl⟩
  have HL := Lib.hid hL
  rw [← hL] at HS5 hl5 ⊢
  obtain ⟨n5, hn5⟩ : ∃ n5, n5 = L.length := ⟨_, rfl⟩
  have HN5 := Lib.hid hn5
  rw [← hn5] at HS5 hl5 ⊢
  have HOKL := Lib.hid (show OkL L by rw [hL]; exact HOK.out.lack)
  have HSL := Lib.hid (show SetL cX L by rw [hL]; exact lackX_set HS.out)
  clear hs5 hB hL hn5
  cases z with
  | false =>
    have HNO := Lib.hid (show ¬ Does D del add from fun h => by have := HZZ.out.2 h.1; cases this)
    obtain ⟨f0, f1, f2, f3, f4, f5, f6⟩ := zo_frozen HWB2.out
    have hwb := HWB2.out
    unfold zeroZ at hwb
    obtain ⟨k0, k1, k2, k3, k4, k5, k6⟩ := zo_facts hwb
    clear hwb
    go_wp2_with fail
    have hwb := HWB2.out
    unfold zeroZ at hwb
    refine retZ2 rfl rfl rfl rfl (sevZ_put hwb _ _ _ _ _ _ _) ⟨.inl ⟨HNO.out, rfl⟩, sevZ_below HB2.out HRL.out _ _ _ _ _ _ _⟩
  | true =>
    have HGO := Lib.hid (HZZ.out.1 rfl)
    have HLL := Lib.hid (show L = lackX D del by rw [HL.out]; exact gone_left HS.out HGO.out)
    obtain ⟨y, hy⟩ := fits_dec L add
    have HY := Lib.hid hy
    clear hy
    go_wp2_with fail
    refine (clashes_any A5 A3 n5 c5 n3 c3 L add _ HS5.out HA2.out HOKL.out HSL.out HOK3.out (by omega) (by omega) y HY.out).mono ?_
    rintro e w3 ⟨rfl, hB⟩
    have HB3 := Lib.hid (HB2.out.trans (hB.mono HB2.out.size))
    have HA3 := Lib.hid ((HA2.out.keep hB).more hB.size)
    have HZ3 := Lib.hid (HZ2.out.later hB)
    have HS3 := Lib.hid ((HS5.out.keep hB).more hB.size)
    have HWA3 := Lib.hid (HWA2.out.below hB HWA2.out.lt)
    have HWB3 := Lib.hid (HWB2.out.below hB HWB2.out.lt)
    clear hB
    cases y with
    | true =>
      have HNO := Lib.hid (show ¬ Does D del add from fun h => by have := HY.out.2 (by rw [HLL.out]; exact h.2); cases this)
      obtain ⟨f0, f1, f2, f3, f4, f5, f6⟩ := zo_frozen HWB3.out
      have hwb := HWB3.out
      unfold zeroZ at hwb
      obtain ⟨k0, k1, k2, k3, k4, k5, k6⟩ := zo_facts hwb
      clear hwb
      go_wp2_with fail
      have hwb := HWB3.out
      unfold zeroZ at hwb
      refine retZ2 rfl rfl rfl rfl (sevZ_put hwb _ _ _ _ _ _ _) ⟨.inl ⟨HNO.out, rfl⟩, sevZ_below HB3.out HRL.out _ _ _ _ _ _ _⟩
    | false =>
      have HDO := Lib.hid (show Does D del add from ⟨HGO.out, by rw [← HLL.out]; exact HY.out.1 rfl⟩)
      obtain ⟨q0, q1, q2, q3, q4, q5, q6⟩ := zo_facts HWA3.out
      go_wp2_with fail
      refine (Apex_any N D _ _ HZ3.out).mono ?_
      rintro e w4 ⟨rfl, hB⟩
      have HB4 := Lib.hid (HB3.out.trans (hB.mono HB3.out.size))
      have HA4 := Lib.hid ((HA3.out.keep hB).more hB.size)
      have HS4 := Lib.hid ((HS3.out.keep hB).more hB.size)
      have HWB4 := Lib.hid (HWB3.out.below hB HWB3.out.lt)
      have HLEN := Lib.hid (show (L ++ add).length ≤ 60 by rw [List.length_append, HLA.out, ← HN5.out]; omega)
      clear hB q0 q1 q2 q3 q4 q5 q6
      go_wp2_with fail
      refine (Concat_any _ 2 _ _ _ (two_slots _ HS4.out HA4.out) rfl (by decide) (by rw [joinS2]; have := HLEN.out; omega)).mono ?_
      rw [joinS2]
      rintro e w5 ⟨u5, rfl, ho, hB⟩
      obtain ⟨A6, c6, rfl, hs6⟩ := own_L ho
      have hB5 := ((Below.refl w4.heap.size w4).alloc (Nat.le_refl _) _).trans (hB.mono (by simp))
      have HB5 := Lib.hid (HB4.out.trans (hB5.mono HB4.out.size))
      have HWB5 := Lib.hid (HWB4.out.below hB5 HWB4.out.lt)
      have HS6 := Lib.hid hs6.2.1
      clear ho hB hs6 hB5
      obtain ⟨n6, hn6⟩ : ∃ n6, n6 = (L ++ add).length := ⟨_, rfl⟩
      have HN6 := Lib.hid hn6
      rw [← hn6] at HS6 ⊢
      clear hn6
      have hn60 : n6 ≤ 60 := by have := HLEN.out; rw [HN6.out]; exact this
      have HOKA := Lib.hid (show OkL (L ++ add) from fun x hx => (List.mem_append.1 hx).elim (HOKL.out x) (HOK3.out x))
      go_wp2_with fail
      refine (ZNew_any A6 n6 c6 N nn (L ++ add) _ HN.out HS6.out hn60 HOKA.out.low).mono ?_
      rintro e w6 ⟨h, hB⟩
      have HB6 := Lib.hid (HB5.out.trans (hB.mono HB5.out.size))
      have HWB6 := Lib.hid (HWB5.out.below hB HWB5.out.lt)
      have hwb := HWB6.out
      unfold zeroZ at hwb
      have HWF := Lib.hid hwb
      obtain ⟨f0, f1, f2, f3, f4, f5, f6⟩ := zo_frozen hwb
      obtain ⟨k0, k1, k2, k3, k4, k5, k6⟩ := zo_facts hwb
      clear hB hwb
      rcases h with ⟨hc, rfl⟩ | ⟨hc, rfl⟩ | ⟨hc, v6, rfl, hz6⟩
      · have HC := Lib.hid hc
        clear hc
        unfold zeroZ
        go_wp2_with fail
        refine retZ2 rfl rfl rfl rfl (sevZ_put HWF.out _ _ _ _ _ _ _) ⟨.inr ⟨HDO.out, ?_⟩, sevZ_below HB6.out HRL.out _ _ _ _ _ _ _⟩
        rw [← HLL.out]
        exact .inl ⟨HC.out, rfl⟩
      · have HC := Lib.hid hc
        clear hc
        unfold zeroZ
        go_wp2_with fail
        refine retZ2 rfl rfl rfl rfl (sevZ_put HWF.out _ _ _ _ _ _ _) ⟨.inr ⟨HDO.out, ?_⟩, sevZ_below HB6.out HRL.out _ _ _ _ _ _ _⟩
        rw [← HLL.out]
        exact .inr (.inl ⟨HC.out, rfl⟩)
      · have HC := Lib.hid hc
        have HZ6 := Lib.hid hz6
        obtain ⟨A7, c7, t7, rfl, _, _, _⟩ := hz6
        clear hc
        obtain ⟨n7, hn7⟩ : ∃ n7, n7 = (ofC (L ++ add)).length := ⟨_, rfl⟩
        have HN7 := Lib.hid hn7
        rw [← hn7]
        clear hn7
        go_wp2_with fail
        refine retZ2 rfl rfl rfl rfl (sevZ_put HWF.out _ _ _ _ _ _ _) ⟨.inr ⟨HDO.out, ?_⟩, sevZ_below HB6.out HRL.out _ _ _ _ _ _ _⟩
        rw [← HLL.out]
        refine .inr (.inr ⟨HC.out, _, rfl, ?_⟩)
        rw [HN7.out]
        exact zone_far HZ6.out HWB6.out HOKA.out.ofC (sev_grown _ _ _ _ _ _ _ _ _)
end Go.Proofs.YtaijcoiepfjecaaGreat
