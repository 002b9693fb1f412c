/- slices.SortFunc at records, by the library's contract. No statement of the seat is proved here. -/
import Derived.Test.YtkgojdmjagicdaaGreatRsU
import Derived.Test.YtkgojdmjagicdaaGreatRrsJ
import Derived.Test.YtkgojdmjagicdaaGreatDrw
import Derived.Test.YtkgojdmjagicdaaGreatShl
import Derived.Shelf.SlSortCmp.WholeK
import Derived.Deep.RegionHeld3
namespace Go.Proofs.YtkgojdmjagicdaaGreat
open Go.RowKit Go.Op Go.Sort Go.Shelf Go.Lib

/-- the order that is left of equals, too: by the TTL -/
def cY (x y : Rrd) : Int := orI (cX x y) (sgn x.l y.l)
theorem cY_three (x y z : Rrd) : Ord3 (cY x y) (cY y z) (cY x z) := ord3_or (cX_three _ _ _) (sgn_three _ _ _)
theorem cY_flip (x y : Rrd) : cY y x = - cY x y := by
  unfold cY
  rw [cX_flip x y, sgn_flip x.l y.l, orI_neg]
theorem cY_ord : Cmp3 cY := {
  range := fun x y => (cY_three x y y).1
  flip := cY_flip
  same := fun x y z h => by
    have h1 := cY_three x y z
    have h2 := cY_three y x z
    have h3 := cY_flip x y
    unfold Ord3 at h1 h2
    omega
  trans := fun x y z h k => by
    have h1 := cY_three x y z
    unfold Ord3 at h1
    omega }

set_option maxHeartbeats 4000000 in
set_option maxRecDepth 20000 in
theorem byTTL_any {x y : Rrd} (hx : OkX x) (hy : OkX y) (w : World) :
    Calls Tryz.prog 44 #[.agg #[.string x.s, .int .i64 x.t, .int .i64 x.c, .int .i64 x.l, .string x.d], .agg #[.string y.s, .int .i64 y.t, .int .i64 y.c, .int .i64 y.l, .string y.d]] w fun e w' => e = .returned (.int .i64 (cY x y)) ∧ Below w.heap.size w w' := by
  obtain ⟨W, hW⟩ : ∃ W, W = (w.alloc (.cells #[.string x.s, .int .i64 x.t, .int .i64 x.c, .int .i64 x.l, .string x.d] 28)).alloc (.cells #[.string y.s, .int .i64 y.t, .int .i64 y.c, .int .i64 y.l, .string y.d] 28) := ⟨_, rfl⟩
  obtain ⟨g, hg⟩ : ∃ g, g = w.heap.size := ⟨_, rfl⟩
  obtain ⟨h, hh⟩ : ∃ h, h = w.heap.size + 1 := ⟨_, rfl⟩
  have HB0 := Lib.hid (show Below w.heap.size w W by rw [hW]; exact ((Below.refl _ _).alloc (Nat.le_refl _) _).alloc (by simp) _)
  have HBX := Lib.hid (show Five W g 0 x by rw [hW, hg]; exact (box_five w x).keep ((Below.refl _ _).alloc (Nat.le_refl _) _) (by simp))
  have HBY := Lib.hid (show Five W h 0 y by rw [hW, hh]; have k := box_five (w.alloc (.cells #[.string x.s, .int .i64 x.t, .int .i64 x.c, .int .i64 x.l, .string x.d] 28)) y; rw [World.size_alloc] at k; exact k)
  have HGL := Lib.hid (show g < W.heap.size by rw [hW, hg]; simp; omega)
  have HHL := Lib.hid (show h < W.heap.size by rw [hW, hh]; simp)
  obtain ⟨Z, hZ⟩ : ∃ Z, Z = cX x y := ⟨_, rfl⟩
  have HZ := Lib.hid hZ
  have HOR := Lib.hid (show (if Z = 0 then sgn x.l y.l else Z) = cY x y by rw [hZ]; rfl)
  have HOX := Lib.hid hx
  have HOY := Lib.hid hy
  have HWW := Lib.hid hW
  have HG := Lib.hid hg
  have HH := Lib.hid hh
  obtain ⟨p0, p1, p2, p3, p4⟩ := HBX.out
  obtain ⟨q0, q1, q2, q3, q4⟩ := HBY.out
  clear hW hg hh hx hy hZ
  go_enter Tryz.func44, Tryz.ntmps44
  go_wp2_with fail
  rw [← HWW.out, ← HH.out, ← HG.out]
  go_region_held3 (fun w' => w'.cell? ⟨g, 0, none⟩ = some (.string x.s) ∧ w'.cell? ⟨g, 0 + 1, none⟩ = some (.int .i64 x.t) ∧ w'.cell? ⟨g, 0 + 2, none⟩ = some (.int .i64 x.c) ∧ w'.cell? ⟨g, 0 + 3, none⟩ = some (.int .i64 x.l) ∧ w'.cell? ⟨g, 0 + 4, none⟩ = some (.string x.d) ∧
    w'.cell? ⟨h, 0, none⟩ = some (.string y.s) ∧ w'.cell? ⟨h, 0 + 1, none⟩ = some (.int .i64 y.t) ∧ w'.cell? ⟨h, 0 + 2, none⟩ = some (.int .i64 y.c) ∧ w'.cell? ⟨h, 0 + 3, none⟩ = some (.int .i64 y.l) ∧ w'.cell? ⟨h, 0 + 4, none⟩ = some (.string y.d)) (go_keep) (first
    | (go_at_call 16; (refine (cmpC_any HOX.out HOY.out _).mono ?_; rw [← HZ.out]; rintro e w1 ⟨rfl, hB1⟩; have hB1 := (Below.refl _ _).drew.trans hB1; obtain ⟨k0, k1, k2, k3, k4⟩ := HBX.out.keep hB1 HGL.out; obtain ⟨m0, m1, m2, m3, m4⟩ := HBY.out.keep hB1 HHL.out))
    | (go_at_call 35; (refine (cmpInt_any _ _ _).mono ?_; rintro e w2 ⟨rfl, rfl⟩))
    | (go_at_call 33; (refine (Or_any _ 2 _ _ _ _ (sees_two (Whole.new _ _ _))).mono ?_; rw [HOR.out]; rintro e w3 ⟨rfl, rfl⟩)))
  all_goals (
    have HB2 := Lib.hid (show Below W.heap.size W (w1.alloc (.cells #[.int .i64 Z, .int .i64 (sgn x.l y.l)] 3)) from hB1.alloc hB1.size _)
    clear hB1 k0 k1 k2 k3 k4 m0 m1 m2 m3 m4 p0 p1 p2 p3 p4 q0 q1 q2 q3 q4
    go_wp2_with fail
    go_ret
    exact ⟨rfl, HB0.out.trans (HB2.out.mono HB0.out.size)⟩)

/-! ### the row, as the library's contract has it -/
abbrev OkR := {x : Rrd // OkX x}
instance : Inhabited OkR := ⟨⟨wakeR, wakeR_ok⟩⟩
def encR (x : OkR) : List Value := [.string x.1.s, .int .i64 x.1.t, .int .i64 x.1.c, .int .i64 x.1.l, .string x.1.d]
def valsR (d : Array OkR) : List Rrd := d.toList.map Subtype.val
theorem flat_rcells (d : Array OkR) {t : Nat} (ht : t < d.size * 5) : (rcells (valsR d))[t]? = some (flatK encR 5 d)[t]! := by
  have hq : t / 5 < d.size := by omega
  have hr : t % 5 < 5 := Nat.mod_lt _ (by omega)
  rw [get_flatK encR 5 d t ht, getElem!_pos d (t / 5) hq]
  have hx : (valsR d)[t / 5]? = some d[t / 5].1 := by
    unfold valsR
    rw [List.getElem?_map, List.getElem?_eq_getElem (by simpa using hq)]
    simp
  obtain ⟨a0, a1, a2, a3, a4⟩ := rcells_at _ _ _ hx
  have e : t = t / 5 * 5 + t % 5 := by omega
  obtain ⟨r, hrr⟩ : ∃ r, r = t % 5 := ⟨_, rfl⟩
  rw [← hrr] at hr e ⊢
  generalize t / 5 = q at *
  subst e
  rcases (show r = 0 ∨ r = 1 ∨ r = 2 ∨ r = 3 ∨ r = 4 by omega) with rfl | rfl | rfl | rfl | rfl
  · rw [Nat.add_zero, a0]; rfl
  · rw [a1]; rfl
  · rw [a2]; rfl
  · rw [a3]; rfl
  · rw [a4]; rfl
theorem row_holds {base g n c : Nat} {d : Array OkR} {w : World} (h : RowX base g n c (valsR d) w) : HoldsK encR 5 w g 0 d := by
  have hl := h.len
  have hs : d.size = n := by rw [← hl]; simp [valsR]
  intro j hj
  rw [size_flatK] at hj
  refine ⟨?_, by rw [Nat.zero_add]; exact h.soft j⟩
  rw [Nat.zero_add, World.ownsRow.cellAt h j (by omega), flat_rcells d hj]
  rfl
theorem row_sorted {base g n c m : Nat} {d d' : Array OkR} {os : Array Obj} {w : World} (h : RowX base g n c (valsR d) w) (hs : d'.size = d.size) :
    RowX base g n c (valsR d') (sortWorldK encR 5 w g 0 m d' os) ∧ w.grownBy (sortWorldK encR 5 w g 0 m d' os) (some g) := by
  have hl := h.len
  have hsz : d.size = n := by rw [← hl]; simp [valsR]
  have hlen : (rcells (valsR d')).length = n * 5 := by rw [rcells_len]; simp [valsR]; omega
  rcases h.2 with ⟨e, _⟩ | ⟨g', cap, cur, e, hb, hg, h1, h2, h3, h4⟩
  · cases e
  · simp only [Value.slice.injEq, Option.some.injEq, Addr.mk.injEq, and_true, true_and] at e
    obtain ⟨rfl, rfl⟩ := e
    have hlt : g < w.heap.size := (Array.getElem?_eq_some_iff.1 hg).1
    have hblk : (sortWorldK encR 5 w g 0 m d' os).heap[g]? = some (.cells (putCells id 0 (flatK encR 5 d') cur) 28 (0, 0)) := by
      unfold sortWorldK grow putRowK putRow mapBlock Sort.ahead
      simp only
      rw [Array.getElem?_append_left (by simpa using hlt), Array.getElem?_modify, if_pos rfl, hg]
      rfl
    refine ⟨⟨hlen, .inr ⟨g, c, _, rfl, hb, hblk, h1, h2, by unfold putCells; simpa using h3, ?_⟩⟩, ⟨rfl, rfl, rfl, ?_, fun k hk hne => ?_⟩⟩
    · apply List.ext_getElem?
      intro j
      rw [List.getElem?_take]
      by_cases hj : j < n * 5
      · rw [if_pos hj, flat_rcells d' (by omega), Array.getElem?_toList]
        unfold putCells
        rw [Array.getElem?_mapIdx, Array.getElem?_eq_getElem (show j < cur.size by omega)]
        simp
        omega
      · rw [if_neg hj, List.getElem?_eq_none (by omega)]
    · unfold sortWorldK grow putRowK putRow mapBlock Sort.ahead
      simp
    · unfold sortWorldK grow putRowK putRow mapBlock Sort.ahead
      simp only
      rw [Array.getElem?_append_left (by simpa using hk), Array.getElem?_modify, if_neg (fun e => hne (by rw [e]))]
theorem ltY_swo : SWO (ltOf fun x y : OkR => cY x.1 y.1) where
  irrefl x := by unfold ltOf; have := cY_ord.self x.1; simp [this]
  trans x y z h k := by
    unfold ltOf at h k ⊢
    have h' : cY x.1 y.1 < 0 := of_decide_eq_true h
    have k' : cY y.1 z.1 < 0 := of_decide_eq_true k
    have h3 := cY_three x.1 y.1 z.1
    unfold Ord3 at h3
    show decide (cY x.1 z.1 < 0) = true
    exact decide_eq_true (by omega)
  ntrans x y z h k := by
    unfold ltOf at h k ⊢
    have h' : ¬ cY x.1 y.1 < 0 := of_decide_eq_false h
    have k' : ¬ cY y.1 z.1 < 0 := of_decide_eq_false k
    have h3 := cY_three z.1 y.1 x.1
    have h4 := cY_flip x.1 y.1
    have h5 := cY_flip y.1 z.1
    have h6 := cY_flip x.1 z.1
    unfold Ord3 at h3
    show decide (cY x.1 z.1 < 0) = false
    exact decide_eq_false (by omega)
/-- the list, each record with the fact that it is right -/
def subR (D : List Rrd) (h : OkL D) : Array OkR := (D.attachWith OkX h).toArray
theorem subR_vals (D : List Rrd) (h : OkL D) : valsR (subR D h) = D := by
  unfold valsR subR
  rw [List.toList_toArray]
  exact List.attachWith_map_subtype_val _
set_option maxHeartbeats 2000000 in
set_option maxRecDepth 20000 in
theorem SortF_any (base g n c : Nat) (D : List Rrd) (w : World) (hok : OkL D) (hn : n ≤ 1000000) (h : RowX base g n c D w) :
    Calls Tryz.prog 43 #[.slice (some ⟨g, 0, none⟩) n c, .func (.func 44) #[] #[]] w fun e w' =>
      e = .returned (.tuple #[]) ∧ ∃ D', D.Perm D' ∧ Srt cY D' ∧ RowX base g n c D' w' ∧ w.grownBy w' (some g) := by
  have hv := subR_vals D hok
  obtain ⟨d, hd⟩ : ∃ d, d = subR D hok := ⟨_, rfl⟩
  rw [← hd] at hv
  have hds : d.size = n := by rw [← h.len, ← hv]; simp [valsR]
  have hrow : RowX base g n c (valsR d) w := by rw [hv]; exact h
  have hlt := h.lt
  have hc : Calls Tryz.prog (sortL_ren.f 6) #[.slice (some ⟨g, 0, none⟩) d.size c, .func (.func 44) #[] #[]] w fun e w' => e = .returned (.tuple #[]) ∧ ∃ d' m os, PermIn 0 d.size d d' ∧ SortedIn (ltOf fun x y : OkR => cY x.1 y.1) 0 d.size d' ∧ w' = sortWorldK encR 5 w g 0 m d' os :=
    AnyQ.slices_SortFunc sortL 5 Tryz.isAgg28 Tryz.sizeOf28 encR (fun _ => rfl) (fun x v hv => by simp only [encR, List.mem_cons, List.not_mem_nil, or_false] at hv; rcases hv with rfl | rfl | rfl | rfl | rfl <;> rfl)
      (fun x y => cY x.1 y.1) ltY_swo 44 #[] g 0 c d w (enters_of Tryz.func44 (by kernel_rfl) rfl)
      (fun m os dk _ x y => by rw [Array.append_empty]; exact Calls.grows (byTTL_any x.2 y.2 _)) (row_holds hrow) hlt (by omega)
  rw [hds] at hc
  refine Calls.mono hc ?_
  rintro e w' ⟨rfl, d', m, os, hp, hsr, rfl⟩
  obtain ⟨hp1, _, hp3⟩ := hp
  obtain ⟨k1, k2⟩ := row_sorted (m := m) (os := os) hrow hp1
  refine ⟨rfl, valsR d', ?_, ?_, k1, k2⟩
  · rw [← hv]
    have e1 : d'.extract 0 n = d' := by rw [← hds, ← hp1]; simp
    have e2 : d.extract 0 n = d := by rw [← hds]; simp
    rw [e1, e2] at hp3
    exact (hp3.map Subtype.val).symm
  · unfold Srt
    rw [List.pairwise_iff_getElem]
    intro i j hi hj hij
    have hi' : i < d'.size := by simpa [valsR] using hi
    have hj' : j < d'.size := by simpa [valsR] using hj
    have k := hsr i j (Nat.zero_le _) hij (by omega)
    unfold ltOf at k
    have k' : ¬ cY (d'[j]!).1 (d'[i]!).1 < 0 := of_decide_eq_false k
    rw [getElem!_pos d' i hi', getElem!_pos d' j hj'] at k'
    have ei : (valsR d')[i] = d'[i].1 := by simp [valsR]
    have ej : (valsR d')[j] = d'[j].1 := by simp [valsR]
    rw [ei, ej]
    intro e
    rw [e] at k'
    exact k' (by decide)
end Go.Proofs.YtkgojdmjagicdaaGreat
