/- Same of answers; what a name that is there is answered. No statement of the seat is proved here. (written by gen_t.py) -/
import Derived.Test.YtkgihfoknpimfaaGreatLkF
namespace Go.Proofs.YtkgihfoknpimfaaGreat
open Go.RowKit Go.Op
set_option linter.unusedVariables false

set_option maxHeartbeats 8000000 in
set_option maxRecDepth 20000 in
theorem lawSame_any (a : Ans) (h1 : a.an.length ≤ 1073741824) (h2 : a.ns.length ≤ 1073741824) (h3 : a.ad.length ≤ 1073741824) (vx vy vz ux uy uz : Value) (w : World) (hx : RecsAt w vx a.an) (hy : RecsAt w vy a.ns) (hz : RecsAt w vz a.ad) (gx : RecsAt w ux a.an) (gy : RecsAt w uy a.ns) (gz : RecsAt w uz a.ad) :
    Calls Tryz.prog 12 #[.agg #[.int .i64 a.rc, .bool a.aa, vx, vy, vz], .agg #[.int .i64 a.rc, .bool a.aa, ux, uy, uz]] w fun e w' => e = .returned (.bool true) ∧ Below w.heap.size w w' := by
  obtain ⟨A1, k1, rfl, hx⟩ := hx
  obtain ⟨A2, k2, rfl, hy⟩ := hy
  obtain ⟨A3, k3, rfl, hz⟩ := hz
  obtain ⟨B1, j1, rfl, gx⟩ := gx
  obtain ⟨B2, j2, rfl, gy⟩ := gy
  obtain ⟨B3, j3, rfl, gz⟩ := gz
  have hw1 := Whole.new w anT #[.int .i64 a.rc, .bool a.aa, .slice A1 a.an.length k1, .slice A2 a.ns.length k2, .slice A3 a.ad.length k3]
  have hB1 : Below w.heap.size w (w.alloc (.cells #[.int .i64 a.rc, .bool a.aa, .slice A1 a.an.length k1, .slice A2 a.ns.length k2, .slice A3 a.ad.length k3] anT)) := (Below.refl _ _).alloc (Nat.le_refl _) _
  have hw2 := Whole.new (w.alloc (.cells #[.int .i64 a.rc, .bool a.aa, .slice A1 a.an.length k1, .slice A2 a.ns.length k2, .slice A3 a.ad.length k3] anT)) anT #[.int .i64 a.rc, .bool a.aa, .slice B1 a.an.length j1, .slice B2 a.ns.length j2, .slice B3 a.ad.length j3]
  have hB2 : Below w.heap.size w ((w.alloc (.cells #[.int .i64 a.rc, .bool a.aa, .slice A1 a.an.length k1, .slice A2 a.ns.length k2, .slice A3 a.ad.length k3] anT)).alloc (.cells #[.int .i64 a.rc, .bool a.aa, .slice B1 a.an.length j1, .slice B2 a.ns.length j2, .slice B3 a.ad.length j3] anT)) := hB1.alloc hB1.size _
  have hw1' : Whole ((w.alloc (.cells #[.int .i64 a.rc, .bool a.aa, .slice A1 a.an.length k1, .slice A2 a.ns.length k2, .slice A3 a.ad.length k3] anT)).alloc (.cells #[.int .i64 a.rc, .bool a.aa, .slice B1 a.an.length j1, .slice B2 a.ns.length j2, .slice B3 a.ad.length j3] anT)) w.heap.size anT #[.int .i64 a.rc, .bool a.aa, .slice A1 a.an.length k1, .slice A2 a.ns.length k2, .slice A3 a.ad.length k3] := hw1.alloc _
  rw [World.size_alloc] at hw2
  have HW1 := Lib.hid hw1'
  have HW2 := Lib.hid hw2
  have HB0 := Lib.hid hB2
  have HX0 := Lib.hid ((hx.keep hB2).more hB2.size)
  have HY0 := Lib.hid ((hy.keep hB2).more hB2.size)
  have HZ0 := Lib.hid ((hz.keep hB2).more hB2.size)
  have GX0 := Lib.hid ((gx.keep hB2).more hB2.size)
  have GY0 := Lib.hid ((gy.keep hB2).more hB2.size)
  have GZ0 := Lib.hid ((gz.keep hB2).more hB2.size)
  obtain ⟨c0, c1, c2, c3, c4⟩ := an_cells hw1'
  obtain ⟨d0, d1, d2, d3, d4⟩ := an_cells hw2
  have g0 : (a.rc == a.rc) = true := by simp
  have g1 : (a.aa == a.aa) = true := by simp
  have HL1 := Lib.hid h1
  have HL2 := Lib.hid h2
  have HL3 := Lib.hid h3
  clear hw1 hB1 hw2 hB2 hw1' hx hy hz gx gy gz h1 h2 h3
  go_enter Tryz.func12, Tryz.ntmps12
  go_wp2_with fail
  refine (Same_any A1 B1 a.an.length k1 a.an.length j1 a.an a.an _ HX0.out GX0.out HL1.out).mono ?_
  rw [show sameX a.an a.an = true from sameX_is.2 rfl]
  rintro e w1 ⟨rfl, hB⟩
  have HB1 := Lib.hid (HB0.out.trans (hB.mono HB0.out.size))
  have HY1 := Lib.hid ((HY0.out.keep hB).more hB.size)
  have HZ1 := Lib.hid ((HZ0.out.keep hB).more hB.size)
  have GY1 := Lib.hid ((GY0.out.keep hB).more hB.size)
  have GZ1 := Lib.hid ((GZ0.out.keep hB).more hB.size)
  replace HW1 := Lib.hid (HW1.out.below hB HW1.out.lt)
  replace HW2 := Lib.hid (HW2.out.below hB HW2.out.lt)
  clear c0 c1 c2 c3 c4 d0 d1 d2 d3 d4
  obtain ⟨c0, c1, c2, c3, c4⟩ := an_cells HW1.out
  obtain ⟨d0, d1, d2, d3, d4⟩ := an_cells HW2.out
  clear hB
  go_wp2_with fail
  refine (Same_any A2 B2 a.ns.length k2 a.ns.length j2 a.ns a.ns _ HY1.out GY1.out HL2.out).mono ?_
  rw [show sameX a.ns a.ns = true from sameX_is.2 rfl]
  rintro e w2 ⟨rfl, hB⟩
  have HB2 := Lib.hid (HB1.out.trans (hB.mono HB1.out.size))
  have HY2 := Lib.hid ((HY1.out.keep hB).more hB.size)
  have HZ2 := Lib.hid ((HZ1.out.keep hB).more hB.size)
  have GY2 := Lib.hid ((GY1.out.keep hB).more hB.size)
  have GZ2 := Lib.hid ((GZ1.out.keep hB).more hB.size)
  replace HW1 := Lib.hid (HW1.out.below hB HW1.out.lt)
  replace HW2 := Lib.hid (HW2.out.below hB HW2.out.lt)
  clear c0 c1 c2 c3 c4 d0 d1 d2 d3 d4
  obtain ⟨c0, c1, c2, c3, c4⟩ := an_cells HW1.out
  obtain ⟨d0, d1, d2, d3, d4⟩ := an_cells HW2.out
  clear hB
  go_wp2_with fail
  refine (Same_any A3 B3 a.ad.length k3 a.ad.length j3 a.ad a.ad _ HZ2.out GZ2.out HL3.out).mono ?_
  rw [show sameX a.ad a.ad = true from sameX_is.2 rfl]
  rintro e w3 ⟨rfl, hB⟩
  have HB3 := Lib.hid (HB2.out.trans (hB.mono HB2.out.size))
  clear hB
  go_wp2_with fail
  go_ret
  exact ⟨rfl, HB3.out⟩

/-- a name that is there, without a cut -/
theorem ask_there {nn : List UInt8} {D : List Rrd} (gz : GoodZ nn D) {r : Rrd} (hr : r ∈ D) (hc : cutZ D nn (nmX r) = none) (h5 : r.t ≠ 5) :
    askZ D nn (nmX r) r.t = ⟨0, true, typX r.t (atX (nmX r) D), [], []⟩ := by
  have hok := gz.ok r hr
  have hnm : (nameL (nmX r)).isSome = true := hok.nm
  have hz := gz.isz
  have hg : goodR nn r = true := by
    unfold isZ at hz
    rw [Bool.and_eq_true, List.all_eq_true] at hz
    exact hz.1 r hr
  unfold goodR at hg
  rw [Bool.and_eq_true, Bool.and_eq_true, decide_eq_true_eq] at hg
  obtain ⟨_, hdt, hun⟩ := hg
  have hself : alikeN (nmX r) (nmX r) = true := by rw [alike_key hnm hnm]; exact decide_eq_true rfl
  have hat : r ∈ atX (nmX r) D := atX_mem.2 ⟨hr, hself⟩
  have hth : thereX (nmX r) D = true := by
    rw [there_is gz.ks gz.ok]
    cases h : atX (nmX r) D with
    | nil => rw [h] at hat; cases hat
    | cons x l => rfl
  have hk : knownZ D (nmX r) = true := by unfold knownZ; rw [hth]; rfl
  have hf := fnd_known hun hk
  have h255 : r.t ≠ 255 := by
    intro e
    rw [e] at hdt
    simp [dataT] at hdt
  have hno : typX 5 (atX (nmX r) D) = [] := by
    rw [List.eq_nil_iff_forall_not_mem]
    intro y hy
    obtain ⟨hy1, hy5⟩ := typX_mem.1 hy
    obtain ⟨hyD, hya⟩ := atX_mem.1 hy1
    rw [isZ_ref gz.ks gz.ok] at hz
    unfold refZ at hz
    rw [Bool.and_eq_true, List.all_eq_true] at hz
    have h1 := hz.1 y hyD
    unfold refG at h1
    rw [Bool.and_eq_true, Bool.and_eq_true] at h1
    have h2 := h1.2.2
    rw [at_alike hya, decide_eq_true hy5, Bool.true_and, Bool.not_not] at h2
    have h3 := of_decide_eq_true h2
    obtain ⟨z, hz1⟩ := List.length_eq_one_iff.1 h3
    rw [hz1] at hat hy1
    rw [List.mem_singleton] at hat hy1
    exact h5 (by rw [hat, ← hy1]; exact hy5)
  have hty : r ∈ typX r.t (atX (nmX r) D) := typX_mem.2 ⟨hat, rfl⟩
  have hs := step_typed (D := D) (nn := nn) (n := nmX r) (t := r.t) ansO [] hc (by rw [hf]) h255 (by rw [hf]; intro h; have := h.2; rw [hno] at this; simp at this)
  unfold askZ
  rw [if_pos hun, askF, hs, hf]
  show (⟨0, true, [] ++ typX r.t (atX (nmX r) D), if (typX r.t (atX (nmX r) D)).length = 0 then [noZ D] else [], []⟩ : Ans) = _
  rw [if_neg (by have := List.length_pos_of_mem hty; omega), List.nil_append]
end Go.Proofs.YtkgihfoknpimfaaGreat
