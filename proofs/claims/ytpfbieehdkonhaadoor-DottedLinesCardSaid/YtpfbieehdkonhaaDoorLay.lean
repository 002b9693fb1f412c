/- What the program's text lays in the variable 'weights': read off the condition; the door's own heap meets it. No statement of the seat is proved here. -/
import Derived.Test.YtpfbieehdkonhaaDoorRows
import Derived.Test.YtpfbieehdkonhaaDoorFrame
import Derived.Test.YtpfbieehdkonhaaDoorDotA
import Derived.LaidMore
import Derived.OpenShut
import Derived.Stop.Joined
namespace Go.Proofs.YtpfbieehdkonhaaDoor
open Go.ChangeShapes Go.WideShapes Go.ChangeAt Go.RowKit

def weightsLaid : List (String × DataW Unit) := Rows.dottedTextsRow.laid
theorem weights_named : Tryd.prog.globalNamed (weightsLaid.headD (default, .nil)).1 = some 0 := by kernel_rfl
theorem weights_type : (Tryd.prog.globals[0]?).map (·.type) = some 53 := by kernel_rfl
theorem door_met (os : Os) (args : Array Value) : laidMetH Tryd.prog weightsLaid ((World.doorLaid Tryd.prog 14 os).forCall (fun _ _ => 0) ⟨#[], args, []⟩).memory :=
  laidMetH_of_parts3 (fuel := 8) (laidMet_of_run' 8 (by kernel_rfl) (by kernel_rfl)) (by kernel_rfl) (by kernel_rfl)

theorem wts_of_laid {W : World} (h : laidMetH Tryd.prog weightsLaid W) : Wts W := by
  rw [MakeChecks.laidMetH_plain _ _ _ (by kernel_rfl)] at h
  obtain ⟨ps, ⟨g0, t0, cs0, f0, p0, q0, hg0, ht0, hv0, hd0, _, _⟩, _, _⟩ := h
  obtain rfl := Option.some.inj (weights_named.symm.trans hg0)
  obtain rfl := Option.some.inj (weights_type.symm.trans ht0)
  obtain ⟨xs, m1, rfl, hx1, hlen, hn3, hel⟩ := DataW.trod_array Tryd.underlying53 hd0
  have c3 : Tryd.prog.cellsOf 3 = 1 := by kernel_rfl
  have c53 : Tryd.prog.cellsOf 53 = 3 := by kernel_rfl
  have h0 := hel 0 (by decide)
  have h1 := hel 1 (by decide)
  have h2 := hel 2 (by decide)
  rw [c53] at hlen
  obtain ⟨l⟩ := cs0
  match l, hlen, xs, hn3, hx1, h0, h1, h2 with
  | [a, b, c], _, [x0, x1, x2], _, hx1, h0, h1, h2 =>
    rw [c3] at h0 h1 h2
    simp only [Prod.mk.injEq, Rows.laid_beadroll_dotted_weights, DataW.agg.injEq, List.map_cons, List.map_nil, List.cons.injEq] at hx1
    obtain ⟨k0, e0, d0, _⟩ := DataW.trod_int Tryd.underlying3 (show DataW.trod _ Tryd.prog W 0 _ false m1 3 _ = some x0 from h0)
    obtain ⟨k1, e1, d1, _⟩ := DataW.trod_int Tryd.underlying3 (show DataW.trod _ Tryd.prog W 0 _ false m1 3 _ = some x1 from h1)
    obtain ⟨k2, e2, d2, _⟩ := DataW.trod_int Tryd.underlying3 (show DataW.trod _ Tryd.prog W 0 _ false m1 3 _ = some x2 from h2)
    rw [d0, d1, d2] at hx1
    simp only [DataW.lit.injEq, Lit.int.injEq, true_and] at hx1
    simp at e0 e1 e2
    obtain ⟨⟨q0, q1, q2, _⟩, _⟩ := hx1
    have v0 := World.var?_cell hg0 hv0 0
    have v1 := World.var?_cell hg0 hv0 1
    have v2 := World.var?_cell hg0 hv0 2
    refine ⟨?_, ?_, ?_⟩
    · rw [v0, show (100 : Int) = k0 from q0, ← e0]; rfl
    · rw [v1, show (10 : Int) = k1 from q1, ← e1]; rfl
    · rw [v2, show (1 : Int) = k2 from q2, ← e2]; rfl
end Go.Proofs.YtpfbieehdkonhaaDoor
