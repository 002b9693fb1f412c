/- RrH: texts RrsH, RrsI of our own, joined. No statement of the seat is proved here. -/
import Derived.Test.YtkmmbbcmpjkmkaaRrE
import Derived.Deep.RegionLaw
import Derived.Deep.RegionHeld3
namespace Go.Proofs.Ytkmmbbcmpjkmkaa
open Go.RowKit Go.Op

theorem own_keep {w w' : World} {b : Nat} {e : TypeId} {k : Nat} {v : Value} {n : Nat} {xs : List Value} (h : w.ownsRow b e k v n xs) (hb : Below w.heap.size w w') : w'.ownsRow b e k v n xs := by
  obtain ⟨h1, h2⟩ := h
  refine ⟨h1, ?_⟩
  rcases h2 with h2 | ⟨g, cap, cur, h3, h4, h5, h6⟩
  · exact .inl h2
  · exact .inr ⟨g, cap, cur, h3, h4, (hb.block g (Array.getElem?_eq_some_iff.1 h5).1).trans h5, h6⟩
theorem refP_step {r x : Rrd} {xs : List Rrd} {k : Nat} (hx : xs[k]? = some x) (d : Bool) :
    refP cmpX r (xs.drop k) d = (if cmpX r x ≤ 0 ∧ d = false then [r] else []) ++ ((if cmpX r x = 0 then [] else [x]) ++ refP cmpX r (xs.drop (k + 1)) (d || decide (cmpX r x ≤ 0))) := by
  obtain ⟨l1, rfl⟩ := List.getElem?_eq_some_iff.1 hx
  rw [List.drop_eq_getElem_cons l1, refP]
/-- what the reference's Put has laid when it has gone through k records -/
def PutAt (W : World) (r : Rrd) (xs : List Rrd) (k : Nat) (v : Value) (d : Bool) (wr : World) : Prop :=
  ∃ O : List Rrd, wr.ownsRow W.heap.size 27 5 v O.length (rcells O) ∧ O ++ refP cmpX r (xs.drop k) d = refP cmpX r xs false ∧ O.length ≤ 2 * k ∧ Below W.heap.size W wr

end Go.Proofs.Ytkmmbbcmpjkmkaa
namespace Go.Proofs.Ytkmmbbcmpjkmkaa
open Go.RowKit Go.Op

theorem idxX_step {r x : Rrd} {xs : List Rrd} {k : Nat} (hx : xs[k]? = some x) : idxX cmpX r (xs.drop k) = if cmpX x r = 0 then 0 else idxX cmpX r (xs.drop (k + 1)) + 1 := by
  obtain ⟨l1, rfl⟩ := List.getElem?_eq_some_iff.1 hx
  rw [List.drop_eq_getElem_cons l1, idxX]
/-- the place of the record that is one with r, or -1 -/
def plX (r : Rrd) (xs : List Rrd) : Int := if hitX cmpX r xs = true then (posX cmpX r xs : Nat) else -1

end Go.Proofs.Ytkmmbbcmpjkmkaa
