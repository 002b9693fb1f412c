/- ReE: texts RecE of our own, joined. No statement of the seat is proved here. -/
import Derived.Test.YtokjmefleanjaaaReA
import Derived.Test.YtokjmefleanjaaaRdG
namespace Go.Proofs.Ytokjmefleanjaaa
open Go.RowKit

def typB (c : Int) (e : Bool) : Bool := c == 1 || (c == 254 && !e)
theorem typ_is (t c : Int) (d : List UInt8) : tyd t c d.length = if typB c d.isEmpty = true then t else 0 := by
  unfold tyd typB
  cases d with
  | nil => simp
  | cons x d => simp
theorem empty_of {D : ByteArray} {d : List UInt8} (hD : D = mk d) : D.toList.isEmpty = d.isEmpty := by
  rw [hD, mk_isEmpty]

/-- a record of ours for one that came in -/
def recOf (N D : ByteArray) (t c l : Int) : Rec := ⟨N.data.toList, t, c, l, D.data.toList⟩
theorem recOf_n (N D : ByteArray) (t c l : Int) : N = mk (recOf N D t c l).n := (mk_toList N).symm
theorem recOf_d (N D : ByteArray) (t c l : Int) : D = mk (recOf N D t c l).d := (mk_toList D).symm

theorem three_new (w : World) (a b c : Array Value) (ta tb tc : TypeId) :
    Whole (((w.alloc (.cells a ta)).alloc (.cells b tb)).alloc (.cells c tc)) w.heap.size ta a ∧ Whole (((w.alloc (.cells a ta)).alloc (.cells b tb)).alloc (.cells c tc)) (w.heap.size + 1) tb b ∧
    Whole (((w.alloc (.cells a ta)).alloc (.cells b tb)).alloc (.cells c tc)) (w.heap.size + 1 + 1) tc c ∧ Below w.heap.size w (((w.alloc (.cells a ta)).alloc (.cells b tb)).alloc (.cells c tc)) := by
  have h0 := Whole.new w ta a
  have h1 := Whole.new (w.alloc (.cells a ta)) tb b
  have h2 := Whole.new ((w.alloc (.cells a ta)).alloc (.cells b tb)) tc c
  simp only [World.size_alloc] at h1 h2
  exact ⟨(h0.alloc _).alloc _, h1.alloc _, h2, (((Below.refl _ _).alloc (Nat.le_refl _) _).alloc (by simp) _).alloc (by simp; omega) _⟩

end Go.Proofs.Ytokjmefleanjaaa
