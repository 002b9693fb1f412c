/- ReE: texts RecE, RecF of our own, joined. No statement of the seat is proved here. -/
import Derived.Test.YtkmmbbcmpjkmkaaReC
import Derived.Test.YtkmmbbcmpjkmkaaRdG
import Derived.Test.YtkmmbbcmpjkmkaaNaK
import Derived.Test.YtkmmbbcmpjkmkaaNaO
namespace Go.Proofs.Ytkmmbbcmpjkmkaa
open Go.RowKit

def typB (c : Int) (e : Bool) : Bool := c == 1 || (c == 254 && !e)
theorem typ_is (t c : Int) (d : List UInt8) : tyd t c d.length = if typB c d.isEmpty = true then t else 0 := by
  unfold tyd typB
  cases d with
  | nil => simp
  | cons x d => simp
theorem empty_of {D : ByteArray} {d : List UInt8} (hD : D = mk d) : D.toList.isEmpty = d.isEmpty := by
  rw [hD, mk_isEmpty]

end Go.Proofs.Ytkmmbbcmpjkmkaa
namespace Go.Proofs.Ytkmmbbcmpjkmkaa
open Go.RowKit Go.Op

def fewB (n d : Nat) : Bool := decide (n ≤ 600) && decide (d ≤ 2000)
theorem name_A : nameL [1, 65, 0] = some [[65]] := nameL_enc (L := [[65]]) (by intro x hx; simp at hx; subst hx; simp) (by decide)
theorem name_a : nameL [1, 97, 0] = some [[97]] := nameL_enc (L := [[97]]) (by intro x hx; simp at hx; subst hx; simp) (by decide)
theorem right_abcd : rightR 1 [97, 98, 99, 100] = true := by
  have h := (right_of (t := 1) (V := [(4, [97, 98, 99, 100])]) ⟨by simp [Part], by simp [Okp], by simp, trivial⟩ rfl (by simp [cat])).1
  simpa [cat] using h
theorem awake_ok : okR ⟨[1, 65, 0], 1, 1, 5, [97, 98, 99, 100]⟩ = true := by
  unfold okR
  rw [name_A, show tyd 1 1 ([97, 98, 99, 100] : List UInt8).length = 1 from rfl, right_abcd]
  rfl
theorem awake_one : oneR ⟨[1, 65, 0], 1, 1, 5, [97, 98, 99, 100]⟩ ⟨[1, 97, 0], 1, 1, 0, [97, 98, 99, 100]⟩ = true := by
  unfold oneR alikeN
  rw [name_A, name_a]
  decide
/-- a record of ours for one that came in -/
def recOf (N D : ByteArray) (t c l : Int) : Rec := ⟨N.data.toList, t, c, l, D.data.toList⟩
theorem recOf_n (N D : ByteArray) (t c l : Int) : N = mk (recOf N D t c l).n := (mk_toList N).symm
theorem recOf_d (N D : ByteArray) (t c l : Int) : D = mk (recOf N D t c l).d := (mk_toList D).symm

theorem three_new (w : World) (a b c : Array Value) (ta tb tc : TypeId) :
    Whole (((w.alloc (.cells a ta)).alloc (.cells b tb)).alloc (.cells c tc)) w.heap.size ta a ∧ Whole (((w.alloc (.cells a ta)).alloc (.cells b tb)).alloc (.cells c tc)) (w.heap.size + 1) tb b ∧
    Whole (((w.alloc (.cells a ta)).alloc (.cells b tb)).alloc (.cells c tc)) (w.heap.size + 1 + 1) tc c ∧ Below w.heap.size w (((w.alloc (.cells a ta)).alloc (.cells b tb)).alloc (.cells c tc)) := by
  have h0 := Whole.new w ta a
  have h1 := Whole.new (w.alloc (.cells a ta)) tb b
  have h2 := Whole.new ((w.alloc (.cells a ta)).alloc (.cells b tb)) tc c
  simp only [World.size_alloc] at h1 h2
  exact ⟨(h0.alloc _).alloc _, h1.alloc _, h2, (((Below.refl _ _).alloc (Nat.le_refl _) _).alloc (by simp) _).alloc (by simp; omega) _⟩

end Go.Proofs.Ytkmmbbcmpjkmkaa
