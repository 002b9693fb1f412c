/- A region that draws its order, whose operations only read and whose callees make memory of their own, walked once. No statement of the seat is proved here. -/
import Derived.Test.YtdanncclnhkmgaaOctA
import Derived.Deep.QuietTactic
import Derived.WalkMore
import Derived.BigQuiet
namespace Go.Proofs.Ytdanncclnhkmgaa
open Go.RowKit

/-- a world that comes of w by what calls make anew -/
structure Later (w : World) where
  val : World
  below : Below w.heap.size w val
instance (w : World) : Nonempty (Later w) := ⟨⟨w, Below.refl _ _⟩⟩
theorem region_later {id : Nat} {Q : Exit → Act → World → Prop} {a : Act} {w : World} {l : List Oper} (hB : Region.lexB .any l.toArray = true)
    (h : wpQuiet Try.prog l.toArray (fun w' => ∃ p : Later w, w' = p.val) (fun a' => ∀ w', (∃ p : Later w, w' = p.val) → Q .normal a' w') l a) : (Code.region id l.toArray true).wp Try.prog Q a w :=
  wp_region_quiet (C := fun w' => ∃ p : Later w, w' = p.val) (by kernel_rfl) hB ⟨⟨w.drew, (Below.refl _ w).drew⟩, rfl⟩ (by simpa using h)
theorem later_call {f : FuncId} {args : Array Value} {w : World} {p : Later w} {v : Value} (h : Calls Try.prog f args p.val fun e w' => e = .returned v ∧ Below p.val.heap.size p.val w') :
    Calls Try.prog f args p.val fun e w'' => e = .returned v ∧ ∃ q : Later w, w'' = q.val :=
  h.mono fun _ w' ⟨he, hb⟩ => ⟨he, ⟨w', p.below.trans (hb.mono p.below.size)⟩, rfl⟩
theorem later_same {f : FuncId} {args : Array Value} {w : World} {p : Later w} {v : Value} (h : Calls Try.prog f args p.val fun e w' => e = .returned v ∧ p.val = w') :
    Calls Try.prog f args p.val fun e w'' => e = .returned v ∧ ∃ q : Later w, w'' = q.val :=
  h.mono fun _ _ ⟨he, hb⟩ => ⟨he, p, hb.symm⟩
theorem Whole.later {w : World} {g : Nat} {t : TypeId} {cs : Array Value} (h : Whole w g t cs) (q : Later w) : Whole q.val g t cs := h.below q.below h.lt
end Go.Proofs.Ytdanncclnhkmgaa
