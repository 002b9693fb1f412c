/- What RecN needs of RecE and RecH. No statement of the seat is proved here. (written by split_w.py) -/
import Derived.Test.YtdanncclnhkmgaaRecC
import Derived.Test.YtdanncclnhkmgaaRdaH
namespace Go.Proofs.Ytdanncclnhkmgaa
open Go.RowKit

def typB (c : Int) (e : Bool) : Bool := c == 1 || (c == 254 && !e)
theorem typ_is (t c : Int) (d : List UInt8) : tyd t c d.length = if typB c d.isEmpty = true then t else 0 := by
  unfold tyd typB
  cases d with
  | nil => simp
  | cons x d => simp
theorem typed_any (c : Int) (e : Bool) (w : World) : Calls Try.prog 29 #[.int .i64 c, .bool e] w fun en w' => en = .returned (.bool (typB c e)) ∧ w = w' := by
  cases h1 : (c == 1) with
  | true =>
    have HE := Lib.hid (show typB c e = true by unfold typB; rw [h1]; rfl)
    go_enter Try.func29, Try.ntmps29
    go_wp2_with fail
    go_ret
    exact ⟨by rw [HE.out]; rfl, rfl⟩
  | false =>
    cases h2 : (c == 254) with
    | false =>
      have HE := Lib.hid (show typB c e = false by unfold typB; rw [h1, h2]; rfl)
      go_enter Try.func29, Try.ntmps29
      go_wp2_with fail
      go_ret
      exact ⟨by rw [HE.out]; rfl, rfl⟩
    | true =>
      cases e
      · have HE := Lib.hid (show typB c false = true by unfold typB; rw [h1, h2]; rfl)
        go_enter Try.func29, Try.ntmps29
        go_wp2_with fail
        go_ret
        exact ⟨by rw [HE.out]; rfl, rfl⟩
      · have HE := Lib.hid (show typB c true = false by unfold typB; rw [h1, h2]; rfl)
        go_enter Try.func29, Try.ntmps29
        go_wp2_with fail
        go_ret
        exact ⟨by rw [HE.out]; rfl, rfl⟩
theorem empty_of {D : ByteArray} {d : List UInt8} (hD : D = mk d) : D.toList.isEmpty = d.isEmpty := by
  rw [hD, mk_isEmpty]

end Go.Proofs.Ytdanncclnhkmgaa
namespace Go.Proofs.Ytdanncclnhkmgaa
open Go.RowKit

theorem three_new (w : World) (a b c : Array Value) (ta tb tc : TypeId) :
    Whole (((w.alloc (.cells a ta)).alloc (.cells b tb)).alloc (.cells c tc)) w.heap.size ta a ∧ Whole (((w.alloc (.cells a ta)).alloc (.cells b tb)).alloc (.cells c tc)) (w.heap.size + 1) tb b ∧
    Whole (((w.alloc (.cells a ta)).alloc (.cells b tb)).alloc (.cells c tc)) (w.heap.size + 1 + 1) tc c ∧ Below w.heap.size w (((w.alloc (.cells a ta)).alloc (.cells b tb)).alloc (.cells c tc)) := by
  have h0 := Whole.new w ta a
  have h1 := Whole.new (w.alloc (.cells a ta)) tb b
  have h2 := Whole.new ((w.alloc (.cells a ta)).alloc (.cells b tb)) tc c
  simp only [World.size_alloc] at h1 h2
  exact ⟨(h0.alloc _).alloc _, h1.alloc _, h2, (((Below.refl _ _).alloc (Nat.le_refl _) _).alloc (by simp) _).alloc (by simp; omega) _⟩

end Go.Proofs.Ytdanncclnhkmgaa
