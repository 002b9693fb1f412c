/- The widths and the comparisons: each of these small functions returns what its text says (lists shorter than 2^30). -/
import Derived.Test.YtpfbieehdkonhaaDoorKit
import Derived.Test.YtpfbieehdkonhaaDoorOctMath
import Derived.Test.YtpfbieehdkonhaaDoorRows
import Derived.WalkKit
import Derived.WalkSpells
import Derived.Deep.QuietTactic
import Derived.BigQuiet
namespace Go.Proofs.YtpfbieehdkonhaaDoor
open Go.RowKit

theorem isPieceWidth_any (n : Int) (w : World) : Calls Tryd.prog 49 #[.int .i64 n] w fun e w' => e = .returned (.bool (pB n)) ∧ w = w' := by
  by_cases h1 : n = 1
  · subst h1
    go_enter Tryd.func49, Tryd.ntmps49
    go_wp2
    go_ret
    exact ⟨rfl, rfl⟩
  by_cases h2 : n = 2
  · subst h2
    go_enter Tryd.func49, Tryd.ntmps49
    go_wp2
    go_ret
    exact ⟨rfl, rfl⟩
  by_cases h4 : n = 4
  · subst h4
    go_enter Tryd.func49, Tryd.ntmps49
    go_wp2
    go_ret
    exact ⟨rfl, rfl⟩
  have e1 : (n == 1) = false := by simpa using h1
  have e2 : (n == 2) = false := by simpa using h2
  have e4 : (n == 4) = false := by simpa using h4
  have f : pB n = false := by simp [pB, e1, e2, e4]
  go_enter Tryd.func49, Tryd.ntmps49
  go_wp2
  go_ret
  exact ⟨ret_bool f.symm, rfl⟩
def ints (k : IntKind) (zs : List Int) : List Value := zs.map (Value.int k)
theorem ints_at {w : World} {B : Nat} {A : Option Addr} {n : Nat} {kd : IntKind} {zs : List Int} (h : Sees w B A n (ints kd zs)) {k : Nat} (hk : k < n) :
    ∃ b off, A = some ⟨b, off, none⟩ ∧ b < B ∧ w.cell? ⟨b, off + k, none⟩ = some (.int kd (zs.getD k 0)) := by
  obtain ⟨b, off, e, hb, hc⟩ := h.addr (by omega)
  have hl : k < zs.length := by have := h.len; simp [ints] at this; omega
  exact ⟨b, off, e, hb, hc k _ (by simp [ints, List.getD, hl])⟩

theorem same_lists {x y : List Value} : x.length = y.length → (∀ j, j < x.length → x[j]? = y[j]?) → x = y := by
  intro h1 h2
  apply List.ext_getElem? 
  intro j
  by_cases hj : j < x.length
  · exact h2 j hj
  · rw [List.getElem?_eq_none (by omega), List.getElem?_eq_none (by omega)]

def texts (l : List ByteArray) : List Value := l.map Value.string
theorem texts_at {w : World} {B : Nat} {A : Option Addr} {n : Nat} {zs : List ByteArray} (h : Sees w B A n (texts zs)) {k : Nat} (hk : k < n) :
    ∃ b off, A = some ⟨b, off, none⟩ ∧ b < B ∧ w.cell? ⟨b, off + k, none⟩ = some (.string (zs.getD k ByteArray.empty)) := by
  obtain ⟨b, off, e, hb, hc⟩ := h.addr (by omega)
  have hl : k < zs.length := by have := h.len; simp [texts] at this; omega
  exact ⟨b, off, e, hb, hc k _ (by simp [texts, List.getD, hl])⟩

/-- what Split leaves: the result, a list of its own, and all that was there as it was -/
def SplitLeaves (s : ByteArray) (ws : List Int) (w : World) (e : Ending) (w' : World) : Prop :=
  ∃ A c, e = .returned (.tuple #[.slice A (splitR s ws).1.length c, .string (splitR s ws).2.1, .int .i64 (splitR s ws).2.2]) ∧
    Sees w' w'.heap.size A (splitR s ws).1.length (ints .u64 (splitR s ws).1) ∧ Below w.heap.size w w'

theorem u64_info : (Tryd.prog.info? 76).map (fun i => (i.zero, i.size, i.bytes)) = some (some (.int .u64 0), 1, 8) := by kernel_rfl

end Go.Proofs.YtpfbieehdkonhaaDoor
