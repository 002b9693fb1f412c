/- The widths and the comparisons: each of these small functions returns what its text says (lists shorter than 2^30). -/
import Derived.Test.YtdanncclnhkmgaaKit
import Derived.Test.YtdanncclnhkmgaaOctMath
import Derived.Test.YtdanncclnhkmgaaRows
import Derived.WalkKit
import Derived.WalkSpells
import Derived.Deep.QuietTactic
import Derived.BigQuiet
namespace Go.Proofs.Ytdanncclnhkmgaa
open Go.RowKit

theorem isWidth_any (n : Int) (w : World) : Calls Try.prog 105 #[.int .i64 n] w fun e w' => e = .returned (.bool (wB n)) ∧ w = w' := by
  by_cases h1 : n = 1
  · subst h1
    go_enter Try.func105, Try.ntmps105
    go_wp2
    go_ret
    exact ⟨rfl, rfl⟩
  by_cases h2 : n = 2
  · subst h2
    go_enter Try.func105, Try.ntmps105
    go_wp2
    go_ret
    exact ⟨rfl, rfl⟩
  by_cases h4 : n = 4
  · subst h4
    go_enter Try.func105, Try.ntmps105
    go_wp2
    go_ret
    exact ⟨rfl, rfl⟩
  by_cases h8 : n = 8
  · subst h8
    go_enter Try.func105, Try.ntmps105
    go_wp2
    go_ret
    exact ⟨rfl, rfl⟩
  have e1 : (n == 1) = false := by simpa using h1
  have e2 : (n == 2) = false := by simpa using h2
  have e4 : (n == 4) = false := by simpa using h4
  have e8 : (n == 8) = false := by simpa using h8
  have f : wB n = false := by simp [wB, e1, e2, e4, e8]
  go_enter Try.func105, Try.ntmps105
  go_wp2
  go_ret
  exact ⟨ret_bool f.symm, rfl⟩
theorem isPieceWidth_any (n : Int) (w : World) : Calls Try.prog 86 #[.int .i64 n] w fun e w' => e = .returned (.bool (pB n)) ∧ w = w' := by
  by_cases h1 : n = 1
  · subst h1
    go_enter Try.func86, Try.ntmps86
    go_wp2
    go_ret
    exact ⟨rfl, rfl⟩
  by_cases h2 : n = 2
  · subst h2
    go_enter Try.func86, Try.ntmps86
    go_wp2
    go_ret
    exact ⟨rfl, rfl⟩
  by_cases h4 : n = 4
  · subst h4
    go_enter Try.func86, Try.ntmps86
    go_wp2
    go_ret
    exact ⟨rfl, rfl⟩
  have e1 : (n == 1) = false := by simpa using h1
  have e2 : (n == 2) = false := by simpa using h2
  have e4 : (n == 4) = false := by simpa using h4
  have f : pB n = false := by simp [pB, e1, e2, e4]
  go_enter Try.func86, Try.ntmps86
  go_wp2
  go_ret
  exact ⟨ret_bool f.symm, rfl⟩
theorem Width_any (n : Int) (w : World) : Calls Try.prog 110 #[.int .i64 n] w fun e w' => e = .returned (.bool (wB n)) ∧ w = w' := by
  by_cases h1 : n = 1
  · subst h1
    go_enter Try.func110, Try.ntmps110
    go_wp2
    go_ret
    exact ⟨rfl, rfl⟩
  by_cases h2 : n = 2
  · subst h2
    go_enter Try.func110, Try.ntmps110
    go_wp2
    go_ret
    exact ⟨rfl, rfl⟩
  by_cases h4 : n = 4
  · subst h4
    go_enter Try.func110, Try.ntmps110
    go_wp2
    go_ret
    exact ⟨rfl, rfl⟩
  by_cases h8 : n = 8
  · subst h8
    go_enter Try.func110, Try.ntmps110
    go_wp2
    go_ret
    exact ⟨rfl, rfl⟩
  have e1 : (n == 1) = false := by simpa using h1
  have e2 : (n == 2) = false := by simpa using h2
  have e4 : (n == 4) = false := by simpa using h4
  have e8 : (n == 8) = false := by simpa using h8
  have f : wB n = false := by simp [wB, e1, e2, e4, e8]
  go_enter Try.func110, Try.ntmps110
  go_wp2
  go_ret
  exact ⟨ret_bool f.symm, rfl⟩

def ints (k : IntKind) (zs : List Int) : List Value := zs.map (Value.int k)
theorem ints_at {w : World} {B : Nat} {A : Option Addr} {n : Nat} {kd : IntKind} {zs : List Int} (h : Sees w B A n (ints kd zs)) {k : Nat} (hk : k < n) :
    ∃ b off, A = some ⟨b, off, none⟩ ∧ b < B ∧ w.cell? ⟨b, off + k, none⟩ = some (.int kd (zs.getD k 0)) := by
  obtain ⟨b, off, e, hb, hc⟩ := h.addr (by omega)
  have hl : k < zs.length := by have := h.len; simp [ints] at this; omega
  exact ⟨b, off, e, hb, hc k _ (by simp [ints, List.getD, hl])⟩

set_option maxHeartbeats 400000 in
theorem allWidths_any (A : Option Addr) (n c B : Nat) (zs : List Int) (w : World) (h : Sees w B A n (ints .i64 zs)) (hn : n ≤ 1073741824) :
    Calls Try.prog 83 #[.slice A n c] w fun e w' => e = .returned (.bool (zs.all wB)) ∧ w = w' := by
  have hlen : zs.length = n := by simpa [ints] using h.len
  go_enter Try.func83, Try.ntmps83
  go_wp2_with fail
  go_loop [7] (fun i => ∃ k : Nat, k ≤ n ∧ i = .int .i64 k ∧ (zs.take k).all wB = true) (fun i => n - (intOf i).toNat)
  case atStart => exact ⟨0, Nat.zero_le _, rfl, rfl⟩
  case round =>
    obtain ⟨k, hk, rfl, hr⟩ := hrel
    have Hr := Lib.hid hr
    clear hr
    by_cases hlt : k < n
    · obtain ⟨b, off, rfl, _, hc⟩ := ints_at h hlt
      have hl : k < zs.length := by omega
      have hg : zs.getD k 0 = zs[k] := by simp [List.getD, hl]
      rw [hg] at hc
      have Hl := Lib.hid hlen
      clear hlen hg
      cases hw : wB zs[k]
      · go_wp2_with (go_at_call 105; refine (isWidth_any _ _).mono ?_; rintro e w' ⟨rfl, rfl⟩)
        go_ret
        refine ⟨?_, rfl⟩
        have : zs.all wB = false := by
          rw [List.all_eq_false]
          exact ⟨zs[k], List.getElem_mem hl, by simp [hw]⟩
        exact ret_bool this.symm
      · go_wp2_with (go_at_call 105; refine (isWidth_any _ _).mono ?_; rintro e w' ⟨rfl, rfl⟩)
        go_round
        case rel =>
          refine ⟨k + 1, by omega, by go_num, ?_⟩
          rw [List.take_succ_eq_append_getElem hl, List.all_append, Hr.out]
          simp [hw]
        case measure => simp [intOf]; omega
    · obtain rfl : k = n := by omega
      go_wp2_with fail
      go_ret
      refine ⟨?_, rfl⟩
      have := Hr.out
      rw [List.take_of_length_le (by omega)] at this
      exact ret_bool this.symm

theorem same_lists {x y : List Value} : x.length = y.length → (∀ j, j < x.length → x[j]? = y[j]?) → x = y := by
  intro h1 h2
  apply List.ext_getElem? 
  intro j
  by_cases hj : j < x.length
  · exact h2 j hj
  · rw [List.getElem?_eq_none (by omega), List.getElem?_eq_none (by omega)]

def texts (l : List ByteArray) : List Value := l.map Value.string
theorem texts_at {w : World} {B : Nat} {A : Option Addr} {n : Nat} {zs : List ByteArray} (h : Sees w B A n (texts zs)) {k : Nat} (hk : k < n) :
    ∃ b off, A = some ⟨b, off, none⟩ ∧ b < B ∧ w.cell? ⟨b, off + k, none⟩ = some (.string (zs.getD k ByteArray.empty)) := by
  obtain ⟨b, off, e, hb, hc⟩ := h.addr (by omega)
  have hl : k < zs.length := by have := h.len; simp [texts] at this; omega
  exact ⟨b, off, e, hb, hc k _ (by simp [texts, List.getD, hl])⟩

/-- what Split leaves: the result, a list of its own, and all that was there as it was -/
def SplitLeaves (s : ByteArray) (ws : List Int) (w : World) (e : Ending) (w' : World) : Prop :=
  ∃ A c, e = .returned (.tuple #[.slice A (splitR s ws).1.length c, .string (splitR s ws).2.1, .int .i64 (splitR s ws).2.2]) ∧
    Sees w' w'.heap.size A (splitR s ws).1.length (ints .u64 (splitR s ws).1) ∧ Below w.heap.size w w'

theorem u64_info : (Try.prog.info? 72).map (fun i => (i.zero, i.size, i.bytes)) = some (some (.int .u64 0), 1, 8) := by kernel_rfl

end Go.Proofs.Ytdanncclnhkmgaa
