/- The functions of package crc and of its reference: each returns what the plain mathematics says. No statement of the seat is proved here. -/
import Derived.Test.YtmbnlmihpmicjaaCrcM
import Derived.Test.YtmbnlmihpmicjaaFrame
import Derived.Lib.EndianBits
import Derived.Laws.BitsAllLaws
import Derived.Deep.WholeRow
import Derived.Deep.QuietTactic
import Derived.BigQuiet
import Derived.WalkSpells
namespace Go.Proofs.Ytmbnlmihpmicjaa
open Go.RowKit

theorem and_one (x : Nat) (hx : x < 4294967296) : bits .and .u32 (x : Int) 1 = ((x % 2 : Nat) : Int) := by
  have h := u32_and_nat x 1 hx (by decide)
  rw [Nat.and_one_is_mod] at h
  exact h
theorem half_poly (x : Nat) (hx : x < 4294967296) : bits .xor .u32 ((x : Int) / 2) 3988292384 = ((x / 2 ^^^ 3988292384 : Nat) : Int) :=
  u32_xor_nat (x / 2) 3988292384 (by omega) (by decide)

set_option maxHeartbeats 400000 in
theorem afterByte_any (r : Nat) (hr : r < 4294967296) (w : World) :
    Calls Try.prog 36 #[.int .u32 r] w fun e w' => e = .returned (.int .u32 (eight r : Nat)) ∧ w = w' := by
  go_enter Try.func36, Try.ntmps36
  go_wp2
  go_loop [0, 4] (fun v i => ∃ k x : Nat, k ≤ 8 ∧ x < 4294967296 ∧ i = .int .i64 k ∧ v = .int .u32 x ∧ x = steps k r) (fun _ i => 8 - (intOf i).toNat)
  case atStart => exact ⟨0, r, Nat.zero_le _, hr, rfl, rfl, rfl⟩
  case round =>
    obtain ⟨k, x, hk, hx, rfl, rfl, he⟩ := hrel
    replace he := Lib.hid he
    by_cases hlt : k < 8
    · have hs := step_lt hx
      have hx' := and_one x hx
      by_cases hodd : x % 2 = 1
      · have hb : (bits BinOp.and IntKind.u32 (↑x) 1 == 1) = true := by rw [hx', hodd]; rfl
        have hp := Lib.hid (half_poly x hx)
        replace hodd := Lib.hid hodd
        clear hx'
        go_wp2
        go_round
        case rel => exact ⟨k + 1, step x, by omega, hs, by go_num, by rw [hp.out]; unfold step; rw [if_pos hodd.out], by rw [he.out]; rfl⟩
        case measure => simp [intOf]; omega
      · have hb : (bits BinOp.and IntKind.u32 (↑x) 1 == 1) = false := by rw [hx']; simp; omega
        replace hodd := Lib.hid hodd
        clear hx'
        go_wp2
        go_round
        case rel => exact ⟨k + 1, step x, by omega, hs, by go_num, by unfold step; rw [if_neg hodd.out]; go_num, by rw [he.out]; rfl⟩
        case measure => simp [intOf]; omega
    · obtain rfl : k = 8 := by omega
      go_wp2
      go_ret
      exact ⟨ret_int (by rw [he.out]; rfl), rfl⟩

def entry (m j : Nat) : Value := .int .u32 ((if j < m then eight j else 0 : Nat) : Int)
/-- the table, made up to entry m -/
def cellsTo (m : Nat) : Array Value := (Array.range 256).map (entry m)
theorem cellsTo_size (m : Nat) : (cellsTo m).size = 256 := by simp [cellsTo]
theorem cellsTo_get (m j : Nat) (h : j < 256) : (cellsTo m)[j]? = some (entry m j) := by
  unfold cellsTo
  rw [Array.getElem?_map, Array.getElem?_range]
  simp [h]
theorem cellsTo_put (m : Nat) (h : m < 256) : (cellsTo m).setIfInBounds m (.int .u32 (eight m : Nat)) = cellsTo (m + 1) := by
  apply Array.ext_getElem?
  intro j
  rw [Array.getElem?_setIfInBounds]
  by_cases hj : j < 256
  · rw [cellsTo_get _ j hj, cellsTo_get _ j hj, cellsTo_size]
    by_cases he : m = j
    · subst he
      simp only [h, entry]
      simp
    · simp only [he, if_false, entry]
      by_cases hlt : j < m
      · simp [hlt, show j < m + 1 by omega]
      · simp [hlt, show ¬ j < m + 1 by omega]
  · rw [if_neg (by omega)]
    have e1 : (cellsTo m)[j]? = none := by rw [Array.getElem?_eq_none_iff, cellsTo_size]; omega
    have e2 : (cellsTo (m + 1))[j]? = none := by rw [Array.getElem?_eq_none_iff, cellsTo_size]; omega
    rw [e1, e2]
theorem cellsTo_one (m : Nat) : (cellsTo m).all (·.oneCell') = true := by
  rw [Array.all_eq_true]
  intro i h
  have := cellsTo_get m i (by rw [cellsTo_size] at h; exact h)
  rw [Array.getElem?_eq_getElem h] at this
  injection this with this
  rw [this]; rfl
theorem table_info : (Try.prog.info? 61).map (fun i => (i.zero, i.size)) = some (some (.agg (cellsTo 1)), 256) := by kernel_rfl
theorem ctable_info : (Try.prog.info? 62).map (fun i => (i.zero, i.size)) = some (some (.agg (cellsTo 1)), 256) := by kernel_rfl

/-- the table's block b, whole, read at any byte -/
theorem table_at {w : World} {g : Nat} {t : TypeId} (h : Whole w g t (cellsTo 256)) (j : Nat) (hj : j < 256) : w.cell? ⟨g, j, none⟩ = some (.int .u32 (eight j : Nat)) := by
  rw [h.cell, cellsTo_get _ j hj]
  simp [entry, hj]
end Go.Proofs.Ytmbnlmihpmicjaa
