/- Parts of the proofs of the statements of image. No statement of the seat is proved here. -/
import Derived.Test.YtnbapaimpoobkaaGreatDoorRsW
namespace Go.Proofs.YtnbapaimpoobkaaGreatDoor
open Go.RowKit

theorem sym_all : ∀ N, SymN N := by
  intro N
  induction N with
  | zero =>
    intro base g n c a m b P L R Q w hN _ _ _ hL _
    have := List.length_pos_iff.2 hL
    omega
  | succ N IH =>
    intro base g n c a m b P L R Q w hN ha hm hb hL hR hs hsR hNL hNR hn h
    have l1 := List.length_pos_iff.2 hL
    have l2 := List.length_pos_iff.2 hR
    by_cases e1 : L.length = 1
    · obtain ⟨x, rfl⟩ := List.length_eq_one_iff.1 e1
      exact sym_left base g n c a m b P R Q x w ha (by simpa using hm) (by simpa using hb) hsR (hNL x (by simp)) hNR hn h
    · by_cases e2 : R.length = 1
      · obtain ⟨y, rfl⟩ := List.length_eq_one_iff.1 e2
        exact sym_right base g n c a m b P L Q y w ha hm (by simpa using hb) e1 hs (hNR y (by simp)) hNL hn h
      · by_cases e3 : (a + b) / 2 < m
        · exact sym_hi N base g n c a m b _ P L R Q w IH hN ha hm hb (by omega) (by omega) rfl e3 hs hsR hNL hNR hn h
        · exact sym_lo N base g n c a m b _ P L R Q w IH hN ha hm hb (by omega) (by omega) rfl (by omega) hs hsR hNL hNR hn h

theorem insertion_none (A : Option Addr) (n c a : Nat) (w : World) (ha : a ≤ 1000000) :
    Calls Tryz.prog 158 #[.slice A n c, .int .i64 (a : Nat), .int .i64 (a : Nat), cmpF] w fun e w' => e = .returned (.tuple #[]) ∧ w' = w := by
  have g1 : ¬ (a : Int) + 1 < (a : Int) := by omega
  go_enter Tryz.func158, Tryz.ntmps158
  go_wp2_with fail
  refine wp_loop_rounds 1 ?_
  rw [rounds_succ]
  go_wp2_with fail
  go_end0
  exact ⟨rfl, rfl⟩

/-- what the sort leaves -/
def SortedX (base g n c : Nat) (D : List Rrd) (w : World) (e : Ending) (w' : World) : Prop :=
  e = .returned (.tuple #[]) ∧ ∃ D', Srt cX D' ∧ St cX D D' ∧ RowX base g n c D' w' ∧ w.grownBy w' (some g)

theorem sort_none (A : Option Addr) (c : Nat) (w : World) :
    Calls Tryz.prog 64 #[.slice A 0 c, cmpF] w fun e w' => e = .returned (.tuple #[]) ∧ w' = w := by
  have hc : Calls Tryz.prog 118 #[.slice A 0 c, .int .i64 (0 : Nat), cmpF] w fun e w' => e = .returned (.tuple #[]) ∧ w' = w := by
    go_enter Tryz.func118, Tryz.ntmps118
    go_wp2_with fail
    refine wp_loop_rounds 1 ?_
    rw [rounds_succ]
    go_wp2_with fail
    refine (insertion_none A 0 c 0 _ (by omega)).mono ?_
    rintro e w2 ⟨rfl, rfl⟩
    go_wp2_with fail
    refine wp_loop_rounds 1 ?_
    rw [rounds_succ]
    go_wp2_with fail
    go_end0
    exact ⟨rfl, rfl⟩
  go_enter Tryz.func64, Tryz.ntmps64
  go_wp2_with fail
  refine hc.mono ?_
  rintro e w1 ⟨rfl, rfl⟩
  go_wp2_with fail
  go_end0
  exact ⟨rfl, rfl⟩
end Go.Proofs.YtnbapaimpoobkaaGreatDoor
