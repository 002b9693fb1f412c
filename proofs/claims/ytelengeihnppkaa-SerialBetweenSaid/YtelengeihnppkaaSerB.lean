/- The laws of package serial, walked: whatever the serials and the numbers, each returns true and writes nothing. -/
import Derived.Test.YtelengeihnppkaaSerA
namespace Go.Proofs.Ytelengeihnppkaa
open Go.RowKit

theorem awake_any (w : World) : Calls Try.prog 8 #[] w fun e w' => e = .returned (.bool true) ∧ w = w' := by
  have h1 : nextI 4294967295 = 1 := by decide
  have h2 : aheadB 4294967295 0 = true := by decide
  go_enter Try.func8, Try.ntmps8
  go_wp2_with fail
  refine (next_any 4294967295 (by decide) (by decide) _).mono ?_
  rintro e w1 ⟨rfl, rfl⟩
  go_wp2_with fail
  refine (ahead_any 4294967295 0 _).mono ?_
  rintro e w1 ⟨rfl, rfl⟩
  go_wp2
  go_ret
  exact ⟨rfl, rfl⟩

theorem SerialTells_walk (a b : Int) (w : World) (ha : (Lit.int .u32 a).wf = true) (hb : (Lit.int .u32 b).wf = true) :
    Calls Try.prog 3 #[.int .u32 a, .int .u32 b] w fun e w' => e = .returned (.bool true) ∧ Below w.heap.size w w' := by
  have ra := u32_range ha
  go_enter Try.func3, Try.ntmps3
  go_wp2_with fail
  refine (awake_any _).mono ?_
  rintro e w1 ⟨rfl, rfl⟩
  go_wp2_with fail
  refine (compare_any a b _).mono ?_
  rintro e w1 ⟨rfl, rfl⟩
  go_wp2_with fail
  refine (refCompare_any a b ha hb _).mono ?_
  rintro e w1 ⟨rfl, rfl⟩
  go_wp2_with fail
  refine (ahead_any a b _).mono ?_
  rintro e w1 ⟨rfl, rfl⟩
  go_wp2_with fail
  refine (refAhead_any a b ha hb _).mono ?_
  rintro e w1 ⟨rfl, rfl⟩
  go_wp2_with fail
  refine (next_any a ra.1 (by omega) _).mono ?_
  rintro e w1 ⟨rfl, rfl⟩
  go_wp2_with fail
  refine (refNext_any a ha _).mono ?_
  rintro e w1 ⟨rfl, rfl⟩
  go_wp2
  go_ret
  exact ⟨rfl, Below.refl _ _⟩

theorem SerialBetween_walk (a b c : Int) (w : World) (ha : (Lit.int .u32 a).wf = true) (hb : (Lit.int .u32 b).wf = true) (hc : (Lit.int .u32 c).wf = true) :
    Calls Try.prog 5 #[.int .u32 a, .int .u32 b, .int .u32 c] w fun e w' => e = .returned (.bool true) ∧ Below w.heap.size w w' := by
  go_enter Try.func5, Try.ntmps5
  go_wp2_with fail
  refine (awake_any _).mono ?_
  rintro e w1 ⟨rfl, rfl⟩
  go_wp2_with fail
  refine (between_any a b c _).mono ?_
  rintro e w1 ⟨rfl, rfl⟩
  go_wp2_with fail
  refine (less_any a b ha hb _).mono ?_
  rintro e w1 ⟨rfl, rfl⟩
  go_wp2_with fail
  refine (less_any a c ha hc _).mono ?_
  rintro e w1 ⟨rfl, rfl⟩
  go_wp2
  go_ret
  exact ⟨rfl, Below.refl _ _⟩

theorem add_math (a n : Int) (h0 : 0 ≤ n) (h1 : n ≤ 2147483647) : addE n = 0 ∧ aheadB a (addI a n) = decide (0 < n) := by
  unfold addE aheadB away addI
  rw [if_neg (by omega), if_neg (by omega)]
  refine ⟨rfl, ?_⟩
  rw [decide_eq_decide]
  omega
theorem add_bad (a n : Int) (h : n < 0 ∨ 2147483647 < n) : addE n = 1 ∧ addI a n = 0 := by
  unfold addE addI
  rw [if_pos h, if_pos h]
  exact ⟨rfl, rfl⟩

theorem SerialAdds_walk (a n : Int) (w : World) (ha : (Lit.int .u32 a).wf = true) (_hn : (Lit.int .i64 n).wf = true) :
    Calls Try.prog 4 #[.int .u32 a, .int .i64 n] w fun e w' => e = .returned (.bool true) ∧ Below w.heap.size w w' := by
  have ra := u32_range ha
  by_cases g1 : n < 0
  · obtain ⟨k1, k2⟩ := add_bad a n (.inl g1)
    go_enter Try.func4, Try.ntmps4
    go_wp2_with fail
    refine (awake_any _).mono ?_
    rintro e w1 ⟨rfl, rfl⟩
    go_wp2_with fail
    refine (add_any a n _).mono ?_
    rintro e w1 ⟨rfl, rfl⟩
    go_wp2
    go_ret
    exact ⟨rfl, Below.refl _ _⟩
  by_cases g2 : 2147483647 < n
  · obtain ⟨k1, k2⟩ := add_bad a n (.inr g2)
    go_enter Try.func4, Try.ntmps4
    go_wp2_with fail
    refine (awake_any _).mono ?_
    rintro e w1 ⟨rfl, rfl⟩
    go_wp2_with fail
    refine (add_any a n _).mono ?_
    rintro e w1 ⟨rfl, rfl⟩
    go_wp2
    go_ret
    exact ⟨rfl, Below.refl _ _⟩
  obtain ⟨k1, k2⟩ := add_math a n (by omega) (by omega)
  clear ra
  go_enter Try.func4, Try.ntmps4
  go_wp2_with fail
  refine (awake_any _).mono ?_
  rintro e w1 ⟨rfl, rfl⟩
  go_wp2_with fail
  refine (add_any a n _).mono ?_
  rintro e w1 ⟨rfl, rfl⟩
  go_wp2_with fail
  refine (refAdd_any a n ha (by omega) (by omega) _).mono ?_
  rintro e w1 ⟨rfl, rfl⟩
  go_wp2_with fail
  refine (ahead_any a (addI a n) _).mono ?_
  rintro e w1 ⟨rfl, rfl⟩
  go_wp2
  go_ret
  exact ⟨rfl, Below.refl _ _⟩

/-- how two serials stand, and the same two held the other way round -/
inductive Stand (a b : Int) : Prop
  | same (h : a = b)
  | apart (h : (a == b) = false) (h1 : apartB a b = true) (h2 : apartB b a = true) (h3 : aheadB a b = false) (h4 : aheadB b a = false) (h5 : orderI a b = 0) (h6 : orderI b a = 0)
  | up (h : (a == b) = false) (h1 : apartB a b = false) (h2 : apartB b a = false) (h3 : aheadB a b = true) (h4 : aheadB b a = false) (h5 : orderI a b = -1) (h6 : orderI b a = 1)
  | down (h : (a == b) = false) (h1 : apartB a b = false) (h2 : apartB b a = false) (h3 : aheadB a b = false) (h4 : aheadB b a = true) (h5 : orderI a b = 1) (h6 : orderI b a = -1)

theorem stand (a b : Int) (ra : 0 ≤ a ∧ a < 4294967296) (rb : 0 ≤ b ∧ b < 4294967296) : Stand a b := by
  by_cases h : a = b
  · exact .same h
  have hne : (a == b) = false := by rw [beq_eq_false_iff_ne]; exact h
  have e : away b a = 4294967296 - away a b := by unfold away; omega
  have r := away_range a b
  have r' := away_range b a
  by_cases h1 : away a b = 2147483648
  · have p1 : apartB a b = true := decide_eq_true h1
    have p2 : apartB b a = true := decide_eq_true (by omega)
    have p3 : aheadB a b = false := decide_eq_false (by omega)
    have p4 : aheadB b a = false := decide_eq_false (by omega)
    exact .apart hne p1 p2 p3 p4 (by unfold orderI; rw [p1]; rfl) (by unfold orderI; rw [p2]; rfl)
  have p1 : apartB a b = false := decide_eq_false h1
  have p2 : apartB b a = false := decide_eq_false (by omega)
  by_cases h2 : away a b < 2147483648
  · have p3 : aheadB a b = true := decide_eq_true (by omega)
    have p4 : aheadB b a = false := decide_eq_false (by omega)
    exact .up hne p1 p2 p3 p4 (by unfold orderI; rw [p1, p3]; rfl) (by unfold orderI; rw [p2, p3, p4]; rfl)
  · have p3 : aheadB a b = false := decide_eq_false (by omega)
    have p4 : aheadB b a = true := decide_eq_true (by omega)
    exact .down hne p1 p2 p3 p4 (by unfold orderI; rw [p1, p3, p4]; rfl) (by unfold orderI; rw [p2, p4]; rfl)

theorem SerialTurns_walk (a b : Int) (w : World) (ha : (Lit.int .u32 a).wf = true) (hb : (Lit.int .u32 b).wf = true) :
    Calls Try.prog 6 #[.int .u32 a, .int .u32 b] w fun e w' => e = .returned (.bool true) ∧ Below w.heap.size w w' := by
  cases stand a b (u32_range ha) (u32_range hb) with
  | same h =>
    subst h
    obtain ⟨h1, h2, h3⟩ := apart_self a
    go_enter Try.func6, Try.ntmps6
    go_wp2_with fail
    refine (awake_any _).mono ?_
    rintro e w1 ⟨rfl, rfl⟩
    go_wp2_with fail
    refine (compare_any a a _).mono ?_
    rintro e w1 ⟨rfl, rfl⟩
    go_wp2_with fail
    refine (compare_any a a _).mono ?_
    rintro e w1 ⟨rfl, rfl⟩
    go_wp2_with fail
    refine (ahead_any a a _).mono ?_
    rintro e w1 ⟨rfl, rfl⟩
    go_wp2
    go_ret
    exact ⟨rfl, Below.refl _ _⟩
  | apart h h1 h2 h3 h4 h5 h6 =>
    go_enter Try.func6, Try.ntmps6
    go_wp2_with fail
    refine (awake_any _).mono ?_
    rintro e w1 ⟨rfl, rfl⟩
    go_wp2_with fail
    refine (compare_any a b _).mono ?_
    rintro e w1 ⟨rfl, rfl⟩
    go_wp2_with fail
    refine (compare_any b a _).mono ?_
    rintro e w1 ⟨rfl, rfl⟩
    go_wp2_with fail
    refine (ahead_any a b _).mono ?_
    rintro e w1 ⟨rfl, rfl⟩
    go_wp2_with fail
    refine (ahead_any b a _).mono ?_
    rintro e w1 ⟨rfl, rfl⟩
    go_wp2
    go_ret
    exact ⟨rfl, Below.refl _ _⟩
  | up h h1 h2 h3 h4 h5 h6 =>
    go_enter Try.func6, Try.ntmps6
    go_wp2_with fail
    refine (awake_any _).mono ?_
    rintro e w1 ⟨rfl, rfl⟩
    go_wp2_with fail
    refine (compare_any a b _).mono ?_
    rintro e w1 ⟨rfl, rfl⟩
    go_wp2_with fail
    refine (compare_any b a _).mono ?_
    rintro e w1 ⟨rfl, rfl⟩
    go_wp2_with fail
    refine (ahead_any a b _).mono ?_
    rintro e w1 ⟨rfl, rfl⟩
    go_wp2_with fail
    refine (ahead_any b a _).mono ?_
    rintro e w1 ⟨rfl, rfl⟩
    go_wp2
    go_ret
    exact ⟨rfl, Below.refl _ _⟩
  | down h h1 h2 h3 h4 h5 h6 =>
    go_enter Try.func6, Try.ntmps6
    go_wp2_with fail
    refine (awake_any _).mono ?_
    rintro e w1 ⟨rfl, rfl⟩
    go_wp2_with fail
    refine (compare_any a b _).mono ?_
    rintro e w1 ⟨rfl, rfl⟩
    go_wp2_with fail
    refine (compare_any b a _).mono ?_
    rintro e w1 ⟨rfl, rfl⟩
    go_wp2_with fail
    refine (ahead_any a b _).mono ?_
    rintro e w1 ⟨rfl, rfl⟩
    go_wp2_with fail
    refine (ahead_any b a _).mono ?_
    rintro e w1 ⟨rfl, rfl⟩
    go_wp2
    go_ret
    exact ⟨rfl, Below.refl _ _⟩

/-- the serial behind one that is n steps off -/
theorem next_step (a b : Int) (n : Int) (rb : 0 ≤ b ∧ b < 4294967296) (h : away a b ≤ n) (hn : n < 2147483646) :
    (nextI b == 0) = false ∧ aheadB b (nextI b) = true ∧ aheadB a (nextI b) = true ∧ away a (nextI b) ≤ n + 2 ∧ 0 ≤ nextI b ∧ nextI b < 4294967296 := by
  unfold away at h
  unfold nextI
  by_cases h1 : b = 4294967295
  · rw [if_pos h1]
    refine ⟨by decide, decide_eq_true ?_, decide_eq_true ?_, ?_, by decide, by decide⟩ <;> unfold away <;> omega
  · rw [if_neg h1]
    refine ⟨by rw [beq_eq_false_iff_ne]; omega, decide_eq_true ?_, decide_eq_true ?_, ?_, by omega, by omega⟩ <;> unfold away <;> omega

theorem add_far (a n : Int) (h0 : 0 ≤ n) (h1 : n ≤ 2147483000) : addE n = 0 ∧ away a (addI a n) ≤ n ∧ 0 ≤ addI a n ∧ addI a n < 4294967296 := by
  unfold addE away addI
  rw [if_neg (by omega), if_neg (by omega)]
  refine ⟨rfl, ?_, ?_, ?_⟩ <;> omega

theorem u8_range {a : Int} (h : (Lit.int .u8 a).wf = true) : 0 ≤ a ∧ a < 256 := by
  have h' : IntKind.u8.min ≤ a ∧ a ≤ IntKind.u8.max := by simpa [Lit.wf] using h
  have e1 : IntKind.u8.min = 0 := by decide
  have e2 : IntKind.u8.max = 255 := by decide
  omega

set_option maxHeartbeats 1000000 in
theorem SerialRuns_walk (a s m : Int) (w : World) (ha : (Lit.int .u32 a).wf = true) (hs : (Lit.int .u8 s).wf = true) (_hm : (Lit.int .i64 m).wf = true) :
    Calls Try.prog 7 #[.int .u32 a, .int .u8 s, .int .i64 m] w fun e w' => e = .returned (.bool true) ∧ Below w.heap.size w w' := by
  have ra := u32_range ha
  have rs := u8_range hs
  by_cases g1 : m < 0
  · go_enter Try.func7, Try.ntmps7
    go_wp2_with fail
    refine (awake_any _).mono ?_
    rintro e w1 ⟨rfl, rfl⟩
    go_wp2_with fail
    refine (awake_any _).mono ?_
    rintro e w1 ⟨rfl, rfl⟩
    go_wp2
    go_ret
    exact ⟨rfl, Below.refl _ _⟩
  by_cases g2 : 2147483000 < m
  · go_enter Try.func7, Try.ntmps7
    go_wp2_with fail
    refine (awake_any _).mono ?_
    rintro e w1 ⟨rfl, rfl⟩
    go_wp2_with fail
    refine (awake_any _).mono ?_
    rintro e w1 ⟨rfl, rfl⟩
    go_wp2
    go_ret
    exact ⟨rfl, Below.refl _ _⟩
  obtain ⟨k1, k2, k3, k4⟩ := add_far a m (by omega) (by omega)
  obtain ⟨t, ht⟩ : ∃ t, s % 200 = t := ⟨_, rfl⟩
  have htr : 0 ≤ t ∧ t < 200 := by omega
  go_enter Try.func7, Try.ntmps7
  go_wp2_with fail
  refine (awake_any _).mono ?_
  rintro e w1 ⟨rfl, rfl⟩
  go_wp2_with fail
  refine (add_any a m _).mono ?_
  rintro e w1 ⟨rfl, rfl⟩
  go_wp2_with fail
  go_loop [7, 9] (fun b i => ∃ (k c : Int), 0 ≤ k ∧ k ≤ t ∧ i = .int .i64 k ∧ b = .int .u32 c ∧ away a c ≤ m + 2 * k ∧ 0 ≤ c ∧ c < 4294967296) (fun _ i => (t - intOf i).toNat)
  case atStart => exact ⟨0, addI a m, by omega, by omega, rfl, rfl, by omega, k3, k4⟩
  case round =>
    obtain ⟨k, c, q0, q1, rfl, rfl, q2, q3, q4⟩ := hrel
    by_cases hlt : k < t
    · obtain ⟨n1, n2, n3, n4, n5, n6⟩ := next_step a c (m + 2 * k) ⟨q3, q4⟩ q2 (by omega)
      have e1 : IntKind.i64.wrap (k + 1) = k + 1 := by rw [IntKind.wrap_i64]; omega
      go_wp2_with fail
      refine (next_any c q3 (by omega) _).mono ?_
      rintro e w1 ⟨rfl, rfl⟩
      go_wp2_with fail
      refine (ahead_any c (nextI c) _).mono ?_
      rintro e w1 ⟨rfl, rfl⟩
      go_wp2_with fail
      refine (ahead_any a (nextI c) _).mono ?_
      rintro e w1 ⟨rfl, rfl⟩
      go_wp2_with fail
      go_round
      case rel => exact ⟨k + 1, nextI c, by omega, by omega, rfl, rfl, by omega, n5, n6⟩
      case measure => simp [intOf]; omega
    · go_wp2
      go_ret
      exact ⟨rfl, Below.refl _ _⟩
end Go.Proofs.Ytelengeihnppkaa
