/- The functions of package serial and of its reference: each returns what one small function on integers says. No statement of the seat is proved here. -/
import Derived.Test.YtelengeihnppkaaBase
namespace Go.Proofs.Ytelengeihnppkaa
open Go.RowKit

/-- from a to b, modulo 2^32 -/
def away (a b : Int) : Int := (b - a) % 4294967296
/-- from a to b, with a sign -/
def gap (a b : Int) : Int := if away a b < 2147483648 then away a b else away a b - 4294967296
def aheadB (a b : Int) : Bool := decide (0 < away a b ∧ away a b < 2147483648)
def apartB (a b : Int) : Bool := decide (away a b = 2147483648)
def orderI (a b : Int) : Int := if apartB a b then 0 else if aheadB a b then -1 else if aheadB b a then 1 else 0
def nextI (a : Int) : Int := if a = 4294967295 then 1 else a + 1

def addI (a n : Int) : Int := if n < 0 ∨ 2147483647 < n then 0 else (a + n) % 4294967296
def addE (n : Int) : Int := if n < 0 ∨ 2147483647 < n then 1 else 0

theorem away_range (a b : Int) : 0 ≤ away a b ∧ away a b < 4294967296 := by unfold away; omega

theorem u32_range {a : Int} (h : (Lit.int .u32 a).wf = true) : 0 ≤ a ∧ a < 4294967296 := by
  have h' : IntKind.u32.min ≤ a ∧ a ≤ IntKind.u32.max := by simpa [Lit.wf] using h
  have e1 : IntKind.u32.min = 0 := by decide
  have e2 : IntKind.u32.max = 4294967295 := by decide
  omega

theorem steps_any (a b : Int) (w : World) : Calls Try.prog 20 #[.int .u32 a, .int .u32 b] w fun e w' => e = .returned (.int .i32 (gap a b)) ∧ w = w' := by
  have hg : wrap32 ((b - a) % 4294967296) = gap a b := by
    unfold wrap32 gap away
    split <;> omega
  replace hg := Lib.hid hg
  go_enter Try.func20, Try.ntmps20
  go_wp2
  go_ret
  exact ⟨ret_int hg.out, rfl⟩

theorem apart_any (a b : Int) (w : World) : Calls Try.prog 19 #[.int .u32 a, .int .u32 b] w fun e w' => e = .returned (.bool (apartB a b)) ∧ w = w' := by
  have hg : (gap a b == -2147483648) = apartB a b := by
    have := away_range a b
    unfold gap apartB
    rw [Bool.eq_iff_iff]
    simp
    split <;> omega
  replace hg := Lib.hid hg
  go_enter Try.func19, Try.ntmps19
  go_wp2_with fail
  refine (steps_any a b _).mono ?_
  rintro e w1 ⟨rfl, rfl⟩
  go_wp2
  go_ret
  exact ⟨ret_bool hg.out, rfl⟩

theorem ahead_any (a b : Int) (w : World) : Calls Try.prog 11 #[.int .u32 a, .int .u32 b] w fun e w' => e = .returned (.bool (aheadB a b)) ∧ w = w' := by
  have hg : decide (0 < gap a b) = aheadB a b := by
    have := away_range a b
    unfold gap aheadB
    rw [Bool.eq_iff_iff]
    simp
    split <;> omega
  replace hg := Lib.hid hg
  go_enter Try.func11, Try.ntmps11
  go_wp2_with fail
  refine (steps_any a b _).mono ?_
  rintro e w1 ⟨rfl, rfl⟩
  go_wp2
  go_ret
  exact ⟨ret_bool hg.out, rfl⟩

theorem compare_any (a b : Int) (w : World) : Calls Try.prog 9 #[.int .u32 a, .int .u32 b] w fun e w' => e = .returned (.tuple #[.int .i64 (orderI a b), .bool (!apartB a b)]) ∧ w = w' := by
  by_cases h1 : apartB a b = true
  · have hg : (0 : Int) = orderI a b := by unfold orderI; rw [if_pos h1]
    have hn : false = (!apartB a b) := by rw [h1]; rfl
    replace hn := Lib.hid hn
    replace hg := Lib.hid hg
    go_enter Try.func9, Try.ntmps9
    go_wp2_with fail
    refine (apart_any a b _).mono ?_
    rintro e w1 ⟨rfl, rfl⟩
    go_wp2
    go_ret2
    exact ⟨ret_two hg.out hn.out, rfl⟩
  have k1 : apartB a b = false := by simpa using h1
  have hn : true = (!apartB a b) := by rw [k1]; rfl
  by_cases h2 : aheadB a b = true
  · have hg : (-1 : Int) = orderI a b := by unfold orderI; rw [if_neg h1, if_pos h2]
    replace hn := Lib.hid hn
    replace hg := Lib.hid hg
    go_enter Try.func9, Try.ntmps9
    go_wp2_with fail
    refine (apart_any a b _).mono ?_
    rintro e w1 ⟨rfl, rfl⟩
    go_wp2_with fail
    refine (ahead_any a b _).mono ?_
    rintro e w1 ⟨rfl, rfl⟩
    go_wp2
    go_ret2
    exact ⟨ret_two hg.out hn.out, rfl⟩
  have k2 : aheadB a b = false := by simpa using h2
  by_cases h3 : aheadB b a = true
  · have hg : (1 : Int) = orderI a b := by unfold orderI; rw [if_neg h1, if_neg h2, if_pos h3]
    replace hn := Lib.hid hn
    replace hg := Lib.hid hg
    go_enter Try.func9, Try.ntmps9
    go_wp2_with fail
    refine (apart_any a b _).mono ?_
    rintro e w1 ⟨rfl, rfl⟩
    go_wp2_with fail
    refine (ahead_any a b _).mono ?_
    rintro e w1 ⟨rfl, rfl⟩
    go_wp2_with fail
    refine (ahead_any b a _).mono ?_
    rintro e w1 ⟨rfl, rfl⟩
    go_wp2
    go_ret2
    exact ⟨ret_two hg.out hn.out, rfl⟩
  have k3 : aheadB b a = false := by simpa using h3
  have hg : (0 : Int) = orderI a b := by unfold orderI; rw [if_neg h1, if_neg h2, if_neg h3]
  replace hn := Lib.hid hn
  replace hg := Lib.hid hg
  go_enter Try.func9, Try.ntmps9
  go_wp2_with fail
  refine (apart_any a b _).mono ?_
  rintro e w1 ⟨rfl, rfl⟩
  go_wp2_with fail
  refine (ahead_any a b _).mono ?_
  rintro e w1 ⟨rfl, rfl⟩
  go_wp2_with fail
  refine (ahead_any b a _).mono ?_
  rintro e w1 ⟨rfl, rfl⟩
  go_wp2
  go_ret2
  exact ⟨ret_two hg.out hn.out, rfl⟩

theorem next_any (a : Int) (h0 : 0 ≤ a) (h1 : a ≤ 4294967295) (w : World) : Calls Try.prog 13 #[.int .u32 a] w fun e w' => e = .returned (.int .u32 (nextI a)) ∧ w = w' := by
  by_cases h2 : a = 4294967295
  · subst h2
    go_enter Try.func13, Try.ntmps13
    go_wp2
    go_ret
    exact ⟨rfl, rfl⟩
  have hw : IntKind.u32.wrap (a + 1) = a + 1 := wraps_u32 _ (by omega) (by omega)
  have hne : (a + 1 == 0) = false := by simp; omega
  have hg : a + 1 = nextI a := by unfold nextI; rw [if_neg h2]
  replace hg := Lib.hid hg
  go_enter Try.func13, Try.ntmps13
  go_wp2
  go_ret
  exact ⟨ret_int hg.out, rfl⟩

theorem add_any (a n : Int) (w : World) : Calls Try.prog 15 #[.int .u32 a, .int .i64 n] w fun e w' =>
    e = .returned (.tuple #[.int .u32 (addI a n), .int .i64 (addE n)]) ∧ w = w' := by
  by_cases h1 : n < 0
  · have hg : (0 : Int) = addI a n := by unfold addI; rw [if_pos (.inl h1)]
    have hk : (1 : Int) = addE n := by unfold addE; rw [if_pos (.inl h1)]
    replace hg := Lib.hid hg
    replace hk := Lib.hid hk
    go_enter Try.func15, Try.ntmps15
    go_wp2
    go_ret2
    exact ⟨ret_pair hg.out hk.out, rfl⟩
  by_cases h2 : 2147483647 < n
  · have hg : (0 : Int) = addI a n := by unfold addI; rw [if_pos (.inr h2)]
    have hk : (1 : Int) = addE n := by unfold addE; rw [if_pos (.inr h2)]
    replace hg := Lib.hid hg
    replace hk := Lib.hid hk
    go_enter Try.func15, Try.ntmps15
    go_wp2
    go_ret2
    exact ⟨ret_pair hg.out hk.out, rfl⟩
  have hg : (a + n) % 4294967296 = addI a n := by unfold addI; rw [if_neg (by omega)]
  have hk : (0 : Int) = addE n := by unfold addE; rw [if_neg (by omega)]
  have hw : IntKind.u32.wrap n = n := wraps_u32 _ (by omega) (by omega)
  replace hg := Lib.hid hg
  replace hk := Lib.hid hk
  go_enter Try.func15, Try.ntmps15
  go_wp2
  go_ret2
  exact ⟨ret_pair hg.out hk.out, rfl⟩

theorem between_any (a b c : Int) (w : World) : Calls Try.prog 17 #[.int .u32 a, .int .u32 b, .int .u32 c] w fun e w' => e = .returned (.bool (decide (away a b ≤ away a c))) ∧ w = w' := by
  have hg : decide ((b - a) % 4294967296 ≤ (c - a) % 4294967296) = decide (away a b ≤ away a c) := rfl
  replace hg := Lib.hid hg
  go_enter Try.func17, Try.ntmps17
  go_wp2
  go_ret
  exact ⟨ret_bool hg.out, rfl⟩

theorem less_any (a b : Int) (ha : (Lit.int .u32 a).wf = true) (hb : (Lit.int .u32 b).wf = true) (w : World) : Calls Try.prog 18 #[.int .u32 a, .int .u32 b] w fun e w' => e = .returned (.int .i64 (away a b)) ∧ w = w' := by
  have ra := u32_range ha
  have rb := u32_range hb
  have e1 : IntKind.i64.wrap a = a := by rw [IntKind.wrap_i64]; omega
  have e2 : IntKind.i64.wrap b = b := by rw [IntKind.wrap_i64]; omega
  have e3 : IntKind.i64.wrap (b - a) = b - a := by rw [IntKind.wrap_i64]; omega
  have e4 : IntKind.i64.wrap (b - a + 4294967296) = b - a + 4294967296 := by rw [IntKind.wrap_i64]; omega
  have hg : (b - a + 4294967296) % 4294967296 = away a b := by unfold away; omega
  replace hg := Lib.hid hg
  go_enter Try.func18, Try.ntmps18
  go_wp2
  go_ret
  exact ⟨ret_int hg.out, rfl⟩

theorem refAhead_any (a b : Int) (ha : (Lit.int .u32 a).wf = true) (hb : (Lit.int .u32 b).wf = true) (w : World) : Calls Try.prog 12 #[.int .u32 a, .int .u32 b] w fun e w' => e = .returned (.bool (aheadB a b)) ∧ w = w' := by
  by_cases h1 : 1 ≤ away a b
  · have hg : decide (away a b ≤ 2147483647) = aheadB a b := by
      unfold aheadB
      rw [decide_eq_decide]
      omega
    replace hg := Lib.hid hg
    go_enter Try.func12, Try.ntmps12
    go_wp2_with fail
    refine (less_any a b ha hb _).mono ?_
    rintro e w1 ⟨rfl, rfl⟩
    go_wp2_with fail
    refine (less_any a b ha hb _).mono ?_
    rintro e w1 ⟨rfl, rfl⟩
    go_wp2
    go_ret
    exact ⟨ret_bool hg.out, rfl⟩
  have hg : false = aheadB a b := by
    unfold aheadB
    symm
    rw [decide_eq_false_iff_not]
    omega
  replace hg := Lib.hid hg
  go_enter Try.func12, Try.ntmps12
  go_wp2_with fail
  refine (less_any a b ha hb _).mono ?_
  rintro e w1 ⟨rfl, rfl⟩
  go_wp2
  go_ret
  exact ⟨ret_bool hg.out, rfl⟩

theorem apart_self (a : Int) : apartB a a = false ∧ aheadB a a = false ∧ orderI a a = 0 := by
  have h1 : apartB a a = false := by unfold apartB away; rw [decide_eq_false_iff_not]; omega
  have h2 : aheadB a a = false := by unfold aheadB away; rw [decide_eq_false_iff_not]; omega
  refine ⟨h1, h2, ?_⟩
  unfold orderI
  rw [h1, h2]
  rfl

theorem refCompare_any (a b : Int) (ha : (Lit.int .u32 a).wf = true) (hb : (Lit.int .u32 b).wf = true) (w : World) : Calls Try.prog 10 #[.int .u32 a, .int .u32 b] w fun e w' => e = .returned (.tuple #[.int .i64 (orderI a b), .bool (!apartB a b)]) ∧ w = w' := by
  have ra := u32_range ha
  have rb := u32_range hb
  by_cases h0 : a = b
  · subst h0
    obtain ⟨h1, h2, h3⟩ := apart_self a
    have hg : (0 : Int) = orderI a a := h3.symm
    have hn : true = (!apartB a a) := by rw [h1]; rfl
    clear h1 h2 h3
    replace hg := Lib.hid hg
    replace hn := Lib.hid hn
    go_enter Try.func10, Try.ntmps10
    go_wp2
    go_ret2
    exact ⟨ret_two hg.out hn.out, rfl⟩
  by_cases h1 : away a b = 2147483648
  · have k1 : apartB a b = true := by unfold apartB; exact decide_eq_true h1
    have hg : (0 : Int) = orderI a b := by unfold orderI; rw [if_pos k1]
    have hn : false = (!apartB a b) := by rw [k1]; rfl
    clear k1
    replace hg := Lib.hid hg
    replace hn := Lib.hid hn
    go_enter Try.func10, Try.ntmps10
    go_wp2_with fail
    refine (less_any a b ha hb _).mono ?_
    rintro e w1 ⟨rfl, rfl⟩
    go_wp2
    go_ret2
    exact ⟨ret_two hg.out hn.out, rfl⟩
  have k1 : apartB a b = false := by unfold apartB; exact decide_eq_false h1
  have hn : true = (!apartB a b) := by rw [k1]; rfl
  replace hn := Lib.hid hn
  by_cases h2 : aheadB a b = true
  · have hg : (-1 : Int) = orderI a b := by unfold orderI; rw [k1, if_neg (by decide), if_pos h2]
    clear k1
    replace hg := Lib.hid hg
    go_enter Try.func10, Try.ntmps10
    go_wp2_with fail
    refine (less_any a b ha hb _).mono ?_
    rintro e w1 ⟨rfl, rfl⟩
    go_wp2_with fail
    refine (refAhead_any a b ha hb _).mono ?_
    rintro e w1 ⟨rfl, rfl⟩
    go_wp2
    go_ret2
    exact ⟨ret_two hg.out hn.out, rfl⟩
  have k2 : aheadB a b = false := by simpa using h2
  have k3 : aheadB b a = true := by
    have k2' := k2
    unfold aheadB away at k2' ⊢
    rw [decide_eq_false_iff_not] at k2'
    rw [decide_eq_true_iff]
    unfold away at h1
    omega
  have hg : (1 : Int) = orderI a b := by unfold orderI; rw [k1, k2, k3]; rfl
  clear k1 k3
  replace hg := Lib.hid hg
  go_enter Try.func10, Try.ntmps10
  go_wp2_with fail
  refine (less_any a b ha hb _).mono ?_
  rintro e w1 ⟨rfl, rfl⟩
  go_wp2_with fail
  refine (refAhead_any a b ha hb _).mono ?_
  rintro e w1 ⟨rfl, rfl⟩
  go_wp2
  go_ret2
  exact ⟨ret_two hg.out hn.out, rfl⟩

theorem refAdd_any (a n : Int) (ha : (Lit.int .u32 a).wf = true) (h0 : 0 ≤ n) (h1 : n ≤ 2147483647) (w : World) : Calls Try.prog 16 #[.int .u32 a, .int .i64 n] w fun e w' => e = .returned (.int .u32 (addI a n)) ∧ w = w' := by
  have ra := u32_range ha
  have e1 : IntKind.i64.wrap a = a := by rw [IntKind.wrap_i64]; omega
  have e2 : IntKind.i64.wrap (a + n) = a + n := by rw [IntKind.wrap_i64]; omega
  have hg : (a + n) % 4294967296 = addI a n := by unfold addI; rw [if_neg (by omega)]
  replace hg := Lib.hid hg
  go_enter Try.func16, Try.ntmps16
  go_wp2
  go_ret
  exact ⟨ret_int hg.out, rfl⟩

theorem add_next (a : Int) (r0 : 0 ≤ a) (r1 : a < 4294967296) : (addI a 1 = 0 ∧ nextI a = 1) ∨ ((addI a 1 == 0) = false ∧ addI a 1 = nextI a) := by
  unfold addI nextI
  rw [if_neg (by omega)]
  by_cases h : a = 4294967295
  · subst h; exact .inl ⟨by decide, by decide⟩
  · refine .inr ⟨?_, ?_⟩
    · rw [beq_eq_false_iff_ne]; omega
    · rw [if_neg h]; omega

theorem refNext_any (a : Int) (ha : (Lit.int .u32 a).wf = true) (w : World) : Calls Try.prog 14 #[.int .u32 a] w fun e w' => e = .returned (.int .u32 (nextI a)) ∧ w = w' := by
  have ra := u32_range ha
  rcases add_next a ra.1 ra.2 with ⟨h1, h2⟩ | ⟨h1, h2⟩
  · have hg : (1 : Int) = nextI a := h2.symm
    clear h2
    replace hg := Lib.hid hg
    go_enter Try.func14, Try.ntmps14
    go_wp2_with fail
    refine (refAdd_any a 1 ha (by decide) (by decide) _).mono ?_
    rintro e w1 ⟨rfl, rfl⟩
    go_wp2
    go_ret
    exact ⟨ret_int hg.out, rfl⟩
  · replace h2 := Lib.hid h2
    go_enter Try.func14, Try.ntmps14
    go_wp2_with fail
    refine (refAdd_any a 1 ha (by decide) (by decide) _).mono ?_
    rintro e w1 ⟨rfl, rfl⟩
    go_wp2
    go_ret
    exact ⟨ret_int h2.out, rfl⟩
end Go.Proofs.Ytelengeihnppkaa
