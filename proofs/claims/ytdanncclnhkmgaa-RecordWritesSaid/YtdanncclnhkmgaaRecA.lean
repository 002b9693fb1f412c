/- Right, Said, One, Compare of the program. No statement of the seat is proved here. -/
import Derived.Test.YtdanncclnhkmgaaRecM
import Derived.Test.YtdanncclnhkmgaaPakC
import Derived.Test.YtdanncclnhkmgaaNamH
import Derived.Test.YtdanncclnhkmgaaNamB
import Derived.Lib.Bytealg
namespace Go.Proofs.Ytdanncclnhkmgaa
open Go.RowKit Go.Op

abbrev rrT : TypeId := 23
def rrA (n d : ByteArray) (t c l : Int) : Array Value := #[.string n, .int .i64 t, .int .i64 c, .int .i64 l, .string d]

theorem isNumber_any (n : Int) (w : World) : Calls Try.prog 24 #[.int .i64 n] w fun e w' => e = .returned (.bool (isNum n)) ∧ w = w' := by
  by_cases h1 : 0 ≤ n
  · by_cases h2 : n ≤ 65535
    · have HE := Lib.hid (show isNum n = true by unfold isNum; simp [h1, h2])
      go_enter Try.func24, Try.ntmps24
      go_wp2_with fail
      go_ret
      exact ⟨by rw [HE.out]; rfl, rfl⟩
    · have HE := Lib.hid (show isNum n = false by unfold isNum; simp [h2])
      have g2 : decide (n ≤ 65535) = false := by rw [decide_eq_false_iff_not]; omega
      clear h2
      go_enter Try.func24, Try.ntmps24
      go_wp2_with fail
      go_ret
      exact ⟨by rw [HE.out]; rfl, rfl⟩
  · have HE := Lib.hid (show isNum n = false by unfold isNum; simp [h1])
    have g2 : decide (0 ≤ n) = false := by rw [decide_eq_false_iff_not]; omega
    clear h1
    go_enter Try.func24, Try.ntmps24
    go_wp2_with fail
    go_ret
    exact ⟨by rw [HE.out]; rfl, rfl⟩
theorem isTTL_any (n : Int) (w : World) : Calls Try.prog 25 #[.int .i64 n] w fun e w' => e = .returned (.bool (isAge n)) ∧ w = w' := by
  by_cases h1 : 0 ≤ n
  · by_cases h2 : n ≤ 2147483647
    · have HE := Lib.hid (show isAge n = true by unfold isAge; simp [h1, h2])
      go_enter Try.func25, Try.ntmps25
      go_wp2_with fail
      go_ret
      exact ⟨by rw [HE.out]; rfl, rfl⟩
    · have HE := Lib.hid (show isAge n = false by unfold isAge; simp [h2])
      have g2 : decide (n ≤ 2147483647) = false := by rw [decide_eq_false_iff_not]; omega
      clear h2
      go_enter Try.func25, Try.ntmps25
      go_wp2_with fail
      go_ret
      exact ⟨by rw [HE.out]; rfl, rfl⟩
  · have HE := Lib.hid (show isAge n = false by unfold isAge; simp [h1])
    have g2 : decide (0 ≤ n) = false := by rw [decide_eq_false_iff_not]; omega
    clear h1
    go_enter Try.func25, Try.ntmps25
    go_wp2_with fail
    go_ret
    exact ⟨by rw [HE.out]; rfl, rfl⟩
theorem typeOf_any (t c : Int) (k : Nat) (w : World) : Calls Try.prog 27 #[.int .i64 t, .int .i64 c, .int .i64 (k : Nat)] w fun e w' => e = .returned (.int .i64 (tyd t c k)) ∧ w = w' := by
  by_cases h1 : c = 1
  · have HE := Lib.hid (show tyd t c k = t by unfold tyd; rw [if_pos (.inl h1)])
    have g1 : (c == 1) = true := by rw [h1]; rfl
    clear h1
    go_enter Try.func27, Try.ntmps27
    go_wp2_with fail
    go_ret
    exact ⟨by rw [HE.out]; rfl, rfl⟩
  · have g1 : (c == 1) = false := by rw [beq_eq_false_iff_ne]; exact h1
    by_cases h2 : c = 254
    · have g2 : (c == 254) = true := by rw [h2]; rfl
      by_cases h3 : 0 < k
      · have HE := Lib.hid (show tyd t c k = t by unfold tyd; rw [if_pos (.inr ⟨h2, h3⟩)])
        have g3 : decide (0 < k) = true := by simp [h3]
        clear h1 h2 h3
        go_enter Try.func27, Try.ntmps27
        go_wp2_with fail
        go_ret
        exact ⟨by rw [HE.out]; rfl, rfl⟩
      · have HE := Lib.hid (show tyd t c k = 0 by unfold tyd; rw [if_neg (by omega)])
        have g3 : decide (0 < k) = false := by simp [h3]
        clear h1 h2 h3
        go_enter Try.func27, Try.ntmps27
        go_wp2_with fail
        go_ret
        exact ⟨by rw [HE.out]; rfl, rfl⟩
    · have HE := Lib.hid (show tyd t c k = 0 by unfold tyd; rw [if_neg (by omega)])
      have g2 : (c == 254) = false := by rw [beq_eq_false_iff_ne]; exact h2
      clear h1 h2
      go_enter Try.func27, Try.ntmps27
      go_wp2_with fail
      go_ret
      exact ⟨by rw [HE.out]; rfl, rfl⟩

/-- a record in a block of its own -/
theorem rr_facts {w : World} {g : Nat} {n d : ByteArray} {t c l : Int} (h : Whole w g rrT (rrA n d t c l)) :
    w.cell? ⟨g, 0, none⟩ = some (.string n) ∧ w.cell? ⟨g, 1, none⟩ = some (.int .i64 t) ∧ w.cell? ⟨g, 2, none⟩ = some (.int .i64 c) ∧ w.cell? ⟨g, 3, none⟩ = some (.int .i64 l) ∧ w.cell? ⟨g, 4, none⟩ = some (.string d) :=
  ⟨h.cell 0, h.cell 1, h.cell 2, h.cell 3, h.cell 4⟩


/-! ### cmp.Or, cmp.Compare, strings.Compare -/
def orS (x y : ByteArray) : ByteArray := if x.size = 0 then y else x
set_option maxHeartbeats 1000000 in
theorem OrS_any (A : Option Addr) (cA B : Nat) (x y : ByteArray) (w : World) (h : Sees w B A 2 [.string x, .string y]) :
    Calls Try.prog 31 #[.slice A 2 cA] w fun e w' => e = .returned (.string (orS x y)) ∧ w = w' := by
  obtain ⟨b, off, rfl, _, hc⟩ := h.addr (Nat.zero_lt_two)
  have c0 : w.cell? ⟨b, off, none⟩ = some (.string x) := hc 0 _ rfl
  have c1 : w.cell? ⟨b, off + 1, none⟩ = some (.string y) := hc 1 _ rfl
  clear hc h
  by_cases hx : x.size = 0
  · have hxe : x = ⟨#[]⟩ := ByteArray.ext (Array.eq_empty_of_size_eq_zero hx)
    have ho : orS x y = y := by unfold orS; rw [if_pos hx]
    rw [ho]
    clear ho
    subst hxe
    by_cases hy : y.size = 0
    · have hye : y = ⟨#[]⟩ := ByteArray.ext (Array.eq_empty_of_size_eq_zero hy)
      subst hye
      clear hx hy
      go_enter Try.func31, Try.ntmps31
      go_wp2_with fail
      refine wp_loop_rounds 4 ?_
      rw [rounds_succ]
      go_wp2_with fail
      rw [rounds_succ]
      go_wp2_with fail
      rw [rounds_succ]
      go_wp2_with fail
      go_ret
      exact ⟨rfl, rfl⟩
    · have hne := not_empty hy
      clear hx hy
      go_enter Try.func31, Try.ntmps31
      go_wp2_with fail
      refine wp_loop_rounds 4 ?_
      rw [rounds_succ]
      go_wp2_with fail
      rw [rounds_succ]
      go_wp2_with fail
      go_ret
      exact ⟨rfl, rfl⟩
  · have hne := not_empty hx
    have ho : orS x y = x := by unfold orS; rw [if_neg hx]
    rw [ho]
    clear ho hx
    go_enter Try.func31, Try.ntmps31
    go_wp2_with fail
    refine wp_loop_rounds 4 ?_
    rw [rounds_succ]
    go_wp2_with fail
    go_ret
    exact ⟨rfl, rfl⟩

set_option maxHeartbeats 1000000 in
theorem Or3_any (A : Option Addr) (cA B : Nat) (x y z : Int) (w : World) (h : Sees w B A 3 (ints .i64 [x, y, z])) :
    Calls Try.prog 36 #[.slice A 3 cA] w fun e w' => e = .returned (.int .i64 (orI x (orI y z))) ∧ w = w' := by
  obtain ⟨b, off, rfl, _, hc⟩ := h.addr (by decide)
  have c0 : w.cell? ⟨b, off, none⟩ = some (.int .i64 x) := hc 0 _ rfl
  have c1 : w.cell? ⟨b, off + 1, none⟩ = some (.int .i64 y) := hc 1 _ rfl
  have c2 : w.cell? ⟨b, off + 2, none⟩ = some (.int .i64 z) := hc 2 _ rfl
  clear hc h
  by_cases hx : x = 0
  · subst hx
    have e0 : orI 0 (orI y z) = orI y z := by unfold orI; rw [if_pos rfl]
    rw [e0]
    clear e0
    by_cases hy : y = 0
    · subst hy
      have e0 : orI 0 z = z := by unfold orI; rw [if_pos rfl]
      rw [e0]
      clear e0
      by_cases hz : z = 0
      · subst hz
        go_enter Try.func36, Try.ntmps36
        go_wp2_with fail
        refine wp_loop_rounds 5 ?_
        rw [rounds_succ]
        go_wp2_with fail
        rw [rounds_succ]
        go_wp2_with fail
        rw [rounds_succ]
        go_wp2_with fail
        rw [rounds_succ]
        go_wp2_with fail
        go_ret
        exact ⟨rfl, rfl⟩
      · have gz : (z == 0) = false := by rw [beq_eq_false_iff_ne]; exact hz
        go_enter Try.func36, Try.ntmps36
        go_wp2_with fail
        refine wp_loop_rounds 5 ?_
        rw [rounds_succ]
        go_wp2_with fail
        rw [rounds_succ]
        go_wp2_with fail
        rw [rounds_succ]
        go_wp2_with fail
        go_ret
        exact ⟨rfl, rfl⟩
    · have gy : (y == 0) = false := by rw [beq_eq_false_iff_ne]; exact hy
      have e0 : orI y z = y := by unfold orI; rw [if_neg hy]
      rw [e0]
      clear e0
      go_enter Try.func36, Try.ntmps36
      go_wp2_with fail
      refine wp_loop_rounds 5 ?_
      rw [rounds_succ]
      go_wp2_with fail
      rw [rounds_succ]
      go_wp2_with fail
      go_ret
      exact ⟨rfl, rfl⟩
  · have gx : (x == 0) = false := by rw [beq_eq_false_iff_ne]; exact hx
    have e0 : orI x (orI y z) = x := by unfold orI; rw [if_neg hx]
    rw [e0]
    clear e0
    go_enter Try.func36, Try.ntmps36
    go_wp2_with fail
    refine wp_loop_rounds 5 ?_
    rw [rounds_succ]
    go_wp2_with fail
    go_ret
    exact ⟨rfl, rfl⟩

theorem isNaNi_any (x : Int) (w : World) : Calls Try.prog 71 #[.int .i64 x] w fun e w' => e = .returned (.bool false) ∧ w = w' := by
  have h : (x == x) = true := by simp
  go_enter Try.func71, Try.ntmps71
  go_wp2_with fail
  go_ret
  exact ⟨rfl, rfl⟩
set_option maxHeartbeats 400000 in
theorem cmpInt_any (x y : Int) (w : World) : Calls Try.prog 38 #[.int .i64 x, .int .i64 y] w fun e w' => e = .returned (.int .i64 (sgn x y)) ∧ w = w' := by
  by_cases h1 : x < y
  · have HE := Lib.hid (show sgn x y = -1 by unfold sgn; rw [if_pos h1])
    go_enter Try.func38, Try.ntmps38
    go_wp2_with (go_at_call 71; refine (isNaNi_any _ _).mono ?_; rintro e w' ⟨rfl, rfl⟩)
    go_ret
    exact ⟨by rw [HE.out]; rfl, rfl⟩
  · have g1 : decide (x < y) = false := by rw [decide_eq_false_iff_not]; exact h1
    by_cases h2 : y < x
    · have HE := Lib.hid (show sgn x y = 1 by unfold sgn; rw [if_neg h1, if_pos h2])
      clear h1
      go_enter Try.func38, Try.ntmps38
      go_wp2_with (go_at_call 71; refine (isNaNi_any _ _).mono ?_; rintro e w' ⟨rfl, rfl⟩)
      go_ret
      exact ⟨by rw [HE.out]; rfl, rfl⟩
    · have HE := Lib.hid (show sgn x y = 0 by unfold sgn; rw [if_neg h1, if_neg h2])
      have g2 : decide (y < x) = false := by rw [decide_eq_false_iff_not]; exact h2
      clear h1 h2
      go_enter Try.func38, Try.ntmps38
      go_wp2_with (go_at_call 71; refine (isNaNi_any _ _).mono ?_; rintro e w' ⟨rfl, rfl⟩)
      go_ret
      exact ⟨by rw [HE.out]; rfl, rfl⟩
theorem compareBytes_is : ∀ (a b : List UInt8), Lib.compareBytes a b = cmpB a b
  | [], [] => rfl
  | [], _ :: _ => rfl
  | _ :: _, [] => rfl
  | a :: x, b :: y => by
    rw [Lib.compareBytes]
    have ih := compareBytes_is x y
    by_cases h1 : a < b
    · have g : bytesLess (a :: x) (b :: y) = true := (less_cons _ _ _ _).2 (.inl (UInt8.lt_iff_toNat_lt.1 h1))
      rw [if_pos h1]
      unfold cmpB
      rw [if_pos g]
    · by_cases h2 : b < a
      · have h2' := UInt8.lt_iff_toNat_lt.1 h2
        have g : ¬ (bytesLess (a :: x) (b :: y) = true) := fun h => by
          rcases (less_cons _ _ _ _).1 h with h | ⟨rfl, _⟩ <;> omega
        have k : bytesLess (b :: y) (a :: x) = true := (less_cons _ _ _ _).2 (.inl h2')
        rw [if_neg h1, if_pos h2]
        unfold cmpB
        rw [if_neg g, if_pos k]
      · have e : a = b := UInt8.toNat_inj.1 (by
          have := mt UInt8.lt_iff_toNat_lt.2 h1
          have := mt UInt8.lt_iff_toNat_lt.2 h2
          omega)
        subst e
        have hx : ∀ u v, bytesLess (a :: u) (a :: v) = bytesLess u v := fun u v => by
          rw [Bool.eq_iff_iff, less_cons]
          constructor
          · rintro (h | ⟨_, h⟩)
            · omega
            · exact h
          · exact fun h => .inr ⟨rfl, h⟩
        rw [if_neg h1, if_neg h2, ih]
        unfold cmpB
        rw [hx, hx]
set_option maxHeartbeats 1000000 in
set_option maxRecDepth 100000 in
theorem bytealgC_any (A B : ByteArray) (w : World) :
    Calls Try.prog 72 #[.string A, .string B] w fun e w' => e = .returned (.int .i64 (Lib.compareBytes A.data.toList B.data.toList)) ∧ w = w' := by
  go_enter Try.func72, Try.ntmps72
  go_wp2
  rw [run_callFunc_extern Try.func99 (by kernel_rfl) (by kernel_rfl) (by kernel_rfl) (e := Extern.BytealgCompare.compare) (by kernel_rfl), Lib.run_compareString]
  simp only [Result.andThen]
  rw [Oper.upon_value]
  go_wp2
  go_ret
  exact ⟨rfl, rfl⟩
theorem strCmp_any (A B : ByteArray) (a b : List UInt8) (w : World) (hA : A = mk a) (hB : B = mk b) :
    Calls Try.prog 39 #[.string A, .string B] w fun e w' => e = .returned (.int .i64 (cmpB a b)) ∧ w = w' := by
  have HE := Lib.hid (show Lib.compareBytes A.data.toList B.data.toList = cmpB a b by rw [hA, hB, compareBytes_is]; rfl)
  clear hA hB
  go_enter Try.func39, Try.ntmps39
  go_wp2_with fail
  refine (bytealgC_any _ _ _).mono ?_
  rw [HE.out]
  rintro e w' ⟨rfl, rfl⟩
  go_wp2_with fail
  go_ret
  exact ⟨rfl, rfl⟩
end Go.Proofs.Ytdanncclnhkmgaa
