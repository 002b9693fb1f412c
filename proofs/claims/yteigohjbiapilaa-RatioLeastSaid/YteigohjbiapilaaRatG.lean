/- Least of the reference; the law RatioLeast, walked. No statement of the seat is proved here. -/
import Derived.Test.YteigohjbiapilaaRatF
namespace Go.Proofs.Yteigohjbiapilaa
open Go.RowKit

/-- a call that only reads, in a region whose draws were joined to earlier ones -/
theorem drawn_call {f : FuncId} {args : Array Value} {w : World} {a n : Nat} {v : Value} (h : ∀ W, Calls Try.prog f args W fun e w' => e = .returned v ∧ W = w') :
    Calls Try.prog f args (w.drewN (a + n)) fun e w' => e = .returned v ∧ ∃ m, w' = w.drewN (a + m) := by
  refine (h _).mono ?_
  rintro e w' ⟨he, rfl⟩
  exact ⟨he, n, rfl⟩
def atI (zs : List Nat) (k : Nat) : Int := if k = 0 then -1 else (bestAt zs k : Int)
theorem atI_zero (zs : List Nat) : atI zs 0 = -1 := rfl
theorem atI_one (zs : List Nat) : atI zs 1 = 0 := rfl
theorem best_next (zs : List Nat) {k : Nat} (h : 0 < k) : bestAt zs (k + 1) = if orderP (nth zs k) (nth zs (bestAt zs k)) < 0 then k else bestAt zs k := if_neg (by omega)
theorem Sees.drew {w : World} {B : Nat} {A : Option Addr} {n : Nat} {xs : List Value} (h : Sees w B A n xs) (m : Nat) : Sees (w.drewN m) B A n xs := h.keep fun _ _ => rfl
theorem atI_pos (zs : List Nat) {k : Nat} (h : 0 < k) : atI zs k = (bestAt zs k : Int) := if_neg (by omega)

set_option maxHeartbeats 400000 in
theorem refLeast_any (A : Option Addr) (n c B : Nat) (zs : List Nat) (w : World) (h : Sees w B A n (floats zs)) (hw : Words zs) (hn : n ≤ 60) :
    Calls Try.prog 13 #[.slice A n c] w fun e w' => e = .returned (.int .i64 (atI zs n)) ∧ ∃ m, w' = w.drewN m := by
  have hh := Lib.hid h
  have hw' := Lib.hid hw
  clear h hw
  go_enter Try.func13, Try.ntmps13
  go_wp2_with fail
  go_loopw [3, 4] (fun a i wr => ∃ k : Nat, k ≤ n ∧ i = .int .i64 k ∧ a = .int .i64 (atI zs k) ∧ ∃ m, wr = w.drewN m) (fun _ i _ => n - (intOf i).toNat)
  case atStart => exact ⟨0, Nat.zero_le _, rfl, rfl, 0, rfl⟩
  case round =>
    obtain ⟨k, hk, rfl, rfl, m, rfl⟩ := hrel
    by_cases hlt : k < n
    · have hlk : (k : Int) < (n : Int) := by omega
      have hk0 : (0 : Int) ≤ (k : Int) := by omega
      by_cases hz : k = 0
      · subst hz
        have e0 := atI_zero zs
        rw [e0]
        have e1 := Lib.hid (atI_one zs)
        clear e0
        go_wp2_with fail
        go_quiet (fail)
        go_wp2_with fail
        go_roundw
        case rel => exact ⟨1, by omega, rfl, by rw [e1.out]; rfl, _, rfl⟩
        case measure => simp [intOf]; omega
      · have hb := bestAt_lt zs k (by omega)
        have ea := atI_pos zs (k := k) (by omega)
        have ea2 := atI_pos zs (k := k + 1) (by omega)
        have hst := best_next zs (k := k) (by omega)
        rw [ea]
        clear ea hz
        obtain ⟨t, ht⟩ : ∃ t, bestAt zs k = t := ⟨_, rfl⟩
        rw [ht] at hb hst ⊢
        obtain ⟨b, off, hA, _, hc1⟩ := floats_at (k := k) hh.out (by omega)
        obtain ⟨b', off', hA', _, hc2⟩ := floats_at (k := t) hh.out (by omega)
        subst hA
        obtain ⟨rfl, rfl⟩ : b = b' ∧ off = off' := by injection hA' with hA'; injection hA' with e1 e2; exact ⟨e1, e2⟩
        have t0 : (0 : Int) ≤ (t : Int) := by omega
        have t1 : (t : Int) < (n : Int) := by omega
        have t2 : decide ((t : Int) < 0) = false := by rw [decide_eq_false_iff_not]; omega
        clear hA'
        by_cases ho : orderP (nth zs k) (nth zs t) < 0
        · rw [if_pos ho] at hst
          rw [hst] at ea2
          replace ea2 := Lib.hid ea2
          clear hst ht
          go_wp2_with fail
          go_quiet ((go_at_call 11; exact drawn_call (fun W => refOrder_any _ _ (hw'.out _) (hw'.out _) W)))
          go_wp2_with fail
          go_roundw
          case rel => exact ⟨k + 1, by omega, by go_num, by rw [ea2.out], _, rfl⟩
          case measure => simp [intOf]; omega
        · rw [if_neg ho] at hst
          rw [hst] at ea2
          replace ea2 := Lib.hid ea2
          clear hst ht
          go_wp2_with fail
          go_quiet ((go_at_call 11; exact drawn_call (fun W => refOrder_any _ _ (hw'.out _) (hw'.out _) W)))
          go_wp2_with fail
          go_roundw
          case rel => exact ⟨k + 1, by omega, by go_num, by rw [ea2.out], _, rfl⟩
          case measure => simp [intOf]; omega
    · obtain rfl : k = n := by omega
      go_wp2_with fail
      go_ret
      exact ⟨rfl, m, rfl⟩

set_option maxHeartbeats 400000 in
theorem RatioLeast_walk (A : Option Addr) (n c : Nat) (zs : List Nat) (w : World) (hin : InFloats w A n c zs) :
    Calls Try.prog 4 #[.slice A n c] w fun e w' => e = .returned (.bool true) ∧ Below w.heap.size w w' := by
  obtain ⟨h, hwf, hc, _⟩ := hin
  have hw := words_of hwf
  clear hwf
  by_cases h1 : 60 < n
  · have g1 : (60 : Int) < (n : Int) := by omega
    clear h hw hc h1
    go_enter Try.func4, Try.ntmps4
    go_wp2_with fail
    refine (awake_any _).mono ?_
    rintro e w1 ⟨rfl, m, rfl⟩
    go_wp2_with fail
    refine (awake_any _).mono ?_
    rintro e w1 ⟨rfl, m1, rfl⟩
    go_wp2_with fail
    go_ret
    exact ⟨rfl, below_drawn _ _⟩
  have g1 : ¬ (60 : Int) < (n : Int) := by omega
  have hh := Lib.hid h
  have hw' := Lib.hid hw
  clear h hw
  by_cases h0 : n = 0
  · subst h0
    clear g1 h1
    have e0 := atI_zero zs
    go_enter Try.func4, Try.ntmps4
    go_wp2_with fail
    refine (awake_any _).mono ?_
    rintro e w1 ⟨rfl, m, rfl⟩
    go_wp2_with fail
    refine (least_none _ _ _).mono ?_
    rintro e w1 ⟨rfl, rfl⟩
    go_wp2_with fail
    refine (refLeast_any A 0 c w.heap.size zs _ (hh.out.drew _) hw'.out (by omega)).mono ?_
    rintro e w1 ⟨rfl, m1, rfl⟩
    rw [e0]
    go_wp2_with fail
    refine (same_any 0 0 (by decide) (by decide) (.inr rfl) _).mono ?_
    rintro e w1 ⟨rfl, rfl⟩
    go_wp2_with fail
    go_ret
    exact ⟨rfl, below_drawn _ _⟩
  have hb := bestAt_lt zs n (by omega)
  have e0 := atI_pos zs (k := n) (by omega)
  obtain ⟨t, ht⟩ : ∃ t, bestAt zs n = t := ⟨_, rfl⟩
  rw [ht] at hb e0
  have hl := least_any A n c w.heap.size zs
  rw [ht] at hl
  obtain ⟨b, off, rfl, _, hc2⟩ := floats_at (k := t) hh.out (by omega)
  have t0 : (0 : Int) ≤ (t : Int) := by omega
  have t1 : (t : Int) < (n : Int) := by omega
  have t2 : ¬ (t : Int) < 0 := by omega
  have hp : 0 < n := by omega
  have hn : n ≤ 60 := by omega
  replace e0 := Lib.hid e0
  clear ht h0 h1
  go_enter Try.func4, Try.ntmps4
  go_wp2_with fail
  refine (awake_any _).mono ?_
  rintro e w1 ⟨rfl, m, rfl⟩
  go_wp2_with fail
  refine (hl _ (hh.out.drew _) hw'.out hp hn hc).mono ?_
  rintro e w1 ⟨rfl, rfl⟩
  go_wp2_with fail
  refine (refLeast_any _ n c w.heap.size zs _ (hh.out.drew _) hw'.out hn).mono ?_
  rintro e w1 ⟨rfl, m1, rfl⟩
  rw [e0.out]
  go_wp2_with fail
  refine (same_any _ _ (hw'.out t) (hw'.out t) (.inr rfl) _).mono ?_
  rintro e w1 ⟨rfl, rfl⟩
  go_wp2_with fail
  go_ret
  exact ⟨rfl, below_drawn _ _⟩
end Go.Proofs.Yteigohjbiapilaa
