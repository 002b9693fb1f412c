/- Least of package ratio and of its reference; the law RatioLeast, walked. No statement of the seat is proved here. -/
import Derived.Test.YteigohjbiapilaaSee
namespace Go.Proofs.Yteigohjbiapilaa
open Go.RowKit

/-- the number of the first of the least among the first k -/
def bestAt (zs : List Nat) : Nat → Nat
  | 0 => 0
  | k + 1 => if k = 0 then 0 else if orderP (nth zs k) (nth zs (bestAt zs k)) < 0 then k else bestAt zs k
theorem bestAt_lt (zs : List Nat) (k : Nat) (h : 0 < k) : bestAt zs k < k := by
  induction k with
  | zero => omega
  | succ n ih =>
    unfold bestAt
    by_cases h0 : n = 0
    · rw [if_pos h0]; omega
    · rw [if_neg h0]
      have := ih (by omega)
      split <;> omega
def Words (zs : List Nat) : Prop := ∀ k, nth zs k < 18446744073709551616
theorem words_of {zs : List Nat} (h : ∀ z ∈ zs, (Lit.float .f64 z).wf = true) : Words zs := by
  intro k
  unfold nth
  rw [List.getD]
  by_cases hk : k < zs.length
  · rw [List.getElem?_eq_getElem hk]; exact float_lt (h _ (List.getElem_mem hk))
  · rw [List.getElem?_eq_none (by omega)]; decide

set_option maxHeartbeats 400000 in
theorem least_none (A : Option Addr) (c : Nat) (w : World) : Calls Try.prog 12 #[.slice A 0 c] w fun e w' => e = .returned (.tuple #[.float .f64 0, .bool false]) ∧ w = w' := by
  go_enter Try.func12, Try.ntmps12
  go_wp2
  go_ret2
  exact ⟨rfl, rfl⟩
theorem best_one (zs : List Nat) : bestAt zs 1 = 0 := rfl
theorem best_step (zs : List Nat) (k : Nat) : bestAt zs (k + 1 + 1) = if orderP (nth zs (k + 1)) (nth zs (bestAt zs (k + 1))) < 0 then k + 1 else bestAt zs (k + 1) := by
  show (if k + 1 = 0 then 0 else _) = _
  rw [if_neg (by omega)]

set_option maxHeartbeats 400000 in
theorem least_any (A : Option Addr) (n c B : Nat) (zs : List Nat) (w : World) (h : Sees w B A n (floats zs)) (hw : Words zs) (h0 : 0 < n) (hn : n ≤ 60) (hc : n ≤ c) :
    Calls Try.prog 12 #[.slice A n c] w fun e w' => e = .returned (.tuple #[.float .f64 (nth zs (bestAt zs n)), .bool true]) ∧ w = w' := by
  obtain ⟨b, off, hA, _, hc0⟩ := floats_at h h0
  rw [Nat.add_zero] at hc0
  have hh := Lib.hid h
  have hw' := Lib.hid hw
  clear h hw
  obtain ⟨p, rfl⟩ : ∃ p, n = p + 1 := ⟨n - 1, by omega⟩
  have i0 : 0 ≤ (p : Int) := by omega
  have i1 : ((p : Int) + 1 == 0) = false := by rw [beq_eq_false_iff_ne]; omega
  by_cases h1 : c = 1
  · obtain rfl : p = 0 := by omega
    subst h1 hA
    clear i1
    go_enter Try.func12, Try.ntmps12
    go_wp2_with fail
    go_loop [4, 16] (fun b i => i = .int .i64 0 ∧ b = .float .f64 (nth zs 0)) (fun _ _ => 0)
    case atStart => exact ⟨rfl, rfl⟩
    case round =>
      obtain ⟨rfl, rfl⟩ := hrel
      go_wp2_with fail
      go_ret2
      exact ⟨rfl, rfl⟩
  subst hA
  have i2 : (p : Int) + 1 ≤ (c : Int) := by omega
  go_enter Try.func12, Try.ntmps12
  go_wp2_with fail
  go_loop [4, 16] (fun b i => ∃ k : Nat, k ≤ p ∧ i = .int .i64 k ∧ b = .float .f64 (nth zs (bestAt zs (k + 1)))) (fun _ i => p - (intOf i).toNat)
  case atStart => exact ⟨0, Nat.zero_le _, rfl, by rw [best_one]⟩
  case round =>
    obtain ⟨k, hk, rfl, rfl⟩ := hrel
    by_cases hlt : k < p
    · obtain ⟨b', off', hA', _, hc'⟩ := floats_at (k := k + 1) hh.out (by omega)
      obtain ⟨rfl, rfl⟩ : b = b' ∧ off = off' := by injection hA' with hA'; injection hA' with e1 e2; exact ⟨e1, e2⟩
      have hc2 : w.cell? ⟨b, off + 1 + k, none⟩ = some (.float .f64 (nth zs (k + 1))) := by rw [show off + 1 + k = off + (k + 1) by omega]; exact hc'
      have hst := best_step zs k
      have hlk : (k : Int) < (p : Int) := by omega
      clear hc' hA'
      by_cases ho : orderP (nth zs (k + 1)) (nth zs (bestAt zs (k + 1))) < 0
      · rw [if_pos ho] at hst
        replace hst := Lib.hid hst
        go_wp2_with fail
        refine (order_any _ _ (hw'.out _) (hw'.out _) _).mono ?_
        rintro e w1 ⟨rfl, rfl⟩
        go_wp2_with fail
        go_round
        case rel => exact ⟨k + 1, by omega, by go_num, by rw [hst.out]⟩
        case measure => simp [intOf]; omega
      · rw [if_neg ho] at hst
        replace hst := Lib.hid hst
        go_wp2_with fail
        refine (order_any _ _ (hw'.out _) (hw'.out _) _).mono ?_
        rintro e w1 ⟨rfl, rfl⟩
        go_wp2_with fail
        go_round
        case rel => exact ⟨k + 1, by omega, by go_num, by rw [hst.out]⟩
        case measure => simp [intOf]; omega
    · obtain rfl : k = p := by omega
      go_wp2_with fail
      go_ret2
      exact ⟨rfl, rfl⟩
end Go.Proofs.Yteigohjbiapilaa
