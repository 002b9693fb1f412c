/- How many bits a number has; whether it fits a width. -/
import Derived.Test.YtdanncclnhkmgaaOctA
import Derived.Test.YtdanncclnhkmgaaOctMath
import Derived.Lib.EndianBits
namespace Go.Proofs.Ytdanncclnhkmgaa
open Go.RowKit

theorem wrap_small (a : Int) (h0 : 0 ≤ a) (h1 : a ≤ 1000) : wrap64 a = a := by
  unfold wrap64
  omega
theorem close0 (b x : Nat) (h : b = bitLen x) (h8 : bitLen x ≤ 8) : wrap64 (wrap64 (b : Int)) = (bitLen x : Int) := by
  rw [wrap_small (b : Int) (by omega) (by omega), wrap_small (b : Int) (by omega) (by omega)]
  omega
theorem closek (k : Int) (b x : Nat) (h0 : 0 ≤ k) (h1 : k ≤ 56) (h : b = bitLen x) (h8 : bitLen x ≤ 8) : wrap64 (k + wrap64 (b : Int)) = k + bitLen x := by
  rw [wrap_small (b : Int) (by omega) (by omega), wrap_small _ (by omega) (by omega)]
  omega

set_option maxHeartbeats 1000000 in
set_option maxRecDepth 100000 in
theorem Len64_000 (n : Nat) (w : World) (g1 : ¬ (4294967296 : Int) ≤ (n : Int)) (g2 : ¬ (65536 : Int) ≤ (n : Int)) (g3 : ¬ (256 : Int) ≤ (n : Int)) (f2 : (n : Int) < 256) (hl : Hid (bitLen (n) ≤ 8)) (h4 : Hid (n < 256)) :
    Calls Try.prog 113 #[.int .u64 n] w fun e w' => e = .returned (.int .i64 (bitLen n)) ∧ w = w' := by
  have f0 : (0 : Int) ≤ (n : Int) := by omega
  have f1 : (0 : Int) ≤ (n : Int) := by omega
  have f3 : (0 : Int) ≤ (n : Int) := by omega
  go_enter Try.func113, Try.ntmps113
  go_wp2_with fail
  go_ret
  have ht := len8tab_get _ h4.out
  refine ⟨?_, rfl⟩
  refine ret_int (a := wrap64 (wrap64 _)) (close0 _ _ ?_ hl.out)
  exact ht

set_option maxHeartbeats 1000000 in
set_option maxRecDepth 100000 in
theorem Len64_001 (n : Nat) (w : World) (g1 : ¬ (4294967296 : Int) ≤ (n : Int)) (g2 : ¬ (65536 : Int) ≤ (n : Int)) (g3 :  (256 : Int) ≤ (n : Int)) (f2 : (n : Int) / 256 < 256) (hl : Hid (bitLen (n / 256) ≤ 8)) (h4 : Hid (n / 256 < 256)) :
    Calls Try.prog 113 #[.int .u64 n] w fun e w' => e = .returned (.int .i64 (8 + bitLen (n / 256))) ∧ w = w' := by
  have f0 : (0 : Int) ≤ (n : Int) := by omega
  have f1 : (0 : Int) ≤ (n : Int) := by omega
  have f3 : (0 : Int) ≤ (n : Int) / 256 := by omega
  go_enter Try.func113, Try.ntmps113
  go_wp2_with fail
  go_ret
  have ht := len8tab_get _ h4.out
  refine ⟨?_, rfl⟩
  refine ret_int (a := wrap64 (8 + wrap64 _)) (closek 8 _ _ (by decide) (by decide) ?_ hl.out)
  exact ht

set_option maxHeartbeats 1000000 in
set_option maxRecDepth 100000 in
theorem Len64_010 (n : Nat) (w : World) (g1 : ¬ (4294967296 : Int) ≤ (n : Int)) (g2 :  (65536 : Int) ≤ (n : Int)) (g3 : ¬ (256 : Int) ≤ (n : Int) / 65536) (f2 : (n : Int) / 65536 < 256) (hl : Hid (bitLen (n / 65536) ≤ 8)) (h4 : Hid (n / 65536 < 256)) :
    Calls Try.prog 113 #[.int .u64 n] w fun e w' => e = .returned (.int .i64 (16 + bitLen (n / 65536))) ∧ w = w' := by
  have f0 : (0 : Int) ≤ (n : Int) := by omega
  have f1 : (0 : Int) ≤ (n : Int) / 65536 := by omega
  have f3 : (0 : Int) ≤ (n : Int) / 65536 := by omega
  go_enter Try.func113, Try.ntmps113
  go_wp2_with fail
  go_ret
  have ht := len8tab_get _ h4.out
  refine ⟨?_, rfl⟩
  refine ret_int (a := wrap64 (16 + wrap64 _)) (closek 16 _ _ (by decide) (by decide) ?_ hl.out)
  exact ht

set_option maxHeartbeats 1000000 in
set_option maxRecDepth 100000 in
theorem Len64_011 (n : Nat) (w : World) (g1 : ¬ (4294967296 : Int) ≤ (n : Int)) (g2 :  (65536 : Int) ≤ (n : Int)) (g3 :  (256 : Int) ≤ (n : Int) / 65536) (f2 : (n : Int) / 65536 / 256 < 256) (hl : Hid (bitLen (n / 65536 / 256) ≤ 8)) (h4 : Hid (n / 65536 / 256 < 256)) :
    Calls Try.prog 113 #[.int .u64 n] w fun e w' => e = .returned (.int .i64 (24 + bitLen (n / 65536 / 256))) ∧ w = w' := by
  have f0 : (0 : Int) ≤ (n : Int) := by omega
  have f1 : (0 : Int) ≤ (n : Int) / 65536 := by omega
  have f3 : (0 : Int) ≤ (n : Int) / 65536 / 256 := by omega
  go_enter Try.func113, Try.ntmps113
  go_wp2_with fail
  go_ret
  have ht := len8tab_get _ h4.out
  refine ⟨?_, rfl⟩
  refine ret_int (a := wrap64 (24 + wrap64 _)) (closek 24 _ _ (by decide) (by decide) ?_ hl.out)
  exact ht

set_option maxHeartbeats 1000000 in
set_option maxRecDepth 100000 in
theorem Len64_100 (n : Nat) (w : World) (g1 :  (4294967296 : Int) ≤ (n : Int)) (g2 : ¬ (65536 : Int) ≤ (n : Int) / 4294967296) (g3 : ¬ (256 : Int) ≤ (n : Int) / 4294967296) (f2 : (n : Int) / 4294967296 < 256) (hl : Hid (bitLen (n / 4294967296) ≤ 8)) (h4 : Hid (n / 4294967296 < 256)) :
    Calls Try.prog 113 #[.int .u64 n] w fun e w' => e = .returned (.int .i64 (32 + bitLen (n / 4294967296))) ∧ w = w' := by
  have f0 : (0 : Int) ≤ (n : Int) / 4294967296 := by omega
  have f1 : (0 : Int) ≤ (n : Int) / 4294967296 := by omega
  have f3 : (0 : Int) ≤ (n : Int) / 4294967296 := by omega
  go_enter Try.func113, Try.ntmps113
  go_wp2_with fail
  go_ret
  have ht := len8tab_get _ h4.out
  refine ⟨?_, rfl⟩
  refine ret_int (a := wrap64 (32 + wrap64 _)) (closek 32 _ _ (by decide) (by decide) ?_ hl.out)
  exact ht

set_option maxHeartbeats 1000000 in
set_option maxRecDepth 100000 in
theorem Len64_101 (n : Nat) (w : World) (g1 :  (4294967296 : Int) ≤ (n : Int)) (g2 : ¬ (65536 : Int) ≤ (n : Int) / 4294967296) (g3 :  (256 : Int) ≤ (n : Int) / 4294967296) (f2 : (n : Int) / 4294967296 / 256 < 256) (hl : Hid (bitLen (n / 4294967296 / 256) ≤ 8)) (h4 : Hid (n / 4294967296 / 256 < 256)) :
    Calls Try.prog 113 #[.int .u64 n] w fun e w' => e = .returned (.int .i64 (40 + bitLen (n / 4294967296 / 256))) ∧ w = w' := by
  have f0 : (0 : Int) ≤ (n : Int) / 4294967296 := by omega
  have f1 : (0 : Int) ≤ (n : Int) / 4294967296 := by omega
  have f3 : (0 : Int) ≤ (n : Int) / 4294967296 / 256 := by omega
  go_enter Try.func113, Try.ntmps113
  go_wp2_with fail
  go_ret
  have ht := len8tab_get _ h4.out
  refine ⟨?_, rfl⟩
  refine ret_int (a := wrap64 (40 + wrap64 _)) (closek 40 _ _ (by decide) (by decide) ?_ hl.out)
  exact ht

set_option maxHeartbeats 1000000 in
set_option maxRecDepth 100000 in
theorem Len64_110 (n : Nat) (w : World) (g1 :  (4294967296 : Int) ≤ (n : Int)) (g2 :  (65536 : Int) ≤ (n : Int) / 4294967296) (g3 : ¬ (256 : Int) ≤ (n : Int) / 4294967296 / 65536) (f2 : (n : Int) / 4294967296 / 65536 < 256) (hl : Hid (bitLen (n / 4294967296 / 65536) ≤ 8)) (h4 : Hid (n / 4294967296 / 65536 < 256)) :
    Calls Try.prog 113 #[.int .u64 n] w fun e w' => e = .returned (.int .i64 (48 + bitLen (n / 4294967296 / 65536))) ∧ w = w' := by
  have f0 : (0 : Int) ≤ (n : Int) / 4294967296 := by omega
  have f1 : (0 : Int) ≤ (n : Int) / 4294967296 / 65536 := by omega
  have f3 : (0 : Int) ≤ (n : Int) / 4294967296 / 65536 := by omega
  go_enter Try.func113, Try.ntmps113
  go_wp2_with fail
  go_ret
  have ht := len8tab_get _ h4.out
  refine ⟨?_, rfl⟩
  refine ret_int (a := wrap64 (48 + wrap64 _)) (closek 48 _ _ (by decide) (by decide) ?_ hl.out)
  exact ht

set_option maxHeartbeats 1000000 in
set_option maxRecDepth 100000 in
theorem Len64_111 (n : Nat) (w : World) (g1 :  (4294967296 : Int) ≤ (n : Int)) (g2 :  (65536 : Int) ≤ (n : Int) / 4294967296) (g3 :  (256 : Int) ≤ (n : Int) / 4294967296 / 65536) (f2 : (n : Int) / 4294967296 / 65536 / 256 < 256) (hl : Hid (bitLen (n / 4294967296 / 65536 / 256) ≤ 8)) (h4 : Hid (n / 4294967296 / 65536 / 256 < 256)) :
    Calls Try.prog 113 #[.int .u64 n] w fun e w' => e = .returned (.int .i64 (56 + bitLen (n / 4294967296 / 65536 / 256))) ∧ w = w' := by
  have f0 : (0 : Int) ≤ (n : Int) / 4294967296 := by omega
  have f1 : (0 : Int) ≤ (n : Int) / 4294967296 / 65536 := by omega
  have f3 : (0 : Int) ≤ (n : Int) / 4294967296 / 65536 / 256 := by omega
  go_enter Try.func113, Try.ntmps113
  go_wp2_with fail
  go_ret
  have ht := len8tab_get _ h4.out
  refine ⟨?_, rfl⟩
  refine ret_int (a := wrap64 (56 + wrap64 _)) (closek 56 _ _ (by decide) (by decide) ?_ hl.out)
  exact ht

theorem bitLen_iff (n k : Nat) : bitLen n ≤ k ↔ n < 2 ^ k := by
  have h := bitLen_spec n
  constructor
  · intro hk
    exact Nat.lt_of_lt_of_le h.1 (Nat.pow_le_pow_right (by omega) hk)
  · intro hn
    rcases Nat.eq_zero_or_pos n with h0 | h0
    · subst h0; simp [bitLen]
    · have h2 := h.2 (by omega)
      have : bitLen n - 1 < k := (Nat.pow_lt_pow_iff_right (by omega : 1 < 2)).1 (Nat.lt_of_le_of_lt h2 hn)
      omega
theorem shift_len (n b : Nat) (h : 2 ^ b ≤ n) : bitLen n = b + bitLen (n / 2 ^ b) := bitLen_shift n b (by
  have : 0 < n / 2 ^ b := Nat.div_pos h (Nat.two_pow_pos b)
  omega)

/-- bits.Len64 -/
theorem Len64_any (n : Nat) (w : World) (h : n < 2 ^ 64) :
    Calls Try.prog 113 #[.int .u64 n] w fun e w' => e = .returned (.int .i64 (bitLen n)) ∧ w = w' := by
  by_cases ha : 4294967296 ≤ n
  · have e1 : bitLen n = 32 + bitLen (n / 4294967296) := shift_len n 32 ha
    by_cases hb : 65536 ≤ n / 4294967296
    · have e2 : bitLen (n / 4294967296) = 16 + bitLen (n / 4294967296 / 65536) := shift_len _ 16 hb
      by_cases hc : 256 ≤ n / 4294967296 / 65536
      · have e3 : bitLen (n / 4294967296 / 65536) = 8 + bitLen (n / 4294967296 / 65536 / 256) := shift_len _ 8 hc
        refine (Len64_111 n w (by omega) (by omega) (by omega) (by omega) (Lib.hid (bitLen_le8 _ (by omega))) (Lib.hid (by omega))).mono ?_
        rintro e w' ⟨rfl, rfl⟩
        exact ⟨ret_int (by omega), rfl⟩
      · refine (Len64_110 n w (by omega) (by omega) (by omega) (by omega) (Lib.hid (bitLen_le8 _ (by omega))) (Lib.hid (by omega))).mono ?_
        rintro e w' ⟨rfl, rfl⟩
        exact ⟨ret_int (by omega), rfl⟩
    · by_cases hc : 256 ≤ n / 4294967296
      · have e3 : bitLen (n / 4294967296) = 8 + bitLen (n / 4294967296 / 256) := shift_len _ 8 hc
        refine (Len64_101 n w (by omega) (by omega) (by omega) (by omega) (Lib.hid (bitLen_le8 _ (by omega))) (Lib.hid (by omega))).mono ?_
        rintro e w' ⟨rfl, rfl⟩
        exact ⟨ret_int (by omega), rfl⟩
      · refine (Len64_100 n w (by omega) (by omega) (by omega) (by omega) (Lib.hid (bitLen_le8 _ (by omega))) (Lib.hid (by omega))).mono ?_
        rintro e w' ⟨rfl, rfl⟩
        exact ⟨ret_int (by omega), rfl⟩
  · by_cases hb : 65536 ≤ n
    · have e2 : bitLen n = 16 + bitLen (n / 65536) := shift_len _ 16 hb
      by_cases hc : 256 ≤ n / 65536
      · have e3 : bitLen (n / 65536) = 8 + bitLen (n / 65536 / 256) := shift_len _ 8 hc
        refine (Len64_011 n w (by omega) (by omega) (by omega) (by omega) (Lib.hid (bitLen_le8 _ (by omega))) (Lib.hid (by omega))).mono ?_
        rintro e w' ⟨rfl, rfl⟩
        exact ⟨ret_int (by omega), rfl⟩
      · refine (Len64_010 n w (by omega) (by omega) (by omega) (by omega) (Lib.hid (bitLen_le8 _ (by omega))) (Lib.hid (by omega))).mono ?_
        rintro e w' ⟨rfl, rfl⟩
        exact ⟨ret_int (by omega), rfl⟩
    · by_cases hc : 256 ≤ n
      · have e3 : bitLen n = 8 + bitLen (n / 256) := shift_len _ 8 hc
        refine (Len64_001 n w (by omega) (by omega) (by omega) (by omega) (Lib.hid (bitLen_le8 _ (by omega))) (Lib.hid (by omega))).mono ?_
        rintro e w' ⟨rfl, rfl⟩
        exact ⟨ret_int (by omega), rfl⟩
      · refine (Len64_000 n w (by omega) (by omega) (by omega) (by omega) (Lib.hid (bitLen_le8 _ (by omega))) (Lib.hid (by omega))).mono ?_
        rintro e w' ⟨rfl, rfl⟩
        exact ⟨rfl, rfl⟩

def fitB (n k : Nat) : Bool := decide (n < 256 ^ k)
theorem fitB_eq (n k : Nat) : decide ((bitLen n : Int) ≤ 8 * (k : Int)) = fitB n k := by
  unfold fitB
  rw [decide_eq_decide, show (256 : Nat) ^ k = 2 ^ (8 * k) from by rw [Nat.pow_mul]]
  have := bitLen_iff n (8 * k)
  omega

set_option maxHeartbeats 400000 in
/-- fits, at a width -/
theorem fits_any (n k : Nat) (w : World) (h : n < 2 ^ 64) (hk : k ≤ 8) :
    Calls Try.prog 101 #[.int .u64 n, .int .i64 k] w fun e w' => e = .returned (.bool (fitB n k)) ∧ w = w' := by
  have HN := Lib.hid h
  clear h
  have hb := bitLen_iff n 64
  have hb' : Hid (bitLen n ≤ 64) := Lib.hid (hb.2 HN.out)
  clear hb
  have hb2 := hb'.out
  go_enter Try.func101, Try.ntmps101
  go_wp2_with (go_at_call 113; refine (Len64_any _ _ HN.out).mono ?_; rintro e w' ⟨rfl, rfl⟩)
  go_ret
  exact ⟨ret_bool (fitB_eq n k), rfl⟩
end Go.Proofs.Ytdanncclnhkmgaa
