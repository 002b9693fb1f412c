/- Whole of package ratio and of its reference; the law RatioWhole, walked. No statement of the seat is proved here. -/
import Derived.Test.YteigohjbiapilaaRatD
import Derived.Test.YteigohjbiapilaaFld
namespace Go.Proofs.Yteigohjbiapilaa
open Go.RowKit

def wholeN (x : Nat) : Int := if wholeB x then wholeI x else 0

theorem whole_any (x : Nat) (hx : x < 18446744073709551616) (w : World) : Calls Try.prog 21 #[.float .f64 x] w fun e w' => e = .returned (.tuple #[.int .i64 (wholeN x), .bool (wholeB x)]) ∧ w = w' := by
  have g1 := f_ge x 14114281232179134464 hx (by decide)
  have g2 := f_lt x 4890909195324358656 hx (by decide)
  have hw := whole_ends x hx
  have hn : wholeN x = if wholeB x then wholeI x else 0 := rfl
  cases h1 : (ltB 14114281232179134464 x || eqB x 14114281232179134464)
  · rw [h1] at g1 hw
    have h3 : false = wholeB x := hw
    rw [← h3] at hn
    replace hn := Lib.hid hn
    replace h3 := Lib.hid h3
    clear hw g2
    go_enter Try.func21, Try.ntmps21
    go_wp2
    go_ret2
    exact ⟨ret_two (hn.out.trans rfl).symm h3.out, rfl⟩
  rw [h1] at g1 hw
  cases h2 : ltB x 4890909195324358656
  · rw [h2] at g2 hw
    have h3 : false = wholeB x := hw
    rw [← h3] at hn
    replace hn := Lib.hid hn
    replace h3 := Lib.hid h3
    clear hw
    go_enter Try.func21, Try.ntmps21
    go_wp2
    go_ret2
    exact ⟨ret_two (hn.out.trans rfl).symm h3.out, rfl⟩
  rw [h2] at g2 hw
  have h3 : true = wholeB x := hw
  have hv := (whole_val x hx h3.symm).1
  rw [← h3] at hn
  have hc : ∀ w, (convert 22 3 (.float .f64 x)).run Try.prog w = .ok (.int .i64 (wholeI x)) w := fun w => run_convert_float_int w 22 3 .f64 .i64 x _ (by rw [Try.underlying22]; rfl) Try.underlying3 hv
  replace hn := Lib.hid hn
  replace h3 := Lib.hid h3
  clear hw hv
  go_enter Try.func21, Try.ntmps21
  go_wp2_with (simp only [hc])
  go_ret2
  exact ⟨ret_two (hn.out.trans rfl).symm h3.out, rfl⟩

theorem wholeI_neg {x : Nat} (h : negB x = true) : wholeI x = -(wholeV x : Int) := by unfold wholeI; rw [h]; rfl
theorem wholeI_pos {x : Nat} (h : negB x = false) : wholeI x = (wholeV x : Int) := by unfold wholeI; rw [h]; rfl

theorem refWhole_any (x : Nat) (hx : x < 18446744073709551616) (w : World) : Calls Try.prog 22 #[.float .f64 x] w fun e w' => e = .returned (.tuple #[.int .i64 (wholeN x), .bool (wholeB x)]) ∧ w = w' := by
  have g1 := (f_eq x 14114281232179134464 hx (by decide)).trans (whole_end_eq x hx)
  have hn : wholeN x = if wholeB x then wholeI x else 0 := rfl
  have hE := (expR_eq x).symm
  have hM := (fullR_eq x).symm
  have hf := fullR_lt x
  rcases whole_cases x hx with ⟨b, k, _, _⟩ | ⟨b, k, _, _⟩ | ⟨b, k, ne⟩
  · by_cases hc : x = 14114281232179134464
    · exfalso; subst hc; exact absurd k (by decide)
    rw [decide_eq_false hc] at g1
    have hv := wholeV_lt x k
    have hd : wholeV x = if expR x < 1023 then 0 else if expR x ≤ 1075 then fullR x / 2 ^ (1075 - expR x) else fullR x * 2 ^ (expR x - 1075) := rfl
    rw [b, if_pos rfl] at hn
    replace b := Lib.hid b
    obtain ⟨E, hEE⟩ : ∃ E : Int, ((expR x : Nat) : Int) = E := ⟨_, rfl⟩
    obtain ⟨M, hMM⟩ : ∃ M : Int, ((fullR x : Nat) : Int) = M := ⟨_, rfl⟩
    rw [hEE] at hE
    rw [hMM] at hM
    have i1 : E < 1086 := by omega
    have i0 : 0 ≤ E := by omega
    have m0 : 4503599627370496 ≤ M := by omega
    have m1 : M < 9007199254740992 := by omega
    by_cases c1 : E < 1023
    · rw [if_pos (by omega)] at hd
      have hg : (0 : Int) = wholeN x := by
        rw [hn]
        cases hs : negB x
        · rw [wholeI_pos hs, hd]; rfl
        · rw [wholeI_neg hs, hd]; rfl
      replace hg := Lib.hid hg
      clear hn hd hv hEE hMM hc k hf m0 m1
      go_enter Try.func22, Try.ntmps22
      go_wp2
      go_ret2
      exact ⟨ret_two hg.out b.out.symm, rfl⟩
    rw [if_neg (by omega)] at hd
    by_cases c2 : E ≤ 1075
    · rw [if_pos (by omega)] at hd
      obtain ⟨V, hVV⟩ : ∃ V : Int, ((wholeV x : Nat) : Int) = V := ⟨_, rfl⟩
      have hV : M / 2 ^ (1075 - E).toNat = V := by
        rw [← hVV, hd, ← hMM, show (1075 - E).toNat = 1075 - expR x by omega]
        norm_cast
      have v0 : 0 ≤ V := by omega
      have v1 : V < 9223372036854775808 := by omega
      have s0 : 0 ≤ 1075 - E := by omega
      have s1 : 1075 - E ≤ 64 := by omega
      cases hs : negB x
      · have hg : V = wholeN x := by rw [hn, wholeI_pos hs, hVV]
        replace hg := Lib.hid hg
        clear hn hd hv hEE hMM hc k hf hVV
        go_enter Try.func22, Try.ntmps22
        go_wp2_with fail
        refine (below_any x _).mono ?_
        rintro e w1 ⟨rfl, rfl⟩
        go_wp2
        go_ret2
        exact ⟨ret_two hg.out b.out.symm, rfl⟩
      · have hg : -V = wholeN x := by rw [hn, wholeI_neg hs, hVV]
        replace hg := Lib.hid hg
        clear hn hd hv hEE hMM hc k hf hVV
        go_enter Try.func22, Try.ntmps22
        go_wp2_with fail
        refine (below_any x _).mono ?_
        rintro e w1 ⟨rfl, rfl⟩
        go_wp2
        go_ret2
        exact ⟨ret_two hg.out b.out.symm, rfl⟩
    · rw [if_neg (by omega)] at hd
      obtain ⟨V, hVV⟩ : ∃ V : Int, ((wholeV x : Nat) : Int) = V := ⟨_, rfl⟩
      have hV : M * 2 ^ (E - 1023 - 52).toNat = V := by
        rw [← hVV, hd, ← hMM, show (E - 1023 - 52).toNat = expR x - 1075 by omega]
        norm_cast
      have v0 : 0 ≤ V := by omega
      have v1 : V < 9223372036854775808 := by omega
      have s0 : 0 ≤ E - 1023 - 52 := by omega
      have s1 : E - 1023 - 52 ≤ 64 := by omega
      cases hs : negB x
      · have hg : V = wholeN x := by rw [hn, wholeI_pos hs, hVV]
        replace hg := Lib.hid hg
        clear hn hd hv hEE hMM hc k hf hVV
        go_enter Try.func22, Try.ntmps22
        go_wp2_with fail
        refine (below_any x _).mono ?_
        rintro e w1 ⟨rfl, rfl⟩
        go_wp2
        go_ret2
        exact ⟨ret_two hg.out b.out.symm, rfl⟩
      · have hg : -V = wholeN x := by rw [hn, wholeI_neg hs, hVV]
        replace hg := Lib.hid hg
        clear hn hd hv hEE hMM hc k hf hVV
        go_enter Try.func22, Try.ntmps22
        go_wp2_with fail
        refine (below_any x _).mono ?_
        rintro e w1 ⟨rfl, rfl⟩
        go_wp2
        go_ret2
        exact ⟨ret_two hg.out b.out.symm, rfl⟩
  · rw [decide_eq_true k] at g1
    have hg : (-9223372036854775808 : Int) = wholeN x := by rw [hn, b, k]; decide
    replace hg := Lib.hid hg
    replace b := Lib.hid b
    replace k := Lib.hid k
    clear hn hf
    obtain ⟨E, hEE⟩ : ∃ E : Int, ((expR x : Nat) : Int) = E := ⟨_, rfl⟩
    obtain ⟨M, hMM⟩ : ∃ M : Int, ((fullR x : Nat) : Int) = M := ⟨_, rfl⟩
    rw [hEE] at hE
    rw [hMM] at hM
    clear hEE hMM
    go_enter Try.func22, Try.ntmps22
    go_wp2
    go_ret2
    exact ⟨ret_two hg.out b.out.symm, rfl⟩
  · rw [decide_eq_false ne] at g1
    have hg : (0 : Int) = wholeN x := by rw [hn, b]; rfl
    replace hg := Lib.hid hg
    replace b := Lib.hid b
    clear hn hf ne
    obtain ⟨E, hEE⟩ : ∃ E : Int, ((expR x : Nat) : Int) = E := ⟨_, rfl⟩
    obtain ⟨M, hMM⟩ : ∃ M : Int, ((fullR x : Nat) : Int) = M := ⟨_, rfl⟩
    rw [hEE] at hE
    rw [hMM] at hM
    have i1 : 1086 ≤ E := by omega
    clear hEE hMM k
    go_enter Try.func22, Try.ntmps22
    go_wp2
    go_ret2
    exact ⟨ret_two hg.out b.out.symm, rfl⟩

theorem RatioWhole_walk (x : Nat) (w : World) (hx : (Lit.float .f64 x).wf = true) :
    Calls Try.prog 7 #[.float .f64 x] w fun e w' => e = .returned (.bool true) ∧ Below w.heap.size w w' := by
  have hx' := float_lt hx
  have h1 : (wholeN x == wholeN x) = true := by simp
  have h2 : (wholeB x == wholeB x) = true := by simp
  go_enter Try.func7, Try.ntmps7
  go_wp2_with fail
  refine (awake_any _).mono ?_
  rintro e w1 ⟨rfl, m, rfl⟩
  go_wp2_with fail
  refine (whole_any x hx' _).mono ?_
  rintro e w1 ⟨rfl, rfl⟩
  go_wp2_with fail
  refine (refWhole_any x hx' _).mono ?_
  rintro e w1 ⟨rfl, rfl⟩
  go_wp2
  go_ret
  exact ⟨rfl, below_drawn _ _⟩
end Go.Proofs.Yteigohjbiapilaa
