/- isDigit, cutDigits, cutByte. -/
import Derived.Test.YtpfbieehdkonhaaDoorDotB
namespace Go.Proofs.YtpfbieehdkonhaaDoor
open Go.RowKit

attribute [local go_sem] wts_0 wts_1 wts_2

theorem isDigit_yes (d : Nat) (w : World) (h1 : 48 ≤ d) (h2 : d ≤ 57) : Calls Tryd.prog 60 #[.int .u8 (d : Nat)] w fun e w' => e = .returned (.bool true) ∧ w = w' := by
  have g1 : (48 : Int) ≤ (d : Int) := by omega
  have g2 : (d : Int) ≤ 57 := by omega
  go_enter Tryd.func60, Tryd.ntmps60
  go_wp2_with fail
  go_ret
  exact ⟨rfl, rfl⟩
theorem isDigit_no (d : Nat) (w : World) (h : ¬ (48 ≤ d ∧ d ≤ 57)) : Calls Tryd.prog 60 #[.int .u8 (d : Nat)] w fun e w' => e = .returned (.bool false) ∧ w = w' := by
  go_enter Tryd.func60, Tryd.ntmps60
  by_cases h1 : 48 ≤ d
  · have g1 : (48 : Int) ≤ (d : Int) := by omega
    have g2 : ¬ (d : Int) ≤ 57 := by omega
    go_wp2_with fail
    go_ret
    exact ⟨rfl, rfl⟩
  · have g1 : ¬ (48 : Int) ≤ (d : Int) := by omega
    go_wp2_with fail
    go_ret
    exact ⟨rfl, rfl⟩

/-- what a cut of a byte hands back -/
def OutC (o : Option (UInt8 × List UInt8)) (c : Int) (r : ByteArray) (ok : Bool) : Prop :=
  match o with
  | none => ok = false
  | some (d, t) => ok = true ∧ c = (d.toNat : Nat) ∧ r = mk t
def OutE (o : Option (UInt8 × List UInt8)) (e : Ending) : Prop := ∃ c r ok, e = .returned (.tuple #[.int .u8 c, .string r, .bool ok]) ∧ OutC o c r ok
theorem OutE.none : OutE none (.returned (.tuple #[.int .u8 0, .string ⟨#[]⟩, .bool false])) := ⟨_, _, _, rfl, rfl⟩
theorem isD_nat {c : UInt8} {d : Nat} (hd : d = c.toNat) : isD c = true ↔ 48 ≤ d ∧ d ≤ 57 := by subst hd; unfold isD; simp

/-- three digits -/
theorem cutDigits_end0 (S : ByteArray) (w : World) (hw : Wts w)  (q0 : ((0 : Int) == (S.size : Int)) = true) :
    Calls Tryd.prog 61 #[.string S] w fun e w' => OutE none e ∧ ∃ m, w' = w.drewN m := by
  obtain ⟨w0, w1, w2⟩ := hw
  go_enter Tryd.func61, Tryd.ntmps61
  go_wp2_with fail
  refine wp_loop_rounds 4 ?_
  rw [rounds_succ]
  go_wp2_with fail
  go_ret3
  exact ⟨OutE.none, 0, rfl⟩
theorem cutDigits_not0 (S : ByteArray) (w : World) (hw : Wts w)  (x0 : Nat) (no : ¬ (48 ≤ x0 ∧ x0 ≤ 57)) (k0 : 0 < S.size) (c0 : (S[0]'k0).toNat = x0) (q0 : ((0 : Int) == (S.size : Int)) = false) :
    Calls Tryd.prog 61 #[.string S] w fun e w' => OutE none e ∧ ∃ m, w' = w.drewN m := by
  obtain ⟨w0, w1, w2⟩ := hw
  go_enter Tryd.func61, Tryd.ntmps61
  go_wp2_with fail
  refine wp_loop_rounds 4 ?_
  rw [rounds_succ]
  go_wp2_with fail
  refine (isDigit_no x0 _ no).mono ?_
  rintro e w' ⟨rfl, rfl⟩
  go_wp2_with fail
  go_ret3
  exact ⟨OutE.none, 0, rfl⟩
theorem cutDigits_end1 (S : ByteArray) (w : World) (hw : Wts w) (x0 : Nat) (y0 : 48 ≤ x0) (z0 : x0 ≤ 57) (k0 : 0 < S.size) (c0 : (S[0]'k0).toNat = x0) (q0 : ((0 : Int) == (S.size : Int)) = false) (q1 : ((1 : Int) == (S.size : Int)) = true) :
    Calls Tryd.prog 61 #[.string S] w fun e w' => OutE none e ∧ ∃ m, w' = w.drewN m := by
  obtain ⟨w0, w1, w2⟩ := hw
  go_enter Tryd.func61, Tryd.ntmps61
  go_wp2_with fail
  refine wp_loop_rounds 4 ?_
  rw [rounds_succ]
  go_wp2_with fail
  refine (isDigit_yes x0 _ y0 z0).mono ?_
  rintro e w' ⟨rfl, rfl⟩
  go_wp2_with fail
  rw [rounds_succ]
  go_wp2_with fail
  go_ret3
  exact ⟨OutE.none, 0, rfl⟩
theorem cutDigits_not1 (S : ByteArray) (w : World) (hw : Wts w) (x0 : Nat) (y0 : 48 ≤ x0) (z0 : x0 ≤ 57) (k0 : 0 < S.size) (c0 : (S[0]'k0).toNat = x0) (q0 : ((0 : Int) == (S.size : Int)) = false) (x1 : Nat) (no : ¬ (48 ≤ x1 ∧ x1 ≤ 57)) (k1 : 1 < S.size) (c1 : (S[1]'k1).toNat = x1) (q1 : ((1 : Int) == (S.size : Int)) = false) :
    Calls Tryd.prog 61 #[.string S] w fun e w' => OutE none e ∧ ∃ m, w' = w.drewN m := by
  obtain ⟨w0, w1, w2⟩ := hw
  go_enter Tryd.func61, Tryd.ntmps61
  go_wp2_with fail
  refine wp_loop_rounds 4 ?_
  rw [rounds_succ]
  go_wp2_with fail
  refine (isDigit_yes x0 _ y0 z0).mono ?_
  rintro e w' ⟨rfl, rfl⟩
  go_wp2_with fail
  rw [rounds_succ]
  go_wp2_with fail
  refine (isDigit_no x1 _ no).mono ?_
  rintro e w' ⟨rfl, rfl⟩
  go_wp2_with fail
  go_ret3
  exact ⟨OutE.none, 0, rfl⟩
theorem cutDigits_end2 (S : ByteArray) (w : World) (hw : Wts w) (x0 : Nat) (y0 : 48 ≤ x0) (z0 : x0 ≤ 57) (k0 : 0 < S.size) (c0 : (S[0]'k0).toNat = x0) (q0 : ((0 : Int) == (S.size : Int)) = false) (x1 : Nat) (y1 : 48 ≤ x1) (z1 : x1 ≤ 57) (k1 : 1 < S.size) (c1 : (S[1]'k1).toNat = x1) (q1 : ((1 : Int) == (S.size : Int)) = false) (q2 : ((2 : Int) == (S.size : Int)) = true) :
    Calls Tryd.prog 61 #[.string S] w fun e w' => OutE none e ∧ ∃ m, w' = w.drewN m := by
  obtain ⟨w0, w1, w2⟩ := hw
  go_enter Tryd.func61, Tryd.ntmps61
  go_wp2_with fail
  refine wp_loop_rounds 4 ?_
  rw [rounds_succ]
  go_wp2_with fail
  refine (isDigit_yes x0 _ y0 z0).mono ?_
  rintro e w' ⟨rfl, rfl⟩
  go_wp2_with fail
  rw [rounds_succ]
  go_wp2_with fail
  refine (isDigit_yes x1 _ y1 z1).mono ?_
  rintro e w' ⟨rfl, rfl⟩
  go_wp2_with fail
  rw [rounds_succ]
  go_wp2_with fail
  go_ret3
  exact ⟨OutE.none, 0, rfl⟩
theorem cutDigits_not2 (S : ByteArray) (w : World) (hw : Wts w) (x0 : Nat) (y0 : 48 ≤ x0) (z0 : x0 ≤ 57) (k0 : 0 < S.size) (c0 : (S[0]'k0).toNat = x0) (q0 : ((0 : Int) == (S.size : Int)) = false) (x1 : Nat) (y1 : 48 ≤ x1) (z1 : x1 ≤ 57) (k1 : 1 < S.size) (c1 : (S[1]'k1).toNat = x1) (q1 : ((1 : Int) == (S.size : Int)) = false) (x2 : Nat) (no : ¬ (48 ≤ x2 ∧ x2 ≤ 57)) (k2 : 2 < S.size) (c2 : (S[2]'k2).toNat = x2) (q2 : ((2 : Int) == (S.size : Int)) = false) :
    Calls Tryd.prog 61 #[.string S] w fun e w' => OutE none e ∧ ∃ m, w' = w.drewN m := by
  obtain ⟨w0, w1, w2⟩ := hw
  go_enter Tryd.func61, Tryd.ntmps61
  go_wp2_with fail
  refine wp_loop_rounds 4 ?_
  rw [rounds_succ]
  go_wp2_with fail
  refine (isDigit_yes x0 _ y0 z0).mono ?_
  rintro e w' ⟨rfl, rfl⟩
  go_wp2_with fail
  rw [rounds_succ]
  go_wp2_with fail
  refine (isDigit_yes x1 _ y1 z1).mono ?_
  rintro e w' ⟨rfl, rfl⟩
  go_wp2_with fail
  rw [rounds_succ]
  go_wp2_with fail
  refine (isDigit_no x2 _ no).mono ?_
  rintro e w' ⟨rfl, rfl⟩
  go_wp2_with fail
  go_ret3
  exact ⟨OutE.none, 0, rfl⟩
theorem cutDigits_all (S : ByteArray) (w : World) (hw : Wts w) (x0 : Nat) (y0 : 48 ≤ x0) (z0 : x0 ≤ 57) (k0 : 0 < S.size) (c0 : (S[0]'k0).toNat = x0) (q0 : ((0 : Int) == (S.size : Int)) = false) (x1 : Nat) (y1 : 48 ≤ x1) (z1 : x1 ≤ 57) (k1 : 1 < S.size) (c1 : (S[1]'k1).toNat = x1) (q1 : ((1 : Int) == (S.size : Int)) = false) (x2 : Nat) (y2 : 48 ≤ x2) (z2 : x2 ≤ 57) (k2 : 2 < S.size) (c2 : (S[2]'k2).toNat = x2) (q2 : ((2 : Int) == (S.size : Int)) = false) (_k3 : 3 ≤ S.size) :
    Calls Tryd.prog 61 #[.string S] w fun e w' => e = .returned (.tuple #[.int .u8 ((100 * ((x0 : Int) - 48) + 10 * ((x1 : Int) - 48) + ((x2 : Int) - 48)) % 256), .string (S.extract 3 S.size), .bool (decide (100 * ((x0 : Int) - 48) + 10 * ((x1 : Int) - 48) + ((x2 : Int) - 48) ≤ 255))]) ∧ ∃ m, w' = w.drewN m := by
  obtain ⟨w0, w1, w2⟩ := hw
  go_enter Tryd.func61, Tryd.ntmps61
  go_wp2_with fail
  refine wp_loop_rounds 4 ?_
  rw [rounds_succ]
  go_wp2_with fail
  refine (isDigit_yes x0 _ y0 z0).mono ?_
  rintro e w' ⟨rfl, rfl⟩
  go_wp2_with fail
  rw [rounds_succ]
  go_wp2_with fail
  refine (isDigit_yes x1 _ y1 z1).mono ?_
  rintro e w' ⟨rfl, rfl⟩
  go_wp2_with fail
  rw [rounds_succ]
  go_wp2_with fail
  refine (isDigit_yes x2 _ y2 z2).mono ?_
  rintro e w' ⟨rfl, rfl⟩
  go_wp2_with fail
  rw [rounds_succ]
  go_wp2_with fail
  go_quiet (fail)
  go_wp2_with fail
  go_ret3
  exact ⟨rfl, _, rfl⟩
/-! ### cutDigits -/
theorem at_mk {S : ByteArray} {s : List UInt8} {c : UInt8} {k : Nat} (hS : S = mk s) (h : s[k]? = some c) : ∃ hk : k < S.size, (S[k]'hk).toNat = c.toNat := by
  have hks : k < s.length := (List.getElem?_eq_some_iff.1 h).1
  have hk : k < S.size := by rw [hS, mk_size]; exact hks
  refine ⟨hk, ?_⟩
  rw [mk_get hS hk hks]
  have := List.getElem?_eq_getElem hks
  rw [h] at this
  injection this with this
  rw [← this]
theorem end_no {S : ByteArray} {k n : Nat} (h : S.size = n) (hk : k ≠ n) : ((k : Int) == (S.size : Int)) = false := by rw [beq_eq_false_iff_ne]; omega
theorem end_yes {S : ByteArray} {k n : Nat} (h : S.size = n) (hk : k = n) : ((k : Int) == (S.size : Int)) = true := by rw [beq_iff_eq]; omega
theorem not_digit {c : UInt8} (h : ¬ isD c = true) : ¬ (48 ≤ c.toNat ∧ c.toNat ≤ 57) := fun h' => h ((isD_nat rfl).2 h')
theorem cutD_none1 (a b : UInt8) : cutD [] = none ∧ cutD [a] = none ∧ cutD [a, b] = none := ⟨rfl, rfl, rfl⟩
theorem cutD_not {a b c : UInt8} {r : List UInt8} (h : ¬ (isD a = true ∧ isD b = true ∧ isD c = true)) : cutD (a :: b :: c :: r) = none := by
  rw [cutD, if_neg]
  rintro ⟨h1, h2, h3, _⟩
  exact h ⟨h1, h2, h3⟩
theorem cutD_short {s : List UInt8} (h : s.length < 3) : cutD s = none := by
  match s, h with
  | [], _ => rfl
  | [_], _ => rfl
  | [_, _], _ => rfl
theorem cutD_head {a : UInt8} {s : List UInt8} (h : ¬ isD a = true) : cutD (a :: s) = none := by
  match s with
  | [] => rfl
  | [_] => rfl
  | b :: c :: r => exact cutD_not fun h' => h h'.1
theorem cutD_second {a b : UInt8} {s : List UInt8} (h : ¬ isD b = true) : cutD (a :: b :: s) = none := by
  match s with
  | [] => rfl
  | c :: r => exact cutD_not fun h' => h h'.2.1
theorem OutE.all {a b c : UInt8} {r : List UInt8} {S : ByteArray} (hS : S = mk (a :: b :: c :: r)) (ha : isD a = true) (hb : isD b = true) (hc : isD c = true) :
    OutE (cutD (a :: b :: c :: r)) (.returned (.tuple #[.int .u8 ((100 * ((a.toNat : Int) - 48) + 10 * ((b.toNat : Int) - 48) + ((c.toNat : Int) - 48)) % 256), .string (S.extract 3 S.size), .bool (decide (100 * ((a.toNat : Int) - 48) + 10 * ((b.toNat : Int) - 48) + ((c.toNat : Int) - 48) ≤ 255))])) := by
  obtain ⟨a1, a2⟩ := (isD_nat (c := a) rfl).1 ha
  obtain ⟨b1, b2⟩ := (isD_nat (c := b) rfl).1 hb
  obtain ⟨c1, c2⟩ := (isD_nat (c := c) rfl).1 hc
  have hv : 100 * ((a.toNat : Int) - 48) + 10 * ((b.toNat : Int) - 48) + ((c.toNat : Int) - 48) = (val3 a b c : Nat) := by unfold val3; omega
  have hx : S.extract 3 S.size = mk r := by rw [hS, mk_size, mk_extract]; simp
  rw [hv, hx]
  refine ⟨_, _, _, rfl, ?_⟩
  rw [cutD]
  by_cases h : val3 a b c ≤ 255
  · rw [if_pos ⟨ha, hb, hc, h⟩]
    refine ⟨by rw [decide_eq_true_iff]; omega, ?_, rfl⟩
    rw [UInt8.toNat_ofNat']; omega
  · rw [if_neg fun h' => h h'.2.2.2]
    show decide _ = false
    rw [decide_eq_false_iff_not]; omega

theorem cutDigits_any (S : ByteArray) (s : List UInt8) (w : World) (hS : S = mk s) (hw : Wts w) :
    Calls Tryd.prog 61 #[.string S] w fun e w' => OutE (cutD s) e ∧ ∃ m, w' = w.drewN m := by
  have hz : S.size = s.length := by rw [hS, mk_size]
  match s, hS, hz with
  | [], hS, hz => exact cutDigits_end0 S w hw (end_yes hz rfl)
  | a :: t, hS, hz =>
    obtain ⟨k0, c0⟩ := at_mk (k := 0) (c := a) hS rfl
    have q0 : ((0 : Int) == (S.size : Int)) = false := end_no (k := 0) hz (by simp)
    by_cases ha : isD a = true
    · obtain ⟨a1, a2⟩ := (isD_nat (c := a) rfl).1 ha
      match t, hS, hz with
      | [], hS, hz => exact cutDigits_end1 S w hw a.toNat a1 a2 k0 c0 q0 (end_yes (k := 1) hz rfl)
      | b :: t, hS, hz =>
        obtain ⟨k1, c1⟩ := at_mk (k := 1) (c := b) hS rfl
        have q1 : ((1 : Int) == (S.size : Int)) = false := end_no (k := 1) hz (by simp)
        by_cases hb : isD b = true
        · obtain ⟨b1, b2⟩ := (isD_nat (c := b) rfl).1 hb
          match t, hS, hz with
          | [], hS, hz => exact cutDigits_end2 S w hw a.toNat a1 a2 k0 c0 q0 b.toNat b1 b2 k1 c1 q1 (end_yes (k := 2) hz rfl)
          | c :: r, hS, hz =>
            obtain ⟨k2, c2⟩ := at_mk (k := 2) (c := c) hS rfl
            have q2 : ((2 : Int) == (S.size : Int)) = false := end_no (k := 2) hz (by simp)
            by_cases hc : isD c = true
            · obtain ⟨c3, c4⟩ := (isD_nat (c := c) rfl).1 hc
              refine (cutDigits_all S w hw a.toNat a1 a2 k0 c0 q0 b.toNat b1 b2 k1 c1 q1 c.toNat c3 c4 k2 c2 q2 (by omega)).mono ?_
              rintro e w' ⟨rfl, hB⟩
              exact ⟨OutE.all hS ha hb hc, hB⟩
            · rw [cutD_not fun h => hc h.2.2]
              exact cutDigits_not2 S w hw a.toNat a1 a2 k0 c0 q0 b.toNat b1 b2 k1 c1 q1 c.toNat (not_digit hc) k2 c2 q2
        · rw [cutD_second hb]
          exact cutDigits_not1 S w hw a.toNat a1 a2 k0 c0 q0 b.toNat (not_digit hb) k1 c1 q1
    · rw [cutD_head ha]
      exact cutDigits_not0 S w hw a.toNat (not_digit ha) k0 c0 q0

/-! ### cutByte -/
theorem cutC_plain {c : UInt8} {r : List UInt8} (h : c.toNat ≠ 92) : cutC (c :: r) = some (c, r) := by rw [cutC.eq_def]; simp only []; rw [if_pos h]
theorem cutC_end {c : UInt8} (h : c.toNat = 92) : cutC [c] = none := by rw [cutC.eq_def]; simp only []; rw [if_neg (by omega)]
theorem cutC_dig {c d : UInt8} {r : List UInt8} (h : c.toNat = 92) (hd : isD d = true) : cutC (c :: d :: r) = cutD (d :: r) := by rw [cutC.eq_def]; simp only []; rw [if_neg (by omega), if_pos hd]
theorem cutC_esc {c d : UInt8} {r : List UInt8} (h : c.toNat = 92) (hd : ¬ isD d = true) : cutC (c :: d :: r) = some (d, r) := by rw [cutC.eq_def]; simp only []; rw [if_neg (by omega), if_neg hd]
theorem mk_rest {S : ByteArray} {c : UInt8} {r : List UInt8} (hS : S = mk (c :: r)) : S.extract 1 S.size = mk r := by rw [hS, mk_size, mk_extract]; simp

theorem cutByte_any (S : ByteArray) (c : UInt8) (r : List UInt8) (w : World) (hS : S = mk (c :: r)) (hw : Wts w) :
    Calls Tryd.prog 47 #[.string S] w fun e w' => OutE (cutC (c :: r)) e ∧ ∃ m, w' = w.drewN m := by
  have hz : S.size = r.length + 1 := by rw [hS, mk_size]; simp
  obtain ⟨k0, c0⟩ := at_mk (k := 0) (c := c) hS rfl
  have k1 : 1 ≤ S.size := by omega
  obtain ⟨R, hR⟩ : ∃ R, S.extract 1 S.size = R := ⟨_, rfl⟩
  have hRr : R = mk r := by rw [← hR, mk_rest hS]
  have HR := Lib.hid hRr
  have HW := Lib.hid hw
  obtain ⟨x, hx⟩ : ∃ x, x = c.toNat := ⟨_, rfl⟩
  rw [← hx] at c0
  have HX := Lib.hid hx
  clear hS hRr hz hw hx
  by_cases h92 : x = 92
  · have g1 : ((x : Int) != 92) = false := by rw [bne_eq_false_iff_eq]; omega
    have h92c : c.toNat = 92 := by rw [← HX.out]; exact h92
    match r, HR with
    | [], HR =>
      have g2 : R.toList.isEmpty = true := by rw [HR.out, mk_isEmpty]; rfl
      rw [cutC_end h92c]
      clear h92c h92
      go_enter Tryd.func47, Tryd.ntmps47
      go_wp2_with fail
      go_quiet (fail)
      go_wp2_with fail
      go_ret3
      exact ⟨OutE.none, _, rfl⟩
    | d :: t, HR =>
      have g2 : R.toList.isEmpty = false := by rw [HR.out, mk_isEmpty]; rfl
      obtain ⟨m0, d0⟩ := at_mk (k := 0) (c := d) HR.out rfl
      have m1 : 1 ≤ R.size := m0
      obtain ⟨T, hT⟩ : ∃ T, R.extract 1 R.size = T := ⟨_, rfl⟩
      have HT := Lib.hid (show T = mk t by rw [← hT, mk_rest HR.out])
      by_cases hd : isD d = true
      · obtain ⟨d1, d2⟩ := (isD_nat (c := d) rfl).1 hd
        rw [cutC_dig h92c hd]
        clear h92c h92 hd
        go_enter Tryd.func47, Tryd.ntmps47
        go_wp2_with fail
        go_quiet (fail)
        go_wp2_with fail
        refine (isDigit_yes d.toNat _ d1 d2).mono ?_
        rintro e w' ⟨rfl, rfl⟩
        go_wp2_with fail
        refine (cutDigits_any R (d :: t) (w.drewN nq) HR.out HW.out).mono ?_
        rintro e w' ⟨⟨c', r', ok, rfl, hO⟩, m, rfl⟩
        have HO := Lib.hid hO
        clear hO
        go_wp2_with fail
        go_ret3
        exact ⟨⟨_, _, _, rfl, HO.out⟩, _, rfl⟩
      · have hn := not_digit hd
        rw [cutC_esc h92c hd]
        clear h92c h92 hd
        go_enter Tryd.func47, Tryd.ntmps47
        go_wp2_with fail
        go_quiet (fail)
        go_wp2_with fail
        refine (isDigit_no d.toNat _ hn).mono ?_
        rintro e w' ⟨rfl, rfl⟩
        go_wp2_with fail
        go_quiet (fail)
        go_wp2_with fail
        go_ret3
        exact ⟨⟨_, _, _, rfl, rfl, rfl, HT.out⟩, _, World.drewN_drewN _ _ _⟩
  · have g1 : ((x : Int) != 92) = true := by rw [bne_iff_ne]; omega
    rw [cutC_plain (by rw [← HX.out]; exact h92)]
    clear h92
    go_enter Tryd.func47, Tryd.ntmps47
    go_wp2_with fail
    go_quiet (fail)
    go_wp2_with fail
    go_ret3
    exact ⟨⟨_, _, _, rfl, rfl, by rw [HX.out], HR.out⟩, _, rfl⟩
end Go.Proofs.YtpfbieehdkonhaaDoor
