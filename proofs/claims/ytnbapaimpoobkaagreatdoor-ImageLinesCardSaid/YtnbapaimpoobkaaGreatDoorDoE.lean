/- Parts of the proofs of the statements of image. No statement of the seat is proved here. -/
import Derived.Test.YtnbapaimpoobkaaGreatDoorDoA
import Derived.Test.YtnbapaimpoobkaaGreatDoorNaJ
import Derived.Deep.RegionWith
namespace Go.Proofs.YtnbapaimpoobkaaGreatDoor
open Go.RowKit
set_option maxRecDepth 20000

attribute [local go_sem] wts_0 wts_1 wts_2

theorem isDigit_yes (d : Nat) (w : World) (h1 : 48 ≤ d) (h2 : d ≤ 57) : Calls Tryz.prog 241 #[.int .u8 (d : Nat)] w fun e w' => e = .returned (.bool true) ∧ w = w' := by
  have g1 : (48 : Int) ≤ (d : Int) := by omega
  have g2 : (d : Int) ≤ 57 := by omega
  go_enter Tryz.func241, Tryz.ntmps241
  go_wp2_with fail
  go_ret
  exact ⟨rfl, rfl⟩
theorem isDigit_no (d : Nat) (w : World) (h : ¬ (48 ≤ d ∧ d ≤ 57)) : Calls Tryz.prog 241 #[.int .u8 (d : Nat)] w fun e w' => e = .returned (.bool false) ∧ w = w' := by
  go_enter Tryz.func241, Tryz.ntmps241
  by_cases h1 : 48 ≤ d
  · have g1 : (48 : Int) ≤ (d : Int) := by omega
    have g2 : ¬ (d : Int) ≤ 57 := by omega
    go_wp2_with fail
    go_ret
    exact ⟨rfl, rfl⟩
  · have g1 : ¬ (48 : Int) ≤ (d : Int) := by omega
    go_wp2_with fail
    go_ret
    exact ⟨rfl, rfl⟩

/-- what a cut of a byte hands back -/
def OutC (o : Option (UInt8 × List UInt8)) (c : Int) (r : ByteArray) (ok : Bool) : Prop :=
  match o with
  | none => ok = false
  | some (d, t) => ok = true ∧ c = (d.toNat : Nat) ∧ r = mk t
def OutE (o : Option (UInt8 × List UInt8)) (e : Ending) : Prop := ∃ c r ok, e = .returned (.tuple #[.int .u8 c, .string r, .bool ok]) ∧ OutC o c r ok
theorem OutE.none : OutE none (.returned (.tuple #[.int .u8 0, .string ⟨#[]⟩, .bool false])) := ⟨_, _, _, rfl, rfl⟩
theorem isD_nat {c : UInt8} {d : Nat} (hd : d = c.toNat) : isD c = true ↔ 48 ≤ d ∧ d ≤ 57 := by subst hd; unfold isD; simp

/-- three digits -/
theorem cutDigits_end0 (S : ByteArray) (w : World) (hw : Wts w)  (q0 : ((0 : Int) == (S.size : Int)) = true) :
    Calls Tryz.prog 242 #[.string S] w fun e w' => OutE none e ∧ ∃ m, w' = w.drewN m := by
  obtain ⟨w0, w1, w2⟩ := hw
  go_enter Tryz.func242, Tryz.ntmps242
  go_wp2_with fail
  refine wp_loop_rounds 4 ?_
  rw [rounds_succ]
  go_wp2_with fail
  go_ret3
  exact ⟨OutE.none, 0, rfl⟩
theorem cutDigits_not0 (S : ByteArray) (w : World) (hw : Wts w)  (x0 : Nat) (no : ¬ (48 ≤ x0 ∧ x0 ≤ 57)) (k0 : 0 < S.size) (c0 : (S[0]'k0).toNat = x0) (q0 : ((0 : Int) == (S.size : Int)) = false) :
    Calls Tryz.prog 242 #[.string S] w fun e w' => OutE none e ∧ ∃ m, w' = w.drewN m := by
  obtain ⟨w0, w1, w2⟩ := hw
  go_enter Tryz.func242, Tryz.ntmps242
  go_wp2_with fail
  refine wp_loop_rounds 4 ?_
  rw [rounds_succ]
  go_wp2_with fail
  refine (isDigit_no x0 _ no).mono ?_
  rintro e w' ⟨rfl, rfl⟩
  go_wp2_with fail
  go_ret3
  exact ⟨OutE.none, 0, rfl⟩
theorem cutDigits_end1 (S : ByteArray) (w : World) (hw : Wts w) (x0 : Nat) (y0 : 48 ≤ x0) (z0 : x0 ≤ 57) (k0 : 0 < S.size) (c0 : (S[0]'k0).toNat = x0) (q0 : ((0 : Int) == (S.size : Int)) = false) (q1 : ((1 : Int) == (S.size : Int)) = true) :
    Calls Tryz.prog 242 #[.string S] w fun e w' => OutE none e ∧ ∃ m, w' = w.drewN m := by
  obtain ⟨w0, w1, w2⟩ := hw
  go_enter Tryz.func242, Tryz.ntmps242
  go_wp2_with fail
  refine wp_loop_rounds 4 ?_
  rw [rounds_succ]
  go_wp2_with fail
  refine (isDigit_yes x0 _ y0 z0).mono ?_
  rintro e w' ⟨rfl, rfl⟩
  go_wp2_with fail
  rw [rounds_succ]
  go_wp2_with fail
  go_ret3
  exact ⟨OutE.none, 0, rfl⟩
theorem cutDigits_not1 (S : ByteArray) (w : World) (hw : Wts w) (x0 : Nat) (y0 : 48 ≤ x0) (z0 : x0 ≤ 57) (k0 : 0 < S.size) (c0 : (S[0]'k0).toNat = x0) (q0 : ((0 : Int) == (S.size : Int)) = false) (x1 : Nat) (no : ¬ (48 ≤ x1 ∧ x1 ≤ 57)) (k1 : 1 < S.size) (c1 : (S[1]'k1).toNat = x1) (q1 : ((1 : Int) == (S.size : Int)) = false) :
    Calls Tryz.prog 242 #[.string S] w fun e w' => OutE none e ∧ ∃ m, w' = w.drewN m := by
  obtain ⟨w0, w1, w2⟩ := hw
  go_enter Tryz.func242, Tryz.ntmps242
  go_wp2_with fail
  refine wp_loop_rounds 4 ?_
  rw [rounds_succ]
  go_wp2_with fail
  refine (isDigit_yes x0 _ y0 z0).mono ?_
  rintro e w' ⟨rfl, rfl⟩
  go_wp2_with fail
  rw [rounds_succ]
  go_wp2_with fail
  refine (isDigit_no x1 _ no).mono ?_
  rintro e w' ⟨rfl, rfl⟩
  go_wp2_with fail
  go_ret3
  exact ⟨OutE.none, 0, rfl⟩
theorem cutDigits_end2 (S : ByteArray) (w : World) (hw : Wts w) (x0 : Nat) (y0 : 48 ≤ x0) (z0 : x0 ≤ 57) (k0 : 0 < S.size) (c0 : (S[0]'k0).toNat = x0) (q0 : ((0 : Int) == (S.size : Int)) = false) (x1 : Nat) (y1 : 48 ≤ x1) (z1 : x1 ≤ 57) (k1 : 1 < S.size) (c1 : (S[1]'k1).toNat = x1) (q1 : ((1 : Int) == (S.size : Int)) = false) (q2 : ((2 : Int) == (S.size : Int)) = true) :
    Calls Tryz.prog 242 #[.string S] w fun e w' => OutE none e ∧ ∃ m, w' = w.drewN m := by
  obtain ⟨w0, w1, w2⟩ := hw
  go_enter Tryz.func242, Tryz.ntmps242
  go_wp2_with fail
  refine wp_loop_rounds 4 ?_
  rw [rounds_succ]
  go_wp2_with fail
  refine (isDigit_yes x0 _ y0 z0).mono ?_
  rintro e w' ⟨rfl, rfl⟩
  go_wp2_with fail
  rw [rounds_succ]
  go_wp2_with fail
  refine (isDigit_yes x1 _ y1 z1).mono ?_
  rintro e w' ⟨rfl, rfl⟩
  go_wp2_with fail
  rw [rounds_succ]
  go_wp2_with fail
  go_ret3
  exact ⟨OutE.none, 0, rfl⟩
theorem cutDigits_not2 (S : ByteArray) (w : World) (hw : Wts w) (x0 : Nat) (y0 : 48 ≤ x0) (z0 : x0 ≤ 57) (k0 : 0 < S.size) (c0 : (S[0]'k0).toNat = x0) (q0 : ((0 : Int) == (S.size : Int)) = false) (x1 : Nat) (y1 : 48 ≤ x1) (z1 : x1 ≤ 57) (k1 : 1 < S.size) (c1 : (S[1]'k1).toNat = x1) (q1 : ((1 : Int) == (S.size : Int)) = false) (x2 : Nat) (no : ¬ (48 ≤ x2 ∧ x2 ≤ 57)) (k2 : 2 < S.size) (c2 : (S[2]'k2).toNat = x2) (q2 : ((2 : Int) == (S.size : Int)) = false) :
    Calls Tryz.prog 242 #[.string S] w fun e w' => OutE none e ∧ ∃ m, w' = w.drewN m := by
  obtain ⟨w0, w1, w2⟩ := hw
  go_enter Tryz.func242, Tryz.ntmps242
  go_wp2_with fail
  refine wp_loop_rounds 4 ?_
  rw [rounds_succ]
  go_wp2_with fail
  refine (isDigit_yes x0 _ y0 z0).mono ?_
  rintro e w' ⟨rfl, rfl⟩
  go_wp2_with fail
  rw [rounds_succ]
  go_wp2_with fail
  refine (isDigit_yes x1 _ y1 z1).mono ?_
  rintro e w' ⟨rfl, rfl⟩
  go_wp2_with fail
  rw [rounds_succ]
  go_wp2_with fail
  refine (isDigit_no x2 _ no).mono ?_
  rintro e w' ⟨rfl, rfl⟩
  go_wp2_with fail
  go_ret3
  exact ⟨OutE.none, 0, rfl⟩
theorem cutDigits_all (S : ByteArray) (w : World) (hw : Wts w) (x0 : Nat) (y0 : 48 ≤ x0) (z0 : x0 ≤ 57) (k0 : 0 < S.size) (c0 : (S[0]'k0).toNat = x0) (q0 : ((0 : Int) == (S.size : Int)) = false) (x1 : Nat) (y1 : 48 ≤ x1) (z1 : x1 ≤ 57) (k1 : 1 < S.size) (c1 : (S[1]'k1).toNat = x1) (q1 : ((1 : Int) == (S.size : Int)) = false) (x2 : Nat) (y2 : 48 ≤ x2) (z2 : x2 ≤ 57) (k2 : 2 < S.size) (c2 : (S[2]'k2).toNat = x2) (q2 : ((2 : Int) == (S.size : Int)) = false) (_k3 : 3 ≤ S.size) :
    Calls Tryz.prog 242 #[.string S] w fun e w' => e = .returned (.tuple #[.int .u8 ((100 * ((x0 : Int) - 48) + 10 * ((x1 : Int) - 48) + ((x2 : Int) - 48)) % 256), .string (S.extract 3 S.size), .bool (decide (100 * ((x0 : Int) - 48) + 10 * ((x1 : Int) - 48) + ((x2 : Int) - 48) ≤ 255))]) ∧ ∃ m, w' = w.drewN m := by
  obtain ⟨w0, w1, w2⟩ := hw
  go_enter Tryz.func242, Tryz.ntmps242
  go_wp2_with fail
  refine wp_loop_rounds 4 ?_
  rw [rounds_succ]
  go_wp2_with fail
  refine (isDigit_yes x0 _ y0 z0).mono ?_
  rintro e w' ⟨rfl, rfl⟩
  go_wp2_with fail
  rw [rounds_succ]
  go_wp2_with fail
  refine (isDigit_yes x1 _ y1 z1).mono ?_
  rintro e w' ⟨rfl, rfl⟩
  go_wp2_with fail
  rw [rounds_succ]
  go_wp2_with fail
  refine (isDigit_yes x2 _ y2 z2).mono ?_
  rintro e w' ⟨rfl, rfl⟩
  go_wp2_with fail
  rw [rounds_succ]
  go_wp2_with fail
  go_quiet (fail)
  go_wp2_with fail
  go_ret3
  exact ⟨rfl, _, rfl⟩
/-! ### cutDigits -/
theorem at_mk {S : ByteArray} {s : List UInt8} {c : UInt8} {k : Nat} (hS : S = mk s) (h : s[k]? = some c) : ∃ hk : k < S.size, (S[k]'hk).toNat = c.toNat := by
  have hks : k < s.length := (List.getElem?_eq_some_iff.1 h).1
  have hk : k < S.size := by rw [hS, mk_size]; exact hks
  refine ⟨hk, ?_⟩
  rw [mk_get hS hk hks]
  have := List.getElem?_eq_getElem hks
  rw [h] at this
  injection this with this
  rw [← this]
theorem end_no {S : ByteArray} {k n : Nat} (h : S.size = n) (hk : k ≠ n) : ((k : Int) == (S.size : Int)) = false := by rw [beq_eq_false_iff_ne]; omega
theorem end_yes {S : ByteArray} {k n : Nat} (h : S.size = n) (hk : k = n) : ((k : Int) == (S.size : Int)) = true := by rw [beq_iff_eq]; omega
theorem not_digit {c : UInt8} (h : ¬ isD c = true) : ¬ (48 ≤ c.toNat ∧ c.toNat ≤ 57) := fun h' => h ((isD_nat rfl).2 h')
theorem cutD_not {a b c : UInt8} {r : List UInt8} (h : ¬ (isD a = true ∧ isD b = true ∧ isD c = true)) : cutD (a :: b :: c :: r) = none := by
  rw [cutD, if_neg]
  rintro ⟨h1, h2, h3, _⟩
  exact h ⟨h1, h2, h3⟩
theorem cutD_head {a : UInt8} {s : List UInt8} (h : ¬ isD a = true) : cutD (a :: s) = none := by
  match s with
  | [] => rfl
  | [_] => rfl
  | b :: c :: r => exact cutD_not fun h' => h h'.1
theorem cutD_second {a b : UInt8} {s : List UInt8} (h : ¬ isD b = true) : cutD (a :: b :: s) = none := by
  match s with
  | [] => rfl
  | c :: r => exact cutD_not fun h' => h h'.2.1
theorem OutE.all {a b c : UInt8} {r : List UInt8} {S : ByteArray} (hS : S = mk (a :: b :: c :: r)) (ha : isD a = true) (hb : isD b = true) (hc : isD c = true) :
    OutE (cutD (a :: b :: c :: r)) (.returned (.tuple #[.int .u8 ((100 * ((a.toNat : Int) - 48) + 10 * ((b.toNat : Int) - 48) + ((c.toNat : Int) - 48)) % 256), .string (S.extract 3 S.size), .bool (decide (100 * ((a.toNat : Int) - 48) + 10 * ((b.toNat : Int) - 48) + ((c.toNat : Int) - 48) ≤ 255))])) := by
  obtain ⟨a1, a2⟩ := (isD_nat (c := a) rfl).1 ha
  obtain ⟨b1, b2⟩ := (isD_nat (c := b) rfl).1 hb
  obtain ⟨c1, c2⟩ := (isD_nat (c := c) rfl).1 hc
  have hv : 100 * ((a.toNat : Int) - 48) + 10 * ((b.toNat : Int) - 48) + ((c.toNat : Int) - 48) = (val3 a b c : Nat) := by unfold val3; omega
  have hx : S.extract 3 S.size = mk r := by rw [hS, mk_size, mk_extract]; simp
  rw [hv, hx]
  refine ⟨_, _, _, rfl, ?_⟩
  rw [cutD]
  by_cases h : val3 a b c ≤ 255
  · rw [if_pos ⟨ha, hb, hc, h⟩]
    refine ⟨by rw [decide_eq_true_iff]; omega, ?_, rfl⟩
    rw [UInt8.toNat_ofNat']; omega
  · rw [if_neg fun h' => h h'.2.2.2]
    show decide _ = false
    rw [decide_eq_false_iff_not]; omega

theorem cutDigits_any (S : ByteArray) (s : List UInt8) (w : World) (hS : S = mk s) (hw : Wts w) :
    Calls Tryz.prog 242 #[.string S] w fun e w' => OutE (cutD s) e ∧ ∃ m, w' = w.drewN m := by
  have hz : S.size = s.length := by rw [hS, mk_size]
  match s, hS, hz with
  | [], hS, hz => exact cutDigits_end0 S w hw (end_yes hz rfl)
  | a :: t, hS, hz =>
    obtain ⟨k0, c0⟩ := at_mk (k := 0) (c := a) hS rfl
    have q0 : ((0 : Int) == (S.size : Int)) = false := end_no (k := 0) hz (by simp)
    by_cases ha : isD a = true
    · obtain ⟨a1, a2⟩ := (isD_nat (c := a) rfl).1 ha
      match t, hS, hz with
      | [], hS, hz => exact cutDigits_end1 S w hw a.toNat a1 a2 k0 c0 q0 (end_yes (k := 1) hz rfl)
      | b :: t, hS, hz =>
        obtain ⟨k1, c1⟩ := at_mk (k := 1) (c := b) hS rfl
        have q1 : ((1 : Int) == (S.size : Int)) = false := end_no (k := 1) hz (by simp)
        by_cases hb : isD b = true
        · obtain ⟨b1, b2⟩ := (isD_nat (c := b) rfl).1 hb
          match t, hS, hz with
          | [], hS, hz => exact cutDigits_end2 S w hw a.toNat a1 a2 k0 c0 q0 b.toNat b1 b2 k1 c1 q1 (end_yes (k := 2) hz rfl)
          | c :: r, hS, hz =>
            obtain ⟨k2, c2⟩ := at_mk (k := 2) (c := c) hS rfl
            have q2 : ((2 : Int) == (S.size : Int)) = false := end_no (k := 2) hz (by simp)
            by_cases hc : isD c = true
            · obtain ⟨c3, c4⟩ := (isD_nat (c := c) rfl).1 hc
              refine (cutDigits_all S w hw a.toNat a1 a2 k0 c0 q0 b.toNat b1 b2 k1 c1 q1 c.toNat c3 c4 k2 c2 q2 (by omega)).mono ?_
              rintro e w' ⟨rfl, hB⟩
              exact ⟨OutE.all hS ha hb hc, hB⟩
            · rw [cutD_not fun h => hc h.2.2]
              exact cutDigits_not2 S w hw a.toNat a1 a2 k0 c0 q0 b.toNat b1 b2 k1 c1 q1 c.toNat (not_digit hc) k2 c2 q2
        · rw [cutD_second hb]
          exact cutDigits_not1 S w hw a.toNat a1 a2 k0 c0 q0 b.toNat (not_digit hb) k1 c1 q1
    · rw [cutD_head ha]
      exact cutDigits_not0 S w hw a.toNat (not_digit ha) k0 c0 q0

/-! ### cutByte -/
theorem cutC_plain {c : UInt8} {r : List UInt8} (h : c.toNat ≠ 92) : cutC (c :: r) = some (c, r) := by rw [cutC.eq_def]; simp only []; rw [if_pos h]
theorem cutC_end {c : UInt8} (h : c.toNat = 92) : cutC [c] = none := by rw [cutC.eq_def]; simp only []; rw [if_neg (by omega)]
theorem cutC_dig {c d : UInt8} {r : List UInt8} (h : c.toNat = 92) (hd : isD d = true) : cutC (c :: d :: r) = cutD (d :: r) := by rw [cutC.eq_def]; simp only []; rw [if_neg (by omega), if_pos hd]
theorem cutC_esc {c d : UInt8} {r : List UInt8} (h : c.toNat = 92) (hd : ¬ isD d = true) : cutC (c :: d :: r) = some (d, r) := by rw [cutC.eq_def]; simp only []; rw [if_neg (by omega), if_neg hd]
theorem mk_rest {S : ByteArray} {c : UInt8} {r : List UInt8} (hS : S = mk (c :: r)) : S.extract 1 S.size = mk r := by rw [hS, mk_size, mk_extract]; simp

theorem cutByte_any (S : ByteArray) (c : UInt8) (r : List UInt8) (w : World) (hS : S = mk (c :: r)) (hw : Wts w) :
    Calls Tryz.prog 220 #[.string S] w fun e w' => OutE (cutC (c :: r)) e ∧ ∃ m, w' = w.drewN m := by
  have hz : S.size = r.length + 1 := by rw [hS, mk_size]; simp
  obtain ⟨k0, c0⟩ := at_mk (k := 0) (c := c) hS rfl
  have k1 : 1 ≤ S.size := by omega
  obtain ⟨R, hR⟩ : ∃ R, S.extract 1 S.size = R := ⟨_, rfl⟩
  have hRr : R = mk r := by rw [← hR, mk_rest hS]
  have HR := Lib.hid hRr
  have HW := Lib.hid hw
  obtain ⟨x, hx⟩ : ∃ x, x = c.toNat := ⟨_, rfl⟩
  rw [← hx] at c0
  have HX := Lib.hid hx
  clear hS hRr hz hw hx
  by_cases h92 : x = 92
  · have g1 : ((x : Int) != 92) = false := by rw [bne_eq_false_iff_eq]; omega
    have h92c : c.toNat = 92 := by rw [← HX.out]; exact h92
    match r, HR with
    | [], HR =>
      have g2 : R.toList.isEmpty = true := by rw [HR.out, mk_isEmpty]; rfl
      rw [cutC_end h92c]
      clear h92c h92
      go_enter Tryz.func220, Tryz.ntmps220
      go_wp2_with fail
      go_quiet (fail)
      go_wp2_with fail
      go_ret3
      exact ⟨OutE.none, _, rfl⟩
    | d :: t, HR =>
      have g2 : R.toList.isEmpty = false := by rw [HR.out, mk_isEmpty]; rfl
      obtain ⟨m0, d0⟩ := at_mk (k := 0) (c := d) HR.out rfl
      have m1 : 1 ≤ R.size := m0
      obtain ⟨T, hT⟩ : ∃ T, R.extract 1 R.size = T := ⟨_, rfl⟩
      have HT := Lib.hid (show T = mk t by rw [← hT, mk_rest HR.out])
      by_cases hd : isD d = true
      · obtain ⟨d1, d2⟩ := (isD_nat (c := d) rfl).1 hd
        rw [cutC_dig h92c hd]
        clear h92c h92 hd
        go_enter Tryz.func220, Tryz.ntmps220
        go_wp2_with fail
        go_quiet (fail)
        go_wp2_with fail
        refine (isDigit_yes d.toNat _ d1 d2).mono ?_
        rintro e w' ⟨rfl, rfl⟩
        go_wp2_with fail
        refine (cutDigits_any R (d :: t) (w.drewN nq) HR.out HW.out).mono ?_
        rintro e w' ⟨⟨c', r', ok, rfl, hO⟩, m, rfl⟩
        have HO := Lib.hid hO
        clear hO
        go_wp2_with fail
        go_ret3
        exact ⟨⟨_, _, _, rfl, HO.out⟩, _, rfl⟩
      · have hn := not_digit hd
        rw [cutC_esc h92c hd]
        clear h92c h92 hd
        go_enter Tryz.func220, Tryz.ntmps220
        go_wp2_with fail
        go_quiet (fail)
        go_wp2_with fail
        refine (isDigit_no d.toNat _ hn).mono ?_
        rintro e w' ⟨rfl, rfl⟩
        go_wp2_with fail
        go_quiet (fail)
        go_wp2_with fail
        go_ret3
        exact ⟨⟨_, _, _, rfl, rfl, rfl, HT.out⟩, _, World.drewN_drewN _ _ _⟩
  · have g1 : ((x : Int) != 92) = true := by rw [bne_iff_ne]; omega
    rw [cutC_plain (by rw [← HX.out]; exact h92)]
    clear h92
    go_enter Tryz.func220, Tryz.ntmps220
    go_wp2_with fail
    go_quiet (fail)
    go_wp2_with fail
    go_ret3
    exact ⟨⟨_, _, _, rfl, rfl, by rw [HX.out], HR.out⟩, _, rfl⟩
end Go.Proofs.YtnbapaimpoobkaaGreatDoor
namespace Go.Proofs.YtnbapaimpoobkaaGreatDoor
open Go.RowKit
set_option maxRecDepth 20000

theorem Bld.drewN {b : Nat} {l : List UInt8} {w : World} (h : Bld b l w) (m : Nat) : Bld b l (w.drewN m) := h
theorem Wts.drewN {w : World} (h : Wts w) (m : Nat) : Wts (w.drewN m) := h
def strSize : Value → Nat | .string x => x.size | _ => 0

/-- what cutLabel hands back for the text s -/
def OutL (s : List UInt8) (e : Ending) : Prop := ∃ x y ok, e = .returned (.tuple #[.string x, .string y, .bool ok]) ∧
  ((ok = true ∧ ∃ a b, x = mk a ∧ y = mk b ∧ b.length < s.length ∧ a.length ≤ s.length ∧ ∀ l, rd l [] s = rd (l ++ [a]) [] b) ∨ (ok = false ∧ ∀ l, rd l [] s = none))
/-- where the reading of a label stands: what is read, and the rest -/
def AtL (s lab t : List UInt8) : Prop := (∀ l, rd l [] s = rd l lab t) ∧ lab.length + t.length ≤ s.length ∧ (lab = [] → t = s)
theorem AtL.start (s : List UInt8) : AtL s [] s := ⟨fun _ => rfl, by simp, fun _ => rfl⟩
theorem AtL.over {s lab : List UInt8} (h : AtL s lab []) (hs : s ≠ []) : ∀ l, rd l [] s = none := by
  intro l
  rw [h.1 l, rd_nil, if_pos]
  left
  intro e
  exact hs (h.2.2 e).symm
theorem AtL.bad {s lab r : List UInt8} {c : UInt8} (h : AtL s lab (c :: r)) (hc : c.toNat ≠ 46) (hk : cutC (c :: r) = none) : ∀ l, rd l [] s = none := by
  intro l
  rw [h.1 l, dotRd_bad hc hk]
theorem AtL.step {s lab r t : List UInt8} {c d : UInt8} (h : AtL s lab (c :: r)) (hc : c.toNat ≠ 46) (hk : cutC (c :: r) = some (d, t)) : AtL s (lab ++ [d]) t := by
  refine ⟨fun l => by rw [h.1 l, rd_byte hc hk], ?_, fun e => by simp at e⟩
  have h1 := cutC_lt hk
  have h2 := h.2.1
  simp at h1 h2 ⊢; omega
theorem AtL.dot {s lab r : List UInt8} {c : UInt8} (h : AtL s lab (c :: r)) (hc : c.toNat = 46) (x y : ByteArray) (hx : x = mk lab) (hy : y = mk r) :
    OutL s (.returned (.tuple #[.string x, .string y, .bool (decide (0 < lab.length))])) := by
  refine ⟨x, y, _, rfl, ?_⟩
  by_cases hl : lab = []
  · right
    refine ⟨by subst hl; rfl, fun l => ?_⟩
    rw [h.1 l, rd_dot hc, if_pos hl]
  · left
    have h1 := h.2.1
    refine ⟨?_, lab, r, hx, hy, by simp at h1; omega, by omega, fun l => ?_⟩
    · rw [decide_eq_true_iff]
      exact List.length_pos_iff.2 hl
    · rw [h.1 l, rd_dot hc, if_neg hl]

set_option maxHeartbeats 4000000 in
theorem cutLabel_any (S : ByteArray) (s : List UInt8) (w : World) (hS : S = mk s) (hs : s ≠ []) (hb : s.length ≤ 1073741824) (hw : Wts w) :
    Calls Tryz.prog 189 #[.string S] w fun e w' => OutL s e ∧ Below w.heap.size w w' := by
  have h0 := hw.pos
  have HW := Lib.hid hw
  have HBL := Lib.hid (Bld.new w)
  have HB2 := Lib.hid ((Below.refl w.heap.size w).alloc (Nat.le_refl _) (.cells #[.pointer none, .slice none 0 0] 66))
  have HSS := Lib.hid hS
  have HNE := Lib.hid hs
  clear hw hS hs
  go_enter Tryz.func189, Tryz.ntmps189
  go_wp2_with fail
  go_loopw [0] (fun v wr => ∃ lab t, v = .string (mk t) ∧ AtL s lab t ∧ Bld w.heap.size lab wr ∧ Below w.heap.size w wr) (fun v _ => strSize v)
  case atStart => exact ⟨[], s, by rw [← HSS.out], AtL.start s, HBL.out, HB2.out⟩
  case round =>
    obtain ⟨lab, t, rfl, hat, hb, hB⟩ := hrel
    obtain ⟨X, hX⟩ : ∃ X, X = mk t := ⟨_, rfl⟩
    rw [← hX]
    have hlab : lab.length ≤ 1073741824 := by have := hat.2.1; omega
    have HAT := Lib.hid hat
    have Hb := Lib.hid hb
    have HB := Lib.hid hB
    have HXX := Lib.hid hX
    clear hat hb hB hX
    cases t with
    | nil =>
      have g1 : X.toList.isEmpty = true := by rw [HXX.out, mk_isEmpty]; rfl
      go_wp2_with fail
      go_ret3
      exact ⟨⟨_, _, _, rfl, .inr ⟨rfl, HAT.out.over HNE.out⟩⟩, HB.out⟩
    | cons c r =>
      have g1 : X.toList.isEmpty = false := by rw [HXX.out, mk_isEmpty]; rfl
      obtain ⟨k0, c0⟩ := at_mk (k := 0) (c := c) HXX.out rfl
      have k1 : 1 ≤ X.size := k0
      obtain ⟨x, hx⟩ : ∃ x, x = c.toNat := ⟨_, rfl⟩
      rw [← hx] at c0
      have HX := Lib.hid hx
      clear hx
      by_cases h46 : x = 46
      · have g2 : ((x : Int) == 46) = true := by rw [beq_iff_eq]; omega
        obtain ⟨R, hR⟩ : ∃ R, X.extract 1 X.size = R := ⟨_, rfl⟩
        have HR := Lib.hid (show R = mk r by rw [← hR, mk_rest HXX.out])
        have hbd : Bld w.heap.size lab wr.drew := Hb.out
        have hmx : Tryz.prog.follows .mixedOrders = true := by kernel_rfl
        go_wp2_with fail
        go_region_with (first
          | (go_at_call 40; refine (BString_any w.heap.size lab _ (by assumption)).mono ?_; rintro e w2 ⟨rfl, hb2, hB2⟩; have hB3 := HB.out.drew.trans hB2)
          | (go_at_call 219; refine (BLen_any w.heap.size lab _ (by assumption)).mono ?_; rintro e w2 ⟨rfl, rfl⟩))
        all_goals go_wp2_with fail
        all_goals go_ret3
        all_goals refine ⟨?_, hB3⟩
        all_goals simp [Act.put]
        all_goals exact HAT.out.dot (by rw [← HX.out]; exact h46) _ _ rfl HR.out
      · have g2 : ((x : Int) == 46) = false := by rw [beq_eq_false_iff_ne]; omega
        have hne : c.toNat ≠ 46 := by rw [← HX.out]; exact h46
        go_wp2_with fail
        refine (cutByte_any X c r wr HXX.out (HW.out.below HB.out h0)).mono ?_
        rintro e w' ⟨⟨c', r', ok, rfl, hO⟩, m, rfl⟩
        cases hk : cutC (c :: r) with
        | none =>
          rw [hk] at hO
          have hO' : ok = false := hO
          subst hO'
          have HB' := Lib.hid (below_drewN HB.out m)
          have HA' := Lib.hid (HAT.out.bad hne hk)
          clear hO hne hk
          go_wp2_with fail
          go_ret3
          exact ⟨⟨_, _, _, rfl, .inr ⟨rfl, HA'.out⟩⟩, HB'.out⟩
        | some p =>
          obtain ⟨d, t'⟩ := p
          rw [hk] at hO
          obtain ⟨rfl, rfl, rfl⟩ : ok = true ∧ c' = (d.toNat : Nat) ∧ r' = mk t' := hO
          have HB' := Lib.hid (below_drewN HB.out m)
          have HA' := Lib.hid (HAT.out.step hne hk)
          have hlt := cutC_lt hk
          obtain ⟨Y, hY⟩ : ∃ Y, Y = mk t' := ⟨_, rfl⟩
          have hYX : Y.size < X.size := by rw [hY, HXX.out, mk_size, mk_size]; exact hlt
          have HY := Lib.hid hY
          rw [← hY]
          clear hne hk hlt hY
          go_wp2_with fail
          refine (WriteByte_any w.heap.size lab d _ (Hb.out.drewN m) (by omega)).mono ?_
          rintro e w3 ⟨rfl, hb3, hB3⟩
          have Hb3 := Lib.hid hb3
          have HB3 := Lib.hid (HB'.out.trans hB3)
          clear hb3 hB3
          go_wp2_with fail
          go_roundw
          case rel => exact ⟨_, t', by rw [← HY.out], HA'.out, Hb3.out, HB3.out⟩
          case measure => exact hYX

/-! ### labelsOf, Read -/
/-- what labelsOf hands back -/
def OutS (o : Option (List (List UInt8))) (w : World) (e : Ending) (w' : World) : Prop :=
  ∃ v ok L, e = .returned (.tuple #[v, .bool ok]) ∧ w'.ownsRow w.heap.size 9 1 v L.length (textL L) ∧ ((ok = false ∧ o = none) ∨ (ok = true ∧ o = some L)) ∧ Below w.heap.size w w'

set_option maxHeartbeats 2000000 in
theorem labelsText_any (S : ByteArray) (s : List UInt8) (w : World) (hS : S = mk s) (hb : s.length ≤ 1000000) (hw : Wts w) :
    Calls Tryz.prog 151 #[.string S] w (OutS (readL s) w) := by
  have HS := Lib.hid hS
  have HW := Lib.hid hw
  by_cases hr : s = [46]
  · have g1 : (S.toList == [46]) = true := by rw [hS, mk_is, hr]; rfl
    have hrd : readL s = some [] := by unfold readL; rw [if_pos hr]
    rw [hrd]
    clear hS hw hr hrd
    go_enter Tryz.func151, Tryz.ntmps151
    go_wp2_with fail
    go_ret2
    exact ⟨_, _, [], rfl, World.ownsRow_nil _ _ _ _, .inr ⟨rfl, rfl⟩, Below.refl _ _⟩
  · have g1 : (S.toList == [46]) = false := by rw [hS, mk_is]; simpa using hr
    have hrd : readL s = rd [] [] s := by unfold readL; rw [if_neg hr]
    rw [hrd]
    clear hS hw hr hrd
    go_enter Tryz.func151, Tryz.ntmps151
    go_wp2_with fail
    go_loopw [0, 4] (fun u v wr => ∃ (t : List UInt8) (L : List (List UInt8)) (n : Nat), n = L.length ∧ u = .string (mk t) ∧ wr.ownsRow w.heap.size 9 1 v n (textL L) ∧ rd [] [] s = rd L [] t ∧ n + t.length ≤ s.length ∧ Below w.heap.size w wr) (fun u _ _ => strSize u)
    case atStart => exact ⟨s, [], 0, rfl, by rw [← HS.out], World.ownsRow_nil _ _ _ _, rfl, by simp, Below.refl _ _⟩
    case round =>
      obtain ⟨t, L, n, hn, rfl, hown, hrd, hlen, hB⟩ := hrel
      obtain ⟨X, hX⟩ : ∃ X, X = mk t := ⟨_, rfl⟩
      rw [← hX]
      have hn2 : n ≤ 1000000 := by omega
      have HN := Lib.hid hn
      have HO := Lib.hid hown
      have HRD := Lib.hid hrd
      have HB := Lib.hid hB
      have HX := Lib.hid hX
      have HLEN := Lib.hid hlen
      clear hown hrd hB hX hn hlen
      cases t with
      | nil =>
        have g2 : X.toList.isEmpty = true := by rw [HX.out, mk_isEmpty]; rfl
        obtain ⟨A, c, rfl, _⟩ := Sees.own HO.out
        by_cases h0 : n = 0
        · have g3 : ¬ (0 : Int) < (n : Int) := by omega
          have hL : L = [] := List.eq_nil_of_length_eq_zero (by rw [← HN.out]; exact h0)
          have HE := Lib.hid (show rd [] [] s = none by rw [HRD.out, rd_nil, if_pos (.inr hL)])
          clear h0 hL
          go_wp2_with fail
          go_ret2
          exact ⟨_, _, L, by rfl, by rw [← HN.out]; exact HO.out, .inl ⟨by simpa using g3, HE.out⟩, HB.out⟩
        · have g3 : (0 : Int) < (n : Int) := by omega
          have hL : ¬ L = [] := by intro e; rw [e] at HN; exact h0 HN.out
          have HE := Lib.hid (show rd [] [] s = some L by rw [HRD.out, rd_nil, if_neg (by rintro (h | h); exact h rfl; exact hL h)])
          clear h0 hL
          go_wp2_with fail
          go_ret2
          exact ⟨_, _, L, by rfl, by rw [← HN.out]; exact HO.out, .inr ⟨by simpa using g3, HE.out⟩, HB.out⟩
      | cons c r =>
        have g2 : X.toList.isEmpty = false := by rw [HX.out, mk_isEmpty]; rfl
        have hcl : (c :: r).length ≤ 1073741824 := by have := HLEN.out; omega
        have HW1 := Lib.hid (HW.out.below HB.out HW.out.pos)
        go_wp2_with fail
        refine (cutLabel_any X (c :: r) _ HX.out (by simp) hcl HW1.out).mono ?_
        rintro e w1 ⟨⟨x, y, ok, rfl, hO⟩, hB1⟩
        have HO1 := Lib.hid (own_below HO.out hB1)
        have HB1 := Lib.hid (HB.out.trans (hB1.mono HB.out.size))
        clear hB1
        rcases hO with ⟨rfl, a, b, rfl, rfl, hlt, hla, hst⟩ | ⟨rfl, hno⟩
        · have HST := Lib.hid (show rd [] [] s = rd (L ++ [a]) [] b by rw [HRD.out, hst])
          have hYX : (mk b).size < X.size := by rw [HX.out, mk_size, mk_size]; exact hlt
          have hlen2 : n + 1 + b.length ≤ s.length := by have := HLEN.out; omega
          have H63 : Hid (n + 1 ≤ maxLen) := Lib.hid (by unfold maxLen; omega)
          have H47 : Hid ((n + 1) * 16 ≤ 140737488355328) := Lib.hid (by omega)
          obtain ⟨i0, hi0, hz0, hz1, hz2⟩ := info_parts text_info
          obtain ⟨Xa, hXa⟩ : ∃ Xa, Xa = mk a := ⟨_, rfl⟩
          obtain ⟨Y, hY⟩ : ∃ Y, Y = mk b := ⟨_, rfl⟩
          rw [← hXa, ← hY]
          rw [← hY] at hYX
          have HXa := Lib.hid hXa
          have HY := Lib.hid hY
          clear hst hlt hla hXa hY hcl
          go_wp2_with (at_builtin; refine wpList_append_own _ rfl _ _ 37 rfl w.heap.size 9 i0 (.string ⟨#[]⟩) 1 16 Tryz.underlying37 hi0 hz0 hz1 hz2 rfl (by decide) _ _ _ rfl (HO1.out.alloc _) ⟨w1.heap.size, 0, none⟩ 1 1 [.string Xa] rfl rfl (news1 _ _ _) (one1 _ rfl) H63.out H47.out (by have := HB1.out.size; simp; omega) ?_; intro v2 w2 hown2 hgrow _)
          have hown3 : w2.ownsRow w.heap.size 9 1 v2 (n + 1) (textL (L ++ [a])) := by
            rw [textL_snoc, ← HXa.out]; simpa using hown2
          have HO3 := Lib.hid hown3
          have HB2 := Lib.hid ((HB1.out.alloc HB1.out.size _).grown hgrow (by have := HB1.out.size; simp; omega) (fun j hj => (HO1.out.lt j hj).1))
          clear hown2 hown3 hgrow
          go_wp2_with fail
          go_roundw
          case rel => exact ⟨b, L ++ [a], n + 1, by simp [HN.out], by rw [← HY.out], HO3.out, HST.out, hlen2, HB2.out⟩
          case measure => exact hYX
        · have HE := Lib.hid (show rd [] [] s = none by rw [HRD.out, hno])
          clear hno
          go_wp2_with fail
          go_ret2
          exact ⟨_, _, [], rfl, World.ownsRow_nil _ _ _ _, .inl ⟨rfl, HE.out⟩, HB1.out⟩

theorem dotRead_any (S : ByteArray) (s : List UInt8) (w : World) (hS : S = mk s) (hb : s.length ≤ 100000) (hw : Wts w) :
    Calls Tryz.prog 109 #[.string S] w fun e w' => e = .returned (.tuple #[.string (mk (readN s).1), .int .i64 (readN s).2]) ∧ Below w.heap.size w w' := by
  have HS := Lib.hid hS
  have HW := Lib.hid hw
  have HL := Lib.hid hb
  obtain ⟨O, hO⟩ : ∃ O, O = readN s := ⟨_, rfl⟩
  rw [← hO]
  have HR := Lib.hid hO
  clear hS hw hb hO
  go_enter Tryz.func109, Tryz.ntmps109
  go_wp2_with fail
  refine (labelsText_any S s _ HS.out (by have := HL.out; omega) HW.out).mono ?_
  rintro e w1 ⟨v, ok, L, rfl, hown, hok, hB1⟩
  rcases hok with ⟨rfl, hrd⟩ | ⟨rfl, hrd⟩
  · have hO2 : O = ([], 2) := by rw [HR.out]; unfold readN; rw [hrd]
    subst hO2
    clear hrd
    go_wp2_with fail
    go_ret2
    exact ⟨rfl, hB1⟩
  · have hO2 : O = ofN L := by rw [HR.out]; unfold readN; rw [hrd]
    obtain ⟨h1, h2⟩ := readL_small hrd
    have hx : ∀ y ∈ L, y.length ≤ 100000 := fun y hy => Nat.le_trans (h2 y hy) HL.out
    have hn : L.length ≤ 100000 := by have := HL.out; omega
    obtain ⟨A, c, rfl, hs⟩ := Sees.own hown
    have HX := Lib.hid hx
    have HO2 := Lib.hid hO2
    clear hrd h1 h2 hx hO2 hown
    go_wp2_with fail
    refine (dotOf_any A L.length c L _ hs hn HX.out).mono ?_
    rw [← HO2.out]
    rintro e w2 ⟨rfl, hB2⟩
    go_wp2_with fail
    go_ret2
    exact ⟨rfl, hB1.trans (hB2.mono hB1.size)⟩
end Go.Proofs.YtnbapaimpoobkaaGreatDoor
