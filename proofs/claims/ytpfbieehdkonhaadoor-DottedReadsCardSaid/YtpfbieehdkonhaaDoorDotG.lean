/- The reference's digit and one. -/
import Derived.Test.YtpfbieehdkonhaaDoorDotC
import Derived.Test.YtpfbieehdkonhaaDoorDotE
namespace Go.Proofs.YtpfbieehdkonhaaDoor
open Go.RowKit

/-- the number of the digit at a place, or -1 -/
def digV (s : List UInt8) (k : Nat) : Int := match s[k]? with | none => -1 | some c => if isD c = true then (c.toNat : Int) - 48 else -1
theorem digV_drop (s : List UInt8) (i k : Nat) : digV s (i + k) = digV (s.drop i) k := by unfold digV; rw [List.getElem?_drop]
theorem digV_range (s : List UInt8) (k : Nat) : -1 ≤ digV s k ∧ digV s k ≤ 9 := by
  unfold digV
  cases s[k]? with
  | none => simp
  | some c =>
    by_cases h : isD c = true
    · obtain ⟨h1, h2⟩ := (isD_nat (c := c) rfl).1 h
      simp only [h, if_true]; omega
    · simp only [h, if_false, Bool.false_eq_true]; omega
theorem digV_some {s : List UInt8} {k : Nat} {c : UInt8} (h : s[k]? = some c) : digV s k = if isD c = true then (c.toNat : Int) - 48 else -1 := by unfold digV; rw [h]
theorem digV_none {s : List UInt8} {k : Nat} (h : s.length ≤ k) : digV s k = -1 := by unfold digV; rw [List.getElem?_eq_none h]

theorem digit_any (S : ByteArray) (s : List UInt8) (k : Nat) (z : Int) (w : World) (hS : S = mk s) (hz : z = (k : Nat)) :
    Calls Tryd.prog 36 #[.string S, .int .i64 z] w fun e w' => e = .returned (.int .i64 (digV s k)) ∧ w = w' := by
  subst hz
  have hsz : S.size = s.length := by rw [hS, mk_size]
  by_cases h : k < S.size
  · have g1 : ¬ (S.size : Int) ≤ (k : Int) := by omega
    obtain ⟨c, hc⟩ : ∃ c, s[k]? = some c := ⟨_, List.getElem?_eq_getElem (by omega)⟩
    obtain ⟨k0, c0⟩ := at_mk hS hc
    obtain ⟨d, hd⟩ : ∃ d, d = c.toNat := ⟨_, rfl⟩
    rw [← hd] at c0
    rw [digV_some hc, ← hd]
    have HS := Lib.hid hS
    by_cases hD : isD c = true
    · obtain ⟨d1, d2⟩ := (isD_nat hd).1 hD
      rw [if_pos hD]
      have g2 : ¬ (d : Int) < 48 := by omega
      have g3 : ¬ (57 : Int) < (d : Int) := by omega
      clear hS hsz hc hd hD
      go_enter Tryd.func36, Tryd.ntmps36
      go_wp2_with fail
      go_ret
      exact ⟨rfl, rfl⟩
    · rw [if_neg hD]
      have hn : ¬ (48 ≤ d ∧ d ≤ 57) := fun h => hD ((isD_nat hd).2 h)
      clear hS hsz hc hd hD
      go_enter Tryd.func36, Tryd.ntmps36
      by_cases h1 : 48 ≤ d
      · have g2 : ¬ (d : Int) < 48 := by omega
        have g3 : (57 : Int) < (d : Int) := by omega
        go_wp2_with fail
        go_ret
        exact ⟨rfl, rfl⟩
      · have g2 : (d : Int) < 48 := by omega
        go_wp2_with fail
        go_ret
        exact ⟨rfl, rfl⟩
  · have g1 : (S.size : Int) ≤ (k : Int) := by omega
    rw [digV_none (by omega)]
    clear hS hsz h
    go_enter Tryd.func36, Tryd.ntmps36
    go_wp2_with fail
    go_ret
    exact ⟨rfl, rfl⟩

/-- three digits, by their numbers -/
theorem cutD_dig {d : UInt8} {t : List UInt8} (hd : isD d = true) :
    ((digV (d :: t) 1 < 0 ∨ digV (d :: t) 2 < 0 ∨ 255 < digV (d :: t) 0 * 100 + digV (d :: t) 1 * 10 + digV (d :: t) 2) → cutD (d :: t) = none) ∧
    (¬ (digV (d :: t) 1 < 0 ∨ digV (d :: t) 2 < 0 ∨ 255 < digV (d :: t) 0 * 100 + digV (d :: t) 1 * 10 + digV (d :: t) 2) →
      3 ≤ (d :: t).length ∧ cutD (d :: t) = some (UInt8.ofNat (digV (d :: t) 0 * 100 + digV (d :: t) 1 * 10 + digV (d :: t) 2).toNat, (d :: t).drop 3)) := by
  obtain ⟨d1, d2⟩ := (isD_nat (c := d) rfl).1 hd
  have e0 : digV (d :: t) 0 = (d.toNat : Int) - 48 := by rw [digV_some rfl, if_pos hd]
  match t with
  | [] => exact ⟨fun _ => rfl, fun h => absurd (.inl (by rw [digV_none (by simp)]; omega)) h⟩
  | [b] => exact ⟨fun _ => rfl, fun h => absurd (.inr (.inl (by rw [digV_none (by simp)]; omega))) h⟩
  | b :: c :: r =>
    have e1 : digV (d :: b :: c :: r) 1 = if isD b = true then (b.toNat : Int) - 48 else -1 := digV_some rfl
    have e2 : digV (d :: b :: c :: r) 2 = if isD c = true then (c.toNat : Int) - 48 else -1 := digV_some rfl
    by_cases hb : isD b = true
    · obtain ⟨b1, b2⟩ := (isD_nat (c := b) rfl).1 hb
      by_cases hc : isD c = true
      · obtain ⟨c1, c2⟩ := (isD_nat (c := c) rfl).1 hc
        rw [if_pos hb] at e1
        rw [if_pos hc] at e2
        have hv : digV (d :: b :: c :: r) 0 * 100 + digV (d :: b :: c :: r) 1 * 10 + digV (d :: b :: c :: r) 2 = (val3 d b c : Nat) := by
          rw [e0, e1, e2]; unfold val3; omega
        refine ⟨fun h => ?_, fun h => ⟨by simp, ?_⟩⟩
        · rw [cutD, if_neg]
          rintro ⟨_, _, _, h4⟩
          rw [hv] at h
          omega
        · rw [hv] at h ⊢
          rw [cutD, if_pos ⟨hd, hb, hc, by omega⟩]
          rfl
      · rw [if_neg hc] at e2
        exact ⟨fun _ => cutD_not fun h => hc h.2.2, fun h => absurd (.inr (.inl (by omega))) h⟩
    · rw [if_neg hb] at e1
      exact ⟨fun _ => cutD_second hb, fun h => absurd (.inl (by omega)) h⟩

/-- what 'one' hands back at the place i -/
def OneE (s : List UInt8) (i : Nat) (e : Ending) : Prop :=
  (cutC (s.drop i) = none ∧ e = .returned (.tuple #[.int .u8 0, .int .i64 0])) ∨
  ∃ d t n, cutC (s.drop i) = some (d, t) ∧ 0 < n ∧ e = .returned (.tuple #[.int .u8 (d.toNat : Nat), .int .i64 (n : Nat)]) ∧ s.drop (i + n) = t ∧ i + n ≤ s.length

set_option maxHeartbeats 2000000 in
theorem one_any (S : ByteArray) (s : List UInt8) (i : Nat) (w : World) (hS : S = mk s) (hi : i < S.size) (hb : S.size ≤ 1073741824) :
    Calls Tryd.prog 25 #[.string S, .int .i64 (i : Nat)] w fun e w' => OneE s i e ∧ w = w' := by
  have hsz : S.size = s.length := by rw [hS, mk_size]
  have hlen : (s.drop i).length = S.size - i := by rw [List.length_drop, hsz]
  have hdd : ∀ k, s[i + k]? = (s.drop i)[k]? := fun k => (List.getElem?_drop).symm
  have hdr : ∀ k, s.drop (i + k) = (s.drop i).drop k := fun k => by rw [List.drop_drop]
  have hdv : ∀ k, digV s (i + k) = digV (s.drop i) k := digV_drop s i
  obtain ⟨t, ht⟩ : ∃ t, t = s.drop i := ⟨_, rfl⟩
  unfold OneE
  rw [← ht] at hlen hdd hdr hdv ⊢
  match t, ht with
  | [], _ => simp at hlen; omega
  | c :: r, ht =>
    obtain ⟨k0, c0⟩ := at_mk (k := i) (c := c) hS (hdd 0)
    obtain ⟨x, hx⟩ : ∃ x, x = c.toNat := ⟨_, rfl⟩
    rw [← hx] at c0
    by_cases h92 : x = 92
    · have g1 : ((x : Int) != 92) = false := by rw [bne_eq_false_iff_eq]; omega
      have hc92 : c.toNat = 92 := by rw [← hx]; exact h92
      match r with
      | [] =>
        have g2 : (S.size : Int) ≤ (i : Int) + 1 := by simp at hlen; omega
        have HR := Lib.hid (cutC_end hc92)
        clear hS hsz hlen hdd hdr hdv ht hx hc92 h92
        go_enter Tryd.func25, Tryd.ntmps25
        go_wp2_with fail
        go_ret2
        exact ⟨.inl ⟨HR.out, rfl⟩, rfl⟩
      | d :: r' =>
        have g2 : ¬ (S.size : Int) ≤ (i : Int) + 1 := by simp at hlen; omega
        obtain ⟨k1, c1⟩ := at_mk (k := i + 1) (c := d) hS (hdd 1)
        obtain ⟨a1, ha⟩ : ∃ a, a = digV (d :: r') 0 := ⟨_, rfl⟩
        obtain ⟨a2, hb'⟩ : ∃ a, a = digV (d :: r') 1 := ⟨_, rfl⟩
        obtain ⟨a3, hc'⟩ : ∃ a, a = digV (d :: r') 2 := ⟨_, rfl⟩
        have e1 : digV s (i + 1) = a1 := by rw [ha]; exact hdv 1
        have e2 : digV s (i + 2) = a2 := by rw [hb']; exact hdv 2
        have e3 : digV s (i + 3) = a3 := by rw [hc']; exact hdv 3
        have r1 := digV_range (d :: r') 0
        have r2 := digV_range (d :: r') 1
        have r3 := digV_range (d :: r') 2
        rw [← ha] at r1
        rw [← hb'] at r2
        rw [← hc'] at r3
        have E1 := Lib.hid e1
        have E2 := Lib.hid e2
        have E3 := Lib.hid e3
        have HS := Lib.hid hS
        have HD2 := Lib.hid (hdr 2)
        have HD4 := Lib.hid (hdr 4)
        have hl2 : i + 2 ≤ s.length := by omega
        obtain ⟨ra, rb⟩ := r1
        obtain ⟨rc, rd'⟩ := r2
        obtain ⟨re, rf⟩ := r3
        by_cases hD : isD d = true
        · have p1 : ¬ a1 < 0 := by rw [ha, digV_some rfl, if_pos hD]; have := (isD_nat (c := d) rfl).1 hD; omega
          obtain ⟨m1, m2⟩ := cutD_dig (t := r') hD
          rw [← ha, ← hb', ← hc'] at m1 m2
          have HC := Lib.hid (cutC_dig (r := r') hc92 hD)
          have M1 := Lib.hid m1
          have M2 := Lib.hid m2
          have hl3 : (d :: r').length + i + 1 = s.length := by simp at hlen ⊢; omega
          have HL3 := Lib.hid hl3
          have HSZ := Lib.hid hsz
          clear hS hsz hlen hdd hdr hdv ht hx hc92 h92 e1 e2 e3 ha hb' hc' hD m1 m2 hl3
          by_cases q1 : a2 < 0
          · go_enter Tryd.func25, Tryd.ntmps25
            go_wp2_with fail
            refine (digit_any S s (i + 1) _ _ HS.out (by omega)).mono ?_
            rw [E1.out]
            rintro e w1 ⟨rfl, rfl⟩
            go_wp2_with fail
            refine (digit_any S s (i + 2) _ _ HS.out (by omega)).mono ?_
            rw [E2.out]
            rintro e w1 ⟨rfl, rfl⟩
            go_wp2_with fail
            refine (digit_any S s (i + 3) _ _ HS.out (by omega)).mono ?_
            rw [E3.out]
            rintro e w1 ⟨rfl, rfl⟩
            go_wp2_with fail
            go_ret2
            exact ⟨.inl ⟨by rw [HC.out, M1.out (.inl q1)], rfl⟩, rfl⟩
          · by_cases q2 : a3 < 0
            · go_enter Tryd.func25, Tryd.ntmps25
              go_wp2_with fail
              refine (digit_any S s (i + 1) _ _ HS.out (by omega)).mono ?_
              rw [E1.out]
              rintro e w1 ⟨rfl, rfl⟩
              go_wp2_with fail
              refine (digit_any S s (i + 2) _ _ HS.out (by omega)).mono ?_
              rw [E2.out]
              rintro e w1 ⟨rfl, rfl⟩
              go_wp2_with fail
              refine (digit_any S s (i + 3) _ _ HS.out (by omega)).mono ?_
              rw [E3.out]
              rintro e w1 ⟨rfl, rfl⟩
              go_wp2_with fail
              go_ret2
              exact ⟨.inl ⟨by rw [HC.out, M1.out (.inr (.inl q2))], rfl⟩, rfl⟩
            · by_cases q3 : 255 < a1 * 100 + a2 * 10 + a3
              · go_enter Tryd.func25, Tryd.ntmps25
                go_wp2_with fail
                refine (digit_any S s (i + 1) _ _ HS.out (by omega)).mono ?_
                rw [E1.out]
                rintro e w1 ⟨rfl, rfl⟩
                go_wp2_with fail
                refine (digit_any S s (i + 2) _ _ HS.out (by omega)).mono ?_
                rw [E2.out]
                rintro e w1 ⟨rfl, rfl⟩
                go_wp2_with fail
                refine (digit_any S s (i + 3) _ _ HS.out (by omega)).mono ?_
                rw [E3.out]
                rintro e w1 ⟨rfl, rfl⟩
                go_wp2_with fail
                go_ret2
                exact ⟨.inl ⟨by rw [HC.out, M1.out (.inr (.inr q3))], rfl⟩, rfl⟩
              · have hno : ¬ (a2 < 0 ∨ a3 < 0 ∨ 255 < a1 * 100 + a2 * 10 + a3) := by omega
                obtain ⟨v, hv⟩ : ∃ v, v = a1 * 100 + a2 * 10 + a3 := ⟨_, rfl⟩
                have v0 : 0 ≤ v := by omega
                have v1 : v < 256 := by omega
                have HV := Lib.hid hv
                have HNO := Lib.hid hno
                have ev : ((UInt8.ofNat v.toNat).toNat : Int) = v := by rw [UInt8.toNat_ofNat']; omega
                have EV := Lib.hid ev
                clear hno hv ev
                go_enter Tryd.func25, Tryd.ntmps25
                go_wp2_with fail
                refine (digit_any S s (i + 1) _ _ HS.out (by omega)).mono ?_
                rw [E1.out]
                rintro e w1 ⟨rfl, rfl⟩
                go_wp2_with fail
                refine (digit_any S s (i + 2) _ _ HS.out (by omega)).mono ?_
                rw [E2.out]
                rintro e w1 ⟨rfl, rfl⟩
                go_wp2_with fail
                refine (digit_any S s (i + 3) _ _ HS.out (by omega)).mono ?_
                rw [E3.out]
                rintro e w1 ⟨rfl, rfl⟩
                go_wp2_with fail
                go_ret2
                obtain ⟨m1, m2⟩ := M2.out HNO.out
                rw [← HV.out] at m2
                refine ⟨.inr ⟨_, _, 4, by rw [HC.out, m2], by omega, ?_, by rw [HD4.out]; rfl, by have := HL3.out; omega⟩, rfl⟩
                rw [EV.out, HV.out]
                rfl
        · have p1 : a1 < 0 := by rw [ha, digV_some rfl, if_neg hD]; decide
          have HC := Lib.hid (cutC_esc (r := r') hc92 hD)
          clear hS hsz hlen hdd hdr hdv ht hx hc92 h92 e1 e2 e3 ha hb' hc' hD
          go_enter Tryd.func25, Tryd.ntmps25
          go_wp2_with fail
          refine (digit_any S s (i + 1) _ _ HS.out (by omega)).mono ?_
          rw [E1.out]
          rintro e w1 ⟨rfl, rfl⟩
          go_wp2_with fail
          refine (digit_any S s (i + 2) _ _ HS.out (by omega)).mono ?_
          rw [E2.out]
          rintro e w1 ⟨rfl, rfl⟩
          go_wp2_with fail
          refine (digit_any S s (i + 3) _ _ HS.out (by omega)).mono ?_
          rw [E3.out]
          rintro e w1 ⟨rfl, rfl⟩
          go_wp2_with fail
          go_ret2
          exact ⟨.inr ⟨d, r', 2, HC.out, by omega, rfl, HD2.out, hl2⟩, rfl⟩
    · have g1 : ((x : Int) != 92) = true := by rw [bne_iff_ne]; omega
      have HR := Lib.hid (cutC_plain (r := r) (by rw [← hx]; exact h92))
      have HD := Lib.hid (hdr 1)
      have HX := Lib.hid hx
      have hl1 : i + 1 ≤ s.length := by omega
      clear hS hsz hlen hdd hdr hdv ht hx h92
      go_enter Tryd.func25, Tryd.ntmps25
      go_wp2_with fail
      go_ret2
      exact ⟨.inr ⟨c, r, 1, HR.out, by omega, by rw [← HX.out]; rfl, HD.out, hl1⟩, rfl⟩
end Go.Proofs.YtpfbieehdkonhaaDoor
