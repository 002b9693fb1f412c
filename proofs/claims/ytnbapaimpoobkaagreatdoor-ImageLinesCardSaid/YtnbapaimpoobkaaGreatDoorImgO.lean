/- Parts of the proofs of the statements of image. No statement of the seat is proved here. -/
import Derived.Test.YtnbapaimpoobkaaGreatDoorDoC
import Derived.Test.YtnbapaimpoobkaaGreatDoorDoE
namespace Go.Proofs.YtnbapaimpoobkaaGreatDoor
open Go.RowKit
set_option maxRecDepth 20000

/-- the number of the digit at a place, or -1 -/
def digV (s : List UInt8) (k : Nat) : Int := match s[k]? with | none => -1 | some c => if isD c = true then (c.toNat : Int) - 48 else -1
theorem digV_drop (s : List UInt8) (i k : Nat) : digV s (i + k) = digV (s.drop i) k := by unfold digV; rw [List.getElem?_drop]
theorem digV_range (s : List UInt8) (k : Nat) : -1 ≤ digV s k ∧ digV s k ≤ 9 := by
  unfold digV
  cases s[k]? with
  | none => simp
  | some c =>
    by_cases h : isD c = true
    · obtain ⟨h1, h2⟩ := (isD_nat (c := c) rfl).1 h
      simp only [h, if_true]; omega
    · simp only [h, if_false, Bool.false_eq_true]; omega
theorem digV_some {s : List UInt8} {k : Nat} {c : UInt8} (h : s[k]? = some c) : digV s k = if isD c = true then (c.toNat : Int) - 48 else -1 := by unfold digV; rw [h]
theorem digV_none {s : List UInt8} {k : Nat} (h : s.length ≤ k) : digV s k = -1 := by unfold digV; rw [List.getElem?_eq_none h]

theorem digit_any (S : ByteArray) (s : List UInt8) (k : Nat) (z : Int) (w : World) (hS : S = mk s) (hz : z = (k : Nat)) :
    Calls Tryz.prog 155 #[.string S, .int .i64 z] w fun e w' => e = .returned (.int .i64 (digV s k)) ∧ w = w' := by
  subst hz
  have hsz : S.size = s.length := by rw [hS, mk_size]
  by_cases h : k < S.size
  · have g1 : ¬ (S.size : Int) ≤ (k : Int) := by omega
    obtain ⟨c, hc⟩ : ∃ c, s[k]? = some c := ⟨_, List.getElem?_eq_getElem (by omega)⟩
    obtain ⟨k0, c0⟩ := at_mk hS hc
    obtain ⟨d, hd⟩ : ∃ d, d = c.toNat := ⟨_, rfl⟩
    rw [← hd] at c0
    rw [digV_some hc, ← hd]
    have HS := Lib.hid hS
    by_cases hD : isD c = true
    · obtain ⟨d1, d2⟩ := (isD_nat hd).1 hD
      rw [if_pos hD]
      have g2 : ¬ (d : Int) < 48 := by omega
      have g3 : ¬ (57 : Int) < (d : Int) := by omega
      clear hS hsz hc hd hD
      go_enter Tryz.func155, Tryz.ntmps155
      go_wp2_with fail
      go_ret
      exact ⟨rfl, rfl⟩
    · rw [if_neg hD]
      have hn : ¬ (48 ≤ d ∧ d ≤ 57) := fun h => hD ((isD_nat hd).2 h)
      clear hS hsz hc hd hD
      go_enter Tryz.func155, Tryz.ntmps155
      by_cases h1 : 48 ≤ d
      · have g2 : ¬ (d : Int) < 48 := by omega
        have g3 : (57 : Int) < (d : Int) := by omega
        go_wp2_with fail
        go_ret
        exact ⟨rfl, rfl⟩
      · have g2 : (d : Int) < 48 := by omega
        go_wp2_with fail
        go_ret
        exact ⟨rfl, rfl⟩
  · have g1 : (S.size : Int) ≤ (k : Int) := by omega
    rw [digV_none (by omega)]
    clear hS hsz h
    go_enter Tryz.func155, Tryz.ntmps155
    go_wp2_with fail
    go_ret
    exact ⟨rfl, rfl⟩

/-- three digits, by their numbers -/
theorem cutD_dig {d : UInt8} {t : List UInt8} (hd : isD d = true) :
    ((digV (d :: t) 1 < 0 ∨ digV (d :: t) 2 < 0 ∨ 255 < digV (d :: t) 0 * 100 + digV (d :: t) 1 * 10 + digV (d :: t) 2) → cutD (d :: t) = none) ∧
    (¬ (digV (d :: t) 1 < 0 ∨ digV (d :: t) 2 < 0 ∨ 255 < digV (d :: t) 0 * 100 + digV (d :: t) 1 * 10 + digV (d :: t) 2) →
      3 ≤ (d :: t).length ∧ cutD (d :: t) = some (UInt8.ofNat (digV (d :: t) 0 * 100 + digV (d :: t) 1 * 10 + digV (d :: t) 2).toNat, (d :: t).drop 3)) := by
  obtain ⟨d1, d2⟩ := (isD_nat (c := d) rfl).1 hd
  have e0 : digV (d :: t) 0 = (d.toNat : Int) - 48 := by rw [digV_some rfl, if_pos hd]
  match t with
  | [] => exact ⟨fun _ => rfl, fun h => absurd (.inl (by rw [digV_none (by simp)]; omega)) h⟩
  | [b] => exact ⟨fun _ => rfl, fun h => absurd (.inr (.inl (by rw [digV_none (by simp)]; omega))) h⟩
  | b :: c :: r =>
    have e1 : digV (d :: b :: c :: r) 1 = if isD b = true then (b.toNat : Int) - 48 else -1 := digV_some rfl
    have e2 : digV (d :: b :: c :: r) 2 = if isD c = true then (c.toNat : Int) - 48 else -1 := digV_some rfl
    by_cases hb : isD b = true
    · obtain ⟨b1, b2⟩ := (isD_nat (c := b) rfl).1 hb
      by_cases hc : isD c = true
      · obtain ⟨c1, c2⟩ := (isD_nat (c := c) rfl).1 hc
        rw [if_pos hb] at e1
        rw [if_pos hc] at e2
        have hv : digV (d :: b :: c :: r) 0 * 100 + digV (d :: b :: c :: r) 1 * 10 + digV (d :: b :: c :: r) 2 = (val3 d b c : Nat) := by
          rw [e0, e1, e2]; unfold val3; omega
        refine ⟨fun h => ?_, fun h => ⟨by simp, ?_⟩⟩
        · rw [cutD, if_neg]
          rintro ⟨_, _, _, h4⟩
          rw [hv] at h
          omega
        · rw [hv] at h ⊢
          rw [cutD, if_pos ⟨hd, hb, hc, by omega⟩]
          rfl
      · rw [if_neg hc] at e2
        exact ⟨fun _ => cutD_not fun h => hc h.2.2, fun h => absurd (.inr (.inl (by omega))) h⟩
    · rw [if_neg hb] at e1
      exact ⟨fun _ => cutD_second hb, fun h => absurd (.inl (by omega)) h⟩

/-- what 'one' hands back at the place i -/
def OneE (s : List UInt8) (i : Nat) (e : Ending) : Prop :=
  (cutC (s.drop i) = none ∧ e = .returned (.tuple #[.int .u8 0, .int .i64 0])) ∨
  ∃ d t n, cutC (s.drop i) = some (d, t) ∧ 0 < n ∧ e = .returned (.tuple #[.int .u8 (d.toNat : Nat), .int .i64 (n : Nat)]) ∧ s.drop (i + n) = t ∧ i + n ≤ s.length

set_option maxHeartbeats 2000000 in
theorem dotOne_any (S : ByteArray) (s : List UInt8) (i : Nat) (w : World) (hS : S = mk s) (hi : i < S.size) (hb : S.size ≤ 1073741824) :
    Calls Tryz.prog 112 #[.string S, .int .i64 (i : Nat)] w fun e w' => OneE s i e ∧ w = w' := by
  have hsz : S.size = s.length := by rw [hS, mk_size]
  have hlen : (s.drop i).length = S.size - i := by rw [List.length_drop, hsz]
  have hdd : ∀ k, s[i + k]? = (s.drop i)[k]? := fun k => (List.getElem?_drop).symm
  have hdr : ∀ k, s.drop (i + k) = (s.drop i).drop k := fun k => by rw [List.drop_drop]
  have hdv : ∀ k, digV s (i + k) = digV (s.drop i) k := digV_drop s i
  obtain ⟨t, ht⟩ : ∃ t, t = s.drop i := ⟨_, rfl⟩
  unfold OneE
  rw [← ht] at hlen hdd hdr hdv ⊢
  match t, ht with
  | [], _ => simp at hlen; omega
  | c :: r, ht =>
    obtain ⟨k0, c0⟩ := at_mk (k := i) (c := c) hS (hdd 0)
    obtain ⟨x, hx⟩ : ∃ x, x = c.toNat := ⟨_, rfl⟩
    rw [← hx] at c0
    by_cases h92 : x = 92
    · have g1 : ((x : Int) != 92) = false := by rw [bne_eq_false_iff_eq]; omega
      have hc92 : c.toNat = 92 := by rw [← hx]; exact h92
      match r with
      | [] =>
        have g2 : (S.size : Int) ≤ (i : Int) + 1 := by simp at hlen; omega
        have HR := Lib.hid (cutC_end hc92)
        clear hS hsz hlen hdd hdr hdv ht hx hc92 h92
        go_enter Tryz.func112, Tryz.ntmps112
        go_wp2_with fail
        go_ret2
        exact ⟨.inl ⟨HR.out, rfl⟩, rfl⟩
      | d :: r' =>
        have g2 : ¬ (S.size : Int) ≤ (i : Int) + 1 := by simp at hlen; omega
        obtain ⟨k1, c1⟩ := at_mk (k := i + 1) (c := d) hS (hdd 1)
        obtain ⟨a1, ha⟩ : ∃ a, a = digV (d :: r') 0 := ⟨_, rfl⟩
        obtain ⟨a2, hb'⟩ : ∃ a, a = digV (d :: r') 1 := ⟨_, rfl⟩
        obtain ⟨a3, hc'⟩ : ∃ a, a = digV (d :: r') 2 := ⟨_, rfl⟩
        have e1 : digV s (i + 1) = a1 := by rw [ha]; exact hdv 1
        have e2 : digV s (i + 2) = a2 := by rw [hb']; exact hdv 2
        have e3 : digV s (i + 3) = a3 := by rw [hc']; exact hdv 3
        have r1 := digV_range (d :: r') 0
        have r2 := digV_range (d :: r') 1
        have r3 := digV_range (d :: r') 2
        rw [← ha] at r1
        rw [← hb'] at r2
        rw [← hc'] at r3
        have E1 := Lib.hid e1
        have E2 := Lib.hid e2
        have E3 := Lib.hid e3
        have HS := Lib.hid hS
        have HD2 := Lib.hid (hdr 2)
        have HD4 := Lib.hid (hdr 4)
        have hl2 : i + 2 ≤ s.length := by omega
        obtain ⟨ra, rb⟩ := r1
        obtain ⟨rc, rd'⟩ := r2
        obtain ⟨re, rf⟩ := r3
        by_cases hD : isD d = true
        · have p1 : ¬ a1 < 0 := by rw [ha, digV_some rfl, if_pos hD]; have := (isD_nat (c := d) rfl).1 hD; omega
          obtain ⟨m1, m2⟩ := cutD_dig (t := r') hD
          rw [← ha, ← hb', ← hc'] at m1 m2
          have HC := Lib.hid (cutC_dig (r := r') hc92 hD)
          have M1 := Lib.hid m1
          have M2 := Lib.hid m2
          have hl3 : (d :: r').length + i + 1 = s.length := by simp at hlen ⊢; omega
          have HL3 := Lib.hid hl3
          have HSZ := Lib.hid hsz
          clear hS hsz hlen hdd hdr hdv ht hx hc92 h92 e1 e2 e3 ha hb' hc' hD m1 m2 hl3
          by_cases q1 : a2 < 0
          · go_enter Tryz.func112, Tryz.ntmps112
            go_wp2_with fail
            refine (digit_any S s (i + 1) _ _ HS.out (by omega)).mono ?_
            rw [E1.out]
            rintro e w1 ⟨rfl, rfl⟩
            go_wp2_with fail
            refine (digit_any S s (i + 2) _ _ HS.out (by omega)).mono ?_
            rw [E2.out]
            rintro e w1 ⟨rfl, rfl⟩
            go_wp2_with fail
            refine (digit_any S s (i + 3) _ _ HS.out (by omega)).mono ?_
            rw [E3.out]
            rintro e w1 ⟨rfl, rfl⟩
            go_wp2_with fail
            go_ret2
            exact ⟨.inl ⟨by rw [HC.out, M1.out (.inl q1)], rfl⟩, rfl⟩
          · by_cases q2 : a3 < 0
            · go_enter Tryz.func112, Tryz.ntmps112
              go_wp2_with fail
              refine (digit_any S s (i + 1) _ _ HS.out (by omega)).mono ?_
              rw [E1.out]
              rintro e w1 ⟨rfl, rfl⟩
              go_wp2_with fail
              refine (digit_any S s (i + 2) _ _ HS.out (by omega)).mono ?_
              rw [E2.out]
              rintro e w1 ⟨rfl, rfl⟩
              go_wp2_with fail
              refine (digit_any S s (i + 3) _ _ HS.out (by omega)).mono ?_
              rw [E3.out]
              rintro e w1 ⟨rfl, rfl⟩
              go_wp2_with fail
              go_ret2
              exact ⟨.inl ⟨by rw [HC.out, M1.out (.inr (.inl q2))], rfl⟩, rfl⟩
            · by_cases q3 : 255 < a1 * 100 + a2 * 10 + a3
              · go_enter Tryz.func112, Tryz.ntmps112
                go_wp2_with fail
                refine (digit_any S s (i + 1) _ _ HS.out (by omega)).mono ?_
                rw [E1.out]
                rintro e w1 ⟨rfl, rfl⟩
                go_wp2_with fail
                refine (digit_any S s (i + 2) _ _ HS.out (by omega)).mono ?_
                rw [E2.out]
                rintro e w1 ⟨rfl, rfl⟩
                go_wp2_with fail
                refine (digit_any S s (i + 3) _ _ HS.out (by omega)).mono ?_
                rw [E3.out]
                rintro e w1 ⟨rfl, rfl⟩
                go_wp2_with fail
                go_ret2
                exact ⟨.inl ⟨by rw [HC.out, M1.out (.inr (.inr q3))], rfl⟩, rfl⟩
              · have hno : ¬ (a2 < 0 ∨ a3 < 0 ∨ 255 < a1 * 100 + a2 * 10 + a3) := by omega
                obtain ⟨v, hv⟩ : ∃ v, v = a1 * 100 + a2 * 10 + a3 := ⟨_, rfl⟩
                have v0 : 0 ≤ v := by omega
                have v1 : v < 256 := by omega
                have HV := Lib.hid hv
                have HNO := Lib.hid hno
                have ev : ((UInt8.ofNat v.toNat).toNat : Int) = v := by rw [UInt8.toNat_ofNat']; omega
                have EV := Lib.hid ev
                clear hno hv ev
                go_enter Tryz.func112, Tryz.ntmps112
                go_wp2_with fail
                refine (digit_any S s (i + 1) _ _ HS.out (by omega)).mono ?_
                rw [E1.out]
                rintro e w1 ⟨rfl, rfl⟩
                go_wp2_with fail
                refine (digit_any S s (i + 2) _ _ HS.out (by omega)).mono ?_
                rw [E2.out]
                rintro e w1 ⟨rfl, rfl⟩
                go_wp2_with fail
                refine (digit_any S s (i + 3) _ _ HS.out (by omega)).mono ?_
                rw [E3.out]
                rintro e w1 ⟨rfl, rfl⟩
                go_wp2_with fail
                go_ret2
                obtain ⟨m1, m2⟩ := M2.out HNO.out
                rw [← HV.out] at m2
                refine ⟨.inr ⟨_, _, 4, by rw [HC.out, m2], by omega, ?_, by rw [HD4.out]; rfl, by have := HL3.out; omega⟩, rfl⟩
                rw [EV.out, HV.out]
                rfl
        · have p1 : a1 < 0 := by rw [ha, digV_some rfl, if_neg hD]; decide
          have HC := Lib.hid (cutC_esc (r := r') hc92 hD)
          clear hS hsz hlen hdd hdr hdv ht hx hc92 h92 e1 e2 e3 ha hb' hc' hD
          go_enter Tryz.func112, Tryz.ntmps112
          go_wp2_with fail
          refine (digit_any S s (i + 1) _ _ HS.out (by omega)).mono ?_
          rw [E1.out]
          rintro e w1 ⟨rfl, rfl⟩
          go_wp2_with fail
          refine (digit_any S s (i + 2) _ _ HS.out (by omega)).mono ?_
          rw [E2.out]
          rintro e w1 ⟨rfl, rfl⟩
          go_wp2_with fail
          refine (digit_any S s (i + 3) _ _ HS.out (by omega)).mono ?_
          rw [E3.out]
          rintro e w1 ⟨rfl, rfl⟩
          go_wp2_with fail
          go_ret2
          exact ⟨.inr ⟨d, r', 2, HC.out, by omega, rfl, HD2.out, hl2⟩, rfl⟩
    · have g1 : ((x : Int) != 92) = true := by rw [bne_iff_ne]; omega
      have HR := Lib.hid (cutC_plain (r := r) (by rw [← hx]; exact h92))
      have HD := Lib.hid (hdr 1)
      have HX := Lib.hid hx
      have hl1 : i + 1 ≤ s.length := by omega
      clear hS hsz hlen hdd hdr hdv ht hx h92
      go_enter Tryz.func112, Tryz.ntmps112
      go_wp2_with fail
      go_ret2
      exact ⟨.inr ⟨c, r, 1, HR.out, by omega, by rw [← HX.out]; rfl, HD.out, hl1⟩, rfl⟩
end Go.Proofs.YtnbapaimpoobkaaGreatDoor
namespace Go.Proofs.YtnbapaimpoobkaaGreatDoor
open Go.RowKit
set_option maxRecDepth 20000

end Go.Proofs.YtnbapaimpoobkaaGreatDoor
namespace Go.Proofs.YtnbapaimpoobkaaGreatDoor
open Go.RowKit Go.Op

set_option maxHeartbeats 2000000 in
theorem RefOfBig_any (A : Option Addr) (n c : Nat) (L : List (List UInt8)) (w : World) (h : Sees w w.heap.size A n (textL L)) (hn : n ≤ 2000) (hx : ∀ x ∈ L, x.length ≤ 100000) :
    Calls Tryz.prog 113 #[.slice A n c] w fun e w' => e = .returned (.tuple #[.string (mk (ofN L).1), .int .i64 (ofN L).2]) ∧ Below w.heap.size w w' := by
  have HL := Lib.hid (textL_len h)
  have HX := Lib.hid hx
  clear hx
  go_enter Tryz.func113, Tryz.ntmps113
  go_wp2_with fail
  go_loop [4] (fun i => ∃ k, k ≤ n ∧ i = .int .i64 (k : Nat) ∧ [] ∉ L.take k) (fun i => n - (intOf i).toNat)
  case atStart => exact ⟨0, Nat.zero_le _, rfl, by simp⟩
  case round =>
    obtain ⟨k, hk, rfl, hr⟩ := hrel
    have HR := Lib.hid hr
    clear hr
    by_cases hlt : k < n
    · have h2 : k < L.length := by have := HL.out; omega
      obtain ⟨b, off, rfl, hbB, hc⟩ := textL_at h hlt h2
      obtain ⟨X, hX⟩ : ∃ X, X = mk L[k] := ⟨_, rfl⟩
      rw [← hX] at hc
      have hie : X.toList.isEmpty = L[k].isEmpty := by rw [hX]; exact mk_isEmpty _
      by_cases he : L[k] = []
      · have hq : X.toList.isEmpty = true := by rw [hie, he]; rfl
        have ho := ofN_form (L := L) (by rw [← he]; exact List.getElem_mem h2)
        have HO := Lib.hid ho
        clear hie he hX ho
        go_wp2_with fail
        go_ret2
        exact ⟨by rw [HO.out]; rfl, Below.refl _ _⟩
      · have hq : X.toList.isEmpty = false := by rw [hie]; cases hL : L[k] <;> simp_all
        have hm : [] ∉ L.take (k + 1) := by
          rw [List.take_succ_eq_append_getElem h2, List.mem_append, List.mem_singleton]
          exact fun h => h.elim HR.out (fun e => he e.symm)
        have HM := Lib.hid hm
        clear hie he hX hm
        go_wp2_with fail
        go_round
        case rel => exact ⟨k + 1, by omega, by go_num, HM.out⟩
        case measure => simp [intOf]; omega
    · obtain rfl : k = n := by omega
      have hE := HR.out
      rw [List.take_of_length_le (by have := HL.out; omega)] at hE
      have HE := Lib.hid hE
      clear hE HR
      go_wp2_with fail
      go_loopw [5, 6] (fun s i wr => ∃ m S, m ≤ k ∧ i = .int .i64 (m : Nat) ∧ s = .string S ∧ OfRef L m S ∧ Below w.heap.size w wr) (fun _ i _ => k - (intOf i).toNat)
      case atStart => exact ⟨0, ⟨#[]⟩, Nat.zero_le _, rfl, rfl, OfRef.start L, Below.refl _ _⟩
      case round =>
        obtain ⟨m, S, hm, rfl, rfl, hR, GB⟩ := hrel
        have hSz : S.size ≤ 128000 := by have := hR.size; omega
        have HR := Lib.hid hR
        clear hR hlt
        by_cases hlt : m < k
        · have h2 : m < L.length := by have := HL.out; omega
          obtain ⟨b, off, rfl, hbB, hc⟩ := textL_at (h.below GB) hlt h2
          obtain ⟨X, hX⟩ : ∃ X, X = mk L[m] := ⟨_, rfl⟩
          have hXs : X.size = L[m].length := by rw [hX, mk_size]
          have hXb : X.size ≤ 100000 := by rw [hXs]; exact HX.out _ (List.getElem_mem h2)
          rw [← hX] at hc
          have HXX := Lib.hid hX
          have HXs := Lib.hid hXs
          clear hX hXs
          by_cases hbig : 63 < X.size
          · have g2 : (63 : Int) < (X.size : Int) := by omega
            have ho := OfAt.long1 h2 (by have := HXs.out; omega) HE.out
            have HO := Lib.hid ho
            clear ho
            go_wp2_with fail
            go_ret2
            exact ⟨by rw [HO.out]; rfl, GB⟩
          · have g2 : ¬ (63 : Int) < (X.size : Int) := by omega
            have hst := HR.out.step h2 (by have := HXs.out; omega)
            rw [← HXX.out, ← HXs.out] at hst
            have HST := Lib.hid hst
            have hcv := byte_new X.size wr (by omega)
            have hbl : b < wr.heap.size := by have := GB.size; omega
            have hcd : wr.drew.cell? ⟨b, off + m, none⟩ = some (.string X) := hc
            clear hst
            go_wp2_with fail
            go_region
            go_wp2_with fail
            go_roundw
            case rel => exact ⟨m + 1, _, by omega, by go_num, rfl, HST.out, (GB.alloc GB.size _).drew⟩
            case measure => simp [intOf]; omega
        · obtain rfl : m = k := by omega
          obtain ⟨hd1, hd2⟩ := HR.out.done (by have := HL.out; omega) HE.out
          by_cases hbig : 254 < S.size
          · have g3 : (254 : Int) < (S.size : Int) := by omega
            have HO := Lib.hid (hd1 hbig)
            clear hd1 hd2
            go_wp2_with fail
            go_ret2
            exact ⟨by rw [HO.out]; rfl, GB⟩
          · have g3 : ¬ (254 : Int) < (S.size : Int) := by omega
            have HO := Lib.hid (hd2 hbig)
            clear hd1 hd2
            go_wp2_with fail
            go_ret2
            exact ⟨by rw [HO.out.2, ← HO.out.1]; rfl, GB⟩
set_option maxHeartbeats 4000000 in
theorem RefReadBig_any (S : ByteArray) (s : List UInt8) (w : World) (hS : S = mk s) (hb : s.length ≤ 3000) :
    Calls Tryz.prog 54 #[.string S] w fun e w' => e = .returned (.tuple #[.string (mk (readN s).1), .int .i64 (readN s).2]) ∧ Below w.heap.size w w' := by
  have hsz : S.size = s.length := by rw [hS, mk_size]
  have hS1 : S.size ≤ 3000 := by omega
  have HS := Lib.hid hS
  have HSZ := Lib.hid hsz
  by_cases hr : s = [46]
  · have g1 : (S.toList == [46]) = true := by rw [hS, mk_is, hr]; rfl
    have hrd : readN s = ([0], 0) := by unfold readN readL; rw [if_pos hr]; rfl
    rw [hrd]
    clear hS hr hrd hsz
    go_enter Tryz.func54, Tryz.ntmps54
    go_wp2_with fail
    go_ret2
    exact ⟨rfl, Below.refl _ _⟩
  · have g1 : (S.toList == [46]) = false := by rw [hS, mk_is]; simpa using hr
    have hrd : readL s = rd [] [] s := by unfold readL; rw [if_neg hr]
    obtain ⟨O, hO⟩ : ∃ O, O = readN s := ⟨_, rfl⟩
    rw [← hO]
    have HR := Lib.hid hO
    have HRL := Lib.hid hrd
    clear hS hr hrd hsz hO
    go_enter Tryz.func54, Tryz.ntmps54
    go_wp2_with fail
    go_loopw [4, 5, 6] (fun v u j wr => ∃ (L : List (List UInt8)) (n : Nat) (lab : List UInt8) (i : Nat), n = L.length ∧ j = .int .i64 (i : Nat) ∧ i ≤ S.size ∧ u = .string (mk lab) ∧ wr.ownsRow w.heap.size 9 1 v n (textL L) ∧ rd [] [] s = rd L lab (s.drop i) ∧ n ≤ i ∧ lab.length ≤ i ∧ Below w.heap.size w wr) (fun _ _ j _ => S.size - (intOf j).toNat)
    case atStart => exact ⟨[], 0, [], 0, rfl, rfl, Nat.zero_le _, rfl, World.ownsRow_nil _ _ _ _, rfl, Nat.le_refl _, Nat.le_refl _, Below.refl _ _⟩
    case round =>
      obtain ⟨L, n, lab, i, hn, rfl, hi, rfl, hown, hrd, hni, hlab, hB⟩ := hrel
      obtain ⟨Y, hY⟩ : ∃ Y, Y = mk lab := ⟨_, rfl⟩
      rw [← hY]
      have hYz : Y.size ≤ 3000 := by rw [hY, mk_size]; omega
      have HY := Lib.hid hY
      have HN := Lib.hid hn
      have HO := Lib.hid hown
      have HRD := Lib.hid hrd
      have HB := Lib.hid hB
      clear hY hn hown hrd hB
      by_cases hlt : i < S.size
      · have g2 : (i : Int) < (S.size : Int) := by omega
        have his : i < s.length := by have := HSZ.out; omega
        have hdrop : s.drop i = s[i] :: s.drop (i + 1) := List.drop_eq_getElem_cons his
        obtain ⟨c, hc⟩ : ∃ c, c = s[i] := ⟨_, rfl⟩
        rw [← hc] at hdrop
        obtain ⟨d, hd⟩ : ∃ d, d = c.toNat := ⟨_, rfl⟩
        have hcx : (S[i]'hlt).toNat = d := by rw [mk_get HS.out hlt his, hd, hc]
        have HDR := Lib.hid hdrop
        have HD := Lib.hid hd
        clear hc hdrop hd
        by_cases h46 : d = 46
        · have g3 : ((d : Int) == 46) = true := by rw [beq_iff_eq]; omega
          have h46c : c.toNat = 46 := by rw [← HD.out]; exact h46
          by_cases hl0 : lab = []
          · have g4 : Y.toList.isEmpty = true := by rw [HY.out, mk_isEmpty, hl0]; rfl
            have hno : rd [] [] s = none := by rw [HRD.out, HDR.out, rd_dot h46c, if_pos hl0]
            have hO2 : O = ([], 2) := by rw [HR.out]; unfold readN; rw [HRL.out, hno]
            subst hO2
            clear h46 h46c hl0 hno
            go_wp2_with fail
            go_ret2
            exact ⟨rfl, HB.out⟩
          · have g4 : Y.toList.isEmpty = false := by
              rw [HY.out, mk_isEmpty]
              cases lab with
              | nil => exact absurd rfl hl0
              | cons _ _ => rfl
            have HST := Lib.hid (show rd [] [] s = rd (L ++ [lab]) [] (s.drop (i + 1)) by rw [HRD.out, HDR.out, rd_dot h46c, if_neg hl0])
            have H63 : Hid (n + 1 ≤ maxLen) := Lib.hid (by unfold maxLen; omega)
            have H47 : Hid ((n + 1) * 16 ≤ 140737488355328) := Lib.hid (by omega)
            obtain ⟨i0, hi0, hz0, hz1, hz2⟩ := info_parts text_info
            clear h46 h46c hl0
            go_wp2_with (at_builtin; refine wpList_append_own _ rfl _ _ 37 rfl w.heap.size 9 i0 (.string ⟨#[]⟩) 1 16 Tryz.underlying37 hi0 hz0 hz1 hz2 rfl (by decide) _ _ _ rfl (HO.out.alloc _) ⟨wr.heap.size, 0, none⟩ 1 1 [.string Y] rfl rfl (news1 _ _ _) (one1 _ rfl) H63.out H47.out (by have := HB.out.size; simp; omega) ?_; intro v2 w2 hown2 hgrow _)
            have hown3 : w2.ownsRow w.heap.size 9 1 v2 (n + 1) (textL (L ++ [lab])) := by
              rw [textL_snoc, ← HY.out]; simpa using hown2
            have HO3 := Lib.hid hown3
            have HB2 := Lib.hid ((HB.out.alloc HB.out.size _).grown hgrow (by have := HB.out.size; simp; omega) (fun j hj => (HO.out.lt j hj).1))
            clear hown2 hown3 hgrow
            go_wp2_with fail
            go_roundw
            case rel => exact ⟨L ++ [lab], n + 1, [], i + 1, by simp [HN.out], by go_num, by omega, rfl, HO3.out, HST.out, by omega, by simp, HB2.out⟩
            case measure => simp [intOf]; omega
        · have g3 : ((d : Int) == 46) = false := by rw [beq_eq_false_iff_ne]; omega
          have hne : c.toNat ≠ 46 := by rw [← HD.out]; exact h46
          clear h46
          go_wp2_with fail
          refine (dotOne_any S s i _ HS.out hlt (by omega)).mono ?_
          rintro e w1 ⟨hE, rfl⟩
          rcases hE with ⟨hk, rfl⟩ | ⟨b, t, m, hk, hm, rfl, hdm, him⟩
          · rw [HDR.out] at hk
            have hno : rd [] [] s = none := by rw [HRD.out, HDR.out, dotRd_bad hne hk]
            have hO2 : O = ([], 2) := by rw [HR.out]; unfold readN; rw [HRL.out, hno]
            subst hO2
            clear hk hne hno
            go_wp2_with fail
            go_ret2
            exact ⟨rfl, HB.out⟩
          · rw [HDR.out] at hk
            have HST := Lib.hid (show rd [] [] s = rd L (lab ++ [b]) (s.drop (i + m)) by rw [HRD.out, HDR.out, rd_byte hne hk, hdm])
            have gm : ((m : Int) == 0) = false := by rw [beq_eq_false_iff_ne]; omega
            have hb256 := b.toNat_lt
            have hcv := dotOne_new (b.toNat : Nat) wr (by omega) (by omega)
            rw [of_toNat (c := b) rfl] at hcv
            have hYb : Y ++ mk [b] = mk (lab ++ [b]) := by rw [HY.out, mk_append]
            obtain ⟨V, hV⟩ : ∃ V, V = mk [b] := ⟨_, rfl⟩
            have hVz : V.size = 1 := by rw [hV]; rfl
            rw [← hV] at hcv hYb
            have HYB := Lib.hid hYb
            have him2 : i + m ≤ S.size := by have := HSZ.out; omega
            have HB2 := Lib.hid (HB.out.alloc HB.out.size (.cells #[.int .u8 (b.toNat : Nat)] 5))
            have HO2 := Lib.hid (HO.out.alloc (.cells #[.int .u8 (b.toNat : Nat)] 5))
            clear hk hne hYb hV hdm him
            go_wp2_with fail
            go_roundw
            case rel => exact ⟨L, n, lab ++ [b], i + m, HN.out, by go_num, him2, by rw [← HYB.out], HO2.out, HST.out, by omega, by simp; omega, HB2.out⟩
            case measure => simp [intOf]; omega
      · obtain rfl : i = S.size := by omega
        have hdrop : s.drop S.size = [] := List.drop_of_length_le (by have := HSZ.out; omega)
        rw [hdrop] at HRD
        have g2 : ¬ ((S.size : Nat) : Int) < (S.size : Int) := by omega
        obtain ⟨A, cp, rfl, hs⟩ := Sees.own HO.out
        clear hdrop
        by_cases hl0 : lab = []
        · have g4 : Y.toList.isEmpty = true := by rw [HY.out, mk_isEmpty, hl0]; rfl
          by_cases hn0 : n = 0
          · have g5 : ((n : Int) == 0) = true := by rw [beq_iff_eq]; omega
            have hL : L = [] := List.eq_nil_of_length_eq_zero (by rw [← HN.out]; exact hn0)
            have hno : rd [] [] s = none := by rw [HRD.out, rd_nil, if_pos (.inr hL)]
            have hO2 : O = ([], 2) := by rw [HR.out]; unfold readN; rw [HRL.out, hno]
            subst hO2
            clear hl0 hn0 hL hno hs
            go_wp2_with fail
            go_ret2
            exact ⟨rfl, HB.out⟩
          · have g5 : ((n : Int) == 0) = false := by rw [beq_eq_false_iff_ne]; omega
            have hL : ¬ L = [] := by intro e; rw [e] at HN; exact hn0 HN.out
            have hyes : readL s = some L := by rw [HRL.out, HRD.out, rd_nil, if_neg (by rintro (h | h); exact h hl0; exact hL h)]
            have hO2 : O = ofN L := by rw [HR.out]; unfold readN; rw [hyes]
            obtain ⟨h1, h2⟩ := readL_small hyes
            have hx : ∀ y ∈ L, y.length ≤ 100000 := fun y hy => by have := h2 y hy; omega
            have hn : n ≤ 2000 := by have := HN.out; omega
            have HX := Lib.hid hx
            have HO2 := Lib.hid hO2
            clear hl0 hn0 hL hyes hO2 h1 h2 hx
            go_wp2_with fail
            refine (RefOfBig_any A n cp L _ hs hn HX.out).mono ?_
            rw [← HO2.out]
            rintro e w2 ⟨rfl, hB2⟩
            go_wp2_with fail
            go_ret2
            exact ⟨rfl, HB.out.trans (hB2.mono HB.out.size)⟩
        · have g4 : Y.toList.isEmpty = false := by
            rw [HY.out, mk_isEmpty]
            cases lab with
            | nil => exact absurd rfl hl0
            | cons _ _ => rfl
          have hno : rd [] [] s = none := by rw [HRD.out, rd_nil, if_pos (.inl hl0)]
          have hO2 : O = ([], 2) := by rw [HR.out]; unfold readN; rw [HRL.out, hno]
          subst hO2
          clear hl0 hno hs
          go_wp2_with fail
          go_ret2
          exact ⟨rfl, HB.out⟩
end Go.Proofs.YtnbapaimpoobkaaGreatDoor
