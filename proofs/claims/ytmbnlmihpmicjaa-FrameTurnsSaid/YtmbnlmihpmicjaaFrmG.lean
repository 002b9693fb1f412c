/- The law FrameBack, walked: whatever the strings and the number, it returns true and writes nothing that was there. -/
import Derived.Test.YtmbnlmihpmicjaaFrmE
namespace Go.Proofs.Ytmbnlmihpmicjaa
open Go.RowKit

theorem u16_in {a : Int} (h : (Lit.int .u16 a).wf = true) : ∃ x : Nat, a = x ∧ x < 65536 := u16_nat h
theorem mks_of : ∀ l : List ByteArray, ∃ xs : List (List UInt8), l = xs.map mk := by
  intro l
  induction l with
  | nil => exact ⟨[], rfl⟩
  | cons s l ih =>
    obtain ⟨xs, rfl⟩ := ih
    obtain ⟨x, rfl⟩ := mk_of s
    exact ⟨x :: xs, rfl⟩
theorem mks_at {w : World} {B : Nat} {A : Option Addr} {n : Nat} {xs : List (List UInt8)} (h : Sees w B A n (texts (xs.map mk))) {k : Nat} (hk : k < n) (hx : k < xs.length) :
    ∃ b off, A = some ⟨b, off, none⟩ ∧ b < B ∧ w.cell? ⟨b, off + k, none⟩ = some (.string (mk xs[k])) := by
  obtain ⟨b, off, e, hb, hc⟩ := texts_at h hk
  refine ⟨b, off, e, hb, ?_⟩
  rw [hc]
  simp [List.getD, hx]
theorem Sees.take {w : World} {B : Nat} {A : Option Addr} {n : Nat} {xs : List Value} (h : Sees w B A n xs) {m : Nat} (hm : m ≤ n) : Sees w B A m (xs.take m) := by
  refine ⟨by rw [List.length_take, h.len]; omega, fun h0 => ?_⟩
  obtain ⟨b, off, e, hb, hc⟩ := h.addr (by omega)
  refine ⟨b, off, e, hb, fun j u hu => hc j u ?_⟩
  rw [List.getElem?_take] at hu
  split at hu
  · exact hu
  · cases hu
theorem texts_take (zs : List (List UInt8)) (m : Nat) : (texts (zs.map mk)).take m = texts ((zs.take m).map mk) := by simp [texts, List.map_take]

/-- what the last frame of k takes -/
def lastOf (xs : List (List UInt8)) : Nat → Nat
  | 0 => 0
  | k + 1 => 8 + (xs.getD k []).length
theorem lastOf_succ (xs : List (List UInt8)) (k : Nat) (h : k < xs.length) : lastOf xs (k + 1) = 8 + xs[k].length := by simp [lastOf, List.getD, h]
/-- a frame, contract for a string known by its bytes -/
theorem Frame_at (X : ByteArray) (x : List UInt8) (w : World) (hX : X = mk x) (hx : x.length ≤ 16777216) :
    Calls Try.prog 9 #[.string X] w fun e w' => e = .returned (.tuple #[.string (mk (frameL x)), .int .i64 0]) ∧ Below w.heap.size w w' := by
  subst hX; exact Frame_any x w hx

def RowAt (xs : List (List UInt8)) (k : Nat) (S : ByteArray) : Prop := S = mk (rowF (xs.take k)) ∧ ∀ x ∈ xs.take k, x.length ≤ 100
theorem RowAt.start (xs : List (List UInt8)) : RowAt xs 0 ⟨#[]⟩ := ⟨rfl, by simp⟩
theorem RowAt.size {xs : List (List UInt8)} {k : Nat} {S : ByteArray} (h : RowAt xs k S) (hk : k ≤ 20) : S.size ≤ 4000 := by
  rw [h.1, mk_size]
  have := rowF_len 100 (xs.take k) h.2
  rw [List.length_take] at this
  have h2 : min k xs.length ≤ 20 := by omega
  omega
theorem RowAt.step {xs : List (List UInt8)} {k : Nat} {S : ByteArray} (h : RowAt xs k S) (hk : k < xs.length) (hx : xs[k].length ≤ 100) : RowAt xs (k + 1) (S ++ mk (frameL xs[k])) := by
  refine ⟨?_, fun x hx' => ?_⟩
  · rw [h.1, mk_append, rowF_take xs k hk]
  · rw [List.take_succ_eq_append_getElem hk, List.mem_append] at hx'
    rcases hx' with hx' | hx'
    · exact h.2 x hx'
    · rw [List.mem_singleton] at hx'; subst hx'; exact hx
theorem RowAt.whole {xs : List (List UInt8)} {k : Nat} {S : ByteArray} (h : RowAt xs k S) (hk : xs.length ≤ k) : S = mk (rowF xs) ∧ ∀ x ∈ xs, x.length ≤ 16777216 := by
  have e : xs.take k = xs := List.take_of_length_le hk
  refine ⟨by rw [h.1, e], fun x hx => ?_⟩
  have := h.2 x (by rw [e]; exact hx)
  omega

theorem back_big (A : Option Addr) (n c : Nat) (x : Nat) (w : World) (h1 : 20 < n) :
    Calls Try.prog 5 #[.slice A n c, .int .u16 x] w fun e w' => e = .returned (.bool true) ∧ Below w.heap.size w w' := by
  have g1 : (20 : Int) < (n : Int) := by omega
  go_enter Try.func5, Try.ntmps5
  go_wp2_with fail
  refine (awake_any _).mono ?_
  rintro e w1 ⟨rfl, hB1⟩
  go_wp2_with fail
  refine (awake_any _).mono ?_
  rintro e w2 ⟨rfl, hB2⟩
  go_wp2_with fail
  go_ret
  exact ⟨rfl, hB1.trans (hB2.mono hB1.size)⟩

set_option maxHeartbeats 1000000 in
theorem back_small (A : Option Addr) (n c x : Nat) (xs : List (List UInt8)) (w : World) (h : Sees w w.heap.size A n (texts (xs.map mk))) (hcap : n ≤ c) (hx : x < 65536) (h1 : ¬ 20 < n) :
    Calls Try.prog 5 #[.slice A n c, .int .u16 x] w fun e w' => e = .returned (.bool true) ∧ Below w.heap.size w w' := by
  have g1 : ¬ (20 : Int) < (n : Int) := by omega
  have HL : Hid (xs.length = n) := Lib.hid (show xs.length = n by simpa [texts] using h.len)
  go_enter Try.func5, Try.ntmps5
  go_wp2_with fail
  refine (awake_any _).mono ?_
  rintro e w1 ⟨rfl, hB1⟩
  go_wp2_with fail
  go_loopw [5, 6, 7] (fun b la i wr => ∃ k S, k ≤ n ∧ i = .int .i64 (k : Nat) ∧ b = .string S ∧ la = .int .i64 (lastOf xs k : Nat) ∧ RowAt xs k S ∧ Below w.heap.size w wr) (fun _ _ i _ => n - (intOf i).toNat)
  case atStart => exact ⟨0, ⟨#[]⟩, Nat.zero_le _, rfl, rfl, rfl, RowAt.start xs, hB1⟩
  case round =>
    obtain ⟨k, S, hk, rfl, rfl, rfl, hR, GB⟩ := hrel
    have hSz := hR.size (by omega)
    have HR := Lib.hid hR
    clear hR
    by_cases hlt : k < n
    · have h2 : k < xs.length := by have := HL.out; omega
      have hls := lastOf_succ xs k h2
      obtain ⟨b, off, rfl, hbB, hc⟩ := mks_at (h.below GB) hlt h2
      obtain ⟨X, hX⟩ : ∃ X, X = mk xs[k] := ⟨_, rfl⟩
      have hXs : X.size = xs[k].length := by rw [hX, mk_size]
      obtain ⟨F, hF⟩ : ∃ F, F = mk (frameL xs[k]) := ⟨_, rfl⟩
      have hFs : F.size = lastOf xs (k + 1) := by rw [hF, mk_size, frameL_len, hls]
      have hFz : F.size ≤ 8 + X.size := by rw [hF, mk_size, frameL_len, hXs]; exact Nat.le_refl _
      rw [← hX] at hc
      have HX := Lib.hid hX
      have HXs := Lib.hid hXs
      have HF := Lib.hid hF
      have HFs := Lib.hid hFs
      clear hX hXs hF hFs hls
      generalize lastOf xs k = la
      by_cases hbig : 100 < X.size
      · have g2 : (100 : Int) < (X.size : Int) := by omega
        go_wp2_with fail
        go_ret
        exact ⟨rfl, GB⟩
      · have g2 : ¬ (100 : Int) < (X.size : Int) := by omega
        go_wp2_with fail
        refine (Frame_at X xs[k] _ HX.out (by have := HXs.out; omega)).mono ?_
        rw [← HF.out]
        rintro e w2 ⟨rfl, hB2⟩
        go_wp2_with fail
        go_roundw
        case rel => exact ⟨k + 1, S ++ F, by omega, by go_num, rfl, by rw [HFs.out], by rw [HF.out]; exact HR.out.step h2 (by have := HXs.out; omega), GB.trans (hB2.mono GB.size)⟩
        case measure => simp [intOf]; omega
    · obtain rfl : k = n := by omega
      obtain ⟨hS, hall⟩ := HR.out.whole (by have := HL.out; omega)
      have hsc := scan_frames xs hall
      have hz : (rowF xs).length = S.size := by rw [hS, mk_size]
      rw [hz] at hsc
      have HS := Lib.hid hS
      have HSC := Lib.hid hsc
      have HZ := Lib.hid hz
      have HALL := Lib.hid hall
      have GBH := Lib.hid GB
      have hh := h.below GB
      clear hS hsc hz hall
      go_wp2_with fail
      refine (Scan_any S _ _ HS.out (by rw [HZ.out]; omega)).mono ?_
      unfold ScanLeaves
      rw [HSC.out, HL.out]
      rintro e w4 ⟨A4, c4, rfl, hs4, hB4⟩
      have GB4 := GBH.out.trans (hB4.mono GBH.out.size)
      have hh4 := h.below GB4
      clear hh GB hB1
      go_wp2_with fail
      refine (Texts_yes A4 A _ _ _ _ _ (xs.map mk) _ hs4 hh4 (by omega)).mono ?_
      rintro e w5 ⟨rfl, m5, rfl⟩
      have GB5 := below_drewN GB4 m5
      generalize w4.drewN m5 = w5 at GB5 ⊢
      clear hs4 hh4 hB4 GB4
      rcases Nat.eq_zero_or_pos k with h0 | h0
      · subst h0
        go_wp2_with fail
        go_ret
        exact ⟨rfl, GB5⟩
      · obtain ⟨m, rfl⟩ : ∃ m, k = m + 1 := ⟨k - 1, by omega⟩
        have hm : m < xs.length := by have := HL.out; omega
        have hrow : rowF xs = rowF (xs.take m) ++ frameL xs[m] := by
          rw [← rowF_take xs m hm, List.take_of_length_le (by have := HL.out; omega)]
        have hall := HALL.out
        have hla := lastOf_succ xs m hm
        obtain ⟨L, hL⟩ : ∃ L, L = lastOf xs (m + 1) := ⟨_, rfl⟩
        rw [← hL] at hla ⊢
        have hL8 : 8 ≤ L := by omega
        have hfl : (frameL xs[m]).length = L := by rw [frameL_len, hla]
        have hSL : S.size = (rowF (xs.take m)).length + L := by rw [← HZ.out, hrow, List.length_append, hfl]
        have hq : x % L < L := Nat.mod_lt _ (by omega)
        obtain ⟨q, hqe⟩ : ∃ q, q = x % L := ⟨_, rfl⟩
        rw [← hqe] at hq
        have hqi : (x : Int) % (L : Int) = (q : Int) := by rw [hqe]; omega
        have hpre : S.extract 0 (S.size - (1 + q)) = mk (rowF (xs.take m) ++ (frameL xs[m]).take (L - 1 - q)) := by
          rw [HS.out, mk_extract, mk_size, hrow, List.drop_zero, List.length_append, hfl, List.take_append, List.take_of_length_le (by omega)]
          congr 3
          omega
        have hsh := scan_then (r := (frameL xs[m]).take (L - 1 - q)) (xs.take m) (fun y hy => hall y (List.mem_of_mem_take hy)) (first_short xs[m] (hall _ (List.getElem_mem hm)) _ (by omega))
        have hlr : (rowF (xs.take m) ++ (frameL xs[m]).take (L - 1 - q)).length ≤ 1073741824 := by
          rw [List.length_append, List.length_take]; omega
        obtain ⟨R, hR⟩ : ∃ R, R = (rowF (xs.take m)).length := ⟨_, rfl⟩
        rw [← hR] at hSL hsh
        have hmm : (xs.take m).length = m := by rw [List.length_take]; omega
        have HPRE := Lib.hid hpre
        have HSH := Lib.hid hsh
        have HLR := Lib.hid hlr
        have HMM := Lib.hid hmm
        have HSL := Lib.hid hSL
        have hSLi : (S.size : Int) = (R : Int) + (L : Int) := by omega
        have HSLi := Lib.hid hSLi
        have g4 : ((L : Int) == 0) = false := by rw [beq_eq_false_iff_ne]; omega
        have g5 : L ≤ S.size := by omega
        have g6 : (0 : Int) < (L : Int) := by omega
        clear hpre hsh hlr hSL hSLi hrow hla hfl hall hqe hmm hL hR
        go_wp2_with fail
        refine (Scan_any (S.extract 0 (S.size - (1 + q))) _ _ HPRE.out HLR.out).mono ?_
        unfold ScanLeaves
        rw [HSH.out, HMM.out]
        rintro e w6 ⟨A6, c6, rfl, hs6, hB6⟩
        have GB6 := GB5.trans (hB6.mono GB5.size)
        have hh6 := (h.below GB6).take (Nat.le_add_right m 1)
        rw [texts_take] at hh6
        clear GB5 hB6
        go_wp2_with fail
        refine (Texts_yes A6 A _ _ _ _ _ ((xs.take m).map mk) _ hs6 hh6 (by omega)).mono ?_
        rintro e w7 ⟨rfl, m7, rfl⟩
        have GB7 := below_drewN GB6 m7
        generalize w6.drewN m7 = w7 at GB7 ⊢
        have g9 : (S.size : Int) - (L : Int) = (R : Int) := by have := HSLi.out; omega
        go_wp2_with fail
        go_ret
        exact ⟨rfl, GB7⟩

theorem FrameBack_walk (A : Option Addr) (n c : Nat) (zs : List ByteArray) (a : Int) (w : World) (h : InTexts w A n c zs) (ha : (Lit.int .u16 a).wf = true) :
    Calls Try.prog 5 #[.slice A n c, .int .u16 a] w fun e w' => e = .returned (.bool true) ∧ Below w.heap.size w w' := by
  obtain ⟨x, rfl, hx⟩ := u16_in ha
  obtain ⟨xs, rfl⟩ := mks_of zs
  by_cases h1 : 20 < n
  · exact back_big A n c x w h1
  · exact back_small A n c x xs w h.1 h.2 hx h1
end Go.Proofs.Ytmbnlmihpmicjaa
