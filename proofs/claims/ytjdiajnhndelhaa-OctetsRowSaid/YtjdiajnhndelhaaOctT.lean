/- The law OctetsRow, walked: whatever the strings and the width, it returns true and writes nothing that was there. -/
import Derived.Test.YtjdiajnhndelhaaOctL
import Derived.Test.YtjdiajnhndelhaaOctG
import Derived.Test.YtjdiajnhndelhaaOctS
namespace Go.Proofs.Ytjdiajnhndelhaa
open Go.RowKit

theorem mk_nil_empty : (mk []).toList.isEmpty = true := by rw [ByteArray.toList_eq]; rfl
theorem mks_of : ∀ l : List ByteArray, ∃ xs : List (List UInt8), l = xs.map mk := by
  intro l
  induction l with
  | nil => exact ⟨[], rfl⟩
  | cons s l ih =>
    obtain ⟨xs, rfl⟩ := ih
    obtain ⟨x, rfl⟩ := mk_of s
    exact ⟨x :: xs, rfl⟩
theorem mks_at {w : World} {B : Nat} {A : Option Addr} {n : Nat} {xs : List (List UInt8)} (h : Sees w B A n (texts (xs.map mk))) {k : Nat} (hk : k < n) (hx : k < xs.length) :
    ∃ b off, A = some ⟨b, off, none⟩ ∧ b < B ∧ w.cell? ⟨b, off + k, none⟩ = some (.string (mk xs[k])) := by
  obtain ⟨b, off, e, hb, hc⟩ := texts_at h hk
  refine ⟨b, off, e, hb, ?_⟩
  rw [hc]
  simp [List.getD, hx]
theorem rowB_take (a : Nat) (xs : List (List UInt8)) (k : Nat) (h : k < xs.length) : rowB a (xs.take (k + 1)) = rowB a (xs.take k) ++ (be xs[k].length a ++ xs[k]) := by
  rw [List.take_succ_eq_append_getElem h, rowB_append]
  simp [rowB]
theorem rowB_drop (a : Nat) (xs : List (List UInt8)) (k : Nat) (h : k < xs.length) : rowB a (xs.drop k) = be xs[k].length a ++ xs[k] ++ rowB a (xs.drop (k + 1)) := by
  rw [List.drop_eq_getElem_cons h, rowB]

set_option maxHeartbeats 1000000 in
theorem row_big (A : Option Addr) (n c : Nat) (two : Bool) (w : World) (h1 : 20 < n) :
    Calls Try.prog 8 #[.slice A n c, .bool two] w fun e w' => e = .returned (.bool true) ∧ Below w.heap.size w w' := by
  have g1 : (20 : Int) < (n : Int) := by omega
  go_enter Try.func8, Try.ntmps8
  go_wp2_with fail
  refine (awake_any _).mono ?_
  rintro e w1 ⟨rfl, hB1⟩
  go_wp2_with fail
  refine (awake_any _).mono ?_
  rintro e w2 ⟨rfl, hB2⟩
  go_wp2_with fail
  go_ret
  exact ⟨rfl, hB1.trans (hB2.mono hB1.size)⟩

set_option maxHeartbeats 4000000 in
theorem row_1 (A : Option Addr) (n c : Nat) (xs : List (List UInt8)) (w : World) (h : Sees w w.heap.size A n (texts (xs.map mk))) (h1 : ¬ 20 < n) :
    Calls Try.prog 8 #[.slice A n c, .bool false] w fun e w' => e = .returned (.bool true) ∧ Below w.heap.size w w' := by
  have g1 : ¬ (20 : Int) < (n : Int) := by omega
  have HL : Hid (xs.length = n) := Lib.hid (show xs.length = n by simpa [texts] using h.len)
  go_enter Try.func8, Try.ntmps8
  go_wp2_with fail
  refine (awake_any _).mono ?_
  rintro e w1 ⟨rfl, hB1⟩
  go_wp2_with fail
  go_loopw [6, 7] (fun b i wr => ∃ k S, k ≤ n ∧ i = .int .i64 (k : Nat) ∧ b = .string S ∧ S = mk (rowB 1 (xs.take k)) ∧ (∀ x ∈ xs.take k, x.length ≤ 100) ∧ Below w.heap.size w wr) (fun _ i _ => n - (intOf i).toNat)
  case atStart => exact ⟨0, mk [], Nat.zero_le _, rfl, rfl, rfl, by simp, hB1⟩
  case round =>
    obtain ⟨k, S, hk, rfl, rfl, hS, hall, GB⟩ := hrel
    have hSz : S.size ≤ 4000 := by
      rw [hS, mk_size]
      have := rowB_len 1 100 (xs.take k) hall
      simp at this
      have hmin : min k xs.length ≤ 20 := by omega
      omega
    have HS := Lib.hid hS
    have HALL := Lib.hid hall
    clear hS hall
    by_cases hlt : k < n
    · have h2 : k < xs.length := by have := HL.out; omega
      obtain ⟨b, off, rfl, hbB, hc⟩ := mks_at (h.below GB) hlt h2
      obtain ⟨X, hX⟩ : ∃ X, X = mk xs[k] := ⟨_, rfl⟩
      have hXs : X.size = xs[k].length := by rw [hX, mk_size]
      rw [← hX] at hc
      have HX := Lib.hid hX
      have HXs := Lib.hid hXs
      clear hX hXs
      by_cases hbig : 100 < X.size
      · have g2 : (100 : Int) < (X.size : Int) := by omega
        go_wp2_with fail
        go_ret
        exact ⟨rfl, GB⟩
      · have g2 : ¬ (100 : Int) < (X.size : Int) := by omega
        have hp : pieceR X 1 = (mk (be xs[k].length 1 ++ xs[k]), 0) := by rw [HX.out]; exact piece_row 1 xs[k] (by decide) (by have := HXs.out; omega)
        obtain ⟨P, hP⟩ : ∃ P, P = mk (be xs[k].length 1 ++ xs[k]) := ⟨_, rfl⟩
        rw [← hP] at hp
        have hPz : P.size ≤ 200 := by rw [hP, mk_size]; simp [be_length]; have := HXs.out; omega
        have HP := Lib.hid hP
        have HPP := Lib.hid hp
        clear hP hp
        go_wp2_with fail
        refine (Piece_any X 1 _ (by omega)).mono ?_
        rintro e w2 ⟨he, hB2⟩
        rw [HPP.out] at he
        subst he
        go_wp2_with fail
        go_roundw
        case rel =>
          refine ⟨k + 1, S ++ P, by omega, by go_num, rfl, ?_, ?_, GB.trans (hB2.mono GB.size)⟩
          · rw [HS.out, HP.out, mk_append, rowB_take 1 xs k h2]
          · intro x hx
            rw [List.take_succ_eq_append_getElem h2, List.mem_append] at hx
            rcases hx with hx | hx
            · exact HALL.out x hx
            · simp at hx; subst hx; have := HXs.out; omega
        case measure => simp [intOf]; omega
    · obtain rfl : k = n := by omega
      have htk : xs.take k = xs := List.take_of_length_le (by have := HL.out; omega)
      have hS2 : S = mk (rowB 1 xs) := by rw [HS.out, htk]
      have hall2 : ∀ x ∈ xs, x.length < 256 := fun x hx => by have := HALL.out x (by rw [htk]; exact hx); omega
      have hall3 : ∀ x ∈ xs, x.length ≤ 100 := fun x hx => HALL.out x (by rw [htk]; exact hx)
      have HS2 := Lib.hid hS2
      have HA2 := Lib.hid hall2
      have HA3 := Lib.hid hall3
      have HPR : Hid (piecesR S 1 = (xs.map mk, 0)) := Lib.hid (by rw [hS2]; exact row_piecesR 1 (by decide) xs hall2)
      clear hS2 hall2 hall3 htk HS HALL
      go_wp2_with fail
      refine (Pieces_any S 1 _ (by omega)).mono ?_
      rintro e w3 ⟨A3, c3, he, hs3, hB3⟩
      rw [HPR.out] at he hs3
      subst he
      have hk3 : (xs.map mk).length = k := by have := HL.out; simpa using this
      have GB3 := GB.trans (hB3.mono GB.size)
      have HGB3 := Lib.hid GB3
      have s3 := h.below GB3
      have HK3 := Lib.hid hk3
      clear hB3 GB GB3
      simp only [hk3] at hs3
      clear hk3
      go_wp2_with fail
      rw [HL.out]
      refine (Texts_yes A3 A _ _ _ _ _ (xs.map mk) _ hs3 s3 (by omega)).mono ?_
      rintro e w4 ⟨rfl, m4, rfl⟩
      have HGB4 : Hid (Below w.heap.size w (w3.drewN m4)) := Lib.hid (below_drewN HGB3.out m4)
      clear s3 hs3
      go_wp2_with fail
      go_loopw [12, 13] (fun r i wr => ∃ j R, j ≤ k ∧ i = .int .i64 (j : Nat) ∧ r = .string R ∧ R = mk (rowB 1 (xs.drop j)) ∧ Below w.heap.size w wr) (fun _ i _ => k - (intOf i).toNat)
      case atStart => exact ⟨0, S, Nat.zero_le _, rfl, rfl, HS2.out, HGB4.out⟩
      case round =>
        clear HGB3 HGB4
        obtain ⟨j, R, hj, rfl, rfl, hR, GB⟩ := hrel
        have hRz : R.size ≤ 4000 := by
          rw [hR, mk_size]
          have := rowB_len 1 100 (xs.drop j) (fun x hx => HA3.out x (List.mem_of_mem_drop hx))
          simp at this
          have := HL.out
          omega
        have HR := Lib.hid hR
        clear hR
        by_cases hjlt : j < k
        · have h2 : j < xs.length := by have := HL.out; omega
          obtain ⟨b, off, rfl, hbB, hc⟩ := mks_at (h.below GB) hjlt h2
          have hcut : cutR R 1 = (mk xs[j], mk (rowB 1 (xs.drop (j + 1))), 0) := by
            rw [HR.out, rowB_drop 1 xs j h2]
            exact cut_row 1 xs[j] _ (by decide) (HA2.out _ (List.getElem_mem h2))
          have HC := Lib.hid hcut
          clear hcut
          go_wp2_with fail
          refine (Cut_any R 1 _ (by omega)).mono ?_
          rintro e w5 ⟨he, hB5⟩
          rw [HC.out] at he
          subst he
          have hc5 : w5.cell? ⟨b, off + j, none⟩ = some (.string (mk xs[j])) := (hB5.cell (p := ⟨b, off + j, none⟩) (by have := GB.size; show b < _; omega)).trans hc
          have GB5 := Lib.hid (GB.trans (hB5.mono GB.size))
          clear hB5 GB hc
          go_wp2_with fail
          go_roundw
          case rel => exact ⟨j + 1, _, by omega, by go_num, rfl, rfl, GB5.out⟩
          case measure => simp [intOf]; omega
        · obtain rfl : j = k := by omega
          have hdr : xs.drop j = [] := List.drop_of_length_le (by have := HL.out; omega)
          have hR0 : R = mk [] := by rw [HR.out, hdr]; rfl
          subst hR0
          have hemp := mk_nil_empty
          clear hdr hRz HR
          by_cases hz : j = 0
          · subst hz
            have hxs : xs = [] := List.eq_nil_of_length_eq_zero HL.out
            have hS0 : S.size = 0 := by rw [HS2.out, hxs]; rfl
            go_wp2_with fail
            go_ret
            exact ⟨rfl, GB⟩
          · obtain ⟨m, rfl⟩ : ∃ m, j = m + 1 := ⟨j - 1, by omega⟩
            have hne : xs ≠ [] := by intro e; have := HL.out; rw [e] at this; simp at this
            have hlast : m < xs.length := by have := HL.out; omega
            have hgl : xs.getLast hne = xs[m] := by rw [List.getLast_eq_getElem]; congr 1; have := HL.out; omega
            have hSpos : 1 ≤ S.size := by
              rw [HS2.out, mk_size]
              cases xs with
              | nil => exact absurd rfl hne
              | cons y ys => rw [rowB]; simp [be_length]
            have hS1 : ¬ S.size = 0 := by omega
            have hSi : (1 : Int) ≤ (S.size : Int) := by omega
            obtain ⟨b, off, rfl, hbB, hc⟩ := mks_at (h.below GB) (show m < m + 1 by omega) hlast
            have hext : S.extract 0 (S.size - 1) = mk (rowB 1 xs).dropLast := by rw [HS2.out, mk_size]; exact mk_shorter _
            obtain ⟨ls, q, hq⟩ : ∃ ls q, piecesR (S.extract 0 (S.size - 1)) 1 = (ls, q) := ⟨_, _, rfl⟩
            have hq2 : q = 2 ∨ (1 = 1 ∧ xs[m] = []) := by
              by_cases hl : 1 = 1 ∧ xs.getLast hne = []
              · right; exact ⟨hl.1, by rw [← hgl]; exact hl.2⟩
              · left
                have := row_shortR 1 (by decide) xs hne HA2.out hl
                rw [← hext] at this
                exact (Prod.mk.inj (hq.symm.trans this)).2
            have HQ := Lib.hid hq
            have HGB5 := Lib.hid GB
            clear hq hext hgl hne
            rcases hq2 with hq2 | ⟨_, hq2⟩
            · subst hq2
              go_wp2_with fail
              refine (Pieces_any (S.extract 0 (S.size - 1)) 1 _ (by simp; omega)).mono ?_
              rintro e w5 ⟨A5, c5, he, hs5, hB5⟩
              rw [HQ.out] at he hs5
              subst he
              have GB5 := Lib.hid (HGB5.out.trans (hB5.mono HGB5.out.size))
              clear hB5 hs5 hc
              go_wp2_with fail
              go_ret
              exact ⟨rfl, GB5.out⟩
            · rw [hq2] at hc
              clear hq2
              cases hcd : (q == 2)
              · go_wp2_with fail
                refine (Pieces_any (S.extract 0 (S.size - 1)) 1 _ (by simp; omega)).mono ?_
                rintro e w5 ⟨A5, c5, he, hs5, hB5⟩
                rw [HQ.out] at he hs5
                subst he
                have GB5 := Lib.hid (HGB5.out.trans (hB5.mono HGB5.out.size))
                have hc5 : w5.cell? ⟨b, off + m, none⟩ = some (.string (mk [])) := (hB5.cell (p := ⟨b, off + m, none⟩) (by have := HGB5.out.size; show b < _; omega)).trans hc
                clear hB5 hs5 hc
                go_wp2_with fail
                go_ret
                exact ⟨rfl, GB5.out⟩
              · go_wp2_with fail
                refine (Pieces_any (S.extract 0 (S.size - 1)) 1 _ (by simp; omega)).mono ?_
                rintro e w5 ⟨A5, c5, he, hs5, hB5⟩
                rw [HQ.out] at he hs5
                subst he
                have GB5 := Lib.hid (HGB5.out.trans (hB5.mono HGB5.out.size))
                clear hB5 hs5 hc
                go_wp2_with fail
                go_ret
                exact ⟨rfl, GB5.out⟩

set_option maxHeartbeats 4000000 in
theorem row_2 (A : Option Addr) (n c : Nat) (xs : List (List UInt8)) (w : World) (h : Sees w w.heap.size A n (texts (xs.map mk))) (h1 : ¬ 20 < n) :
    Calls Try.prog 8 #[.slice A n c, .bool true] w fun e w' => e = .returned (.bool true) ∧ Below w.heap.size w w' := by
  have g1 : ¬ (20 : Int) < (n : Int) := by omega
  have HL : Hid (xs.length = n) := Lib.hid (show xs.length = n by simpa [texts] using h.len)
  go_enter Try.func8, Try.ntmps8
  go_wp2_with fail
  refine (awake_any _).mono ?_
  rintro e w1 ⟨rfl, hB1⟩
  go_wp2_with fail
  go_loopw [6, 7] (fun b i wr => ∃ k S, k ≤ n ∧ i = .int .i64 (k : Nat) ∧ b = .string S ∧ S = mk (rowB 2 (xs.take k)) ∧ (∀ x ∈ xs.take k, x.length ≤ 100) ∧ Below w.heap.size w wr) (fun _ i _ => n - (intOf i).toNat)
  case atStart => exact ⟨0, mk [], Nat.zero_le _, rfl, rfl, rfl, by simp, hB1⟩
  case round =>
    obtain ⟨k, S, hk, rfl, rfl, hS, hall, GB⟩ := hrel
    have hSz : S.size ≤ 4000 := by
      rw [hS, mk_size]
      have := rowB_len 2 100 (xs.take k) hall
      simp at this
      have hmin : min k xs.length ≤ 20 := by omega
      omega
    have HS := Lib.hid hS
    have HALL := Lib.hid hall
    clear hS hall
    by_cases hlt : k < n
    · have h2 : k < xs.length := by have := HL.out; omega
      obtain ⟨b, off, rfl, hbB, hc⟩ := mks_at (h.below GB) hlt h2
      obtain ⟨X, hX⟩ : ∃ X, X = mk xs[k] := ⟨_, rfl⟩
      have hXs : X.size = xs[k].length := by rw [hX, mk_size]
      rw [← hX] at hc
      have HX := Lib.hid hX
      have HXs := Lib.hid hXs
      clear hX hXs
      by_cases hbig : 100 < X.size
      · have g2 : (100 : Int) < (X.size : Int) := by omega
        go_wp2_with fail
        go_ret
        exact ⟨rfl, GB⟩
      · have g2 : ¬ (100 : Int) < (X.size : Int) := by omega
        have hp : pieceR X 2 = (mk (be xs[k].length 2 ++ xs[k]), 0) := by rw [HX.out]; exact piece_row 2 xs[k] (by decide) (by have := HXs.out; omega)
        obtain ⟨P, hP⟩ : ∃ P, P = mk (be xs[k].length 2 ++ xs[k]) := ⟨_, rfl⟩
        rw [← hP] at hp
        have hPz : P.size ≤ 200 := by rw [hP, mk_size]; simp [be_length]; have := HXs.out; omega
        have HP := Lib.hid hP
        have HPP := Lib.hid hp
        clear hP hp
        go_wp2_with fail
        refine (Piece_any X 2 _ (by omega)).mono ?_
        rintro e w2 ⟨he, hB2⟩
        rw [HPP.out] at he
        subst he
        go_wp2_with fail
        go_roundw
        case rel =>
          refine ⟨k + 1, S ++ P, by omega, by go_num, rfl, ?_, ?_, GB.trans (hB2.mono GB.size)⟩
          · rw [HS.out, HP.out, mk_append, rowB_take 2 xs k h2]
          · intro x hx
            rw [List.take_succ_eq_append_getElem h2, List.mem_append] at hx
            rcases hx with hx | hx
            · exact HALL.out x hx
            · simp at hx; subst hx; have := HXs.out; omega
        case measure => simp [intOf]; omega
    · obtain rfl : k = n := by omega
      have htk : xs.take k = xs := List.take_of_length_le (by have := HL.out; omega)
      have hS2 : S = mk (rowB 2 xs) := by rw [HS.out, htk]
      have hall2 : ∀ x ∈ xs, x.length < 256 := fun x hx => by have := HALL.out x (by rw [htk]; exact hx); omega
      have hall3 : ∀ x ∈ xs, x.length ≤ 100 := fun x hx => HALL.out x (by rw [htk]; exact hx)
      have HS2 := Lib.hid hS2
      have HA2 := Lib.hid hall2
      have HA3 := Lib.hid hall3
      have HPR : Hid (piecesR S 2 = (xs.map mk, 0)) := Lib.hid (by rw [hS2]; exact row_piecesR 2 (by decide) xs hall2)
      clear hS2 hall2 hall3 htk HS HALL
      go_wp2_with fail
      refine (Pieces_any S 2 _ (by omega)).mono ?_
      rintro e w3 ⟨A3, c3, he, hs3, hB3⟩
      rw [HPR.out] at he hs3
      subst he
      have hk3 : (xs.map mk).length = k := by have := HL.out; simpa using this
      have GB3 := GB.trans (hB3.mono GB.size)
      have HGB3 := Lib.hid GB3
      have s3 := h.below GB3
      have HK3 := Lib.hid hk3
      clear hB3 GB GB3
      simp only [hk3] at hs3
      clear hk3
      go_wp2_with fail
      rw [HL.out]
      refine (Texts_yes A3 A _ _ _ _ _ (xs.map mk) _ hs3 s3 (by omega)).mono ?_
      rintro e w4 ⟨rfl, m4, rfl⟩
      have HGB4 : Hid (Below w.heap.size w (w3.drewN m4)) := Lib.hid (below_drewN HGB3.out m4)
      clear s3 hs3
      go_wp2_with fail
      go_loopw [12, 13] (fun r i wr => ∃ j R, j ≤ k ∧ i = .int .i64 (j : Nat) ∧ r = .string R ∧ R = mk (rowB 2 (xs.drop j)) ∧ Below w.heap.size w wr) (fun _ i _ => k - (intOf i).toNat)
      case atStart => exact ⟨0, S, Nat.zero_le _, rfl, rfl, HS2.out, HGB4.out⟩
      case round =>
        clear HGB3 HGB4
        obtain ⟨j, R, hj, rfl, rfl, hR, GB⟩ := hrel
        have hRz : R.size ≤ 4000 := by
          rw [hR, mk_size]
          have := rowB_len 2 100 (xs.drop j) (fun x hx => HA3.out x (List.mem_of_mem_drop hx))
          simp at this
          have := HL.out
          omega
        have HR := Lib.hid hR
        clear hR
        by_cases hjlt : j < k
        · have h2 : j < xs.length := by have := HL.out; omega
          obtain ⟨b, off, rfl, hbB, hc⟩ := mks_at (h.below GB) hjlt h2
          have hcut : cutR R 2 = (mk xs[j], mk (rowB 2 (xs.drop (j + 1))), 0) := by
            rw [HR.out, rowB_drop 2 xs j h2]
            exact cut_row 2 xs[j] _ (by decide) (HA2.out _ (List.getElem_mem h2))
          have HC := Lib.hid hcut
          clear hcut
          go_wp2_with fail
          refine (Cut_any R 2 _ (by omega)).mono ?_
          rintro e w5 ⟨he, hB5⟩
          rw [HC.out] at he
          subst he
          have hc5 : w5.cell? ⟨b, off + j, none⟩ = some (.string (mk xs[j])) := (hB5.cell (p := ⟨b, off + j, none⟩) (by have := GB.size; show b < _; omega)).trans hc
          have GB5 := Lib.hid (GB.trans (hB5.mono GB.size))
          clear hB5 GB hc
          go_wp2_with fail
          go_roundw
          case rel => exact ⟨j + 1, _, by omega, by go_num, rfl, rfl, GB5.out⟩
          case measure => simp [intOf]; omega
        · obtain rfl : j = k := by omega
          have hdr : xs.drop j = [] := List.drop_of_length_le (by have := HL.out; omega)
          have hR0 : R = mk [] := by rw [HR.out, hdr]; rfl
          subst hR0
          have hemp := mk_nil_empty
          clear hdr hRz HR
          by_cases hz : j = 0
          · subst hz
            have hxs : xs = [] := List.eq_nil_of_length_eq_zero HL.out
            have hS0 : S.size = 0 := by rw [HS2.out, hxs]; rfl
            go_wp2_with fail
            go_ret
            exact ⟨rfl, GB⟩
          · obtain ⟨m, rfl⟩ : ∃ m, j = m + 1 := ⟨j - 1, by omega⟩
            have hne : xs ≠ [] := by intro e; have := HL.out; rw [e] at this; simp at this
            have hlast : m < xs.length := by have := HL.out; omega
            have hgl : xs.getLast hne = xs[m] := by rw [List.getLast_eq_getElem]; congr 1; have := HL.out; omega
            have hSpos : 1 ≤ S.size := by
              rw [HS2.out, mk_size]
              cases xs with
              | nil => exact absurd rfl hne
              | cons y ys => rw [rowB]; simp [be_length]; omega
            have hS1 : ¬ S.size = 0 := by omega
            have hSi : (1 : Int) ≤ (S.size : Int) := by omega
            obtain ⟨b, off, rfl, hbB, hc⟩ := mks_at (h.below GB) (show m < m + 1 by omega) hlast
            have hext : S.extract 0 (S.size - 1) = mk (rowB 2 xs).dropLast := by rw [HS2.out, mk_size]; exact mk_shorter _
            obtain ⟨ls, q, hq⟩ : ∃ ls q, piecesR (S.extract 0 (S.size - 1)) 2 = (ls, q) := ⟨_, _, rfl⟩
            have hq2 : q = 2 ∨ (2 = 1 ∧ xs[m] = []) := by
              by_cases hl : 2 = 1 ∧ xs.getLast hne = []
              · right; exact ⟨hl.1, by rw [← hgl]; exact hl.2⟩
              · left
                have := row_shortR 2 (by decide) xs hne HA2.out hl
                rw [← hext] at this
                exact (Prod.mk.inj (hq.symm.trans this)).2
            have HQ := Lib.hid hq
            have HGB5 := Lib.hid GB
            clear hq hext hgl hne
            obtain hq2 : q = 2 := by rcases hq2 with h | ⟨h, _⟩; exact h; exact absurd h (by decide)
            subst hq2
            go_wp2_with fail
            refine (Pieces_any (S.extract 0 (S.size - 1)) 2 _ (by simp; omega)).mono ?_
            rintro e w5 ⟨A5, c5, he, hs5, hB5⟩
            rw [HQ.out] at he hs5
            subst he
            have GB5 := Lib.hid (HGB5.out.trans (hB5.mono HGB5.out.size))
            clear hB5 hs5 hc
            go_wp2_with fail
            go_ret
            exact ⟨rfl, GB5.out⟩

theorem OctetsRow_walk (A : Option Addr) (n c : Nat) (l : List ByteArray) (two : Bool) (w : World) (hl : InTexts w A n l) :
    Calls Try.prog 8 #[.slice A n c, .bool two] w fun e w' => e = .returned (.bool true) ∧ Below w.heap.size w w' := by
  obtain ⟨xs, rfl⟩ := mks_of l
  by_cases h1 : 20 < n
  · exact row_big A n c two w h1
  · cases two
    · exact row_1 A n c xs w hl h1
    · exact row_2 A n c xs w hl h1
end Go.Proofs.Ytjdiajnhndelhaa
