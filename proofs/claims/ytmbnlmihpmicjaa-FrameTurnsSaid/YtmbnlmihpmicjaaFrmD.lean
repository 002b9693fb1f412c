/- The reference of layer 6: each of its functions returns what the plain mathematics says; awake. No statement of the seat is proved here. -/
import Derived.Test.YtmbnlmihpmicjaaFrmC
namespace Go.Proofs.Ytmbnlmihpmicjaa
open Go.RowKit

theorem RefBytes4 (v : Nat) (w : World) (hv : v < 2 ^ 64) : Calls Try.prog 19 #[.int .u64 v, .int .i64 4] w fun e w' => e = .returned (.string (mk (be v 4))) ∧ Below w.heap.size w w' :=
  Bytes_any v 4 w (by decide) hv

set_option maxHeartbeats 400000 in
theorem RefFrame_any (S : ByteArray) (x : List UInt8) (w : World) (hS : S = mk x) (hx : x.length ≤ 536870912) :
    Calls Try.prog 10 #[.string S] w fun e w' => e = .returned (.string (mk (frameL x))) ∧ Below w.heap.size w w' := by
  have hsz : S.size = x.length := by rw [hS, mk_size]
  have h1 : S.size ≤ 536870912 := by omega
  have key : mk (be S.size 4) ++ mk (be (sumOf (mk (be S.size 4) ++ S).data.toList) 4) ++ S = mk (frameL x) := by
    rw [hsz, hS, mk_append, mk_append, mk_append, List.append_assoc]
    rfl
  replace key := Lib.hid key
  have hwr : IntKind.u64.wrap (S.size : Int) = S.size := wraps_u64 _ (by omega) (by omega)
  have h64 : S.size < 2 ^ 64 := by omega
  have hl : S.data.toList = x := by rw [hS]; simp [mk]
  replace hS := Lib.hid hS
  replace hsz := Lib.hid hsz
  replace hl := Lib.hid hl
  replace h64 := Lib.hid h64
  go_enter Try.func10, Try.ntmps10
  go_wp2_with fail
  refine (RefBytes4 S.size _ h64.out).mono ?_
  obtain ⟨N, hNe⟩ : ∃ N, N = mk (be S.size 4) := ⟨_, rfl⟩
  have hN : N.size ≤ 8 := by rw [hNe, mk_size, be_length]; decide
  rw [← hNe]
  rintro e w1 ⟨rfl, hB1⟩
  have hNl : N.data.toList = be S.size 4 := by rw [hNe]; simp [mk]
  replace hNe := Lib.hid hNe
  replace hNl := Lib.hid hNl
  go_wp2_with fail
  refine (RefSum_any (N ++ S) _ (by rw [ByteArray.size_append]; omega)).mono ?_
  obtain ⟨q, hqe⟩ : ∃ q, q = sumOf (N ++ S).data.toList := ⟨_, rfl⟩
  have hq : q < 4294967296 := by rw [hqe]; exact sumOf_lt _
  rw [← hqe]
  replace hqe := Lib.hid hqe
  rintro e w' ⟨rfl, rfl⟩
  have hwq : IntKind.u64.wrap (q : Int) = q := wraps_u64 _ (by omega) (by omega)
  have hq64 : q < 2 ^ 64 := by omega
  replace hq64 := Lib.hid hq64
  go_wp2_with fail
  refine (RefBytes4 q _ hq64.out).mono ?_
  obtain ⟨Q, hQ⟩ : ∃ Q, Q = mk (be q 4) := ⟨_, rfl⟩
  have hQz : Q.size ≤ 8 := by rw [hQ, mk_size, be_length]; decide
  rw [← hQ]
  replace hQ := Lib.hid hQ
  rintro e w3 ⟨rfl, hB3⟩
  have hBB3 := hB1.trans (hB3.mono hB1.size)
  go_wp2_with fail
  go_ret
  refine ⟨?_, hBB3⟩
  have : N ++ Q ++ S = mk (frameL x) := by
    rw [hQ.out, hqe.out, hNe.out]; exact key.out
  rw [← this]
  rfl

theorem toList_ne {x y : ByteArray} (h : x ≠ y) : (x.toList == y.toList) = false := by
  rw [beq_eq_false_iff_ne, ByteArray.toList_eq, ByteArray.toList_eq]
  intro e
  exact h (ByteArray.ext (Array.ext' e))

def RefFirstSays (l : List UInt8) (w : World) (e : Ending) (w' : World) : Prop :=
  e = .returned (.tuple #[.string (mk (firstL l).1), .int .i64 ((firstL l).2.1 : Nat), .int .i64 (firstL l).2.2]) ∧ Below w.heap.size w w'

set_option maxHeartbeats 1000000 in
theorem RefFirst_any (S : ByteArray) (l : List UInt8) (w : World) (hS : S = mk l) (hl : l.length ≤ 1073741824) :
    Calls Try.prog 13 #[.string S] w (RefFirstSays l w) := by
  have hz : S.size = l.length := by rw [hS, mk_size]
  have hz2 : S.size ≤ 1073741824 := by omega
  by_cases h8 : l.length < 8
  · have HF := Lib.hid (firstL_less h8)
    have g8 : (S.size : Int) < 8 := by omega
    clear hS hz hl h8
    go_enter Try.func13, Try.ntmps13
    go_wp2_with fail
    go_ret3
    exact ⟨by rw [HF.out]; rfl, Below.refl _ _⟩
  have g8 : ¬ (S.size : Int) < 8 := by omega
  have g8' : 8 ≤ S.size := by omega
  have hE : S.extract 0 4 = mk (l.take 4) := by rw [hS, mk_extract, List.drop_zero]
  have hn4 : numOf (S.extract 0 4) = num (l.take 4) := by rw [hE, mk_num]
  have hnl : num (l.take 4) < 4294967296 := by
    have := num_lt (l.take 4)
    rwa [List.length_take, Nat.min_eq_left (by omega)] at this
  by_cases h2 : 16777216 < num (l.take 4) ∨ l.length - 8 < num (l.take 4)
  · have HF := Lib.hid (firstL_form h8 h2)
    obtain ⟨n, hn⟩ : ∃ n, n = num (l.take 4) := ⟨_, rfl⟩
    rw [← hn] at hn4 hnl h2
    have h3 : 16777216 < n ∨ S.size - 8 < n := by omega
    have HN4 := Lib.hid hn4
    clear hn hn4 hE hS hz hl h8 h2
    have hwR : IntKind.u64.wrap ((S.size : Int) - 8) = (S.size : Int) - 8 := wraps_u64 _ (by omega) (by omega)
    go_enter Try.func13, Try.ntmps13
    go_wp2_with fail
    refine (Number_any (S.extract 0 4) _ (by simp; omega)).mono ?_
    rw [HN4.out]
    rintro e w' ⟨rfl, rfl⟩
    by_cases h4 : 16777216 < n
    · have g4 : (16777216 : Int) < (n : Int) := by omega
      clear h3
      go_wp2_with fail
      go_ret3
      exact ⟨by rw [HF.out]; rfl, Below.refl _ _⟩
    · have g4 : ¬ (16777216 : Int) < (n : Int) := by omega
      have g5 : (S.size : Int) - 8 < (n : Int) := by omega
      clear h3
      go_wp2_with fail
      go_ret3
      exact ⟨by rw [HF.out]; rfl, Below.refl _ _⟩
  · have hOK := fun h3 => firstL_ok h8 h2 h3
    have hNO := fun h3 => firstL_sum h8 h2 h3
    obtain ⟨n, hn⟩ : ∃ n, n = num (l.take 4) := ⟨_, rfl⟩
    rw [← hn] at hn4 hnl h2 hOK hNO
    have hn1 : n ≤ 16777216 := by omega
    have hn2 : n + 8 ≤ S.size := by omega
    obtain ⟨x, hx⟩ : ∃ x, x = (l.drop 8).take n := ⟨_, rfl⟩
    have hxl : x.length = n := by rw [hx, List.length_take, List.length_drop]; omega
    have hT : S.extract 8 (8 + n) = mk x := by rw [hS, mk_extract, hx, List.drop_take]; congr 2; omega
    have hY : S.extract 0 (8 + n) = mk (l.take 4 ++ ((l.drop 4).take 4 ++ x)) := by
      rw [hS, mk_extract, List.drop_zero, hx, show 8 + n = 4 + (4 + n) from by omega, List.take_add, List.take_add, List.drop_drop]
    have hb4 : be n 4 = l.take 4 := by
      have := be_num (l.take 4)
      rwa [← hn, List.length_take, Nat.min_eq_left (by omega)] at this
    have hfr : frameL x = l.take 4 ++ (be (sumOf (l.take 4 ++ x)) 4 ++ x) := by unfold frameL; rw [hxl, hb4]
    rw [← hx] at hOK hNO
    have HOK := Lib.hid hOK
    have HNO := Lib.hid hNO
    have HN4 := Lib.hid hn4
    have HT := Lib.hid hT
    have HY := Lib.hid hY
    have HFR := Lib.hid hfr
    have HXL := Lib.hid hxl
    have H48 : Hid (((l.drop 4).take 4).length = 4) := Lib.hid (by rw [List.length_take, List.length_drop]; omega)
    clear hn hn4 hE hS hz hl h8 h2 hOK hNO hT hY hfr hb4 hxl hx
    have g4 : ¬ (16777216 : Int) < (n : Int) := by omega
    have hwR : IntKind.u64.wrap ((S.size : Int) - 8) = (S.size : Int) - 8 := wraps_u64 _ (by omega) (by omega)
    have g5 : ¬ (S.size : Int) - 8 < (n : Int) := by omega
    have hwn : IntKind.i64.wrap (n : Int) = n := IntWalk.i64_in _ (by omega)
    go_enter Try.func13, Try.ntmps13
    go_wp2_with fail
    refine (Number_any (S.extract 0 4) _ (by simp; omega)).mono ?_
    rw [HN4.out]
    rintro e w' ⟨rfl, rfl⟩
    go_wp2_with fail
    by_cases hq : sumOf (l.take 4 ++ x) = num ((l.drop 4).take 4)
    · have HF := Lib.hid (HOK.out hq)
      have hXY : S.extract 0 (8 + n) = mk (frameL x) := by
        have hbe := be_num ((l.drop 4).take 4)
        rw [H48.out, ← hq] at hbe
        rw [HY.out, HFR.out, hbe]
      obtain ⟨X, hX⟩ : ∃ X, X = mk (frameL x) := ⟨_, rfl⟩
      rw [← hX] at hXY
      have HX := Lib.hid hX
      clear hX hq
      have hw8 : IntKind.i64.wrap (8 + (n : Int)) = 8 + (n : Int) := IntWalk.i64_in _ (by omega)
      have hw9 : (0 : Int) ≤ 8 + (n : Int) := by omega
      have hw10 : (8 + (n : Int)).toNat = 8 + n := by omega
      have hw11 : 8 + (n : Int) ≤ (S.size : Int) := by omega
      go_region_held3 (fun _ => True) (exact trivial) (first | (go_at_call 10; refine (RefFrame_any (S.extract 8 (8 + n)) x _ HT.out (by rw [HXL.out]; omega)).mono ?_; rw [← HX.out]; rintro e w1 ⟨rfl, hB1⟩))
      go_wp2_with fail
      go_ret3
      refine ⟨?_, (Below.refl w.heap.size w).drew.trans hB1⟩
      rw [HF.out, HT.out]
      rfl
    · have HF := Lib.hid (HNO.out hq)
      have hXY : mk (frameL x) ≠ S.extract 0 (8 + n) := by
        intro he
        rw [HY.out, HFR.out] at he
        have h1 := mk_inj he
        have h2 := List.append_cancel_left h1
        have h3 := (List.append_inj h2 (by rw [be_length, H48.out])).1
        apply hq
        rw [← h3, be4_num (sumOf_lt _)]
      obtain ⟨X, hX⟩ : ∃ X, X = mk (frameL x) := ⟨_, rfl⟩
      rw [← hX] at hXY
      have HX := Lib.hid hX
      have HXY := toList_ne hXY
      clear hX hq hXY
      have hw8 : IntKind.i64.wrap (8 + (n : Int)) = 8 + (n : Int) := IntWalk.i64_in _ (by omega)
      have hw9 : (0 : Int) ≤ 8 + (n : Int) := by omega
      have hw10 : (8 + (n : Int)).toNat = 8 + n := by omega
      have hw11 : 8 + (n : Int) ≤ (S.size : Int) := by omega
      go_region_held3 (fun _ => True) (exact trivial) (first | (go_at_call 10; refine (RefFrame_any (S.extract 8 (8 + n)) x _ HT.out (by rw [HXL.out]; omega)).mono ?_; rw [← HX.out]; rintro e w1 ⟨rfl, hB1⟩))
      go_wp2_with fail
      go_ret3
      exact ⟨by rw [HF.out]; rfl, (Below.refl w.heap.size w).drew.trans hB1⟩
end Go.Proofs.Ytmbnlmihpmicjaa
