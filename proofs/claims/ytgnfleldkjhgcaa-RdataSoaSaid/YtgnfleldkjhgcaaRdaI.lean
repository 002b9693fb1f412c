/- awake; RdataTells; RdataFolds. No statement of the seat is proved here. -/
import Derived.Test.YtgnfleldkjhgcaaRdaH
namespace Go.Proofs.Ytgnfleldkjhgcaa
open Go.RowKit

theorem right_a : rightR 1 [127, 0, 0, 1] = true := by
  have h := (right_of (t := 1) (V := [(4, [127, 0, 0, 1])]) ⟨by simp [Part], by simp [Okp], by simp, trivial⟩ rfl (by simp [cat])).1
  simpa [cat] using h
theorem name_A : nameL [1, 65, 0] = some [[65]] := nameL_enc (L := [[65]]) (by intro x hx; simp at hx; subst hx; simp) (by decide)
theorem fold_A : foldD 2 [1, 65, 0] = [1, 97, 0] := by
  obtain ⟨h1, h2⟩ := right_of (t := 2) (V := [(-1, [1, 65, 0])]) ⟨by simp [Part], ⟨fun _ => ⟨_, name_A⟩, by simp, by simp⟩, by simp, trivial⟩ rfl (by simp [cat])
  have e : cat [(-1, [1, 65, 0])] = [1, 65, 0] := by simp [cat]
  rw [e] at h1 h2
  unfold foldD
  rw [if_pos h1, h2]
  have h3 := (foldL_some name_A).2.1
  simp [foldB1, h3, cat]
  decide

set_option maxHeartbeats 1000000 in
theorem awake_any (w : World) : Calls Try.prog 7 #[] w fun e w' => e = .returned (.bool true) ∧ Below w.heap.size w w' := by
  go_enter Try.func7, Try.ntmps7
  go_wp2_with fail
  refine (DRight_any _ [127, 0, 0, 1] 1 _ rfl (by simp)).mono ?_
  rw [right_a]
  rintro e w1 ⟨rfl, hB1⟩
  go_wp2_with fail
  refine (DFold_any _ [1, 65, 0] 2 _ rfl (by simp)).mono ?_
  rw [fold_A]
  rintro e w2 ⟨rfl, hB2⟩
  have hbe : ((mk [1, 97, 0]).toList == [1, 97, 0]) = true := by rw [mk_is]; rfl
  go_wp2_with fail
  go_ret
  exact ⟨rfl, hB1.trans (hB2.mono hB1.size)⟩

set_option maxHeartbeats 1000000 in
theorem RdataTells_walk (t : Int) (S : ByteArray) (w : World) (_ht : (Lit.int .i64 t).wf = true) (_hs : S.size ≤ maxLen) :
    Calls Try.prog 3 #[.int .i64 t, .string S] w fun e w' => e = .returned (.bool true) ∧ Below w.heap.size w w' := by
  by_cases h2 : S.size ≤ 2000
  · have g2 : (S.size : Int) ≤ 2000 := by omega
    obtain ⟨D, hS⟩ := mk_of S
    have hD : D.length ≤ 2000 := by rw [hS, mk_size] at h2; exact h2
    have HS := Lib.hid hS
    clear hS _hs h2
    have hself : ((mk (foldD t D)).toList == (mk (foldD t D)).toList) = true := by simp
    cases hr : rightR t D
    all_goals (
      have HR := Lib.hid hr
      clear hr
      go_enter Try.func3, Try.ntmps3
      go_wp2_with fail
      refine (awake_any _).mono ?_
      rintro e w1 ⟨rfl, hB1⟩
      have HB1 := Lib.hid hB1
      clear hB1
      go_wp2_with fail
      refine (DRight_any S D t _ HS.out (by omega)).mono ?_
      rw [HR.out]
      rintro e w2 ⟨rfl, hB⟩
      have HB2 := Lib.hid (HB1.out.trans (hB.mono HB1.out.size))
      clear hB
      go_wp2_with fail
      refine (RefDRight_any S D t _ HS.out (by omega)).mono ?_
      rw [HR.out]
      rintro e w3 ⟨rfl, hB⟩
      have HB3 := Lib.hid (HB2.out.trans (hB.mono HB2.out.size))
      clear hB
      go_wp2_with fail
      refine (DFold_any S D t _ HS.out (by omega)).mono ?_
      rintro e w4 ⟨rfl, hB⟩
      have HB4 := Lib.hid (HB3.out.trans (hB.mono HB3.out.size))
      clear hB
      go_wp2_with fail
      refine (RefDFold_any S D t _ HS.out (by omega)).mono ?_
      rintro e w5 ⟨rfl, hB⟩
      have HB5 := Lib.hid (HB4.out.trans (hB.mono HB4.out.size))
      clear hB
      go_wp2_with fail
      go_ret
      exact ⟨rfl, HB5.out⟩)
  · have g2 : (2000 : Int) < (S.size : Int) := by omega
    go_enter Try.func3, Try.ntmps3
    go_wp2_with fail
    refine (awake_any _).mono ?_
    rintro e w1 ⟨rfl, hB1⟩
    go_wp2_with fail
    refine (awake_any _).mono ?_
    rintro e w2 ⟨rfl, hB2⟩
    go_wp2_with fail
    go_ret
    exact ⟨rfl, hB1.trans (hB2.mono hB1.size)⟩

set_option maxHeartbeats 1000000 in
theorem RdataFolds_walk (t : Int) (S : ByteArray) (w : World) (_ht : (Lit.int .i64 t).wf = true) (_hs : S.size ≤ maxLen) :
    Calls Try.prog 6 #[.int .i64 t, .string S] w fun e w' => e = .returned (.bool true) ∧ Below w.heap.size w w' := by
  by_cases h2 : S.size ≤ 2000
  · have g2 : (S.size : Int) ≤ 2000 := by omega
    obtain ⟨D, hS⟩ := mk_of S
    have hSz : S.size = D.length := by rw [hS, mk_size]
    have hD : D.length ≤ 2000 := by omega
    have HS := Lib.hid hS
    clear hS _hs h2
    cases hr : rightR t D with
    | false =>
      have HR := Lib.hid hr
      clear hr
      go_enter Try.func6, Try.ntmps6
      go_wp2_with fail
      refine (awake_any _).mono ?_
      rintro e w1 ⟨rfl, hB1⟩
      have HB1 := Lib.hid hB1
      clear hB1
      go_wp2_with fail
      refine (RefDRight_any S D t _ HS.out (by omega)).mono ?_
      rw [HR.out]
      rintro e w2 ⟨rfl, hB⟩
      have HB2 := Lib.hid (HB1.out.trans (hB.mono HB1.out.size))
      clear hB
      go_wp2_with fail
      refine (awake_any _).mono ?_
      rintro e w3 ⟨rfl, hB⟩
      have HB3 := Lib.hid (HB2.out.trans (hB.mono HB2.out.size))
      clear hB
      go_wp2_with fail
      go_ret
      exact ⟨rfl, HB3.out⟩
    | true =>
      obtain ⟨f1, f2, f3⟩ := fold_right hr
      have hz : ((mk (foldD t D)).size : Int) = (S.size : Int) := by rw [mk_size, f2, hSz]
      have hz2 : (mk (foldD t D)).size = S.size := by rw [mk_size, f2, hSz]
      have hself : ((mk (foldD t D)).toList == (mk (foldD t D)).toList) = true := by simp
      have hFl : (foldD t D).length ≤ 2000 := by omega
      have HR := Lib.hid hr
      have HF1 := Lib.hid f1
      have HF3 := Lib.hid f3
      obtain ⟨F, hF⟩ : ∃ F, F = mk (foldD t D) := ⟨_, rfl⟩
      rw [← hF] at hz hz2 hself
      have HF := Lib.hid hF
      clear hr f1 f2 f3 hSz hF
      go_enter Try.func6, Try.ntmps6
      go_wp2_with fail
      refine (awake_any _).mono ?_
      rintro e w1 ⟨rfl, hB1⟩
      have HB1 := Lib.hid hB1
      clear hB1
      go_wp2_with fail
      refine (RefDRight_any S D t _ HS.out (by omega)).mono ?_
      rw [HR.out]
      rintro e w2 ⟨rfl, hB⟩
      have HB2 := Lib.hid (HB1.out.trans (hB.mono HB1.out.size))
      clear hB
      go_wp2_with fail
      refine (DFold_any S D t _ HS.out (by omega)).mono ?_
      rw [← HF.out]
      rintro e w3 ⟨rfl, hB⟩
      have HB3 := Lib.hid (HB2.out.trans (hB.mono HB2.out.size))
      clear hB
      go_wp2_with fail
      refine (DRight_any F (foldD t D) t _ HF.out (by omega)).mono ?_
      rw [HF1.out]
      rintro e w4 ⟨rfl, hB⟩
      have HB4 := Lib.hid (HB3.out.trans (hB.mono HB3.out.size))
      clear hB
      go_wp2_with fail
      refine (DFold_any F (foldD t D) t _ HF.out (by omega)).mono ?_
      rw [HF3.out, ← HF.out]
      rintro e w5 ⟨rfl, hB⟩
      have HB5 := Lib.hid (HB4.out.trans (hB.mono HB4.out.size))
      clear hB
      go_wp2_with fail
      refine (DRight_any S D t _ HS.out (by omega)).mono ?_
      rw [HR.out]
      rintro e w6 ⟨rfl, hB⟩
      have HB6 := Lib.hid (HB5.out.trans (hB.mono HB5.out.size))
      clear hB
      go_wp2_with fail
      go_ret
      exact ⟨rfl, HB6.out⟩
  · have g2 : (2000 : Int) < (S.size : Int) := by omega
    go_enter Try.func6, Try.ntmps6
    go_wp2_with fail
    refine (awake_any _).mono ?_
    rintro e w1 ⟨rfl, hB1⟩
    go_wp2_with fail
    refine (awake_any _).mono ?_
    rintro e w2 ⟨rfl, hB2⟩
    go_wp2_with fail
    go_ret
    exact ⟨rfl, hB1.trans (hB2.mono hB1.size)⟩
end Go.Proofs.Ytgnfleldkjhgcaa
