/- Compare: the order of two names. -/
import Derived.Test.YtdanncclnhkmgaaNamE
namespace Go.Proofs.Ytdanncclnhkmgaa
open Go.RowKit

theorem own_ne {w w' : World} {b1 b2 n m : Nat} {e : TypeId} {v u : Value} {xs ys : List Value} (h : w.ownsRow b1 e 1 v n xs) (h' : w'.ownsRow b2 e 1 u m ys) (hb : w.heap.size ≤ b2) : u.ownBlock = none ∨ u.ownBlock ≠ v.ownBlock := by
  cases hu : u.ownBlock with
  | none => exact .inl rfl
  | some k =>
    right
    intro hv
    have h1 := (h'.lt k hu).1
    have h2 := (h.lt k hv.symm).2
    omega
theorem own_nw {w w' : World} {b1 b2 n m : Nat} {e : TypeId} {v u : Value} {xs ys : List Value} (h : w.ownsRow b1 e 1 v n xs) (h' : w'.ownsRow b2 e 1 u m ys) (hb : w.heap.size ≤ b2) : v.ownBlock = none ∨ v.ownBlock ≠ u.ownBlock := by
  rcases own_ne h h' hb with hu | hu
  · cases hv : v.ownBlock with
    | none => exact .inl rfl
    | some k => right; rw [hu]; simp
  · exact .inr hu.symm
theorem mk_fold_empty {s : List UInt8} (h : nameL s = none) : (mk (foldL s)).toList.isEmpty = true := by rw [mk_isEmpty, foldL_none h]; rfl
theorem mk_fold_not {s : List UInt8} {L : List (List UInt8)} (h : nameL s = some L) : (mk (foldL s)).toList.isEmpty = false := by
  rw [mk_isEmpty]
  have := foldL_ne h
  cases hf : foldL s
  · exact absurd hf this
  · rfl
set_option maxHeartbeats 1000000 in
theorem Compare_any (A B : ByteArray) (a b : List UInt8) (w : World) (hA : A = mk a) (hB : B = mk b) (ha : a.length ≤ 1073741824) (hb : b.length ≤ 1073741824) :
    Calls Try.prog 37 #[.string A, .string B] w fun e w' => e = .returned (.int .i64 (cmpN a b)) ∧ Below w.heap.size w w' := by
  have HA := Lib.hid hA
  have HB := Lib.hid hB
  clear hA hB
  obtain ⟨FA, hFA⟩ : ∃ FA, FA = mk (foldL a) := ⟨_, rfl⟩
  obtain ⟨FB, hFB⟩ : ∃ FB, FB = mk (foldL b) := ⟨_, rfl⟩
  have HFA := Lib.hid hFA
  have HFB := Lib.hid hFB
  clear hFA hFB
  cases h : nameL a with
  | none =>
    have e0 : cmpN a b = 0 := by unfold cmpN; rw [h]
    have g0 : FA.toList.isEmpty = true := by rw [HFA.out]; exact mk_fold_empty h
    rw [e0]
    clear e0 h
    go_enter Try.func37, Try.ntmps37
    go_wp2_with fail
    refine (Fold_any A a _ HA.out ha).mono ?_
    rw [← HFA.out]
    rintro e w1 ⟨rfl, hB1⟩
    go_wp2_with fail
    refine (Fold_any B b _ HB.out hb).mono ?_
    rw [← HFB.out]
    rintro e w2 ⟨rfl, hB2⟩
    go_wp2_with fail
    go_ret
    exact ⟨rfl, hB1.trans (hB2.mono hB1.size)⟩
  | some L =>
    have g0 : FA.toList.isEmpty = false := by rw [HFA.out]; exact mk_fold_not h
    cases k : nameL b with
    | none =>
      have e0 : cmpN a b = 0 := by unfold cmpN; rw [h, k]
      have g1 : FB.toList.isEmpty = true := by rw [HFB.out]; exact mk_fold_empty k
      rw [e0]
      clear e0 h k
      go_enter Try.func37, Try.ntmps37
      go_wp2_with fail
      refine (Fold_any A a _ HA.out ha).mono ?_
      rw [← HFA.out]
      rintro e w1 ⟨rfl, hB1⟩
      go_wp2_with fail
      refine (Fold_any B b _ HB.out hb).mono ?_
      rw [← HFB.out]
      rintro e w2 ⟨rfl, hB2⟩
      go_wp2_with fail
      go_ret
      exact ⟨rfl, hB1.trans (hB2.mono hB1.size)⟩
    | some M =>
      have g1 : FB.toList.isEmpty = false := by rw [HFB.out]; exact mk_fold_not k
      have e0 : cmpN a b = cmpL (L.map lowS).reverse (M.map lowS).reverse := by unfold cmpN; rw [h, k]
      rw [e0]
      have HN := Lib.hid (foldL_some h).2.2
      have HM := Lib.hid (foldL_some k).2.2
      have hLn : (L.map lowS).length ≤ 255 := by rw [List.length_map]; exact name_few h
      have hMn : (M.map lowS).length ≤ 255 := by rw [List.length_map]; exact name_few k
      generalize L.map lowS = X at *
      generalize M.map lowS = Y at *
      clear e0 h k
      go_enter Try.func37, Try.ntmps37
      go_wp2_with fail
      refine (Fold_any A a _ HA.out ha).mono ?_
      rw [← HFA.out]
      rintro e w1 ⟨rfl, hB1⟩
      go_wp2_with fail
      refine (Fold_any B b _ HB.out hb).mono ?_
      rw [← HFB.out]
      rintro e w2 ⟨rfl, hB2⟩
      have GB2 := hB1.trans (hB2.mono hB1.size)
      clear hB1 hB2
      go_wp2_with fail
      refine (labelsOf_name FA (foldL a) X _ HFA.out HN.out).mono ?_
      rintro e w3 ⟨va, rfl, oa, hB3⟩
      have GB3 := GB2.trans (hB3.mono GB2.size)
      go_wp2_with fail
      refine (labelsOf_name FB (foldL b) Y _ HFB.out HM.out).mono ?_
      rintro e w4 ⟨vb, rfl, ob, hB4⟩
      have GB4 := GB3.trans (hB4.mono GB3.size)
      have oa4 := own_below oa hB4
      have hne := own_ne oa ob (Nat.le_refl _)
      have hnw := own_nw oa ob (Nat.le_refl _)
      have hwa : ∀ k, va.ownBlock = some k → w.heap.size ≤ k := fun k e => Nat.le_trans GB2.size (oa.lt k e).1
      have hwb : ∀ k, vb.ownBlock = some k → w.heap.size ≤ k := fun k e => Nat.le_trans GB3.size (ob.lt k e).1
      clear GB2 GB3 hB3 hB4 oa
      go_wp2_with fail
      refine (Reverse_own va X.length _ X _ oa4 (by omega)).mono ?_
      rintro e w5 ⟨rfl, oa5, hg5⟩
      have GB5 := GB4.grown hg5 GB4.size hwa
      have ob5 := ob.kept hg5 hne
      clear oa4 ob GB4 hg5
      go_wp2_with fail
      refine (Reverse_own vb Y.length _ Y _ ob5 (by omega)).mono ?_
      rintro e w6 ⟨rfl, ob6, hg6⟩
      have GB6 := GB5.grown hg6 GB5.size hwb
      have oa6 := oa5.kept hg6 hnw
      obtain ⟨A1, c1, rfl, hs1⟩ := Sees.own oa6
      obtain ⟨A2, c2, rfl, hs2⟩ := Sees.own ob6
      clear oa5 ob5 GB5 hg6 hwa hwb hne hnw oa6 ob6
      go_wp2_with fail
      refine (CompareL_any A1 A2 _ _ c1 c2 _ _ X.reverse Y.reverse _ hs1 hs2 (by omega)).mono ?_
      rintro e w7 ⟨rfl, rfl⟩
      go_wp2_with fail
      go_ret
      exact ⟨rfl, GB6⟩
end Go.Proofs.Ytdanncclnhkmgaa
