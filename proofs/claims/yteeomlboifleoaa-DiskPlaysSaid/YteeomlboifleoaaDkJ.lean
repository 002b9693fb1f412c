/- DiskBreaks walked. No statement of the seat is proved here. -/
import Derived.Test.YteeomlboifleoaaDkI
import Derived.Test.YteeomlboifleoaaFrame
namespace Go.Proofs.Yteeomlboifleoaa
open Go.RowKit Go.Maps Go.Sort

def X : Bys := [120]
def brkA (L : List Bys) (n i : Nat) : Bys := (L.take (min i n)).flatten
def brkS (L : List Bys) (n i : Nat) : St :=
  if min i n = 0 then ⟨100000, [], [], [], [], n - i, decide (n ≤ i)⟩
  else ⟨100000, [(brkA L n i, 0)], [(X, 0)], [], [⟨[], X, some 0⟩], n - i, decide (n ≤ i)⟩
theorem brk_start (L : List Bys) (n : Nat) : breakS (St.new 100000) (n : Nat) = (brkS L n 0, 0) := by
  unfold breakS
  rw [if_neg (by omega)]
  by_cases h : n = 0
  · subst h; rfl
  · rw [if_neg (by omega)]
    have e : decide (n ≤ 0) = false := by rw [decide_eq_false_iff_not]; omega
    unfold brkS
    rw [if_pos (by simp), e]
    rfl
theorem brk_step (L : List Bys) (n i : Nat) (b : Bys) (hb : L[i]? = some b) (hA : (brkA L n i).length + b.length ≤ 100000) :
    appendS (brkS L n i) X b = (brkS L n (i + 1), if n ≤ i then 5 else 0) ∧ brkA L n (i + 1) = if n ≤ i then brkA L n i else brkA L n i ++ b := by
  by_cases hn : n ≤ i
  · have h1 : brkA L n (i + 1) = brkA L n i := by unfold brkA; congr 2; omega
    have hd : (brkS L n i).down = true := by unfold brkS; split <;> simp [hn]
    rw [if_pos hn, if_pos hn]
    refine ⟨?_, h1⟩
    unfold appendS
    rw [if_pos hd]
    congr 1
    unfold brkS
    rw [h1, show min (i + 1) n = min i n by omega, show n - (i + 1) = n - i by omega]
    have e1 : decide (n ≤ i + 1) = true := by simp; omega
    have e2 : decide (n ≤ i) = true := by simpa using hn
    rw [e1, e2]
  · have hbk : brkA L n (i + 1) = brkA L n i ++ b := by
      unfold brkA
      rw [show min (i + 1) n = i + 1 by omega, show min i n = i by omega, List.take_add_one, hb]
      simp
    rw [if_neg hn, if_neg hn]
    refine ⟨?_, hbk⟩
    have e0 : decide (n ≤ i) = false := by simpa using hn
    by_cases hi : i = 0
    · subst hi
      have hA0 : brkA L n 0 = [] := by simp [brkA]
      rw [hA0] at hbk
      have hS : brkS L n 0 = ⟨100000, [], [], [], [], n, false⟩ := by unfold brkS; rw [if_pos (by simp), e0]; rfl
      have hT : brkS L n (0 + 1) = ⟨100000, [(b, 0)], [(X, 0)], [], [⟨[], X, some 0⟩], n - 1, decide (n ≤ 1)⟩ := by
        unfold brkS
        rw [if_neg (by omega), hbk]
        rfl
      rw [hS, hT]
      have hlen : ¬ ((b.length : Int) > 100000 - (used ⟨100000, [], [], [], [], n, false⟩ : Nat)) := by
        rw [hA0] at hA
        simp [used] at *
        omega
      unfold appendS
      rw [if_neg (by simp), if_pos (by decide), if_neg hlen]
      show (count (addB (chg (addF _) _) 0 b), (0 : Int)) = _
      congr 1
      have e1 : (addB (chg (addF ⟨100000, [], [], [], [], n, false⟩) ⟨[], X, some 0⟩) 0 b) = ⟨100000, [(b, 0)], [(X, 0)], [], [⟨[], X, some 0⟩], n, false⟩ := rfl
      show count (addB (chg (addF ⟨100000, [], [], [], [], n, false⟩) ⟨[], X, some 0⟩) 0 b) = _
      rw [e1]
      unfold count
      rw [if_neg (by simp only; omega)]
      congr 1
      rw [decide_eq_decide]
      simp only
      omega
    · have hS : brkS L n i = ⟨100000, [(brkA L n i, 0)], [(X, 0)], [], [⟨[], X, some 0⟩], n - i, false⟩ := by unfold brkS; rw [if_neg (by omega), e0]
      have hT : brkS L n (i + 1) = ⟨100000, [(brkA L n i ++ b, 0)], [(X, 0)], [], [⟨[], X, some 0⟩], n - (i + 1), decide (n ≤ i + 1)⟩ := by
        unfold brkS
        rw [if_neg (by omega), hbk]
      rw [hS, hT]
      have hlen : ¬ ((b.length : Int) > 100000 - (used ⟨100000, [(brkA L n i, 0)], [(X, 0)], [], [⟨[], X, some 0⟩], n - i, false⟩ : Nat)) := by
        simp [used, lenOf]
        omega
      unfold appendS
      rw [if_neg (by simp), if_pos (by decide), if_neg hlen]
      show (count (addB _ 0 b), (0 : Int)) = _
      congr 1
      have e1 : (addB ⟨100000, [(brkA L n i, 0)], [(X, 0)], [], [⟨[], X, some 0⟩], n - i, false⟩ 0 b) = ⟨100000, [(brkA L n i ++ b, 0)], [(X, 0)], [], [⟨[], X, some 0⟩], n - i, false⟩ := rfl
      rw [e1]
      unfold count
      rw [if_neg (by simp only; omega)]
      simp only
      congr 1
      rw [decide_eq_decide]
      omega
theorem brk_down (L : List Bys) (n i : Nat) : (brkS L n i).down = decide (n ≤ i) := by unfold brkS; split <;> rfl
theorem brk_used (L : List Bys) (n i : Nat) : used (brkS L n i) = (brkA L n i).length := by
  unfold brkS
  split
  · rename_i h
    have : brkA L n i = [] := by unfold brkA; rw [h]; rfl
    rw [this]; rfl
  · simp [used, lenOf]
theorem brk_restart (L : List Bys) (n i : Nat) : ∃ fs, restartS (brkS L n i) [] = ⟨100000, fs, [], [], [], 0, false⟩ := by
  unfold brkS
  split
  · exact ⟨_, rfl⟩
  · exact ⟨_, rfl⟩
theorem brk_last (fs : List (Bys × Nat)) : (appendS ⟨100000, fs, [], [], [], 0, false⟩ X []).2 = 0 := by
  unfold appendS
  rw [if_neg (by simp), if_pos (by decide), if_neg (by simp [used])]
  rfl
end Go.Proofs.Yteeomlboifleoaa
