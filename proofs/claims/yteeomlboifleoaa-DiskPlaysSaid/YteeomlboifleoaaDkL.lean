/- DiskPrefix: what the calls come to. No statement of the seat is proved here. -/
import Derived.Test.YteeomlboifleoaaDkK
namespace Go.Proofs.Yteeomlboifleoaa
open Go.RowKit Go.Maps Go.Sort

def pr1 (q : Int) (a : Bys) : St := ⟨q, [(a, 0)], [(X, 0)], [], [⟨[], X, some 0⟩], 0, false⟩
def pr2 (q : Int) (a : Bys) : St := ⟨q, [(a, a.length)], [(X, 0)], [], [⟨[], X, some 0⟩], 0, false⟩
def pr3 (q : Int) (a : Bys) : St := ⟨q, [(a, a.length)], [(X, 0)], [(X, 0)], [], 0, false⟩
def pr4 (q : Int) (a b : Bys) : St := ⟨q, [(a ++ b, a.length)], [(X, 0)], [(X, 0)], [], 0, false⟩
def prK (a b ch : Bys) : Nat := a.length + head ch.tail * ((a ++ b).length - a.length + 1) / 256
def pr5 (q : Int) (a b ch : Bys) : St := ⟨q, [((a ++ b).take (prK a b ch), prK a b ch)], [(X, 0)], [(X, 0)], [], 0, false⟩
theorem pr_1 (q : Int) (a : Bys) (h : (a.length : Int) ≤ q) : appendS (St.new q) X a = (pr1 q a, 0) := by
  unfold appendS
  rw [if_neg (by simp [St.new]), if_pos (by decide), if_neg (by simp [used, St.new]; omega)]
  rfl
theorem pr_2 (q : Int) (a : Bys) : syncS (pr1 q a) X = (pr2 q a, 0) := rfl
theorem pr_3 (q : Int) (a : Bys) : syncDirS (pr2 q a) = (pr3 q a, 0) := rfl
theorem pr_4 (q : Int) (a b : Bys) (h : (a.length : Int) + b.length ≤ q) : appendS (pr3 q a) X b = (pr4 q a b, 0) := by
  unfold appendS
  rw [if_neg (by simp [pr3]), if_pos (by decide), if_neg (by simp [used, pr3, lenOf]; omega)]
  rfl
theorem pr_5 (q : Int) (a b ch : Bys) : restartS (pr4 q a b) ch = pr5 q a b ch := by
  have e : restart1 (pr4 q a b) ch = pr4 q a b := by
    unfold restart1 settle
    simp [pr4, runs]
  unfold restartS restart2
  rw [e]
  rfl
theorem pr_6 (q : Int) (a b ch : Bys) : readS (pr5 q a b ch) X = ((a ++ b).take (prK a b ch), 0) := rfl
theorem prK_le (a b ch : Bys) : prK a b ch ≤ (a ++ b).length := by
  have := lose_le (r := (a ++ b).length - a.length) (head_le ch.tail)
  have : a.length ≤ (a ++ b).length := by simp
  unfold prK
  omega
theorem prK_ge (a b ch : Bys) : a.length ≤ prK a b ch := Nat.le_add_right _ _
theorem prK_none (a b : Bys) : prK a b [] = a.length := by
  unfold prK
  simp [head]
theorem prK_all (a b : Bys) (h : b.length < 255) : prK a b [0, 255] = (a ++ b).length := by
  unfold prK
  have e : head [255] = 255 := rfl
  show a.length + head [255] * _ / 256 = _
  rw [e, List.length_append]
  omega
/-- what is read behind the restart -/
theorem pr_read (a b ch : ByteArray) : ∃ sv : ByteArray, (⟨((a.data.toList ++ b.data.toList).take (prK a.data.toList b.data.toList ch.data.toList)).toArray⟩ : ByteArray) = sv ∧ (a.size : Int) ≤ sv.size ∧ (sv.size : Int) ≤ a.size + b.size ∧ (a ++ b).extract 0 sv.size = sv ∧
    (ch.data.toList = [] → sv = a) ∧ (ch.data.toList = [0, 255] → b.size < 255 → sv = a ++ b) := by
  refine ⟨_, rfl, ?_, ?_, ?_, ?_, ?_⟩
  · have h1 := prK_ge a.data.toList b.data.toList ch.data.toList
    have h2 := prK_le a.data.toList b.data.toList ch.data.toList
    rw [size_len] at h1
    have : ((a.data.toList ++ b.data.toList).take (prK a.data.toList b.data.toList ch.data.toList)).length = prK a.data.toList b.data.toList ch.data.toList := by rw [List.length_take]; omega
    simp only [ByteArray.size, List.size_toArray, this]
    have e : a.data.size = a.size := rfl
    omega
  · have h2 := prK_le a.data.toList b.data.toList ch.data.toList
    rw [List.length_append, size_len, size_len] at h2
    have : ((a.data.toList ++ b.data.toList).take (prK a.data.toList b.data.toList ch.data.toList)).length ≤ prK a.data.toList b.data.toList ch.data.toList := by rw [List.length_take]; omega
    simp only [ByteArray.size, List.size_toArray]
    have e : a.data.size = a.size := rfl
    have e2 : b.data.size = b.size := rfl
    omega
  · apply ByteArray.ext
    apply Array.ext'
    rw [ByteArray.data_extract, Array.toList_extract, List.extract_eq_take_drop]
    simp only [ByteArray.size, ByteArray.data_append, Array.toList_append, List.size_toArray, List.drop_zero, Nat.sub_zero]
    rw [List.length_take, Nat.min_eq_left (prK_le _ _ _)]
  · intro hc
    rw [hc, prK_none]
    apply ByteArray.ext
    apply Array.ext'
    simp
  · intro hc hb
    rw [hc, prK_all _ _ (by rw [size_len]; exact hb), List.take_length]
    apply ByteArray.ext
    apply Array.ext'
    simp
end Go.Proofs.Yteeomlboifleoaa
