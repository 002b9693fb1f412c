/- DiskRenames: what the calls come to, and the walk. No statement of the seat is proved here. -/
import Derived.Test.YteeomlboifleoaaDkL
namespace Go.Proofs.Yteeomlboifleoaa
open Go.RowKit Go.Maps Go.Sort

/-- a file all of whose bytes are safe loses nothing -/
theorem lose_full {S : St} {i k : Nat} (hi : i < S.files.length) (h : (fileAt S i).2 = (fileAt S i).1.length) (hk : k ≤ 255) : lose S i k = S := by
  unfold lose
  have e1 : (fileAt S i).2 + k * ((fileAt S i).1.length - (fileAt S i).2 + 1) / 256 = (fileAt S i).1.length := by
    rw [h, Nat.sub_self]
    omega
  rw [e1, List.take_length]
  have e2 : ((fileAt S i).1, (fileAt S i).1.length) = S.files[i]'hi := by
    have e3 : fileAt S i = S.files[i]'hi := by unfold fileAt; rw [List.getD_eq_getElem?_getD, List.getElem?_eq_getElem hi]; rfl
    rw [← h]
    exact e3
  unfold setF
  rw [e2, List.set_getElem_self]
theorem loses_full : ∀ {N : Nms} {S : St} {ch : Bys}, (∀ p ∈ N, p.2 < S.files.length ∧ (fileAt S p.2).2 = (fileAt S p.2).1.length) → loses S N ch = S
  | [], _, _, _ => rfl
  | p :: r, S, ch, h => by
    show loses (lose S p.2 (head ch)) r ch.tail = S
    rw [lose_full (h p (by simp)).1 (h p (by simp)).2 (head_le ch)]
    exact loses_full fun q hq => h q (by simp [hq])

def Y : Bys := [121]
def rn4 (q : Int) (a b : Bys) : St := ⟨q, [(a, a.length), (b, 0)], [(X, 0), (Y, 1)], [(X, 0)], [⟨[], Y, some 1⟩], 0, false⟩
def rn5 (q : Int) (a b : Bys) : St := ⟨q, [(a, a.length), (b, b.length)], [(X, 0), (Y, 1)], [(X, 0)], [⟨[], Y, some 1⟩], 0, false⟩
def rn6 (q : Int) (a b : Bys) : St := ⟨q, [(a, a.length), (b, b.length)], [(X, 1)], [(X, 0)], [⟨[], Y, some 1⟩, ⟨Y, X, some 1⟩], 0, false⟩
def rn7 (q : Int) (a b : Bys) : St := ⟨q, [(a, a.length), (b, b.length)], [(X, 1)], [(X, 1)], [], 0, false⟩
theorem rn_4 (q : Int) (a b : Bys) (h : (a.length : Int) + b.length ≤ q) : appendS (pr3 q a) Y b = (rn4 q a b, 0) := by
  unfold appendS
  rw [if_neg (by simp [pr3]), if_pos (by decide), if_neg (by simp [used, pr3, lenOf]; omega)]
  rfl
theorem rn_5 (q : Int) (a b : Bys) : syncS (rn4 q a b) Y = (rn5 q a b, 0) := rfl
theorem rn_6 (q : Int) (a b : Bys) : renameS (rn5 q a b) Y X = (rn6 q a b, 0) := rfl
theorem rn_7 (q : Int) (a b : Bys) : syncDirS (rn6 q a b) = (rn7 q a b, 0) := rfl
theorem read_X {q : Int} {a b : Bys} {N S0 : Nms} {L : List Chg} {l : Nat} {i : Nat} (h : findN N X = some i) : readS ⟨q, [(a, a.length), (b, b.length)], N, S0, L, l, false⟩ X = ((fileAt ⟨q, [(a, a.length), (b, b.length)], N, S0, L, l, false⟩ i).1, 0) := by
  have e : openS ⟨q, [(a, a.length), (b, b.length)], N, S0, L, l, false⟩ X (isN X) = (i, 0) := by
    unfold openS
    rw [if_neg (by simp), if_pos (by decide), h]
  unfold readS
  rw [e, if_pos rfl]
theorem rn_sync (q : Int) (a b ch : Bys) : readS (restartS (rn7 q a b) ch) X = (b, 0) := by
  have e : restart1 (rn7 q a b) ch = rn7 q a b := by
    unfold restart1 settle
    simp [rn7, runs]
  have e2 : restart2 (rn7 q a b) ch = rn7 q a b := by unfold restart2; rw [e]; rfl
  have e3 : loses (rn7 q a b) (rn7 q a b).names ch.tail = rn7 q a b := loses_full (by intro p hp; simp [rn7] at hp; subst hp; exact ⟨by simp [rn7], rfl⟩)
  unfold restartS
  rw [e2, e3]
  exact read_X (i := 1) rfl
theorem rn_free (q : Int) (a b ch : Bys) : readS (restartS (rn6 q a b) ch) X = (b, 0) ∨ readS (restartS (rn6 q a b) ch) X = (a, 0) := by
  have hcs : head ch % 3 = 0 ∨ head ch % 3 = 1 ∨ head ch % 3 = 2 := by omega
  have hl : (rn6 q a b).pend.length + 1 = 3 := rfl
  rcases hcs with h | h | h
  · have e2 : restart2 (rn6 q a b) ch = ⟨q, [(a, a.length), (b, b.length)], [(X, 0)], [(X, 0)], [], 0, false⟩ := by unfold restart2 restart1; rw [hl, h]; rfl
    have e3 : loses (restart2 (rn6 q a b) ch) (restart2 (rn6 q a b) ch).names ch.tail = restart2 (rn6 q a b) ch := loses_full (by rw [e2]; intro p hp; simp at hp; subst hp; exact ⟨by simp, rfl⟩)
    unfold restartS
    rw [e3, e2]
    exact .inr (read_X (i := 0) rfl)
  · have e2 : restart2 (rn6 q a b) ch = ⟨q, [(a, a.length), (b, b.length)], [(X, 0), (Y, 1)], [(X, 0), (Y, 1)], [], 0, false⟩ := by unfold restart2 restart1; rw [hl, h]; rfl
    have e3 : loses (restart2 (rn6 q a b) ch) (restart2 (rn6 q a b) ch).names ch.tail = restart2 (rn6 q a b) ch := loses_full (by rw [e2]; intro p hp; simp at hp; rcases hp with rfl | rfl <;> exact ⟨by simp, rfl⟩)
    unfold restartS
    rw [e3, e2]
    exact .inr (read_X (i := 0) rfl)
  · have e2 : restart2 (rn6 q a b) ch = ⟨q, [(a, a.length), (b, b.length)], [(X, 1)], [(X, 1)], [], 0, false⟩ := by unfold restart2 restart1; rw [hl, h]; rfl
    have e3 : loses (restart2 (rn6 q a b) ch) (restart2 (rn6 q a b) ch).names ch.tail = restart2 (rn6 q a b) ch := loses_full (by rw [e2]; intro p hp; simp at hp; subst hp; exact ⟨by simp, rfl⟩)
    unfold restartS
    rw [e3, e2]
    exact .inl (read_X (i := 1) rfl)
end Go.Proofs.Yteeomlboifleoaa
