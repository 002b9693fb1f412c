/- NaO: texts NamN, NamO of our own, joined. No statement of the seat is proved here. -/
import Derived.Test.YtkmmbbcmpjkmkaaNaK
import Derived.Test.YtkmmbbcmpjkmkaaNaE
import Derived.Laws.Cover1
namespace Go.Proofs.Ytkmmbbcmpjkmkaa
open Go.RowKit Go.Op

theorem suffix_at {M L : List (List UInt8)} (h : M.length ≤ L.length) : M <:+ L ↔ ∀ j, j < M.length → L[L.length - 1 - j]? = M[M.length - 1 - j]? := by
  rw [List.suffix_iff_eq_drop]
  constructor
  · intro e j hj
    conv => rhs; rw [e]
    rw [List.getElem?_drop]
    congr 1
    have : M.length = L.length - (L.length - M.length) := by omega
    rw [List.length_drop]
    omega
  · intro h'
    apply List.ext_getElem?
    intro i
    rw [List.getElem?_drop]
    by_cases hi : i < M.length
    · have := h' (M.length - 1 - i) (by omega)
      rw [show M.length - 1 - (M.length - 1 - i) = i by omega, show L.length - 1 - (M.length - 1 - i) = L.length - M.length + i by omega] at this
      exact this.symm
    · rw [List.getElem?_eq_none (by omega), List.getElem?_eq_none (by omega)]

end Go.Proofs.Ytkmmbbcmpjkmkaa
namespace Go.Proofs.Ytkmmbbcmpjkmkaa
open Go.RowKit Go.Op

theorem cmp_end {X Y : List (List UInt8)} {k : Nat} (h1 : k ≤ X.length) (h2 : k ≤ Y.length) (h : k = X.length ∨ k = Y.length) :
    cmpL (X.drop k) (Y.drop k) = if X.length < Y.length then -1 else if Y.length < X.length then 1 else 0 := by
  by_cases a1 : X.length < Y.length
  · rw [if_pos a1, List.drop_of_length_le (by omega), List.drop_eq_getElem_cons (show k < Y.length by omega)]; rfl
  · rw [if_neg a1]
    by_cases a2 : Y.length < X.length
    · have e : Y.drop k = [] := List.drop_of_length_le (by omega)
      rw [if_pos a2, e, List.drop_eq_getElem_cons (show k < X.length by omega)]; rfl
    · have e1 : X.drop k = [] := List.drop_of_length_le (by omega)
      have e2 : Y.drop k = [] := List.drop_of_length_le (by omega)
      rw [if_neg a2, e1, e2]; rfl

end Go.Proofs.Ytkmmbbcmpjkmkaa
