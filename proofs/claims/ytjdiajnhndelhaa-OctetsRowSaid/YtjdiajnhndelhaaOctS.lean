/- Plain mathematics: a row of pieces is those pieces again, and each is cut off ahead of the others; without its last byte it is none, unless the last piece is empty. -/
import Derived.Test.YtjdiajnhndelhaaOctP
namespace Go.Proofs.Ytjdiajnhndelhaa

/-- pieces, one behind the other, each behind its length in a bytes -/
def rowB (a : Nat) : List (List UInt8) → List UInt8
  | [] => []
  | x :: xs => be x.length a ++ x ++ rowB a xs
theorem rowB_append (a : Nat) : ∀ xs ys : List (List UInt8), rowB a (xs ++ ys) = rowB a xs ++ rowB a ys := by
  intro xs ys
  induction xs with
  | nil => rfl
  | cons x xs ih => rw [List.cons_append, rowB, rowB, ih]; simp [List.append_assoc]
theorem rowB_len (a b : Nat) : ∀ xs : List (List UInt8), (∀ x ∈ xs, x.length ≤ b) → (rowB a xs).length ≤ xs.length * (a + b) := by
  intro xs
  induction xs with
  | nil => intro _; simp [rowB]
  | cons x xs ih =>
    intro h
    have h1 := ih fun y hy => h y (by simp [hy])
    have h2 := h x (by simp)
    rw [rowB, List.length_append, List.length_append, be_length, List.length_cons, Nat.add_mul]
    omega

theorem piece_row (a : Nat) (x : List UInt8) (ha : a = 1 ∨ a = 2) (hx : x.length < 256) : pieceR (mk x) (a : Int) = (mk (be x.length a ++ x), 0) := by
  have hp : pB (a : Int) = true := by rcases ha with rfl | rfl <;> rfl
  have hf : fitB x.length a = true := by rcases ha with rfl | rfl <;> simp [fitB] <;> omega
  rw [pieceR, if_pos hp, mk_size, Int.toNat_natCast, if_pos hf, ← mk_append]
  rfl

theorem cut_row (a : Nat) (x r : List UInt8) (ha : a = 1 ∨ a = 2) (hx : x.length < 256) : cutR (mk (be x.length a ++ x ++ r)) (a : Int) = (mk x, mk r, 0) := by
  have hp : pB (a : Int) = true := by rcases ha with rfl | rfl <;> rfl
  have hlt : x.length < 256 ^ a := by rcases ha with rfl | rfl <;> omega
  have hbl := be_length x.length a
  have e1 : (be x.length a ++ x ++ r).take a = be x.length a := by rw [List.append_assoc, List.take_left' hbl]
  have e2 : (be x.length a ++ x ++ r).drop a = x ++ r := by rw [List.append_assoc, List.drop_left' hbl]
  have hlen : (be x.length a ++ x ++ r).length = a + x.length + r.length := by simp [hbl]; omega
  have hn : numOf ((mk (be x.length a ++ x ++ r)).extract 0 a) = x.length := by rw [mk_extract, mk_num, List.drop_zero, e1, num_be_eq _ _ hlt]
  rw [cutR, if_pos hp, Int.toNat_natCast, hn, mk_size, hlen, if_neg (by omega), mk_extract, mk_extract, mk_extract]
  have h1 : (be x.length a ++ x ++ r).take (a + x.length + r.length) = be x.length a ++ x ++ r := List.take_of_length_le (by omega)
  rw [h1, e2, List.drop_zero, List.take_left' rfl]
  have h2 : (x ++ r).take (a + x.length + r.length - a) = x ++ r := List.take_of_length_le (by simp; omega)
  rw [h2, List.drop_left' rfl]

theorem row_pieces (a : Nat) (ha : a = 1 ∨ a = 2) : ∀ (xs : List (List UInt8)) (f : Nat), (∀ x ∈ xs, x.length < 256) → (rowB a xs).length < f → piecesF f (mk (rowB a xs)) (a : Int) = some (xs.map mk) := by
  intro xs
  induction xs with
  | nil =>
    intro f _ hf
    cases f with
    | zero => omega
    | succ f => rfl
  | cons x xs ih =>
    intro f h hf
    cases f with
    | zero => omega
    | succ f =>
      have hx := h x (by simp)
      have hbl := be_length x.length a
      have hlen : (rowB a (x :: xs)).length = a + x.length + (rowB a xs).length := by rw [rowB]; simp [hbl]; omega
      rw [piecesF, mk_size, hlen, if_neg (by omega), rowB, cut_row a x _ ha hx]
      simp only [if_true]
      rw [ih f (fun y hy => h y (by simp [hy])) (by omega)]
      rfl
theorem row_piecesR (a : Nat) (ha : a = 1 ∨ a = 2) (xs : List (List UInt8)) (h : ∀ x ∈ xs, x.length < 256) : piecesR (mk (rowB a xs)) (a : Int) = (xs.map mk, 0) := by
  have hp : pB (a : Int) = true := by rcases ha with rfl | rfl <;> rfl
  exact piecesR_some hp (row_pieces a ha xs _ h (by rw [mk_size]; omega))

/-- bytes are missing -/
theorem cut_short (a : Nat) (x : List UInt8) (ha : a = 1 ∨ a = 2) (hx : x.length < 256) : (cutR (mk (be x.length a ++ x).dropLast) (a : Int)).2.2 = 2 := by
  have hp : pB (a : Int) = true := by rcases ha with rfl | rfl <;> rfl
  have hlt : x.length < 256 ^ a := by rcases ha with rfl | rfl <;> omega
  have hbl := be_length x.length a
  have hlen : (be x.length a ++ x).dropLast.length = a + x.length - 1 := by simp [hbl]
  rw [cutR, if_pos hp, mk_size, hlen, Int.toNat_natCast, if_pos]
  by_cases h0 : x.length = 0
  · left; omega
  · right
    have e0 : (be x.length a ++ x).dropLast = be x.length a ++ x.dropLast := List.dropLast_append_of_ne_nil (by intro e; rw [e] at h0; simp at h0)
    rw [mk_extract, mk_num, List.drop_zero, e0, List.take_left' hbl, num_be_eq _ _ hlt]
    omega

theorem row_short (a : Nat) (ha : a = 1 ∨ a = 2) : ∀ (xs : List (List UInt8)) (f : Nat) (hne : xs ≠ []), (∀ x ∈ xs, x.length < 256) → (rowB a xs).length ≤ f → ¬ (a = 1 ∧ xs.getLast hne = []) → piecesF f (mk (rowB a xs).dropLast) (a : Int) = none := by
  intro xs
  induction xs with
  | nil => intro f hne; exact absurd rfl hne
  | cons x xs ih =>
    intro f hne h hf hl
    have hx := h x (by simp)
    have hbl := be_length x.length a
    cases xs with
    | nil =>
      simp only [List.getLast_singleton] at hl
      have e : rowB a [x] = be x.length a ++ x := by simp [rowB]
      rw [e] at hf ⊢
      have hlen : (be x.length a ++ x).length = a + x.length := by simp [hbl]
      cases f with
      | zero => omega
      | succ f =>
        have hsz : ¬ (mk (be x.length a ++ x).dropLast).size = 0 := by
          rw [mk_size, List.length_dropLast, hlen]
          intro h0
          apply hl
          have hx0 : x.length = 0 := by omega
          exact ⟨by omega, List.eq_nil_of_length_eq_zero hx0⟩
        rw [piecesF, if_neg hsz, if_neg (by rw [cut_short a x ha hx]; decide)]
    | cons y ys =>
      have hrne : rowB a (y :: ys) ≠ [] := by
        intro e
        have := congrArg List.length e
        rw [rowB] at this
        simp [be_length] at this
        omega
      have e : (rowB a (x :: y :: ys)).dropLast = be x.length a ++ x ++ (rowB a (y :: ys)).dropLast := by
        rw [rowB, List.dropLast_append_of_ne_nil hrne]
      have hlen : (rowB a (x :: y :: ys)).length = a + x.length + (rowB a (y :: ys)).length := by rw [rowB]; simp [hbl]; omega
      cases f with
      | zero => omega
      | succ f =>
        have hsz : ¬ (mk (be x.length a ++ x ++ (rowB a (y :: ys)).dropLast)).size = 0 := by rw [mk_size]; simp [hbl]; omega
        rw [e, piecesF, if_neg hsz, cut_row a x _ ha hx]
        simp only [if_true]
        rw [ih f (by simp) (fun z hz => h z (by simp [hz])) (by omega) (by rwa [List.getLast_cons (by simp)] at hl)]
        rfl
theorem row_shortR (a : Nat) (ha : a = 1 ∨ a = 2) (xs : List (List UInt8)) (hne : xs ≠ []) (h : ∀ x ∈ xs, x.length < 256) (hl : ¬ (a = 1 ∧ xs.getLast hne = [])) : piecesR (mk (rowB a xs).dropLast) (a : Int) = ([], 2) := by
  have hp : pB (a : Int) = true := by rcases ha with rfl | rfl <;> rfl
  refine piecesR_none hp (row_short a ha xs _ hne h ?_ hl)
  rw [mk_size, List.length_dropLast]
  omega
theorem mk_shorter (l : List UInt8) : (mk l).extract 0 (l.length - 1) = mk l.dropLast := by
  rw [mk_extract, List.drop_zero, List.dropLast_eq_take]
end Go.Proofs.Ytjdiajnhndelhaa
