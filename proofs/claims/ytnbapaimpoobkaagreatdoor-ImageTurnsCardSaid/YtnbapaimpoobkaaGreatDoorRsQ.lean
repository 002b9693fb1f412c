/- Parts of the proofs of the statements of image. No statement of the seat is proved here. -/
import Derived.Test.YtnbapaimpoobkaaGreatDoorRrE
import Derived.Test.YtnbapaimpoobkaaGreatDoorRsP
import Derived.Test.YtnbapaimpoobkaaGreatDoorRrA
namespace Go.Proofs.YtnbapaimpoobkaaGreatDoor
open Go.RowKit Go.Op

theorem own_sees {w : World} {base : Nat} {v : Value} {n : Nat} {xs : List Rrd} (h : w.ownsRow base 27 5 v n (rcells xs)) :
    ∃ A c, v = .slice A n c ∧ SeesR w w.heap.size A n xs ∧ InCap A n c := by
  obtain ⟨A, c, rfl, hs⟩ := SeesR.own h
  refine ⟨A, c, rfl, hs, ?_⟩
  rcases h.2 with ⟨e, hn⟩ | ⟨g, cap, cur, e, hb, hg, h1, h2, h3, h4⟩
  · obtain ⟨rfl, rfl, rfl⟩ : A = none ∧ n = 0 ∧ c = 0 := by simpa using e
    exact ⟨Nat.le_refl _, by omega, fun _ => rfl, fun ad h => by cases h⟩
  · obtain ⟨rfl, rfl⟩ : A = some ⟨g, 0, none⟩ ∧ c = cap := by simpa using e
    unfold maxLen at h2
    exact ⟨h1, by omega, fun h => (by cases h), fun ad h _ => (by cases h; rfl)⟩
end Go.Proofs.YtnbapaimpoobkaaGreatDoor
namespace Go.Proofs.YtnbapaimpoobkaaGreatDoor
open Go.RowKit Go.Op

theorem ofC_mem (l : List Rrd) : ∀ y ∈ ofC l, y ∈ l := by
  have h : ∀ (l : List Rrd) (D : List Rrd), ∀ y ∈ l.foldl (fun D r => putX cX r D) D, y ∈ l ∨ y ∈ D := by
    intro l
    induction l with
    | nil => intro D y hy; exact .inr hy
    | cons x l ih =>
      intro D y hy
      rcases ih _ y hy with h | h
      · exact .inl (List.mem_cons_of_mem _ h)
      · rcases putX_mem x D y h with rfl | h
        · exact .inl (by simp)
        · exact .inr h
  intro y hy
  rcases h l [] y hy with h | h
  · exact h
  · cases h
theorem OkL.ofC {l : List Rrd} (h : OkL l) : OkL (ofC l) := fun y hy => h y (ofC_mem l y hy)
theorem ofC_set (l : List Rrd) : SetL cX (ofC l) := by
  have h : ∀ (l : List Rrd) (D : List Rrd), SetL cX D → SetL cX (l.foldl (fun D r => putX cX r D) D) := by
    intro l
    induction l with
    | nil => intro D hD; exact hD
    | cons x l ih => intro D hD; exact ih _ (putX_set ordAll trivial D (fun _ _ => trivial) hD)
  exact h l [] List.Pairwise.nil
theorem putX_len (r : Rrd) (l : List Rrd) : (putX cX r l).length ≤ l.length + 1 := by
  induction l with
  | nil => simp [putX]
  | cons x l ih =>
    unfold putX
    split
    · simp; omega
    · split
      · simp
      · simp
theorem ofC_len (l : List Rrd) : (ofC l).length ≤ l.length := by
  have h : ∀ (l : List Rrd) (D : List Rrd), (l.foldl (fun D r => putX cX r D) D).length ≤ D.length + l.length := by
    intro l
    induction l with
    | nil => intro D; simp
    | cons x l ih => intro D; have h1 := ih (putX cX x D); have h2 := putX_len x D; simp only [List.foldl_cons, List.length_cons]; omega
  have := h l []
  simpa [ofC] using this
end Go.Proofs.YtnbapaimpoobkaaGreatDoor
