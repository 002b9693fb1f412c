/- RsQ: texts RsQ of our own, joined. No statement of the seat is proved here. -/
import Derived.Test.YtkmmbbcmpjkmkaaRsP
import Derived.Test.YtkmmbbcmpjkmkaaRrJ
import Derived.Test.YtkmmbbcmpjkmkaaRrA
namespace Go.Proofs.Ytkmmbbcmpjkmkaa
open Go.RowKit Go.Op

theorem putX_c {r : Rrd} (hr : OkX r) : ∀ {l : List Rrd}, OkL l → putX cmpX r l = putX cX r l
  | [], _ => rfl
  | x :: l, h => by
    have e := cX_is (h x (by simp)) hr
    have ih := putX_c hr (l := l) (fun y hy => h y (List.mem_cons_of_mem _ hy))
    unfold putX
    rw [e, ih]
theorem SetL_c {l : List Rrd} (h : OkL l) : SetL cmpX l ↔ SetL cX l := by
  unfold SetL
  constructor
  · intro k
    refine List.Pairwise.imp_of_mem ?_ k
    intro a b ha hb e
    rw [← cX_is (h a ha) (h b hb)]; exact e
  · intro k
    refine List.Pairwise.imp_of_mem ?_ k
    intro a b ha hb e
    rw [cX_is (h a ha) (h b hb)]; exact e
theorem ofC_snoc (l : List Rrd) (x : Rrd) : ofC (l ++ [x]) = putX cX x (ofC l) := by unfold ofC; rw [List.foldl_append]; rfl
theorem ofC_mem (l : List Rrd) : ∀ y ∈ ofC l, y ∈ l := by
  have h : ∀ (l : List Rrd) (D : List Rrd), ∀ y ∈ l.foldl (fun D r => putX cX r D) D, y ∈ l ∨ y ∈ D := by
    intro l
    induction l with
    | nil => intro D y hy; exact .inr hy
    | cons x l ih =>
      intro D y hy
      rcases ih _ y hy with h | h
      · exact .inl (List.mem_cons_of_mem _ h)
      · rcases putX_mem x D y h with rfl | h
        · exact .inl (by simp)
        · exact .inr h
  intro y hy
  rcases h l [] y hy with h | h
  · exact h
  · cases h
theorem OkL.ofC {l : List Rrd} (h : OkL l) : OkL (ofC l) := fun y hy => h y (ofC_mem l y hy)
theorem ofC_set (l : List Rrd) : SetL cX (ofC l) := by
  have h : ∀ (l : List Rrd) (D : List Rrd), SetL cX D → SetL cX (l.foldl (fun D r => putX cX r D) D) := by
    intro l
    induction l with
    | nil => intro D hD; exact hD
    | cons x l ih => intro D hD; exact ih _ (putX_set ordAll trivial D (fun _ _ => trivial) hD)
  exact h l [] List.Pairwise.nil
theorem putX_len (r : Rrd) (l : List Rrd) : (putX cX r l).length ≤ l.length + 1 := by
  induction l with
  | nil => simp [putX]
  | cons x l ih =>
    unfold putX
    split
    · simp; omega
    · split
      · simp
      · simp
theorem ofC_len (l : List Rrd) : (ofC l).length ≤ l.length := by
  have h : ∀ (l : List Rrd) (D : List Rrd), (l.foldl (fun D r => putX cX r D) D).length ≤ D.length + l.length := by
    intro l
    induction l with
    | nil => intro D; simp
    | cons x l ih => intro D; have h1 := ih (putX cX x D); have h2 := putX_len x D; simp only [List.foldl_cons, List.length_cons]; omega
  have := h l []
  simpa [ofC] using this
theorem refP_ofC {r : Rrd} {l : List Rrd} (hr : OkX r) (h : OkL l) : refP cmpX r (ofC l) false = ofC (l ++ [r]) := by
  rw [ofC_snoc, refP_set ordX hr (ofC l) h.ofC ((SetL_c h.ofC).2 (ofC_set l)), putX_c hr h.ofC]

end Go.Proofs.Ytkmmbbcmpjkmkaa
