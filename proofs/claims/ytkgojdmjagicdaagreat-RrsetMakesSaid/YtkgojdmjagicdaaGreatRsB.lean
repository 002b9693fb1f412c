/- Two lists in order, one of each run of equals kept, agree just where each record of the one is in the other. Nothing of the program stands here. -/
import Derived.Test.YtkgojdmjagicdaaGreatRsK
namespace Go.Proofs.YtkgojdmjagicdaaGreat

def keepF : Rrd → List Rrd → List Rrd
  | _, [] => []
  | p, y :: l => if cY y p = 0 then keepF y l else y :: keepF y l
def compF : List Rrd → List Rrd
  | [] => []
  | x :: l => x :: keepF x l
def eqF : List Rrd → List Rrd → Bool
  | [], [] => true
  | x :: xs, y :: ys => decide (cY x y = 0) && eqF xs ys
  | _, _ => false
def inX (a b : List Rrd) : Bool := a.all fun x => b.any fun y => decide (cY x y = 0)
theorem inX_is {a b : List Rrd} : inX a b = true ↔ ∀ x ∈ a, ∃ y ∈ b, cY x y = 0 := by
  unfold inX
  simp [List.all_eq_true, List.any_eq_true]
def SetY (l : List Rrd) : Prop := l.Pairwise fun x y => cY x y = -1
theorem cY_eq_lt {q p y : Rrd} (h : cY q p = 0) (k : cY p y = -1) : cY q y = -1 := by rw [cY_ord.same q p y h]; exact k
theorem keepF_set : ∀ (l : List Rrd) (p q : Rrd), cY q p = 0 → Srt cY (p :: l) → SetY (q :: keepF p l)
  | [], p, q, _, _ => by simp [SetY, keepF]
  | y :: l, p, q, h, hs => by
    obtain ⟨h1, h2⟩ := List.pairwise_cons.1 hs
    have hy := h1 y (by simp)
    have hf := cY_ord.flip y p
    have hr := cY_ord.range y p
    unfold keepF
    by_cases c : cY y p = 0
    · rw [if_pos c]
      exact keepF_set l y q (by rw [cY_ord.same q p y h]; omega) h2
    · rw [if_neg c]
      have ih := keepF_set l y y (cY_ord.self y) h2
      have hqy : cY q y = -1 := cY_eq_lt h (by omega)
      refine List.pairwise_cons.2 ⟨fun z hz => ?_, ih⟩
      rcases List.mem_cons.1 hz with rfl | hz
      · exact hqy
      · exact cY_ord.trans q y z hqy ((List.pairwise_cons.1 ih).1 z hz)
theorem keepF_class : ∀ (l : List Rrd) (p q z : Rrd), cY q p = 0 → ((∃ y ∈ p :: l, cY z y = 0) ↔ ∃ y ∈ q :: keepF p l, cY z y = 0)
  | [], p, q, z, h => by
    simp only [keepF, List.mem_singleton, exists_eq_left]
    rw [cY_ord.same' z h]
  | y :: l, p, q, z, h => by
    unfold keepF
    by_cases c : cY y p = 0
    · rw [if_pos c]
      have hqy : cY q y = 0 := by have := cY_ord.flip y p; rw [cY_ord.same q p y h]; omega
      rw [← keepF_class l y q z hqy]
      constructor
      · rintro ⟨u, hu, k⟩
        rcases List.mem_cons.1 hu with rfl | hu
        · exact ⟨y, by simp, by rw [cY_ord.same' z c]; exact k⟩
        · exact ⟨u, hu, k⟩
      · rintro ⟨u, hu, k⟩
        exact ⟨u, List.mem_cons_of_mem _ hu, k⟩
    · rw [if_neg c]
      have ih := keepF_class l y y z (cY_ord.self y)
      constructor
      · rintro ⟨u, hu, k⟩
        rcases List.mem_cons.1 hu with rfl | hu
        · exact ⟨q, by simp, by rw [cY_ord.same' z h]; exact k⟩
        · obtain ⟨v, hv, k2⟩ := ih.1 ⟨u, hu, k⟩
          exact ⟨v, List.mem_cons_of_mem _ hv, k2⟩
      · rintro ⟨u, hu, k⟩
        rcases List.mem_cons.1 hu with rfl | hu
        · exact ⟨p, by simp, by rw [← cY_ord.same' z h]; exact k⟩
        · obtain ⟨v, hv, k2⟩ := ih.2 ⟨u, hu, k⟩
          exact ⟨v, List.mem_cons_of_mem _ hv, k2⟩
theorem compF_set : ∀ {l : List Rrd}, Srt cY l → SetY (compF l)
  | [], _ => by simp [compF, SetY]
  | x :: l, h => keepF_set l x x (cY_ord.self x) h
theorem compF_class (z : Rrd) : ∀ l : List Rrd, (∃ y ∈ l, cY z y = 0) ↔ ∃ y ∈ compF l, cY z y = 0
  | [] => by simp [compF]
  | x :: l => keepF_class l x x z (cY_ord.self x)
theorem eqF_is : ∀ {S T : List Rrd}, SetY S → SetY T → (eqF S T = true ↔ (∀ x ∈ S, ∃ y ∈ T, cY x y = 0) ∧ ∀ y ∈ T, ∃ x ∈ S, cY y x = 0)
  | [], [], _, _ => by simp [eqF]
  | [], y :: T, _, _ => ⟨fun h => by simp [eqF] at h, fun h => by obtain ⟨u, hu, _⟩ := h.2 y (by simp); cases hu⟩
  | x :: S, [], _, _ => ⟨fun h => by simp [eqF] at h, fun h => by obtain ⟨u, hu, _⟩ := h.1 x (by simp); cases hu⟩
  | x :: S, y :: T, hS, hT => by
    obtain ⟨s1, s2⟩ := List.pairwise_cons.1 hS
    obtain ⟨t1, t2⟩ := List.pairwise_cons.1 hT
    have ih := eqF_is s2 t2
    rw [eqF, Bool.and_eq_true, decide_eq_true_eq, ih]
    constructor
    · rintro ⟨h, h1, h2⟩
      refine ⟨fun u hu => ?_, fun v hv => ?_⟩
      · rcases List.mem_cons.1 hu with rfl | hu
        · exact ⟨y, by simp, h⟩
        · obtain ⟨v, hv, k⟩ := h1 u hu
          exact ⟨v, List.mem_cons_of_mem _ hv, k⟩
      · rcases List.mem_cons.1 hv with rfl | hv
        · exact ⟨x, by simp, by have := cY_ord.flip x v; omega⟩
        · obtain ⟨u, hu, k⟩ := h2 v hv
          exact ⟨u, List.mem_cons_of_mem _ hu, k⟩
    · rintro ⟨h1, h2⟩
      have hxy : cY x y = 0 := by
        obtain ⟨v, hv, k⟩ := h1 x (by simp)
        obtain ⟨u, hu, k2⟩ := h2 y (by simp)
        rcases List.mem_cons.1 hv with e | hv
        · rw [← e]; exact k
        · rcases List.mem_cons.1 hu with e | hu
          · have := cY_ord.flip y x
            rw [e] at k2
            omega
          · -- y < v, x = v; x < u, y = u
            have a1 : cY y v = -1 := t1 v hv
            have a2 : cY x u = -1 := s1 u hu
            have a3 : cY y x = -1 := by rw [cY_ord.same' y k]; exact a1
            have a4 : cY x y = -1 := by rw [cY_ord.same' x k2]; exact a2
            have := cY_ord.flip x y
            omega
      have hyx : cY y x = 0 := by have := cY_ord.flip x y; omega
      refine ⟨hxy, fun u hu => ?_, fun v hv => ?_⟩
      · obtain ⟨v, hv, k⟩ := h1 u (List.mem_cons_of_mem _ hu)
        rcases List.mem_cons.1 hv with e | hv
        · rw [e] at k
          have a1 := s1 u hu
          have a2 : cY u x = 0 := by rw [cY_ord.same' u hxy]; exact k
          have := cY_ord.flip x u
          omega
        · exact ⟨v, hv, k⟩
      · obtain ⟨u, hu, k⟩ := h2 v (List.mem_cons_of_mem _ hv)
        rcases List.mem_cons.1 hu with e | hu
        · rw [e] at k
          have a1 := t1 v hv
          have a2 : cY v y = 0 := by rw [cY_ord.same' v hyx]; exact k
          have := cY_ord.flip y v
          omega
        · exact ⟨u, hu, k⟩
theorem alike_is {a b A B : List Rrd} (hA : Srt cY A) (hB : Srt cY B) (pa : a.Perm A) (pb : b.Perm B) : eqF (compF A) (compF B) = (inX a b && inX b a) := by
  rw [Bool.eq_iff_iff, eqF_is (compF_set hA) (compF_set hB), Bool.and_eq_true, inX_is, inX_is]
  have cl : ∀ (u v U V : List Rrd), u.Perm U → v.Perm V → ((∀ x ∈ compF U, ∃ y ∈ compF V, cY x y = 0) ↔ ∀ x ∈ u, ∃ y ∈ v, cY x y = 0) := by
    intro u v U V pu pv
    constructor
    · intro h x hx
      obtain ⟨x', hx', k⟩ := (compF_class x U).1 ⟨x, pu.mem_iff.1 hx, cY_ord.self x⟩
      obtain ⟨y', hy', k2⟩ := h x' hx'
      obtain ⟨y, hy, k3⟩ := (compF_class x V).2 ⟨y', hy', by rw [cY_ord.same x x' y' k]; exact k2⟩
      exact ⟨y, pv.mem_iff.2 hy, k3⟩
    · intro h x' hx'
      obtain ⟨x, hx, k⟩ := (compF_class x' U).2 ⟨x', hx', cY_ord.self x'⟩
      obtain ⟨y, hy, k2⟩ := h x (pu.mem_iff.2 hx)
      exact (compF_class x' V).1 ⟨y, pv.mem_iff.1 hy, by rw [cY_ord.same x' x y k]; exact k2⟩
  rw [cl a b A B pa pb, cl b a B A pb pa]
theorem same_cY {x y : Rrd} (hx : OkX x) (hy : OkX y) : (x.l == y.l && decide (cmpX x y = 0)) = decide (cY x y = 0) := by
  rw [cX_is hx hy]
  unfold cY
  rw [Bool.eq_iff_iff]
  simp only [Bool.and_eq_true, beq_iff_eq, decide_eq_true_eq, orI_zero, sgn_zero]
  exact and_comm
end Go.Proofs.YtkgojdmjagicdaaGreat
