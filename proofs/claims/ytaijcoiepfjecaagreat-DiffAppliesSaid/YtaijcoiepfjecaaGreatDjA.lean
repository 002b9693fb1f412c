/- DjA: texts DifM, DifN, DifA, DifB of our own, joined. No statement of the seat is proved here. -/
import Derived.Test.YtaijcoiepfjecaaGreatRsQ
import Derived.Test.YtaijcoiepfjecaaGreatRrJ
import Derived.Test.YtaijcoiepfjecaaGreatRsS
import Derived.Test.YtaijcoiepfjecaaGreatRsP
namespace Go.Proofs.YtaijcoiepfjecaaGreat
set_option linter.unusedVariables false

/-- is a record there, field by field? -/
def hasX (l : List Rrd) (r : Rrd) : Bool := l.any fun y => eqX y r
/-- the records of a that are not in b -/
def lackX (a b : List Rrd) : List Rrd := a.filter fun x => !hasX b x
/-- is one there that is equal to it? -/
def oneL (l : List Rrd) (r : Rrd) : Bool := l.any fun y => decide (cX y r = 0)
theorem hasX_is {l : List Rrd} {r : Rrd} : hasX l r = true ↔ r ∈ l := by
  unfold hasX
  rw [List.any_eq_true]
  constructor
  · rintro ⟨y, h, e⟩
    rw [← eqX_is.1 e]; exact h
  · intro h
    exact ⟨r, h, eqX_is.2 rfl⟩
theorem hasX_no {l : List Rrd} {r : Rrd} : hasX l r = false ↔ r ∉ l := by
  rw [← hasX_is]; simp
theorem eqX_no {x y : Rrd} : eqX x y = false ↔ x ≠ y := by
  rw [← Bool.not_eq_true, eqX_is]
theorem oneL_is {l : List Rrd} {r : Rrd} : oneL l r = true ↔ ∃ y ∈ l, cX y r = 0 := by
  unfold oneL
  rw [List.any_eq_true]
  simp only [decide_eq_true_eq]
theorem lackX_mem {a b : List Rrd} {x : Rrd} : x ∈ lackX a b ↔ x ∈ a ∧ x ∉ b := by
  unfold lackX
  rw [List.mem_filter, Bool.not_eq_true', hasX_no]
theorem lackX_len (a b : List Rrd) : (lackX a b).length ≤ a.length := List.length_filter_le _ _
theorem lackX_set {a b : List Rrd} (h : SetL cX a) : SetL cX (lackX a b) := List.Pairwise.filter _ h
theorem OkL.lack {a b : List Rrd} (h : OkL a) : OkL (lackX a b) := fun x hx => h x (lackX_mem.1 hx).1
theorem lackX_same {a b b' : List Rrd} (h : ∀ x ∈ a, x ∈ b ↔ x ∈ b') : lackX a b = lackX a b' := by
  unfold lackX
  refine List.filter_congr fun x hx => ?_
  have k := h x hx
  congr 1
  rw [Bool.eq_iff_iff, hasX_is, hasX_is]
  exact k

/-! ### going through both in order -/
def skipX (r : Rrd) : List Rrd → List Rrd
  | [] => []
  | y :: k => if eqX y r = false ∧ cX y r < 0 then skipX r k else y :: k
def thereK (r : Rrd) : List Rrd → Bool
  | [] => false
  | y :: _ => eqX y r
def wantK (r : Rrd) (k : List Rrd) : Bool := !thereK r (skipX r k)
def restK (r : Rrd) (k : List Rrd) : List Rrd := if thereK r (skipX r k) = true then (skipX r k).drop 1 else skipX r k
/-- what is left of k when the first i records of l have been asked for -/
def stK (l k : List Rrd) (i : Nat) : List Rrd := (l.take i).foldl (fun k r => restK r k) k
def wantI (l k : List Rrd) (i : Nat) : Bool := match l[i]? with | some r => wantK r (stK l k i) | none => false
theorem stK_step {l k : List Rrd} {i : Nat} {r : Rrd} (h : l[i]? = some r) : stK l k (i + 1) = restK r (stK l k i) := by
  unfold stK
  rw [List.take_add_one, h, List.foldl_append]
  rfl
theorem stK_cons (r : Rrd) (l k : List Rrd) (i : Nat) : stK (r :: l) k (i + 1) = stK l (restK r k) i := rfl
theorem skipX_suf (r : Rrd) : ∀ k : List Rrd, ∃ A, k = A ++ skipX r k ∧ ∀ y ∈ A, y ≠ r ∧ cX y r < 0
  | [] => ⟨[], rfl, fun _ h => by cases h⟩
  | y :: k => by
    unfold skipX
    by_cases h : eqX y r = false ∧ cX y r < 0
    · rw [if_pos h]
      obtain ⟨A, e, k2⟩ := skipX_suf r k
      refine ⟨y :: A, by rw [List.cons_append, ← e], fun z hz => ?_⟩
      rcases List.mem_cons.1 hz with rfl | hz
      · exact ⟨eqX_no.1 h.1, h.2⟩
      · exact k2 z hz
    · rw [if_neg h]
      exact ⟨[], rfl, fun _ h => by cases h⟩
theorem skipX_len (r : Rrd) (k : List Rrd) : (skipX r k).length ≤ k.length := by
  obtain ⟨A, e, _⟩ := skipX_suf r k
  have := congrArg List.length e
  rw [List.length_append] at this
  omega
theorem skipX_head (r : Rrd) : ∀ k y T, skipX r k = y :: T → ¬ (eqX y r = false ∧ cX y r < 0)
  | [], y, T, h => by cases h
  | z :: k, y, T, h => by
    unfold skipX at h
    by_cases c : eqX z r = false ∧ cX z r < 0
    · rw [if_pos c] at h
      exact skipX_head r k y T h
    · rw [if_neg c] at h
      simp only [List.cons.injEq] at h
      rw [← h.1]; exact c
theorem SetL.suf {A B : List Rrd} (h : SetL cX (A ++ B)) : SetL cX B := (List.pairwise_append.1 h).2.1
theorem skipX_set {r : Rrd} {k : List Rrd} (h : SetL cX k) : SetL cX (skipX r k) := by
  obtain ⟨A, e, _⟩ := skipX_suf r k
  rw [e] at h
  exact h.suf
/-- in a set, what is not at the head of what is left is not there -/
theorem thereK_is {r : Rrd} {k : List Rrd} (h : SetL cX k) : thereK r (skipX r k) = true ↔ r ∈ k := by
  obtain ⟨A, e, hA⟩ := skipX_suf r k
  have hs := skipX_set (r := r) h
  constructor
  · intro ht
    cases hk : skipX r k with
    | nil => rw [hk] at ht; cases ht
    | cons y T =>
      rw [hk] at ht
      have : y = r := eqX_is.1 ht
      rw [e, hk, this]; simp
  · intro hm
    rw [e] at hm
    rcases List.mem_append.1 hm with hm | hm
    · exact absurd rfl (hA r hm).1
    · cases hk : skipX r k with
      | nil => rw [hk] at hm; cases hm
      | cons y T =>
        rw [hk] at hm hs
        have hh := skipX_head r k y T hk
        show eqX y r = true
        by_cases q : eqX y r = true
        · exact q
        · exfalso
          have q' : eqX y r = false := by simpa using q
          rcases List.mem_cons.1 hm with rfl | hm
          · exact q (eqX_is.2 rfl)
          · have := (List.pairwise_cons.1 hs).1 r hm
            exact hh ⟨q', by omega⟩
theorem restK_set {r : Rrd} {k : List Rrd} (h : SetL cX k) : SetL cX (restK r k) := by
  unfold restK
  split
  · exact List.Pairwise.sublist (List.drop_sublist 1 _) (skipX_set h)
  · exact skipX_set h
theorem restK_mem {r : Rrd} {k : List Rrd} (h : SetL cX k) {x : Rrd} (hx : cX r x = -1) : x ∈ restK r k ↔ x ∈ k := by
  obtain ⟨A, e, hA⟩ := skipX_suf r k
  have hk2 : ∀ z, z ∈ k ↔ z ∈ A ∨ z ∈ skipX r k := fun z => by
    conv => lhs; rw [e]
    exact List.mem_append
  have hskip : x ∈ skipX r k ↔ x ∈ k := by
    rw [hk2]
    constructor
    · exact .inr
    · rintro (q | q)
      · have h1 := (hA x q).2
        have h2 := cX_flip x r
        omega
      · exact q
  unfold restK
  split
  · rename_i ht
    rw [← hskip]
    cases hk : skipX r k with
    | nil => rw [hk] at ht; cases ht
    | cons y T =>
      rw [hk] at ht
      have hy : y = r := eqX_is.1 ht
      rw [List.drop_one, List.tail_cons, List.mem_cons]
      constructor
      · exact .inr
      · rintro (q | q)
        · exfalso
          rw [q, hy, cX_ord.self r] at hx
          exact absurd hx (by decide)
        · exact q
  · exact hskip
/-- the picks of the one who goes through both are what the one lacks of the other -/
theorem pick_lack : ∀ (l k : List Rrd), SetL cX l → SetL cX k → pickL (wantI l k) l l.length = lackX l k
  | [], k, _, _ => rfl
  | r :: l, k, hl, hk => by
    obtain ⟨h1, h2⟩ := List.pairwise_cons.1 hl
    have ih := pick_lack l (restK r k) h2 (restK_set hk)
    have e : pickL (wantI (r :: l) k) (r :: l) (r :: l).length = (if wantK r k then [r] else []) ++ pickL (wantI l (restK r k)) l l.length := by
      unfold pickL
      rw [List.length_cons, List.range_succ_eq_map, List.flatMap_cons]
      congr 1
      rw [List.flatMap_map]
      rfl
    rw [e, ih]
    have e2 : lackX (r :: l) k = (if wantK r k then [r] else []) ++ lackX l k := by
      unfold lackX
      rw [List.filter_cons]
      have : (!hasX k r) = wantK r k := by
        unfold wantK
        congr 1
        rw [Bool.eq_iff_iff, hasX_is, thereK_is hk]
      rw [this]
      cases wantK r k <;> rfl
    rw [e2]
    congr 1
    exact lackX_same fun x hx => restK_mem hk (h1 x hx)
end Go.Proofs.YtaijcoiepfjecaaGreat
namespace Go.Proofs.YtaijcoiepfjecaaGreat
set_option linter.unusedVariables false

theorem nodup_perm {α : Type} : ∀ {a b : List α}, a.Nodup → (∀ x ∈ a, x ∈ b) → b.length ≤ a.length → a.Perm b
  | [], b, _, _, hl => by
    cases b with
    | nil => exact .refl _
    | cons y b => simp at hl
  | x :: a, b, hn, hs, hl => by
    obtain ⟨hx, hn⟩ := List.nodup_cons.1 hn
    obtain ⟨s, t, e⟩ := List.append_of_mem (hs x (by simp))
    subst e
    have h1 : ∀ y ∈ a, y ∈ s ++ t := by
      intro y hy
      have := hs y (List.mem_cons_of_mem _ hy)
      rcases List.mem_append.1 this with q | q
      · exact List.mem_append.2 (.inl q)
      · rcases List.mem_cons.1 q with rfl | q
        · exact absurd hy hx
        · exact List.mem_append.2 (.inr q)
    have h2 : (s ++ t).length ≤ a.length := by
      simp only [List.length_append, List.length_cons] at hl ⊢
      omega
    exact ((nodup_perm hn h1 h2).cons x).trans List.perm_middle.symm
theorem nodup_le {α : Type} : ∀ {a b : List α}, a.Nodup → (∀ x ∈ a, x ∈ b) → a.length ≤ b.length
  | [], b, _, _ => by simp
  | x :: a, b, hn, hs => by
    obtain ⟨hx, hn⟩ := List.nodup_cons.1 hn
    obtain ⟨s, t, e⟩ := List.append_of_mem (hs x (by simp))
    subst e
    have h1 : ∀ y ∈ a, y ∈ s ++ t := by
      intro y hy
      have := hs y (List.mem_cons_of_mem _ hy)
      rcases List.mem_append.1 this with q | q
      · exact List.mem_append.2 (.inl q)
      · rcases List.mem_cons.1 q with rfl | q
        · exact absurd hy hx
        · exact List.mem_append.2 (.inr q)
    have := nodup_le hn h1
    simp only [List.length_append, List.length_cons] at this ⊢
    omega
theorem SetL.nodup {l : List Rrd} (h : SetL cX l) : l.Nodup := by
  refine List.Pairwise.imp ?_ h
  intro a b e c
  rw [c, cX_ord.self b] at e
  exact absurd e (by decide)
/-- no two are equal -/
def Dis (l : List Rrd) : Prop := l.Pairwise fun x y => cX x y ≠ 0
theorem SetL.dis {l : List Rrd} (h : SetL cX l) : Dis l := List.Pairwise.imp (fun {a b} e => by rw [e]; decide) h
theorem SetL.only {l : List Rrd} (h : SetL cX l) : ∀ {x y : Rrd}, x ∈ l → y ∈ l → cX x y = 0 → x = y := by
  induction l with
  | nil => intro x y hx; cases hx
  | cons z l ih =>
    obtain ⟨h1, h2⟩ := List.pairwise_cons.1 h
    intro x y hx hy e
    rcases List.mem_cons.1 hx with rfl | hx2
    · rcases List.mem_cons.1 hy with rfl | hy2
      · rfl
      · have := h1 y hy2; omega
    · rcases List.mem_cons.1 hy with rfl | hy2
      · have := h1 x hx2
        have := cX_flip x y
        omega
      · exact ih h2 hx2 hy2 e
theorem dis_in {l B : List Rrd} (hn : l.Nodup) (hs : ∀ x ∈ l, x ∈ B) (h : SetL cX B) : Dis l := by
  refine List.Pairwise.imp_of_mem ?_ hn
  intro a b ha hb e c
  exact e (h.only (hs a ha) (hs b hb) c)
theorem dis_nodup {l : List Rrd} (h : Dis l) : l.Nodup := by
  refine List.Pairwise.imp ?_ h
  intro a b e c
  rw [c, cX_ord.self b] at e
  exact e rfl
theorem Dis.perm {l l' : List Rrd} (h : l.Perm l') : Dis l ↔ Dis l' := by
  refine h.pairwise_iff ?_
  intro x y e c
  have := cX_flip x y
  exact e (by omega)
/-! ### the set of a list -/
theorem putX_in (r : Rrd) : ∀ l : List Rrd, r ∈ putX cX r l
  | [] => by simp [putX]
  | x :: l => by
    unfold putX
    split
    · exact List.mem_cons_of_mem _ (putX_in r l)
    · split <;> simp
theorem putX_keep {r y : Rrd} (hn : cX y r ≠ 0) : ∀ {l : List Rrd}, y ∈ l → y ∈ putX cX r l
  | x :: l, h => by
    unfold putX
    rcases List.mem_cons.1 h with rfl | h
    · split
      · simp
      · simp
    · split
      · exact List.mem_cons_of_mem _ (putX_keep hn h)
      · split
        · exact List.mem_cons_of_mem _ h
        · exact List.mem_cons_of_mem _ (List.mem_cons_of_mem _ h)
theorem ofC_all : ∀ {l : List Rrd}, Dis l → ∀ {x : Rrd}, x ∈ ofC l ↔ x ∈ l := by
  have h : ∀ (l D : List Rrd), Dis (D ++ l) → ∀ x, (x ∈ l ∨ x ∈ D) → x ∈ l.foldl (fun D r => putX cX r D) D := by
    intro l
    induction l with
    | nil => intro D _ x hx; rcases hx with hx | hx; cases hx; exact hx
    | cons r l ih =>
      intro D hd x hx
      rw [List.foldl_cons]
      have hd1 := List.pairwise_append.1 hd
      obtain ⟨h1, h2⟩ := List.pairwise_cons.1 hd1.2.1
      have hd2 : Dis (putX cX r D ++ l) := by
        refine List.pairwise_append.2 ⟨?_, h2, ?_⟩
        · have hset : ∀ (E : List Rrd), E.Pairwise (fun x y => cX x y ≠ 0) → (∀ y ∈ E, cX y r ≠ 0) → (putX cX r E).Pairwise (fun x y => cX x y ≠ 0) := by
            intro E
            induction E with
            | nil => intro _ _; simp [putX]
            | cons z E ihE =>
              intro hp hz
              obtain ⟨p1, p2⟩ := List.pairwise_cons.1 hp
              have q2 : ∀ y ∈ E, cX y r ≠ 0 := fun y hy => hz y (List.mem_cons_of_mem _ hy)
              have hzr := hz z (by simp)
              unfold putX
              split
              · refine List.pairwise_cons.2 ⟨fun y hy => ?_, ihE p2 q2⟩
                rcases putX_mem r E y hy with rfl | hy
                · exact hzr
                · exact p1 y hy
              · refine List.pairwise_cons.2 ⟨fun y hy => ?_, hp⟩
                have := hz y hy
                have := cX_flip r y
                omega
          exact hset D hd1.1 fun y hy => hd1.2.2 y hy r (by simp)
        · intro y hy z hz
          rcases putX_mem r D y hy with rfl | hy
          · exact h1 z hz
          · exact hd1.2.2 y hy z (List.mem_cons_of_mem _ hz)
      refine ih _ hd2 x ?_
      rcases hx with hx | hx
      · rcases List.mem_cons.1 hx with rfl | hx
        · exact .inr (putX_in _ _)
        · exact .inl hx
      · exact .inr (putX_keep (hd1.2.2 x hx r (by simp)) hx)
  intro l hd x
  exact ⟨ofC_mem l x, fun hx => h l [] hd x (.inl hx)⟩
theorem set_unique : ∀ {a b : List Rrd}, SetL cX a → SetL cX b → (∀ x, x ∈ a ↔ x ∈ b) → a = b
  | [], [], _, _, _ => rfl
  | [], y :: b, _, _, h => by have := (h y).2 (by simp); cases this
  | x :: a, [], _, _, h => by have := (h x).1 (by simp); cases this
  | x :: a, y :: b, ha, hb, h => by
    obtain ⟨a1, a2⟩ := List.pairwise_cons.1 ha
    obtain ⟨b1, b2⟩ := List.pairwise_cons.1 hb
    have hxy : x = y := by
      rcases List.mem_cons.1 ((h x).1 (by simp)) with e | e
      · exact e
      · rcases List.mem_cons.1 ((h y).2 (by simp)) with e' | e'
        · exact e'.symm
        · have k1 := b1 x e
          have k2 := a1 y e'
          have k3 := cX_flip x y
          omega
    subst hxy
    have hno : ∀ z, z ∈ a ∨ z ∈ b → z ≠ x := by
      rintro z (hz | hz) rfl
      · have := a1 z hz
        rw [cX_ord.self z] at this
        exact absurd this (by decide)
      · have := b1 z hz
        rw [cX_ord.self z] at this
        exact absurd this (by decide)
    rw [set_unique a2 b2 fun z => ?_]
    constructor
    · intro hz
      rcases List.mem_cons.1 ((h z).1 (List.mem_cons_of_mem _ hz)) with e | e
      · exact absurd e (hno z (.inl hz))
      · exact e
    · intro hz
      rcases List.mem_cons.1 ((h z).2 (List.mem_cons_of_mem _ hz)) with e | e
      · exact absurd e (hno z (.inr hz))
      · exact e
theorem ofC_eq {l B : List Rrd} (hd : Dis l) (hB : SetL cX B) (h : ∀ x, x ∈ l ↔ x ∈ B) : ofC l = B :=
  set_unique (ofC_set l) hB fun x => (ofC_all hd).trans (h x)

/-! ### what can be taken away -/
/-- every element of del stands for a record of its own -/
def Gone (D del : List Rrd) : Prop := (∀ x ∈ del, x ∈ D) ∧ del.Nodup
theorem filter_split (p : Rrd → Bool) (l : List Rrd) : (l.filter p).length + (l.filter fun x => !p x).length = l.length := by
  induction l with
  | nil => rfl
  | cons x l ih =>
    rw [List.filter_cons, List.filter_cons]
    cases p x <;> simp <;> omega
theorem gone_is {D del : List Rrd} (hD : SetL cX D) : (lackX D (ofC del)).length + del.length = D.length ↔ Gone D del := by
  have hsp := filter_split (hasX (ofC del)) D
  obtain ⟨I, hI⟩ : ∃ I, I = D.filter (hasX (ofC del)) := ⟨_, rfl⟩
  rw [← hI] at hsp
  have hIn : I.Nodup := by rw [hI]; exact List.Pairwise.filter _ hD.nodup
  have hIm : ∀ x, x ∈ I ↔ x ∈ D ∧ x ∈ ofC del := fun x => by rw [hI, List.mem_filter, hasX_is]
  have hOn := (ofC_set del).nodup
  have hOl := ofC_len del
  have hIl : I.length ≤ (ofC del).length := nodup_le hIn fun x hx => ((hIm x).1 hx).2
  have hL : (lackX D (ofC del)).length = D.length - I.length := by
    have : lackX D (ofC del) = D.filter fun x => !hasX (ofC del) x := rfl
    rw [this]; omega
  have hID : I.length ≤ D.length := by omega
  rw [hL]
  constructor
  · intro h
    have h1 : I.length = del.length := by omega
    have p1 : I.Perm (ofC del) := nodup_perm hIn (fun x hx => ((hIm x).1 hx).2) (by omega)
    have p2 : (ofC del).Perm del := nodup_perm hOn (ofC_mem del) (by omega)
    have p := p1.trans p2
    exact ⟨fun x hx => ((hIm x).1 (p.mem_iff.2 hx)).1, p.nodup_iff.1 hIn⟩
  · rintro ⟨h1, h2⟩
    have hd : Dis del := dis_in h2 h1 hD
    have h3 : del.length ≤ I.length := nodup_le h2 fun x hx => (hIm x).2 ⟨h1 x hx, (ofC_all hd).2 hx⟩
    omega
theorem gone_left {D del : List Rrd} (hD : SetL cX D) (h : Gone D del) : lackX D (ofC del) = lackX D del :=
  lackX_same fun x _ => ofC_all (dis_in h.2 h.1 hD)

/-! ### what clashes -/
/-- no element of add is equal to one that is left, nor to another one -/
def Fits (left add : List Rrd) : Prop := (∀ x ∈ add, oneL left x = false) ∧ Dis add
theorem adj_dis : ∀ {l : List Rrd}, Srt cX l → (∀ i x y, l[i]? = some x → l[i + 1]? = some y → cX x y ≠ 0) → Dis l
  | [], _, _ => List.Pairwise.nil
  | [x], _, _ => by simp [Dis]
  | x :: y :: l, hs, h => by
    obtain ⟨h1, h2⟩ := List.pairwise_cons.1 hs
    have hxy : cX x y = -1 := by
      have a := h 0 x y rfl rfl
      have b := h1 y (by simp)
      have c := cX_flip x y
      have d := cX_ord.range x y
      omega
    refine List.pairwise_cons.2 ⟨fun z hz => ?_, adj_dis h2 fun i a b ha hb => h (i + 1) a b ha hb⟩
    rcases List.mem_cons.1 hz with rfl | hz
    · omega
    · have := cX_ord.lt_le hxy ((List.pairwise_cons.1 h2).1 z hz)
      omega
theorem Dis.adj {l : List Rrd} (h : Dis l) {i : Nat} {x y : Rrd} (hx : l[i]? = some x) (hy : l[i + 1]? = some y) : cX x y ≠ 0 := by
  obtain ⟨h1, e1⟩ := List.getElem?_eq_some_iff.1 hx
  obtain ⟨h2, e2⟩ := List.getElem?_eq_some_iff.1 hy
  have := List.pairwise_iff_getElem.1 h i (i + 1) h1 h2 (by omega)
  rwa [e1, e2] at this
/-- what the one who looks at neighbours has found to be in order so far -/
def FitsTo (left l : List Rrd) (k : Nat) : Prop := ∀ i x, i < k → l[i]? = some x → oneL left x = false ∧ ∀ y, 0 < i → l[i - 1]? = some y → cX y x ≠ 0
theorem FitsTo.zero (left l : List Rrd) : FitsTo left l 0 := fun i x h => absurd h (Nat.not_lt_zero i)
theorem FitsTo.step {left l : List Rrd} {k : Nat} {x : Rrd} (h : FitsTo left l k) (hx : l[k]? = some x) (h1 : oneL left x = false) (h2 : ∀ y, 0 < k → l[k - 1]? = some y → cX y x ≠ 0) : FitsTo left l (k + 1) := by
  intro i z hi hz
  by_cases e : i = k
  · subst e
    rw [hx] at hz
    cases hz
    exact ⟨h1, h2⟩
  · exact h i z (by omega) hz
theorem FitsTo.all {left l add : List Rrd} (h : FitsTo left l l.length) (hs : Srt cX l) (hp : add.Perm l) : Fits left add := by
  refine ⟨fun x hx => ?_, (Dis.perm hp).2 (adj_dis hs fun i x y hx hy => ?_)⟩
  · obtain ⟨i, hi, e⟩ := List.getElem_of_mem (hp.mem_iff.1 hx)
    exact (h i x hi (by rw [List.getElem?_eq_getElem hi, e])).1
  · obtain ⟨hi, _⟩ := List.getElem?_eq_some_iff.1 hy
    exact (h (i + 1) y hi hy).2 x (by omega) (by simpa using hx)
theorem fits_hit {left l add : List Rrd} {k : Nat} {x : Rrd} (hp : add.Perm l) (hx : l[k]? = some x) (h1 : oneL left x = true) : ¬ Fits left add := by
  intro h
  have := h.1 x (hp.mem_iff.2 (List.mem_of_getElem? hx))
  rw [h1] at this
  cases this
theorem fits_one {left l add : List Rrd} {k : Nat} {x y : Rrd} (hp : add.Perm l) (hk : 0 < k) (hx : l[k]? = some x) (hy : l[k - 1]? = some y) (h1 : cX y x = 0) : ¬ Fits left add := by
  intro h
  refine Dis.adj ((Dis.perm hp).1 h.2) (i := k - 1) hy ?_ h1
  rw [show k - 1 + 1 = k by omega]; exact hx

/-! ### the difference of two sets, applied -/
theorem diff_gone (A B : List Rrd) (hA : SetL cX A) : Gone A (lackX A B) := ⟨fun x hx => (lackX_mem.1 hx).1, (lackX_set hA).nodup⟩
theorem left_mem {A B : List Rrd} {x : Rrd} : x ∈ lackX A (lackX A B) ↔ x ∈ A ∧ x ∈ B := by
  rw [lackX_mem, lackX_mem]
  constructor
  · rintro ⟨h, k⟩
    exact ⟨h, Classical.byContradiction fun q => k ⟨h, q⟩⟩
  · rintro ⟨h, k⟩
    exact ⟨h, fun q => q.2 k⟩
theorem diff_fits {A B : List Rrd} (hB : SetL cX B) : Fits (lackX A (lackX A B)) (lackX B A) := by
  refine ⟨fun x hx => ?_, (lackX_set hB).dis⟩
  cases h : oneL (lackX A (lackX A B)) x with
  | false => rfl
  | true =>
    obtain ⟨y, hy, e⟩ := oneL_is.1 h
    obtain ⟨y1, y2⟩ := left_mem.1 hy
    obtain ⟨x1, x2⟩ := lackX_mem.1 hx
    have := hB.only y2 x1 e
    rw [this] at y1
    exact absurd y1 x2
theorem diff_set {A B : List Rrd} (hA : SetL cX A) (hB : SetL cX B) : ofC (lackX A (lackX A B) ++ lackX B A) = B := by
  have hm : ∀ x, x ∈ lackX A (lackX A B) ++ lackX B A ↔ x ∈ B := by
    intro x
    rw [List.mem_append, left_mem, lackX_mem]
    constructor
    · rintro (⟨_, h⟩ | ⟨h, _⟩) <;> exact h
    · intro h
      by_cases q : x ∈ A
      · exact .inl ⟨q, h⟩
      · exact .inr ⟨h, q⟩
  refine ofC_eq (dis_in ?_ (fun x hx => (hm x).1 hx) hB) hB hm
  refine List.pairwise_append.2 ⟨(lackX_set hA).nodup, (lackX_set hB).nodup, fun x hx y hy e => ?_⟩
  obtain ⟨x1, _⟩ := left_mem.1 hx
  obtain ⟨_, y2⟩ := lackX_mem.1 hy
  rw [e] at x1
  exact y2 x1
theorem lack_self (A : List Rrd) : lackX A A = [] := by
  refine List.eq_nil_iff_forall_not_mem.2 fun x hx => ?_
  obtain ⟨h, k⟩ := lackX_mem.1 hx
  exact k h
theorem lack_both {A B : List Rrd} (hA : SetL cX A) (hB : SetL cX B) (h : lackX A B = []) (k : lackX B A = []) : A = B := by
  refine set_unique hA hB fun x => ⟨fun hx => ?_, fun hx => ?_⟩
  · refine Classical.byContradiction fun q => ?_
    have : x ∈ lackX A B := lackX_mem.2 ⟨hx, q⟩
    rw [h] at this; cases this
  · refine Classical.byContradiction fun q => ?_
    have : x ∈ lackX B A := lackX_mem.2 ⟨hx, q⟩
    rw [k] at this; cases this
/-- a difference that is one cannot be applied to what came of it -/
theorem diff_twice {A B : List Rrd} (h : ¬ (lackX A B = [] ∧ lackX B A = [])) : ¬ (Gone B (lackX A B) ∧ Fits (lackX B (lackX A B)) (lackX B A)) := by
  rintro ⟨⟨g1, _⟩, f1, _⟩
  have ha : lackX A B = [] := by
    refine List.eq_nil_iff_forall_not_mem.2 fun x hx => ?_
    exact (lackX_mem.1 hx).2 (g1 x hx)
  refine h ⟨ha, List.eq_nil_iff_forall_not_mem.2 fun x hx => ?_⟩
  have := f1 x hx
  have k : oneL (lackX B (lackX A B)) x = true := oneL_is.2 ⟨x, lackX_mem.2 ⟨(lackX_mem.1 hx).1, by rw [ha]; simp⟩, cX_ord.self x⟩
  rw [k] at this
  cases this
/-! ### the search says whether one is there -/
theorem hit_one {r : Rrd} : ∀ {D : List Rrd}, SetL cX D → hitX cX r D = oneL D r
  | [], _ => rfl
  | x :: l, h => by
    obtain ⟨h1, h2⟩ := List.pairwise_cons.1 h
    have ih := hit_one (r := r) h2
    have e : oneL (x :: l) r = (decide (cX x r = 0) || oneL l r) := rfl
    rw [e]
    unfold hitX
    by_cases c : cX x r < 0
    · rw [if_pos c, ih, decide_eq_false (by omega)]; rfl
    · rw [if_neg c]
      by_cases q : cX x r = 0
      · rw [decide_eq_true q]; rfl
      · rw [decide_eq_false q]
        cases k : oneL l r with
        | false => rfl
        | true =>
          exfalso
          obtain ⟨y, hy, hyr⟩ := oneL_is.1 k
          have a1 := h1 y hy
          have a2 := cX_flip x r
          have a3 := cX_ord.range x r
          have a4 := cX_ord.trans r x y (by omega) a1
          have a5 := cX_flip r y
          omega
theorem pickL_all : ∀ (xs : List Rrd), pickL (fun _ => true) xs xs.length = xs
  | [] => rfl
  | x :: l => by
    have ih := pickL_all l
    unfold pickL at ih ⊢
    rw [List.length_cons, List.range_succ_eq_map, List.flatMap_cons, List.flatMap_map]
    simp only [if_true, List.getElem?_cons_zero, Option.toList_some, List.getElem?_cons_succ, List.singleton_append] at ih ⊢
    rw [ih]
theorem fits_dec (left add : List Rrd) : ∃ z : Bool, (z = false ↔ Fits left add) := by
  by_cases h : Fits left add
  · exact ⟨false, by simp [h]⟩
  · exact ⟨true, by simp [h]⟩
end Go.Proofs.YtaijcoiepfjecaaGreat
namespace Go.Proofs.YtaijcoiepfjecaaGreat
open Go.RowKit Go.Op
set_option linter.unusedVariables false
attribute [local go_sem] rr_eql rr_neq rr_guard

theorem Whole.five {w : World} {g t : Nat} {x : Rrd} (h : Whole w g t #[.string x.s, .int .i64 x.t, .int .i64 x.c, .int .i64 x.l, .string x.d]) : Five w g 0 x :=
  ⟨h.cell 0, h.cell 1, h.cell 2, h.cell 3, h.cell 4⟩
abbrev rlT : TypeId := 22
/-- what is left of a list, in a variable of its own at b -/
def Cur (w : World) (B b : Nat) (ks : List Rrd) : Prop :=
  OkL ks ∧ B ≤ b ∧ ∃ A n c, Whole w b rlT #[.slice A n c] ∧ SeesR w B A n ks ∧ n ≤ c ∧ c ≤ 9223372036854775807 ∧ n ≤ 1000000
def curLen (w : World) (b : Nat) : Nat := match w.cell? ⟨b, 0, none⟩ with | some (.slice _ n _) => n | _ => 0
theorem curLen_is {w : World} {b n c : Nat} {A : Option Addr} (h : Whole w b rlT #[.slice A n c]) : curLen w b = n := by
  unfold curLen; rw [h.cell1]
theorem sees_grown {w w' : World} {B b n : Nat} {A : Option Addr} {xs : List Rrd} (h : SeesR w B A n xs) (hg : w.grownBy w' (some b)) (hB : B ≤ b) (hw : B ≤ w.heap.size) : SeesR w' B A n xs :=
  h.keep ((Below.refl B w).grown hg hw (fun k e => by cases e; exact hB))

theorem Cur.grown {w w' : World} {B b n c : Nat} {A : Option Addr} {ks : List Rrd} (hok : OkL ks) (hB : B ≤ b) (hw : Whole w b rlT #[.slice A n c]) (hs : SeesR w B A n ks) (h1 : n ≤ c) (h2 : c ≤ 9223372036854775807) (h3 : n ≤ 1000000) (hb : Below w.heap.size w w') (hBw : B ≤ w.heap.size) : Cur w' B b ks :=
  ⟨hok, hB, A, n, c, hw.below hb hw.lt, hs.keep (hb.mono hBw), h1, h2, h3⟩
theorem cur_put {w w3 : World} {B b n' c' : Nat} {A' : Option Addr} {T : List Rrd} {v : Value} (hok : OkL T) (hB : B ≤ b) (hw3 : Whole w3 b rlT #[v]) (hs : SeesR w B A' n' T) (hb : Below w.heap.size w w3) (hBw : B ≤ w.heap.size) (h1 : n' ≤ c') (h2 : c' ≤ 9223372036854775807) (h3 : n' ≤ 1000000) : Cur (w3.setCell ⟨b, 0, none⟩ (.slice A' n' c')) B b T :=
  ⟨hok, hB, A', n', c', hw3.put1 _, (hs.keep (hb.mono hBw)).keep ((Below.refl B _).setCell hB _), h1, h2, h3⟩
set_option maxHeartbeats 16000000 in
set_option maxRecDepth 20000 in
theorem want_any (B b : Nat) (ks0 : List Rrd) (r : Rrd) (w : World) (hc : Cur w B b ks0) (hr : OkX r) :
    Calls Tryz.prog 57 #[.agg #[.string r.s, .int .i64 r.t, .int .i64 r.c, .int .i64 r.l, .string r.d], .pointer (some ⟨b, 0, none⟩)] w fun e w' =>
      e = .returned (.bool (wantK r ks0)) ∧ w.grownBy w' (some b) ∧ Cur w' B b (restK r ks0) := by
  obtain ⟨p, hp⟩ : ∃ p, p = w.heap.size := ⟨_, rfl⟩
  have HP := Lib.hid hp
  have HR := Lib.hid hr
  have HBW := Lib.hid (show B ≤ w.heap.size by obtain ⟨_, hb, A, n, c, hw, _⟩ := hc; have := hw.lt; omega)
  have HPB := Lib.hid (show p ≠ b by obtain ⟨_, hb, A, n, c, hw, _⟩ := hc; have := hw.lt; omega)
  have HW0 := Lib.hid (show Whole (w.alloc (.cells #[.string r.s, .int .i64 r.t, .int .i64 r.c, .int .i64 r.l, .string r.d] 26)) p 26 #[.string r.s, .int .i64 r.t, .int .i64 r.c, .int .i64 r.l, .string r.d] by rw [hp]; exact Whole.new _ _ _)
  have HG0 := Lib.hid (show w.grownBy (w.alloc (.cells #[.string r.s, .int .i64 r.t, .int .i64 r.c, .int .i64 r.l, .string r.d] 26)) (some b) from World.grownBy_alloc _ _ _)
  have HC := Lib.hid hc
  clear hp hr hc
  go_enter Tryz.func57, Tryz.ntmps57
  go_wp2_with fail
  rw [← HP.out]
  go_loopw [] (fun wr => ∃ ks, skipX r ks0 = skipX r ks ∧ Cur wr B b ks ∧ Whole wr p 26 #[.string r.s, .int .i64 r.t, .int .i64 r.c, .int .i64 r.l, .string r.d] ∧ w.grownBy wr (some b)) (fun wr => curLen wr b)
  case atStart =>
    obtain ⟨h1, h2, A, n, c, h3, h4, h5, h6, h7⟩ := HC.out
    exact ⟨ks0, rfl, ⟨h1, h2, A, n, c, h3.alloc _, h4.keep ((Below.refl B w).grown HG0.out HBW.out (fun k e => by cases e; exact h2)), h5, h6, h7⟩, HW0.out, HG0.out⟩
  case round =>
    obtain ⟨ks, hsk, ⟨hok, hBb, A, n, c, hw, hs, hnc, hc63, hn⟩, hbox, hg⟩ := hrel
    have HSK := Lib.hid hsk
    have HOK := Lib.hid hok
    have HBB := Lib.hid hBb
    have HW := Lib.hid hw
    have HS := Lib.hid hs
    have HBX := Lib.hid hbox
    have HG := Lib.hid hg
    have HN := Lib.hid (show n = ks.length from hs.1.symm)
    clear hsk hok hBb hbox hg
    cases ks with
    | nil =>
      obtain rfl : n = 0 := HN.out
      have HEW := Lib.hid (show wantK r ks0 = true by unfold wantK; rw [HSK.out]; rfl)
      have HER := Lib.hid (show restK r ks0 = [] by unfold restK; rw [HSK.out]; rfl)
      have k0 : ∀ q : Later wr, q.val.cell? ⟨b, 0, none⟩ = some (.slice A 0 c) := fun q => (HW.out.later q).cell1
      clear hw hs
      go_wp2_with fail
      refine region_later (by kernel_rfl) ?_
      repeat (go_big_quiet_step (fail))
      refine wpQuiet_nil ?_
      rintro _ ⟨q2, rfl⟩
      have HB2 := Lib.hid q2.below
      have HW2 := Lib.hid (HW.out.later q2)
      obtain ⟨w2, hw2⟩ : ∃ w2, w2 = q2.val := ⟨_, rfl⟩
      rw [← hw2] at HB2 HW2 ⊢
      clear hw2 q2 k0
      have k1 : ∀ q : Later w2, q.val.cell? ⟨b, 0, none⟩ = some (.slice A 0 c) := fun q => (HW2.out.later q).cell1
      go_wp2_with fail
      refine region_later (by kernel_rfl) ?_
      repeat (go_big_quiet_step (fail))
      refine wpQuiet_nil ?_
      rintro _ ⟨q3, rfl⟩
      have HB3 := Lib.hid (HB2.out.trans (q3.below.mono HB2.out.size))
      go_wp2_with fail
      go_ret
      refine ⟨by rw [HEW.out]; rfl, grown_trans HG.out (grown_below HB3.out _), ?_⟩
      rw [HER.out]
      exact Cur.grown HOK.out HBB.out HW.out HS.out hnc hc63 hn HB3.out (Nat.le_trans HBW.out HG.out.size)
    | cons y T =>
      have hpos : 0 < n := by have := HN.out; simp at this; omega
      obtain ⟨bb, off, y', rfl, hbb, hy', hf0⟩ := hs.at hpos
      obtain rfl : y = y' := by simpa using hy'
      have hf : Five wr bb off y := by simpa using hf0
      have HBBL := Lib.hid (show bb < wr.heap.size from Nat.lt_of_lt_of_le hbb (Nat.le_trans HBW.out HG.out.size))
      have HBBLT := Lib.hid hbb
      have HF := Lib.hid hf
      have HYOK := Lib.hid (HOK.out y (by simp))
      have g0 : (0 : Int) < (n : Int) := by omega
      have g1 : (1 : Int) ≤ (n : Int) := by omega
      have g2 : (1 : Int) ≤ (c : Int) := by omega
      have g3 : (n : Int) ≤ (c : Int) := by omega
      have k0 : ∀ q : Later wr, q.val.cell? ⟨b, 0, none⟩ = some (.slice (some ⟨bb, off, none⟩) n c) := fun q => (HW.out.later q).cell1
      obtain ⟨d0, d1, d2, d3, d4⟩ := hf.later HBBL.out
      obtain ⟨e0, e1, e2, e3, e4⟩ := (HBX.out.five).later HBX.out.lt
      clear hw hs hbb hy' hf0 hf
      cases heq : eqX y r with
      | true =>
        have hne := rr_neq y r
        have hel := rr_eql y r
        have hgd := fun op a b => rr_guard op a b y r
        rw [heq] at hne hel
        have HSX := Lib.hid (show skipX r (y :: T) = y :: T by rw [skipX, if_neg (by simp [heq])])
        have HEW := Lib.hid (show wantK r ks0 = false by unfold wantK; rw [HSK.out, HSX.out, show thereK r (y :: T) = eqX y r from rfl, heq]; rfl)
        have HER := Lib.hid (show restK r ks0 = T by unfold restK; rw [HSK.out, HSX.out, show thereK r (y :: T) = eqX y r from rfl, if_pos heq]; rfl)
        go_wp2_with fail
        refine region_later (by kernel_rfl) ?_
        repeat (go_big_quiet_step (fail))
        refine wpQuiet_nil ?_
        rintro _ ⟨q2, rfl⟩
        have HB2 := Lib.hid q2.below
        have HW2 := Lib.hid (HW.out.later q2)
        have HF2 := Lib.hid (HF.out.keep q2.below HBBL.out)
        have HBX2 := Lib.hid (HBX.out.later q2)
        obtain ⟨w2, hw2⟩ : ∃ w2, w2 = q2.val := ⟨_, rfl⟩
        rw [← hw2] at HB2 HW2 HF2 HBX2 ⊢
        clear hw2 q2 k0 d0 d1 d2 d3 d4 e0 e1 e2 e3 e4
        have k0 : ∀ q : Later w2, q.val.cell? ⟨b, 0, none⟩ = some (.slice (some ⟨bb, off, none⟩) n c) := fun q => (HW2.out.later q).cell1
        obtain ⟨d0, d1, d2, d3, d4⟩ := HF2.out.later (Nat.lt_of_lt_of_le HBBL.out HB2.out.size)
        obtain ⟨e0, e1, e2, e3, e4⟩ := (HBX2.out.five).later HBX2.out.lt
        go_wp2_with fail
        refine region_later (by kernel_rfl) ?_
        repeat (go_big_quiet_step (fail))
        refine wpQuiet_nil ?_
        rintro _ ⟨q3, rfl⟩
        have HB3 := Lib.hid (HB2.out.trans (q3.below.mono HB2.out.size))
        have HW3 := Lib.hid (HW2.out.later q3)
        obtain ⟨w3, hw3⟩ : ∃ w3, w3 = q3.val := ⟨_, rfl⟩
        rw [← hw3] at HB3 HW3 ⊢
        clear hw3 q3 k0 d0 d1 d2 d3 d4 e0 e1 e2 e3 e4
        have f0 := HW3.out.frozen 0
        have c0 := HW3.out.cell1
        go_wp2_with fail
        case inl hcc =>
          go_ret
          refine ⟨by rw [HEW.out]; rfl, grown_trans (grown_trans HG.out (grown_below HB3.out _)) (gset _ ⟨b, 0, none⟩ _), ?_⟩
          rw [HER.out]
          refine cur_put (fun z hz => HOK.out z (List.mem_cons_of_mem _ hz)) HBB.out HW3.out (seesR_none (k := 1) (xs := y :: T) (by omega) (by have := HN.out; omega)) HB3.out (Nat.le_trans HBW.out HG.out.size) (by omega) (by omega) (by omega)
        case inr hcc =>
          go_ret
          refine ⟨by rw [HEW.out]; rfl, grown_trans (grown_trans HG.out (grown_below HB3.out _)) (gset _ ⟨b, 0, none⟩ _), ?_⟩
          rw [HER.out]
          refine cur_put (fun z hz => HOK.out z (List.mem_cons_of_mem _ hz)) HBB.out HW3.out (HS.out.drop (i := 1) (by omega)) HB3.out (Nat.le_trans HBW.out HG.out.size) (by omega) (by omega) (by omega)
      | false =>
        have hne := rr_neq y r
        have hel := rr_eql y r
        have hgd := fun op a b => rr_guard op a b y r
        rw [heq] at hne hel
        obtain ⟨Z, hZ⟩ : ∃ Z, Z = cX y r := ⟨_, rfl⟩
        have HCL := Lib.hid (show ∀ q' : Later wr, Calls Tryz.prog 58 #[.agg #[.string y.s, .int .i64 y.t, .int .i64 y.c, .int .i64 y.l, .string y.d], .agg #[.string r.s, .int .i64 r.t, .int .i64 r.c, .int .i64 r.l, .string r.d]] q'.val fun e w'' => e = .returned (.int .i64 Z) ∧ ∃ q2 : Later wr, w'' = q2.val from
          fun q' => later_call (by rw [hZ]; exact cmpC_any HYOK.out HR.out _))
        by_cases hlt : Z < 0
        · have HSX := Lib.hid (show skipX r (y :: T) = skipX r T by rw [skipX, if_pos ⟨heq, by rw [← hZ]; exact hlt⟩])
          clear hZ
          go_wp2_with fail
          refine region_later (by kernel_rfl) ?_
          repeat (go_big_quiet_step ((go_at_call 58; with_reducible exact HCL.out _)))
          refine wpQuiet_nil ?_
          rintro _ ⟨q2, rfl⟩
          have HB2 := Lib.hid q2.below
          have HW2 := Lib.hid (HW.out.later q2)
          have HBX2 := Lib.hid (HBX.out.later q2)
          obtain ⟨w2, hw2⟩ : ∃ w2, w2 = q2.val := ⟨_, rfl⟩
          rw [← hw2] at HB2 HW2 HBX2 ⊢
          clear hw2 q2 k0 d0 d1 d2 d3 d4 e0 e1 e2 e3 e4
          have f0 := HW2.out.frozen 0
          have c0 := HW2.out.cell1
          go_wp2_with fail
          have HSN := Lib.hid (show SeesR wr B (if c = 1 then some ⟨bb, off, none⟩ else some ⟨bb, off + 5, none⟩) (n - 1) T by
            split
            · exact seesR_none (k := 1) (xs := y :: T) (by omega) (by have := HN.out; omega)
            · exact HS.out.drop (i := 1) (by omega))
          go_roundw
          case rel =>
            refine ⟨T, by rw [HSK.out, HSX.out], ?_, HBX2.out.far (fun e => HPB.out e) _, grown_trans (grown_trans HG.out (grown_below HB2.out _)) (gset _ ⟨b, 0, none⟩ _)⟩
            exact cur_put (fun z hz => HOK.out z (List.mem_cons_of_mem _ hz)) HBB.out HW2.out HSN.out HB2.out (Nat.le_trans HBW.out HG.out.size) (by omega) (by omega) (by omega)
          case measure => rw [curLen_is HW.out, curLen_is (HW2.out.put1 _)]; omega
        · have HSX := Lib.hid (show skipX r (y :: T) = y :: T by rw [skipX, if_neg (by rw [← hZ]; exact fun h => hlt h.2)])
          have HEW := Lib.hid (show wantK r ks0 = true by unfold wantK; rw [HSK.out, HSX.out, show thereK r (y :: T) = eqX y r from rfl, heq]; rfl)
          have HER := Lib.hid (show restK r ks0 = y :: T by unfold restK; rw [HSK.out, HSX.out, show thereK r (y :: T) = eqX y r from rfl, heq]; rfl)
          clear hZ
          go_wp2_with fail
          refine region_later (by kernel_rfl) ?_
          repeat (go_big_quiet_step ((go_at_call 58; with_reducible exact HCL.out _)))
          refine wpQuiet_nil ?_
          rintro _ ⟨q2, rfl⟩
          have HB2 := Lib.hid q2.below
          have HW2 := Lib.hid (HW.out.later q2)
          have HF2 := Lib.hid (HF.out.keep q2.below HBBL.out)
          have HBX2 := Lib.hid (HBX.out.later q2)
          obtain ⟨w2, hw2⟩ : ∃ w2, w2 = q2.val := ⟨_, rfl⟩
          rw [← hw2] at HB2 HW2 HF2 HBX2 ⊢
          clear hw2 q2 k0 d0 d1 d2 d3 d4 e0 e1 e2 e3 e4
          have k0 : ∀ q : Later w2, q.val.cell? ⟨b, 0, none⟩ = some (.slice (some ⟨bb, off, none⟩) n c) := fun q => (HW2.out.later q).cell1
          obtain ⟨d0, d1, d2, d3, d4⟩ := HF2.out.later (Nat.lt_of_lt_of_le HBBL.out HB2.out.size)
          obtain ⟨e0, e1, e2, e3, e4⟩ := (HBX2.out.five).later HBX2.out.lt
          go_wp2_with fail
          refine region_later (by kernel_rfl) ?_
          repeat (go_big_quiet_step (fail))
          refine wpQuiet_nil ?_
          rintro _ ⟨q3, rfl⟩
          have HB3 := Lib.hid (HB2.out.trans (q3.below.mono HB2.out.size))
          have HW3 := Lib.hid (HW2.out.later q3)
          obtain ⟨w3, hw3⟩ : ∃ w3, w3 = q3.val := ⟨_, rfl⟩
          rw [← hw3] at HB3 HW3 ⊢
          clear hw3 q3 k0 d0 d1 d2 d3 d4 e0 e1 e2 e3 e4
          go_wp2_with fail
          go_ret
          refine ⟨by rw [HEW.out]; rfl, grown_trans HG.out (grown_below HB3.out _), ?_⟩
          rw [HER.out]
          exact Cur.grown HOK.out HBB.out HW.out HS.out hnc hc63 hn HB3.out (Nat.le_trans HBW.out HG.out.size)
end Go.Proofs.YtaijcoiepfjecaaGreat
namespace Go.Proofs.YtaijcoiepfjecaaGreat
open Go.RowKit Go.Op
set_option linter.unusedVariables false

theorem grown_low {w W w' : World} {row : Option Nat} (h : w.grownBy W row) (k : Below w.heap.size W w') (hs : W.heap.size ≤ w'.heap.size) : w.grownBy w' row :=
  ⟨k.os.trans h.os, k.tape.trans h.tape, k.output.trans h.output, Nat.le_trans h.size hs, fun j hj hne => (k.block j hj).trans (h.block j hj hne)⟩
theorem grown_none {w w' : World} (h : w.grownBy w' none) : Below w.heap.size w w' := (Below.refl _ _).grown h (Nat.le_refl _) (fun k e => by cases e)
theorem own_row {w w' : World} {base : Nat} {row : Option Nat} {e : TypeId} {k n : Nat} {v : Value} {xs : List Value} (h : w.ownsRow base e k v n xs) (hg : w.grownBy w' row) (hr : ∀ r, row = some r → r < base) : w'.ownsRow base e k v n xs := by
  refine h.kept hg ?_
  cases hv : v.ownBlock with
  | none => exact .inl rfl
  | some j =>
    refine .inr fun c => ?_
    have := own_block_ge h j hv
    have := hr j c.symm
    omega
theorem sees_row {w w' : World} {B n : Nat} {row : Option Nat} {A : Option Addr} {xs : List Rrd} (h : SeesR w B A n xs) (hg : w.grownBy w' row) (hB : ∀ r, row = some r → B ≤ r) (hw : B ≤ w.heap.size) : SeesR w' B A n xs :=
  h.keep ((Below.refl B w).grown hg hw hB)

set_option maxHeartbeats 16000000 in
set_option maxRecDepth 20000 in
theorem dpick1_any (fid : Nat) (p : Value) (hent : ∀ (args : Array Value) (w : World), (callFunc fid args).run Tryz.prog w = .ok (.enter fid args) w) (f : Nat → Bool) (J : Nat → World → Prop) (row : Option Nat) (B : Nat) (A : Option Addr) (n c : Nat) (xs : List Rrd) (w : World) (hx : SeesR w B A n xs) (hBr : ∀ r, row = some r → B ≤ r) (hBw : B ≤ w.heap.size) (hrw : ∀ r, row = some r → r < w.heap.size) (hn : n ≤ 1000000)
    (hJ : J 0 w) (hkeep : ∀ k wr w', J k wr → Below w.heap.size wr w' → J k w')
    (hf : ∀ (k : Nat) (x : Rrd) (wr : World), xs[k]? = some x → J k wr → Calls Tryz.prog fid #[.agg #[.string x.s, .int .i64 x.t, .int .i64 x.c, .int .i64 x.l, .string x.d], p] wr fun e w' => e = .returned (.bool (f k)) ∧ wr.grownBy w' row ∧ J (k + 1) w') :
    Calls Tryz.prog 56 #[.slice A n c, .func (.func fid) #[] #[p]] w fun e w' =>
      ∃ v, e = .returned v ∧ w'.ownsRow w.heap.size 26 5 v (pickL f xs n).length (rcells (pickL f xs n)) ∧ w.grownBy w' row := by
  have HX := Lib.hid hx
  have HF := Lib.hid hf
  have HENT := Lib.hid hent
  have HJ := Lib.hid hJ
  have HKEEP := Lib.hid hkeep
  have HBR := Lib.hid hBr
  have HBW := Lib.hid hBw
  have HRW := Lib.hid hrw
  clear hx hf hent hJ hkeep hBr hrw hBw
  go_enter Tryz.func56, Tryz.ntmps56
  go_wp2_with fail
  go_loopw [5, 10] (fun v i wr => ∃ k : Nat, k ≤ n ∧ i = .int .i64 (k : Nat) ∧ wr.ownsRow w.heap.size 26 5 v (pickL f xs k).length (rcells (pickL f xs k)) ∧ J k wr ∧ w.grownBy wr row) (fun _ i _ => n - (intOf i).toNat)
  case atStart => exact ⟨0, Nat.zero_le _, rfl, own_nil _ _ _ _, HJ.out, World.grownBy.refl _ _⟩
  case round =>
    obtain ⟨k, hk, rfl, hO, hj, hG⟩ := hrel
    have HO := Lib.hid hO
    have HG := Lib.hid hG
    have HJK := Lib.hid hj
    clear hO hG hj
    by_cases hkn : k < n
    · have g2 : (k : Int) < (n : Int) := by omega
      have g0 : (0 : Int) ≤ (k : Int) := by omega
      obtain ⟨b, off, x, rfl, hb, hxk, ht⟩ := (sees_row HX.out HG.out HBR.out HBW.out).at hkn
      obtain ⟨x0, x1, x2, x3, x4⟩ := ht
      have HST := Lib.hid (pickL_step f hxk)
      have HXK := Lib.hid hxk
      obtain ⟨g, hg⟩ : ∃ g, g = wr.heap.size := ⟨_, rfl⟩
      have HBX := Lib.hid (show Whole (wr.alloc (.cells #[.string x.s, .int .i64 x.t, .int .i64 x.c, .int .i64 x.l, .string x.d] 26)) g 26 #[.string x.s, .int .i64 x.t, .int .i64 x.c, .int .i64 x.l, .string x.d] by rw [hg]; exact Whole.new _ _ _)
      have HGA := Lib.hid (show w.grownBy (wr.alloc (.cells #[.string x.s, .int .i64 x.t, .int .i64 x.c, .int .i64 x.l, .string x.d] 26)) row from grown_trans HG.out (World.grownBy_alloc _ _ _))
      have HOA := Lib.hid (HO.out.alloc (.cells #[.string x.s, .int .i64 x.t, .int .i64 x.c, .int .i64 x.l, .string x.d] 26))
      have HJA := Lib.hid (HKEEP.out k wr (wr.alloc (.cells #[.string x.s, .int .i64 x.t, .int .i64 x.c, .int .i64 x.l, .string x.d] 26)) HJK.out ((Below.refl _ _).alloc HG.out.size _))
      have HLE := Lib.hid (show (pickL f xs k).length + 1 ≤ 1073741824 by have := pickL_le f xs k; omega)
      have HGR := Lib.hid (show some g ≠ row from fun e => by have := HRW.out g e.symm; have := HG.out.size; omega)
      have HGG := Lib.hid hg
      clear hxk hg
      go_wp2_with fail
      rw [← HGG.out]
      rw [HENT.out, Oper.upon_enter]
      refine (HF.out k x _ HXK.out HJA.out).mono ?_
      rintro e w1 ⟨rfl, hg1, hj1⟩
      have HO1 := Lib.hid (own_row HOA.out hg1 HRW.out)
      have HG1 := Lib.hid (grown_trans HGA.out hg1)
      have HF1 := Lib.hid (HBX.out.grown hg1 HGR.out)
      have HJ1 := Lib.hid hj1
      clear hg1 hj1 x0 x1 x2 x3 x4
      cases hfk : f k with
      | false =>
        have HS2 := Lib.hid (show pickL f xs (k + 1) = pickL f xs k by rw [HST.out, hfk]; simp)
        go_wp2_with fail
        go_roundw
        case rel => exact ⟨k + 1, by omega, by go_num, by rw [HS2.out]; exact HO1.out, HJ1.out, HG1.out⟩
        case measure => simp [intOf]; omega
      | true =>
        have HS2 := Lib.hid (show pickL f xs (k + 1) = pickL f xs k ++ [x] by rw [HST.out, hfk]; simp)
        obtain ⟨x0, x1, x2, x3, x4⟩ := HF1.out.five
        have HQ3 := Lib.hid (HO1.out.alloc (.cells #[.string x.s, .int .i64 x.t, .int .i64 x.c, .int .i64 x.l, .string x.d] 26))
        have HG3 := Lib.hid (show w.grownBy (w1.alloc (.cells #[.string x.s, .int .i64 x.t, .int .i64 x.c, .int .i64 x.l, .string x.d] 26)) row from grown_trans HG1.out (World.grownBy_alloc _ _ _))
        have HJ3 := Lib.hid (HKEEP.out (k + 1) w1 (w1.alloc (.cells #[.string x.s, .int .i64 x.t, .int .i64 x.c, .int .i64 x.l, .string x.d] 26)) HJ1.out ((Below.refl _ _).alloc HG1.out.size _))
        have HA3 := Lib.hid (show w.heap.size ≤ (w1.alloc (.cells #[.string x.s, .int .i64 x.t, .int .i64 x.c, .int .i64 x.l, .string x.d] 26)).heap.size from HG3.out.size)
        go_wp2_with (at_builtin; (refine wpList_append_R rfl _ _ rfl w.heap.size _ _ (pickL f xs k) rfl HQ3.out (w1.heap.size + 1) _ _ _ _ rfl (SeesR.one _ x) HLE.out HA3.out ?_); intro v3 w3 ho hg; (have HO3 := Lib.hid (show w3.ownsRow w.heap.size 26 5 v3 (pickL f xs k ++ [x]).length (rcells (pickL f xs k ++ [x])) by simpa using ho)); (have HL3 := Lib.hid ((Below.refl w.heap.size _).grown hg HA3.out (own_block_ge HQ3.out))); (have HZ3 := Lib.hid hg.size); clear ho hg x0 x1 x2 x3 x4)
        go_roundw
        case rel => exact ⟨k + 1, by omega, by go_num, by rw [HS2.out]; exact HO3.out, HKEEP.out _ _ _ HJ3.out HL3.out, grown_low HG3.out HL3.out HZ3.out⟩
        case measure => simp [intOf]; omega
    · obtain rfl : k = n := by omega
      have g2 : ¬ ((k : Int) < (k : Int)) := by omega
      go_wp2_with fail
      go_ret
      exact ⟨_, rfl, HO.out, HG.out⟩

set_option maxHeartbeats 16000000 in
set_option maxRecDepth 20000 in
theorem dpick0_any (fid : Nat) (hent : ∀ (args : Array Value) (w : World), (callFunc fid args).run Tryz.prog w = .ok (.enter fid args) w) (f : Nat → Bool) (J : Nat → World → Prop) (row : Option Nat) (B : Nat) (A : Option Addr) (n c : Nat) (xs : List Rrd) (w : World) (hx : SeesR w B A n xs) (hBr : ∀ r, row = some r → B ≤ r) (hBw : B ≤ w.heap.size) (hrw : ∀ r, row = some r → r < w.heap.size) (hn : n ≤ 1000000)
    (hJ : J 0 w) (hkeep : ∀ k wr w', J k wr → Below w.heap.size wr w' → J k w')
    (hf : ∀ (k : Nat) (x : Rrd) (wr : World), xs[k]? = some x → J k wr → Calls Tryz.prog fid #[.agg #[.string x.s, .int .i64 x.t, .int .i64 x.c, .int .i64 x.l, .string x.d]] wr fun e w' => e = .returned (.bool (f k)) ∧ wr.grownBy w' row ∧ J (k + 1) w') :
    Calls Tryz.prog 56 #[.slice A n c, .func (.func fid) #[] #[]] w fun e w' =>
      ∃ v, e = .returned v ∧ w'.ownsRow w.heap.size 26 5 v (pickL f xs n).length (rcells (pickL f xs n)) ∧ w.grownBy w' row := by
  have HX := Lib.hid hx
  have HF := Lib.hid hf
  have HENT := Lib.hid hent
  have HJ := Lib.hid hJ
  have HKEEP := Lib.hid hkeep
  have HBR := Lib.hid hBr
  have HBW := Lib.hid hBw
  have HRW := Lib.hid hrw
  clear hx hf hent hJ hkeep hBr hrw hBw
  go_enter Tryz.func56, Tryz.ntmps56
  go_wp2_with fail
  go_loopw [5, 10] (fun v i wr => ∃ k : Nat, k ≤ n ∧ i = .int .i64 (k : Nat) ∧ wr.ownsRow w.heap.size 26 5 v (pickL f xs k).length (rcells (pickL f xs k)) ∧ J k wr ∧ w.grownBy wr row) (fun _ i _ => n - (intOf i).toNat)
  case atStart => exact ⟨0, Nat.zero_le _, rfl, own_nil _ _ _ _, HJ.out, World.grownBy.refl _ _⟩
  case round =>
    obtain ⟨k, hk, rfl, hO, hj, hG⟩ := hrel
    have HO := Lib.hid hO
    have HG := Lib.hid hG
    have HJK := Lib.hid hj
    clear hO hG hj
    by_cases hkn : k < n
    · have g2 : (k : Int) < (n : Int) := by omega
      have g0 : (0 : Int) ≤ (k : Int) := by omega
      obtain ⟨b, off, x, rfl, hb, hxk, ht⟩ := (sees_row HX.out HG.out HBR.out HBW.out).at hkn
      obtain ⟨x0, x1, x2, x3, x4⟩ := ht
      have HST := Lib.hid (pickL_step f hxk)
      have HXK := Lib.hid hxk
      obtain ⟨g, hg⟩ : ∃ g, g = wr.heap.size := ⟨_, rfl⟩
      have HBX := Lib.hid (show Whole (wr.alloc (.cells #[.string x.s, .int .i64 x.t, .int .i64 x.c, .int .i64 x.l, .string x.d] 26)) g 26 #[.string x.s, .int .i64 x.t, .int .i64 x.c, .int .i64 x.l, .string x.d] by rw [hg]; exact Whole.new _ _ _)
      have HGA := Lib.hid (show w.grownBy (wr.alloc (.cells #[.string x.s, .int .i64 x.t, .int .i64 x.c, .int .i64 x.l, .string x.d] 26)) row from grown_trans HG.out (World.grownBy_alloc _ _ _))
      have HOA := Lib.hid (HO.out.alloc (.cells #[.string x.s, .int .i64 x.t, .int .i64 x.c, .int .i64 x.l, .string x.d] 26))
      have HJA := Lib.hid (HKEEP.out k wr (wr.alloc (.cells #[.string x.s, .int .i64 x.t, .int .i64 x.c, .int .i64 x.l, .string x.d] 26)) HJK.out ((Below.refl _ _).alloc HG.out.size _))
      have HLE := Lib.hid (show (pickL f xs k).length + 1 ≤ 1073741824 by have := pickL_le f xs k; omega)
      have HGR := Lib.hid (show some g ≠ row from fun e => by have := HRW.out g e.symm; have := HG.out.size; omega)
      have HGG := Lib.hid hg
      clear hxk hg
      go_wp2_with fail
      rw [← HGG.out]
      rw [HENT.out, Oper.upon_enter]
      refine (HF.out k x _ HXK.out HJA.out).mono ?_
      rintro e w1 ⟨rfl, hg1, hj1⟩
      have HO1 := Lib.hid (own_row HOA.out hg1 HRW.out)
      have HG1 := Lib.hid (grown_trans HGA.out hg1)
      have HF1 := Lib.hid (HBX.out.grown hg1 HGR.out)
      have HJ1 := Lib.hid hj1
      clear hg1 hj1 x0 x1 x2 x3 x4
      cases hfk : f k with
      | false =>
        have HS2 := Lib.hid (show pickL f xs (k + 1) = pickL f xs k by rw [HST.out, hfk]; simp)
        go_wp2_with fail
        go_roundw
        case rel => exact ⟨k + 1, by omega, by go_num, by rw [HS2.out]; exact HO1.out, HJ1.out, HG1.out⟩
        case measure => simp [intOf]; omega
      | true =>
        have HS2 := Lib.hid (show pickL f xs (k + 1) = pickL f xs k ++ [x] by rw [HST.out, hfk]; simp)
        obtain ⟨x0, x1, x2, x3, x4⟩ := HF1.out.five
        have HQ3 := Lib.hid (HO1.out.alloc (.cells #[.string x.s, .int .i64 x.t, .int .i64 x.c, .int .i64 x.l, .string x.d] 26))
        have HG3 := Lib.hid (show w.grownBy (w1.alloc (.cells #[.string x.s, .int .i64 x.t, .int .i64 x.c, .int .i64 x.l, .string x.d] 26)) row from grown_trans HG1.out (World.grownBy_alloc _ _ _))
        have HJ3 := Lib.hid (HKEEP.out (k + 1) w1 (w1.alloc (.cells #[.string x.s, .int .i64 x.t, .int .i64 x.c, .int .i64 x.l, .string x.d] 26)) HJ1.out ((Below.refl _ _).alloc HG1.out.size _))
        have HA3 := Lib.hid (show w.heap.size ≤ (w1.alloc (.cells #[.string x.s, .int .i64 x.t, .int .i64 x.c, .int .i64 x.l, .string x.d] 26)).heap.size from HG3.out.size)
        go_wp2_with (at_builtin; (refine wpList_append_R rfl _ _ rfl w.heap.size _ _ (pickL f xs k) rfl HQ3.out (w1.heap.size + 1) _ _ _ _ rfl (SeesR.one _ x) HLE.out HA3.out ?_); intro v3 w3 ho hg; (have HO3 := Lib.hid (show w3.ownsRow w.heap.size 26 5 v3 (pickL f xs k ++ [x]).length (rcells (pickL f xs k ++ [x])) by simpa using ho)); (have HL3 := Lib.hid ((Below.refl w.heap.size _).grown hg HA3.out (own_block_ge HQ3.out))); (have HZ3 := Lib.hid hg.size); clear ho hg x0 x1 x2 x3 x4)
        go_roundw
        case rel => exact ⟨k + 1, by omega, by go_num, by rw [HS2.out]; exact HO3.out, HKEEP.out _ _ _ HJ3.out HL3.out, grown_low HG3.out HL3.out HZ3.out⟩
        case measure => simp [intOf]; omega
    · obtain rfl : k = n := by omega
      have g2 : ¬ ((k : Int) < (k : Int)) := by omega
      go_wp2_with fail
      go_ret
      exact ⟨_, rfl, HO.out, HG.out⟩

set_option maxHeartbeats 16000000 in
set_option maxRecDepth 20000 in
theorem without_any (A A2 : Option Addr) (n c n2 c2 : Nat) (xs ks : List Rrd) (w : World) (hx : SeesR w w.heap.size A n xs) (hk : SeesR w w.heap.size A2 n2 ks) (hcap : InCap A2 n2 c2) (ox : OkL xs) (ok : OkL ks) (sx : SetL cX xs) (sk : SetL cX ks) (hn : n ≤ 1000000) (hn2 : n2 ≤ 1000000) :
    Calls Tryz.prog 28 #[.slice A n c, .slice A2 n2 c2] w fun e w' =>
      ∃ v, e = .returned v ∧ w'.ownsRow w.heap.size 26 5 v (lackX xs ks).length (rcells (lackX xs ks)) ∧ Below w.heap.size w w' := by
  obtain ⟨b, hb⟩ : ∃ b, b = w.heap.size := ⟨_, rfl⟩
  have HB := Lib.hid hb
  have HW := Lib.hid (show Whole (w.alloc (.cells #[.slice A2 n2 c2] rlT)) b rlT #[.slice A2 n2 c2] by rw [hb]; exact Whole.new _ _ _)
  have HB0 := Lib.hid (show Below w.heap.size w (w.alloc (.cells #[.slice A2 n2 c2] rlT)) from (Below.refl _ _).alloc (Nat.le_refl _) _)
  have HX := Lib.hid (show SeesR (w.alloc (.cells #[.slice A2 n2 c2] rlT)) b A n xs by rw [hb]; exact hx.keep HB0.out)
  have HK := Lib.hid (show SeesR (w.alloc (.cells #[.slice A2 n2 c2] rlT)) b A2 n2 ks by rw [hb]; exact hk.keep HB0.out)
  have HC := Lib.hid (show Cur (w.alloc (.cells #[.slice A2 n2 c2] rlT)) b b ks from ⟨ok, Nat.le_refl _, A2, n2, c2, HW.out, HK.out, hcap.1, hcap.2.1, hn2⟩)
  have HS := Lib.hid (show b < (w.alloc (.cells #[.slice A2 n2 c2] rlT)).heap.size by rw [hb]; simp)
  have HLX := Lib.hid hx.1
  have HOX := Lib.hid ox
  have HPL := Lib.hid (pick_lack xs ks sx sk)
  clear hx hk hcap ox ok sx sk hb
  go_enter Tryz.func28, Tryz.ntmps28
  go_wp2_with fail
  rw [← HB.out]
  refine (dpick1_any 57 (.pointer (some ⟨b, 0, none⟩)) (enters_of Tryz.func57 (by kernel_rfl) rfl) (wantI xs ks) (fun k wr => Cur wr b b (stK xs ks k)) (some b) b A n c xs _ HX.out (fun r e => by cases e; exact Nat.le_refl _) (Nat.le_of_lt HS.out) (fun r e => by cases e; exact HS.out) hn HC.out ?_ ?_).mono ?_
  · rintro k wr w' ⟨h1, h2, A', n', c', h3, h4, h5⟩ hB
    exact ⟨h1, h2, A', n', c', h3.below hB HS.out, h4.keep (hB.mono (Nat.le_of_lt HS.out)), h5⟩
  · intro k x wr hxk hj
    refine (want_any b b _ x wr hj (HOX.out.at hxk)).mono ?_
    rintro e w' ⟨rfl, h1, h2⟩
    refine ⟨?_, h1, ?_⟩
    · unfold wantI; rw [hxk]
    · rw [stK_step hxk]; exact h2
  · rintro e w1 ⟨v, rfl, ho, hg⟩
    have HO := Lib.hid (own_less ho (b' := w.heap.size) HB0.out.size)
    have HG := Lib.hid (HB0.out.grown hg HB0.out.size (fun k e => by cases e; rw [HB.out]; exact Nat.le_refl _))
    clear ho hg
    go_wp2_with fail
    go_ret
    refine ⟨v, rfl, ?_, HG.out⟩
    have := HO.out
    rw [← HLX.out, HPL.out] at this
    exact this
end Go.Proofs.YtaijcoiepfjecaaGreat
