/- RsO: texts RsO of our own, joined. No statement of the seat is proved here. -/
import Derived.Test.YtaijcoiepfjecaaGreatRsS
namespace Go.Proofs.YtaijcoiepfjecaaGreat

theorem ordAll : OrdOn cX (fun _ => True) where
  range := cX_ord.range
  flip := cX_ord.flip
  three x y z _ _ _ := cX_three x y z

/-- the last of each run of equals -/
def lastX : List Rrd → List Rrd
  | [] => []
  | [x] => [x]
  | x :: y :: l => if cX x y = 0 then lastX (y :: l) else x :: lastX (y :: l)
/-- r put behind all that do not come after it -/
def insS (r : Rrd) : List Rrd → List Rrd
  | [] => [r]
  | x :: D => if cX r x = -1 then r :: x :: D else x :: insS r D
def srtX (l : List Rrd) : List Rrd := l.foldl (fun D r => insS r D) []
def ofC (l : List Rrd) : List Rrd := l.foldl (fun D r => putX cX r D) []
/-- the head of what is left is equal to the head -/
theorem lastX_head : ∀ (l : List Rrd) (x : Rrd), ∃ h T, lastX (x :: l) = h :: T ∧ cX x h = 0
  | [], x => ⟨x, [], rfl, cX_ord.self x⟩
  | y :: l, x => by
    obtain ⟨h, T, e, k⟩ := lastX_head l y
    unfold lastX
    by_cases c : cX x y = 0
    · rw [if_pos c, e]
      exact ⟨h, T, rfl, by rw [cX_ord.same x y h c]; exact k⟩
    · rw [if_neg c]
      exact ⟨x, _, rfl, cX_ord.self x⟩
theorem putX_front {r x h : Rrd} {T : List Rrd} (hx : cX x h = 0) (hr : cX r x = -1) : putX cX r (h :: T) = r :: h :: T := by
  have h1 : cX r h = -1 := by rw [← cX_ord.same' r hx]; exact hr
  have h2 := cX_flip h r
  unfold putX
  rw [if_neg (by omega), if_neg (by omega)]
theorem lastX_ins (r : Rrd) : ∀ D : List Rrd, Srt cX D → lastX (insS r D) = putX cX r (lastX D)
  | [], _ => rfl
  | [x], _ => by
    unfold insS insS
    have hf := cX_flip r x
    have hg := cX_ord.range r x
    by_cases c : cX r x = -1
    · rw [if_pos c]
      simp only [lastX, putX]
      rw [if_neg (by omega), if_neg (by omega), if_neg (by omega)]
    · rw [if_neg c]
      simp only [lastX, putX]
      by_cases e : cX x r = 0
      · rw [if_pos e, if_neg (by omega), if_pos e]
      · rw [if_neg e, if_pos (by omega)]
  | x :: y :: D, hs => by
    obtain ⟨h1, h2⟩ := List.pairwise_cons.1 hs
    have ih := lastX_ins r (y :: D) h2
    have hf := cX_flip r x
    have hg := cX_ord.range r x
    by_cases c : cX r x = -1
    · have e : insS r (x :: y :: D) = r :: x :: y :: D := by rw [insS, if_pos c]
      obtain ⟨h, T, e2, k⟩ := lastX_head (y :: D) x
      rw [e, e2, putX_front k c, lastX, if_neg (by omega), e2]
    · have e : insS r (x :: y :: D) = x :: insS r (y :: D) := by rw [insS, if_neg c]
      rw [e]
      have hyx : cX y x ≠ -1 := h1 y (by simp)
      have hxy := cX_ord.range x y
      have hfy := cX_flip x y
      by_cases c2 : cX r y = -1
      · have e3 : insS r (y :: D) = r :: y :: D := by rw [insS, if_pos c2]
        obtain ⟨h, T, e4, k⟩ := lastX_head D y
        rw [e3] at ih ⊢
        have hlt : cX x y = -1 := by
          rcases hxy with q | q | q
          · exact q
          · exact absurd (by rw [cX_ord.same' r q]; exact c2) c
          · omega
        have e5 : lastX (x :: y :: D) = x :: lastX (y :: D) := by rw [lastX, if_neg (by omega)]
        rw [e5]
        have e6 : lastX (x :: r :: y :: D) = if cX x r = 0 then lastX (r :: y :: D) else x :: lastX (r :: y :: D) := by rw [lastX]
        rw [e6, ih]
        have e8 : putX cX r (x :: lastX (y :: D)) = if cX x r < 0 then x :: putX cX r (lastX (y :: D)) else if cX x r = 0 then r :: lastX (y :: D) else r :: x :: lastX (y :: D) := rfl
        rw [e8]
        by_cases q : cX x r = 0
        · rw [if_pos q, if_neg (by omega), if_pos q, e4, putX_front k c2]
        · rw [if_neg q, if_pos (by omega)]
      · have e3 : insS r (y :: D) = y :: insS r D := by rw [insS, if_neg c2]
        rw [e3] at ih ⊢
        have hyr : cX y r = -1 ∨ cX y r = 0 := by
          have := cX_ord.range r y
          have := cX_flip r y
          omega
        have e6 : lastX (x :: y :: insS r D) = if cX x y = 0 then lastX (y :: insS r D) else x :: lastX (y :: insS r D) := by rw [lastX]
        have e7 : lastX (x :: y :: D) = if cX x y = 0 then lastX (y :: D) else x :: lastX (y :: D) := by rw [lastX]
        rw [e6, e7, ih]
        by_cases q : cX x y = 0
        · rw [if_pos q, if_pos q]
        · rw [if_neg q, if_neg q]
          have hlt : cX x y = -1 := by omega
          have hxr : cX x r = -1 := by
            rcases hyr with u | u
            · exact cX_ord.trans x y r hlt u
            · rw [← cX_ord.same' x u]; exact hlt
          conv => rhs; rw [putX]
          rw [if_pos (by omega)]
theorem insS_split (r : Rrd) : ∀ D : List Rrd, Srt cX D → ∃ A B, D = A ++ B ∧ insS r D = A ++ r :: B ∧ (∀ y ∈ B, cX r y = -1) ∧ ∀ A' y, A = A' ++ [y] → cX r y ≠ -1
  | [], _ => ⟨[], [], rfl, rfl, fun y h => (by cases h), fun A' y h => (by simp at h)⟩
  | x :: D, hs => by
    obtain ⟨h1, h2⟩ := List.pairwise_cons.1 hs
    by_cases c : cX r x = -1
    · refine ⟨[], x :: D, rfl, by rw [insS, if_pos c]; rfl, fun y hy => ?_, fun A' y h => (by simp at h)⟩
      rcases List.mem_cons.1 hy with rfl | hy
      · exact c
      · exact cX_ord.lt_le c (h1 y hy)
    · obtain ⟨A, B, e1, e2, e3, e4⟩ := insS_split r D h2
      refine ⟨x :: A, B, by rw [e1]; rfl, by rw [insS, if_neg c, e2]; rfl, e3, fun A' y h => ?_⟩
      cases A' with
      | nil =>
        simp only [List.nil_append, List.cons.injEq] at h
        rw [← h.1]; exact c
      | cons z A' =>
        simp only [List.cons_append, List.cons.injEq] at h
        exact e4 A' y h.2
theorem insS_done (r : Rrd) {D l : List Rrd} (hs : Srt cX D) (h : St cX l D) : Srt cX (insS r D) ∧ St cX (l ++ [r]) (insS r D) := by
  obtain ⟨A, B, e1, e2, e3, e4⟩ := insS_split r D hs
  subst e1
  rw [e2]
  obtain ⟨k1, k2⟩ := ins_done cX_ord hs e3 e4
  exact ⟨k1, (h.append (St.refl [r])).trans k2⟩
theorem fold_srt : ∀ (l m D : List Rrd), Srt cX D → St cX m D → Srt cX (l.foldl (fun D r => insS r D) D) ∧ St cX (m ++ l) (l.foldl (fun D r => insS r D) D) ∧ lastX (l.foldl (fun D r => insS r D) D) = l.foldl (fun D r => putX cX r D) (lastX D)
  | [], m, D, hs, h => ⟨hs, by rw [List.append_nil]; exact h, rfl⟩
  | r :: l, m, D, hs, h => by
    obtain ⟨k1, k2⟩ := insS_done r hs h
    obtain ⟨h1, h2, h3⟩ := fold_srt l (m ++ [r]) (insS r D) k1 k2
    rw [lastX_ins r D hs] at h3
    refine ⟨h1, ?_, h3⟩
    rw [show m ++ r :: l = m ++ [r] ++ l by simp]
    exact h2
theorem srtX_is (l : List Rrd) : Srt cX (srtX l) ∧ St cX l (srtX l) ∧ lastX (srtX l) = ofC l := by
  have h := fold_srt l [] [] Srt.nil (St.refl [])
  exact h
/-- the last of equals, of a list in order that keeps the order of equals, make the set -/
theorem lastX_of {l D : List Rrd} (hs : Srt cX D) (h : St cX l D) : lastX D = ofC l := by
  obtain ⟨h1, h2, h3⟩ := srtX_is l
  rw [Srt.unique cX_ord hs h1 (h.symm.trans h2)]
  exact h3
end Go.Proofs.YtaijcoiepfjecaaGreat
