/- The visitors that write to a builder; Read, Right, Fold. No statement of the seat is proved here. -/
import Derived.Test.YtdanncclnhkmgaaRdaD
import Derived.Test.YtdanncclnhkmgaaRdaB
import Derived.Shelf.Abstract
namespace Go.Proofs.Ytdanncclnhkmgaa
open Go.RowKit

theorem Bd.whole {B b : Nat} {w w' : World} {v v' : Value} {l : List UInt8} {g t : Nat} {cs : Array Value} (hp : Bd B w b v l) (hw : Whole w g t cs) (hk : Kp b b v v' w w') (h1 : t ≠ bdT) (h2 : t ≠ 5) : Whole w' g t cs := by
  have hgb : g ≠ b := by
    rintro rfl
    obtain ⟨p, _, hb⟩ := hp.blk
    rw [hw] at hb
    injection hb with hb
    injection hb with _ hb _
    exact absurd hb h1
  exact (hk.block g hw.lt hgb hgb (Lib.ownBlock_neF hp.row hw h2)).trans hw
theorem cut_len {M : List UInt8} {e p : Nat} {k : Int} {r : List UInt8 × Nat} (h : cutP M e k p = some r) : r.1.length ≤ 255 + M.length := by
  have hseg : ∀ a b, (seg M a b).length ≤ M.length := fun a b => by simp [seg]; omega
  have hnm : ∀ r, nm M e p = some r → r.1.length ≤ 255 := fun r hr => by
    obtain ⟨⟨L, hL⟩, _⟩ := nm_is hr
    exact (nameL_is hL).2.2
  unfold cutP at h
  split at h
  · have := hnm _ h; omega
  · split at h
    · split at h
      · rename_i r' hr
        split at h
        · injection h with h; subst h; have := hnm _ hr; omega
        · cases h
      · cases h
    · split at h
      · split at h
        · injection h with h; subst h; have := hseg p e; simp only; omega
        · cases h
      · split at h
        · injection h with h; subst h; have := hseg p e; simp only; omega
        · split at h
          · injection h with h; subst h; have := hseg p (p + k.toNat); simp only; omega
          · cases h
theorem steps_len {M : List UInt8} {e : Nat} : ∀ (ks : List Int) (p : Nat), (cat (steps M e ks p).1).length ≤ ks.length * (255 + M.length) := by
  intro ks
  induction ks with
  | nil => intro p; simp [steps_nil, cat]
  | cons k ks ih =>
    intro p
    cases hc : cutP M e k p with
    | none => rw [steps_no hc]; simp [cat]
    | some r =>
      rw [steps_yes hc, cat_cons, List.length_append, List.length_cons, Nat.add_mul]
      have h1 := cut_len hc
      have h2 := ih r.2
      omega
theorem steps_few {M : List UInt8} (hM : M.length ≤ 1000000) (e p : Nat) (t : Int) : (cat (steps M e (partsP t) p).1).length ≤ 4000000 := by
  have h1 := steps_len (M := M) (e := e) (partsP t) p
  have h2 := parts_few t
  have h3 : (partsP t).length * (255 + M.length) ≤ 3 * 1000255 := Nat.mul_le_mul h2 (by omega)
  omega
theorem cat_append (a b : Vis) : cat (a ++ b) = cat a ++ cat b := by simp [cat]
theorem cat_pre {a V : Vis} (h : a <+: V) : (cat a).length ≤ (cat V).length := by
  obtain ⟨b, rfl⟩ := h
  rw [cat_append, List.length_append]; omega
theorem fold_len (V : Vis) : (cat (V.map foldB1)).length ≤ (cat V).length := by
  induction V with
  | nil => simp
  | cons x V ih =>
    obtain ⟨k, b⟩ := x
    have e : foldB1 (k, b) = ((foldB1 (k, b)).1, (foldB1 (k, b)).2) := rfl
    have h1 : (foldB1 (k, b)).2.length ≤ b.length := by
      unfold foldB1
      split
      · simp only
        cases hn : nameL b with
        | none => rw [foldL_none hn]; simp
        | some L => rw [(foldL_some hn).1, lowS_len]; omega
      · simp
    rw [List.map_cons, e, cat_cons, cat_cons, List.length_append, List.length_append]
    omega

/-- a builder that takes what is seen -/
def JB (h : Vis → List UInt8) (b : Nat) (w0 : World) (vs : Vis) (W : World) : Prop := ∃ v, Bd w0.heap.size W b v (h vs) ∧ Below w0.heap.size w0 W
theorem JB.step {h : Vis → List UInt8} {b : Nat} {w0 : World} {vs : Vis} {W W' : World} (hj : JB h b w0 vs W) (hb : Below W.heap.size W W') : JB h b w0 vs W' := by
  obtain ⟨v, h1, h2⟩ := hj
  exact ⟨v, h1.same hb, h2.trans (hb.mono h2.size)⟩

set_option maxHeartbeats 1000000 in
set_option maxRecDepth 20000 in
theorem vis_read (V : Vis) (b : Nat) (w0 : World) (hV : (cat V).length ≤ 4000000) : Vst 90 (.pointer (some ⟨b, 0, none⟩)) V (JB cat b w0) where
  enter := enters_of Try.func90 (by kernel_rfl) rfl
  below := fun vs w w' h hb => h.step hb
  call := fun vs k s w hp ⟨v, h1, h2⟩ => by
    have hl : (cat vs).length + (mk s).size ≤ 1000000000 := by
      have := cat_pre hp
      rw [cat_snoc, List.length_append] at this
      rw [mk_size]; omega
    have H1 := Lib.hid h1
    have H2 := Lib.hid h2
    clear h1 h2 hp
    go_enter Try.func90, Try.ntmps90
    go_wp2_with fail
    refine (writeB_any H1.out (mk s) hl H2.out.size).mono ?_
    rintro e w1 ⟨rfl, v', h3, h4⟩
    go_wp2_with fail
    go_end0
    refine ⟨rfl, ⟨v', by rw [cat_snoc]; exact h3, H2.out.trans (H1.out.below h4 H2.out.size)⟩, fun g cs hw => H1.out.whole hw h4 (by decide) (by decide)⟩

set_option maxHeartbeats 1000000 in
set_option maxRecDepth 20000 in
theorem vis_fold (V : Vis) (b : Nat) (w0 : World) (hV : (cat V).length ≤ 4000000) : Vst 62 (.pointer (some ⟨b, 0, none⟩)) V (JB (fun V => cat (V.map foldB1)) b w0) where
  enter := enters_of Try.func62 (by kernel_rfl) rfl
  below := fun vs w w' h hb => h.step hb
  call := fun vs k s w hp ⟨v, h1, h2⟩ => by
    have hl0 : (cat vs).length + s.length ≤ 4000000 := by
      have := cat_pre hp
      rw [cat_snoc, List.length_append] at this
      omega
    have hsn : cat ((vs ++ [(k, s)]).map foldB1) = cat (vs.map foldB1) ++ (foldB1 (k, s)).2 := by
      rw [List.map_append, cat_append]; simp [cat]
    have hll : (cat ((vs ++ [(k, s)]).map foldB1)).length ≤ 4000000 := by
      have := fold_len (vs ++ [(k, s)])
      rw [cat_snoc, List.length_append] at this
      omega
    rw [hsn, List.length_append] at hll
    simp only at h1
    have H1 := Lib.hid h1
    have H2 := Lib.hid h2
    have HSN := Lib.hid hsn
    clear h1 h2 hp hsn
    by_cases hk : k = -1 ∨ k = -2
    · have hf : (foldB1 (k, s)).2 = foldL s := by unfold foldB1; simp only; rw [if_pos hk]
      rw [hf] at hll
      have HF := Lib.hid hf
      clear hf
      rcases hk with rfl | rfl
      all_goals (
        go_enter Try.func62, Try.ntmps62
        go_wp2_with fail
        refine (Fold_any (mk s) s _ rfl (by omega)).mono ?_
        rintro e w1 ⟨rfl, hB⟩
        have H1' := Lib.hid (H1.out.same hB)
        have H2' := Lib.hid (H2.out.trans (hB.mono H2.out.size))
        have HB := Lib.hid hB
        clear hB
        go_wp2_with fail
        refine (writeB_any H1'.out (mk (foldL s)) (by rw [mk_size]; omega) H2'.out.size).mono ?_
        rintro e w2 ⟨rfl, v', h3, h4⟩
        go_wp2_with fail
        go_end0
        refine ⟨rfl, ⟨v', by simp only; rw [HSN.out, HF.out]; exact h3, H2'.out.trans (H1'.out.below h4 H2'.out.size)⟩, fun g cs hw => H1'.out.whole (hw.below HB.out hw.lt) h4 (by decide) (by decide)⟩)
    · have hf : (foldB1 (k, s)).2 = s := by unfold foldB1; simp only; rw [if_neg hk]
      rw [hf] at hll
      have HF := Lib.hid hf
      have k1 : (k == -1) = false := by rw [beq_eq_false_iff_ne]; omega
      have k2 : (k == -2) = false := by rw [beq_eq_false_iff_ne]; omega
      clear hf hk
      go_enter Try.func62, Try.ntmps62
      go_wp2_with fail
      refine (writeB_any H1.out (mk s) (by rw [mk_size]; omega) H2.out.size).mono ?_
      rintro e w2 ⟨rfl, v', h3, h4⟩
      go_wp2_with fail
      go_end0
      refine ⟨rfl, ⟨v', by simp only; rw [HSN.out, HF.out]; exact h3, H2.out.trans (H1.out.below h4 H2.out.size)⟩, fun g cs hw => H1.out.whole hw h4 (by decide) (by decide)⟩
end Go.Proofs.Ytdanncclnhkmgaa
