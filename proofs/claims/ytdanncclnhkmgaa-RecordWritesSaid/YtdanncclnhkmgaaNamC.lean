/- labelsOf: the labels, in a list of its own; Labels. -/
import Derived.Test.YtdanncclnhkmgaaNamB
import Derived.Maps.AppendAt
namespace Go.Proofs.Ytdanncclnhkmgaa
open Go.RowKit Go.Shelf

attribute [local go_sem] Oper.semAt_some

theorem text_info : (Try.prog.info? 9).map (fun i => (i.zero, i.size, i.bytes)) = some (some (.string ⟨#[]⟩), 1, 16) := by kernel_rfl
def labV (ps : List Pair) : List Value := texts (ps.map fun p => mk p.1)
theorem labV_snoc (ps : List Pair) (x : Pair) : labV (ps ++ [x]) = labV ps ++ [.string (mk x.1)] := by simp [labV, texts]
theorem labV_nil : labV [] = [] := rfl

set_option maxRecDepth 100000 in
set_option maxHeartbeats 2000000 in
theorem labelsOf_any (S : ByteArray) (s : List UInt8) (w : World) (hS : S = mk s) (hs : s.length ≤ 1000000) :
    Calls Try.prog 68 #[.string S] w fun e w' => ∃ v, e = .returned v ∧ w'.ownsRow w.heap.size 9 1 v (pairs s).length (labV (pairs s)) ∧ Below w.heap.size w w' := by
  have hpl := pairs_len s
  have HS := Lib.hid hS
  have HPL := Lib.hid hpl
  have H1 : Hid ((pairs s).length + 1 ≤ maxLen) := Lib.hid (by unfold maxLen; omega)
  have H2 : Hid (((pairs s).length + 1) * 16 ≤ 140737488355328) := Lib.hid (by omega)
  clear hS hpl
  obtain ⟨i0, hi, hz0, hz1, hz2⟩ := info_parts text_info
  refine (callsIn_wide (n := 3)).1 ?_
  refine callsIn_of_wp_marks Try.func68 rfl trivial ?_ rfl
  simp only [Try.ntmps68, List.size_toArray, List.length_cons, List.length_nil, Nat.reduceAdd, Nat.reduceSub, Array.replicate_succ, Array.replicate_zero, List.push_toArray, List.append_toArray, List.nil_append, List.cons_append]
  gi_wp2_with (refine ⟨trivial, ?_⟩; gi_at_call 58; refine (each_in _ S _).mono ?_; rintro e w' ⟨rfl, rfl⟩)
  have bO := Boxed.new w 88 (.slice none 0 0)
  have bN := Boxed.new (w.alloc (.cells #[.slice none 0 0] 88)) 9 (.string S)
  rw [World.size_alloc] at bN
  have hB0 : Below w.heap.size w ((w.alloc (.cells #[.slice none 0 0] 88)).alloc (.cells #[.string S] 9)) := ((Below.refl _ w).alloc (Nat.le_refl _) _).alloc (by simp) _
  refine wpIn_rangeFunc_ownG rfl (by omega) (gf := 91) (lb := #[.pointer (some ⟨w.heap.size + 1, 0, none⟩)]) rfl trivial (enters_of Try.func91 (by kernel_rfl) rfl)
    (each_stops _ (w.heap.size + 1) s (by omega) (by omega) _ (by simp) (by rw [← HS.out]; exact bN.cell)) (fun _ _ => trivial) (fun _ _ _ _ _ _ _ _ => trivial) (Below.refl _ _) (fun _ => rfl)
    (fun pre W => (∃ v, Boxed W w.heap.size 88 v ∧ W.ownsRow w.heap.size 9 1 v pre.length (labV pre) ∧ True) ∧ Below w.heap.size w W)
    (fun _ _ _ => False)
    (OwnFrom.and (Own.from (holdsRow_own w.heap.size w.heap.size 88 9 1 (fun pre : List Pair => pre.length) (fun pre => labV pre) (fun _ _ => True)) _) (ownFrom_below (Nat.le_refl _) (by simp; omega)))
    (fun _ _ _ _ _ hs _ _ => hs)
    ⟨⟨_, bO.alloc _, World.ownsRow_nil _ _ _ _, trivial⟩, hB0⟩
    ?a1 ?assign ?body ?done ?stop
  case assign =>
    intro l x W K hK
    gi_wp2
    exact hK
  case body =>
    rintro l pre x W ⟨⟨v, hv, hrow, _⟩, hB⟩ hlt
    have hc := hv.cell
    have hm1 := H1.out
    have hm2 := H2.out
    gi_wp2_with (gi_at_builtin; refine wpListIn_append_own _ rfl _ _ 88 rfl w.heap.size 9 i0 (.string ⟨#[]⟩) 1 16 Try.underlying88 hi hz0 hz1 hz2 rfl (by decide) _ _ _ rfl (hrow.alloc _) ⟨W.heap.size, 0, none⟩ 1 1 [.string (mk x.1)] rfl rfl (cell_one_new _ _ _) (by simp [Value.oneCell']) (by omega) (by omega) (by have := hB.size; simp; omega) ?_; intro v' w1 hown' hgrow _; obtain ⟨g', cap', rfl⟩ := ownsRow_succ hown'; obtain ⟨hv1, hv2, hr2, hk2, hb2⟩ := hv.appended (by decide) hrow hB.size (Nat.le_refl _) hown' hgrow; have hc1 := hv1.cell; have hf1 := hv1.frozen)
    exact ⟨hk2.from _, trivial, ⟨_, hv2, by rw [labV_snoc]; simpa using hr2, trivial⟩, hB.trans hb2⟩
  case done =>
    rintro D ys W hD rfl ⟨⟨v, hv, hrow, _⟩, hB⟩ hK
    have hc := hv.cell
    gi_wp2
    refine ⟨by simp, .inl ⟨_, _, rfl, run_takeDeferred hK, ?_⟩⟩
    exact ⟨_, results_tmp rfl _ _ _, v, rfl, ownsRow_putObj hrow _ hK rfl, hB.trans (belowK_b (w := w) (Nat.le_refl _) W D _ _ (by simp at hD; omega) hK rfl rfl)⟩
  case stop =>
    rintro D c pre W _ _ h _
    exact h.elim
end Go.Proofs.Ytdanncclnhkmgaa
