/- Right: whether a string is a name. -/
import Derived.Test.YtdanncclnhkmgaaNamA
namespace Go.Proofs.Ytdanncclnhkmgaa
open Go.RowKit Go.Shelf

attribute [local go_sem] Oper.semAt_some

def Short (ps : List Pair) : Prop := ∀ p ∈ ps, p.1.length ≤ 63
theorem Short.nil : Short [] := fun p hp => by cases hp
theorem Short.snoc {ps : List Pair} {x : Pair} (h : Short ps) (hx : x.1.length ≤ 63) : Short (ps ++ [x]) := by
  intro p hp
  rcases List.mem_append.1 hp with h' | h'
  · exact h p h'
  · rw [List.mem_singleton] at h'; subst h'; exact hx
theorem Short.not {ps qs : List Pair} {x : Pair} (hx : ¬ x.1.length ≤ 63) (h : ps ++ [x] <+: qs) : ¬ Short qs := fun hq => hx (hq x (h.subset (by simp)))
def Long (ps : List Pair) : Prop := ∃ qs x, ps = qs ++ [x] ∧ ¬ x.1.length ≤ 63

set_option maxRecDepth 100000 in
set_option maxHeartbeats 2000000 in
theorem Right_short (S : ByteArray) (s : List UInt8) (w : World) (hS : S = mk s) (hs : s.length ≤ 255) :
    Calls Try.prog 23 #[.string S] w fun e w' => e = .returned (.bool (nameL s).isSome) ∧ Below w.heap.size w w' := by
  have hlen : ¬ (255 : Int) < (S.size : Int) := by rw [hS, mk_size]; omega
  have HS := Lib.hid hS
  clear hS
  refine (callsIn_wide (n := 3)).1 ?_
  refine callsIn_of_wp_marks Try.func23 rfl trivial ?_ rfl
  simp only [Try.ntmps23, List.size_toArray, List.length_cons, List.length_nil, Nat.reduceAdd, Nat.reduceSub, Array.replicate_succ, Array.replicate_zero, List.push_toArray, List.append_toArray, List.nil_append, List.cons_append]
  gi_wp2_with (refine ⟨trivial, ?_⟩; gi_at_call 58; refine (each_in _ S _).mono ?_; rintro e w' ⟨rfl, rfl⟩)
  have bO := Boxed.new w 4 (.bool false)
  have bR := Boxed.new (w.alloc (.cells #[.bool false] 4)) 9 (.string S)
  have bN := Boxed.new ((w.alloc (.cells #[.bool false] 4)).alloc (.cells #[.string S] 9)) 9 (.string S)
  simp only [World.size_alloc] at bR bN
  have hB0 : Below w.heap.size w (((w.alloc (.cells #[.bool false] 4)).alloc (.cells #[.string S] 9)).alloc (.cells #[.string S] 9)) := (((Below.refl _ w).alloc (Nat.le_refl _) _).alloc (by simp) _).alloc (by simp; omega) _
  refine wpIn_rangeFunc_ownF rfl (by omega) (gf := 91) (lb := #[.pointer (some ⟨w.heap.size + 1 + 1, 0, none⟩)]) rfl trivial (enters_of Try.func91 (by kernel_rfl) rfl)
    (each_stops _ (w.heap.size + 1 + 1) s (by omega) (by omega) _ (by simp) (by rw [← HS.out]; exact bN.cell)) (fun _ _ => trivial) (fun _ _ _ _ _ _ _ _ => trivial) (Below.refl _ _) (fun _ => rfl)
    (fun pre W => (Short pre ∧ Boxed W w.heap.size 4 (.bool false) ∧ Boxed W (w.heap.size + 1) 9 (.string (mk (lastR s pre)))) ∧ Below w.heap.size w W)
    (fun c pre W => (c = .ret ∧ Long pre ∧ Boxed W w.heap.size 4 (.bool false)) ∧ Below w.heap.size w W)
    (OwnFrom.and (Own.from (fun s A B row hs hg hr => ⟨hs.1, boxed_own _ _ (fun _ : Unit => _) () A B row hs.2.1 hg hr, boxed_own _ _ (fun _ : Unit => _) () A B row hs.2.2 hg hr⟩) _) (ownFrom_below (Nat.le_refl _) (by simp; omega)))
    (fun c => OwnFrom.and (Own.from (fun s A B row hs hg hr => ⟨hs.1, hs.2.1, boxed_own _ _ (fun _ : Unit => _) () A B row hs.2.2 hg hr⟩) _) (ownFrom_below (Nat.le_refl _) (by simp; omega)))
    ⟨⟨Short.nil, (bO.alloc _).alloc _, by rw [show lastR s [] = s from rfl, ← HS.out]; exact bR.alloc _⟩, hB0⟩
    ?a1 ?assign ?body ?done ?stop
  case assign =>
    intro l x W K hK
    gi_wp2
    exact hK
  case body =>
    rintro l pre x W ⟨⟨hp, hb, hr⟩, hB⟩ _
    have hc := hb.cell
    have hf := hb.frozen
    have hc2 := hr.cell
    have hf2 := hr.frozen
    have hsz : ((mk x.1).size : Int) = (x.1.length : Int) := by rw [mk_size]
    by_cases h63 : x.1.length ≤ 63
    · have h2 : ¬ (63 : Int) < (x.1.length : Int) := by omega
      gi_wp2
      exact ⟨KeepsOthers.setCell _ _ _, trivial, ⟨hp.snoc h63, hb.other (by omega) _, by rw [lastR_snoc]; exact hr.set _⟩, hB.setCell (p := ⟨w.heap.size + 1, 0, none⟩) (by simp) _⟩
    · have h2 : (63 : Int) < (x.1.length : Int) := by omega
      gi_wp2
      exact ⟨KeepsOthers.setCell _ _ _, ⟨rfl, ⟨pre, x, rfl, h63⟩, hb.set _⟩, hB.setCell (p := ⟨w.heap.size, 0, none⟩) (by simp) _⟩
  case done =>
    rintro D ys W hD rfl ⟨⟨hp, hb, hr⟩, hB⟩ hK
    have hc := hb.cell
    have hf := hb.frozen
    have hc2 := hr.cell
    have hf2 := hr.frozen
    have hN : nameL s = parse s := by unfold nameL; rw [if_neg (by omega)]
    have hres : ((mk (lastR s (pairs s))).toList == [0]) = (nameL s).isSome := by
      rw [hN, ByteArray.toList_eq]
      have := right_parse s
      cases hps : (parse s).isSome
      · rw [hps] at this
        simp only [Bool.false_eq_true, false_iff, not_and] at this
        have := this hp
        simpa [mk] using this
      · rw [hps] at this
        have := (this.1 rfl).2
        simpa [mk] using this
    have HR := Lib.hid hres
    clear hres hN
    gi_wp2
    rw [HR.out]
    have hK' := (KeepsOthers.setCell W ⟨w.heap.size, 0, none⟩ (.bool (nameL s).isSome)).same D _ hK rfl
    refine ⟨by simp, .inl ⟨_, _, rfl, run_takeDeferred hK', ?_⟩⟩
    have hc5 := cell_kept (World.cell?_setCell_same' W ⟨w.heap.size, 0, none⟩ (.bool (nameL s).isSome) (by rw [hc]; rfl)) (grownBy_putObj' _ D (.deferred none)) (fun r e => by cases e; exact ⟨_, hK', rfl⟩)
    refine ⟨.bool (nameL s).isSome, ?_, rfl, (hB.setCell (p := ⟨w.heap.size, 0, none⟩) (Nat.le_refl _) _).trans (belowK_b (w := w) (Nat.le_refl _) _ D _ _ (by simp at hD; omega) hK' rfl rfl)⟩
    simp [results, Try.f23, go_sem, hc5]
  case stop =>
    rintro D c pre W hD hpre ⟨⟨rfl, hL, hb⟩, hB⟩ hK
    have hc := hb.cell
    obtain ⟨qs, x, rfl, h63⟩ := hL
    have hN : (nameL s).isSome = false := by
      have e : nameL s = parse s := by unfold nameL; rw [if_neg (by omega)]
      rw [e]
      have := right_parse s
      cases hps : (parse s).isSome
      · rfl
      · rw [hps] at this
        exact absurd (this.1 rfl).1 (Short.not h63 hpre)
    gi_wp2
    refine ⟨by simp, .inl ⟨_, _, rfl, run_takeDeferred hK, ?_⟩⟩
    have hc5 := cell_kept hc (grownBy_putObj' _ D (.deferred none)) (fun r e => by cases e; exact ⟨_, hK, rfl⟩)
    refine ⟨.bool false, ?_, by rw [hN], hB.trans (belowK_b (w := w) (Nat.le_refl _) W D _ _ (by simp at hD; omega) hK rfl rfl)⟩
    simp [results, Try.f23, go_sem, hc5]

theorem Right_long (S : ByteArray) (s : List UInt8) (w : World) (hS : S = mk s) (hs : ¬ s.length ≤ 255) (hb : s.length ≤ 1073741824) :
    Calls Try.prog 23 #[.string S] w fun e w' => e = .returned (.bool (nameL s).isSome) ∧ Below w.heap.size w w' := by
  have hlen : (255 : Int) < (S.size : Int) := by rw [hS, mk_size]; omega
  have hN : (nameL s).isSome = false := by unfold nameL; rw [if_pos (by omega)]; rfl
  rw [hN]
  clear hS hN
  refine (callsIn_wide (n := 3)).1 ?_
  refine callsIn_of_wp_marks Try.func23 rfl trivial ?_ rfl
  simp only [Try.ntmps23, List.size_toArray, List.length_cons, List.length_nil, Nat.reduceAdd, Nat.reduceSub, Array.replicate_succ, Array.replicate_zero, List.push_toArray, List.append_toArray, List.nil_append, List.cons_append]
  have bO := (Boxed.new w 4 (.bool false)).cell
  gi_wp2
  exact ⟨.bool false, by simp [results, Try.f23, go_sem], rfl, (Below.refl _ w).alloc (Nat.le_refl _) _⟩

theorem Right_any (S : ByteArray) (s : List UInt8) (w : World) (hS : S = mk s) (hb : s.length ≤ 1073741824) :
    Calls Try.prog 23 #[.string S] w fun e w' => e = .returned (.bool (nameL s).isSome) ∧ Below w.heap.size w w' := by
  by_cases hs : s.length ≤ 255
  · exact Right_short S s w hS hs
  · exact Right_long S s w hS hs hb
end Go.Proofs.Ytdanncclnhkmgaa
