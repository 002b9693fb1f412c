/- Soa and Data of the program. No statement of the seat is proved here. -/
import Derived.Test.YtgnfleldkjhgcaaRdaF
import Derived.Test.YtgnfleldkjhgcaaOctD
import Derived.Test.YtgnfleldkjhgcaaOctN
import Derived.Test.YtgnfleldkjhgcaaNamB
namespace Go.Proofs.Ytgnfleldkjhgcaa
open Go.RowKit

theorem widths_any (w : World) : Calls Try.prog 41 #[] w fun e w' => ∃ g, e = .returned (.slice (some ⟨g, 0, none⟩) 5 5) ∧ Sees w' w'.heap.size (some ⟨g, 0, none⟩) 5 (ints .i64 [4, 4, 4, 4, 4]) ∧ Below w.heap.size w w' := by
  go_enter Try.func41, Try.ntmps41
  go_wp2
  go_ret
  have hw := Whole.new w 3 #[.int .i64 4, .int .i64 4, .int .i64 4, .int .i64 4, .int .i64 4]
  refine ⟨_, rfl, ⟨rfl, fun _ => ⟨_, 0, rfl, by simp, fun j u hu => ?_⟩⟩, (Below.refl _ _).alloc (Nat.le_refl _) _⟩
  rw [Nat.zero_add]
  refine (hw.cell j).trans ?_
  rw [← hu]; simp [ints]

/-- a list of strings that takes what is seen -/
def JL (c0 : Nat) (w0 : World) (vs : Vis) (W : World) : Prop := ∃ v, Whole W c0 67 #[v] ∧ W.ownsRow w0.heap.size 9 1 v vs.length (texts (vs.map fun x => mk x.2)) ∧ Below w0.heap.size w0 W ∧ w0.heap.size ≤ c0

set_option maxHeartbeats 1000000 in
theorem vis_soa (V : Vis) (c0 : Nat) (w0 : World) (hV : V.length ≤ 100) : Vst 39 (.pointer (some ⟨c0, 0, none⟩)) V (JL c0 w0) where
  enter := enters_of Try.func39 (by kernel_rfl) rfl
  below := fun vs w w' ⟨v, h1, h2, h3, h4⟩ hb => ⟨v, h1.below hb h1.lt, own_below h2 hb, h3.trans (hb.mono h3.size), h4⟩
  call := fun vs k s w hp ⟨v, h1, h2, h3, h4⟩ => by
    have hl : vs.length + 1 ≤ 100 := by
      have := hp.length_le
      rw [List.length_append] at this
      simp at this; omega
    obtain ⟨A, c, rfl, _⟩ := Sees.own h2
    obtain ⟨i0, hi0, hz0, hz1, hz2⟩ := info_parts text_infoG
    have H63 : Hid (vs.length + 1 ≤ maxLen) := Lib.hid (by unfold maxLen; omega)
    have H47 : Hid ((vs.length + 1) * 16 ≤ 140737488355328) := Lib.hid (by omega)
    have c1 := h1.cell1
    have H1 := Lib.hid h1
    have H2 := Lib.hid h2
    have H3 := Lib.hid h3
    clear h1 h2 h3 hp
    go_enter Try.func39, Try.ntmps39
    go_wp2_with (at_builtin; refine wpList_append_own _ rfl _ _ 67 rfl w0.heap.size 9 i0 (.string ⟨#[]⟩) 1 16 Try.underlying67 hi0 hz0 hz1 hz2 rfl (by decide) _ _ _ rfl (H2.out.alloc _) ⟨w.heap.size, 0, none⟩ 1 1 [.string (mk s)] rfl rfl (news1 _ _ _) (one1 _ rfl) H63.out H47.out (by have := H3.out.size; simp; omega) ?_)
    intro v' w1 hown hgrow _
    obtain ⟨A1, c1', rfl, _⟩ := Sees.own hown
    have hwc := (H1.out.alloc (.cells #[.string (mk s)] 9)).grown hgrow (fun e' => own_apart (H2.out.alloc (.cells #[.string (mk s)] 9)) (H1.out.alloc (.cells #[.string (mk s)] 9)) (by decide) e'.symm)
    have HWC := Lib.hid hwc
    have HOW := Lib.hid (show w1.ownsRow w0.heap.size 9 1 (.slice A1 (vs.length + 1) c1') (vs ++ [(k, s)]).length (texts ((vs ++ [(k, s)]).map fun x => mk x.2)) from by simpa [texts] using hown)
    have HB1 := Lib.hid ((H3.out.alloc H3.out.size (.cells #[.string (mk s)] 9)).grown hgrow (by have := H3.out.size; simp; omega) (fun j hj => (H2.out.lt j hj).1))
    have HPA := Lib.hid (fun g cs (hw : Whole w g paT cs) => (hw.alloc (.cells #[.string (mk s)] 9)).grown hgrow (fun e' => own_apart (H2.out.alloc (.cells #[.string (mk s)] 9)) (hw.alloc (.cells #[.string (mk s)] 9)) (by decide) e'.symm))
    have d0 := hwc.cell1
    have f0 := hwc.frozen 0
    clear hown hgrow hwc
    go_wp2_with fail
    go_end0
    refine ⟨rfl, ⟨_, HWC.out.put1 _, ?_, HB1.out.setCell (p := ⟨c0, 0, none⟩) h4 _, h4⟩, fun g cs hw => (HPA.out g cs hw).far (p := ⟨c0, 0, none⟩) (Whole.apart (HPA.out g cs hw) HWC.out (by decide)) _⟩
    exact HOW.out.kept (gset w1 ⟨c0, 0, none⟩ _) (.inr (own_apart HOW.out HWC.out (by decide)))

/-! ### the parts of the data of an SOA -/
def agg7 (m r : List UInt8) (n0 n1 n2 n3 n4 : Nat) : Array Value := #[.string (mk m), .string (mk r), .int .u32 (n0 : Nat), .int .u32 (n1 : Nat), .int .u32 (n2 : Nat), .int .u32 (n3 : Nat), .int .u32 (n4 : Nat)]
structure Soa7 (D m r a b c d e : List UInt8) : Prop where
  nm : (∃ L, nameL m = some L) ∧ ∃ L, nameL r = some L
  four : a.length = 4 ∧ b.length = 4 ∧ c.length = 4 ∧ d.length = 4 ∧ e.length = 4
  all : D = m ++ r ++ a ++ b ++ c ++ d ++ e
theorem Soa7.is {D m r a b c d e : List UInt8} (h : Soa7 D m r a b c d e) : rightR 6 D = true ∧ visR 6 D = [(-1, m), (-1, r), (20, a ++ b ++ c ++ d ++ e)] ∧
    steps D D.length (kindsR 6) 0 = ([(-1, m), (-1, r), (4, a), (4, b), (4, c), (4, d), (4, e)], some D.length) := by
  obtain ⟨h1, h2⟩ := h.nm
  obtain ⟨l0, l1, l2, l3, l4⟩ := h.four
  have hm : m.length ≤ 255 := by obtain ⟨L, hL⟩ := h1; exact (nameL_is hL).2.2
  have hr : r.length ≤ 255 := by obtain ⟨L, hL⟩ := h2; exact (nameL_is hL).2.2
  have w1 : WF [(-1, m), (-1, r), (20, a ++ b ++ c ++ d ++ e)] :=
    ⟨by simp [Part], ⟨fun _ => h1, by simp, by simp⟩, by simp, by simp [Part], ⟨fun _ => h2, by simp, by simp⟩, by simp, by simp [Part], ⟨by simp, by simp, fun _ => by simp [l0, l1, l2, l3, l4]⟩, by simp, trivial⟩
  have w2 : WF [(-1, m), (-1, r), (4, a), (4, b), (4, c), (4, d), (4, e)] :=
    ⟨by simp [Part], ⟨fun _ => h1, by simp, by simp⟩, by simp, by simp [Part], ⟨fun _ => h2, by simp, by simp⟩, by simp, by simp [Part], ⟨by simp, by simp, fun _ => by simp [l0]⟩, by simp, by simp [Part], ⟨by simp, by simp, fun _ => by simp [l1]⟩, by simp,
      by simp [Part], ⟨by simp, by simp, fun _ => by simp [l2]⟩, by simp, by simp [Part], ⟨by simp, by simp, fun _ => by simp [l3]⟩, by simp, by simp [Part], ⟨by simp, by simp, fun _ => by simp [l4]⟩, by simp, trivial⟩
  have c1 : cat [(-1, m), (-1, r), (20, a ++ b ++ c ++ d ++ e)] = D := by rw [h.all]; simp [cat]
  have c2 : cat [(-1, m), (-1, r), (4, a), (4, b), (4, c), (4, d), (4, e)] = D := by rw [h.all]; simp [cat]
  have hl : (cat [(-1, m), (-1, r), (20, a ++ b ++ c ++ d ++ e)]).length ≤ 65535 := by rw [c1, h.all]; simp; omega
  obtain ⟨r1, r2⟩ := right_of (t := 6) w1 rfl hl
  rw [c1] at r1 r2
  have s2 := steps_cat w2
  rw [c2] at s2
  exact ⟨r1, r2, s2⟩
theorem soa_is {D : List UInt8} (h : rightR 6 D = true) : ∃ m r a b c d e, Soa7 D m r a b c d e := by
  obtain ⟨_, _, h3, h4, h5⟩ := right_is h
  have hk : partsP 6 = [-1, -1, 20] := rfl
  rw [hk] at h5
  match hv : visR 6 D, h5 with
  | [(k1, m), (k2, r), (k3, x)], h5 =>
    simp only [List.map_cons, List.map_nil, List.cons.injEq, and_true] at h5
    obtain ⟨rfl, rfl, rfl⟩ := h5
    rw [hv] at h3 h4
    obtain ⟨_, ⟨a1, _, _⟩, _, _, ⟨b1, _, _⟩, _, _, ⟨_, _, c3⟩, _⟩ := h4
    have hx : x.length = 20 := by have := c3 (by decide); omega
    refine ⟨m, r, x.take 4, (x.drop 4).take 4, (x.drop 8).take 4, (x.drop 12).take 4, x.drop 16, ⟨a1 (.inl rfl), b1 (.inl rfl)⟩, by simp; omega, ?_⟩
    rw [← h3]
    have e1 : x = x.take 4 ++ ((x.drop 4).take 4 ++ ((x.drop 8).take 4 ++ ((x.drop 12).take 4 ++ x.drop 16))) := by
      have g : ∀ i, (x.drop i).take 4 ++ x.drop (i + 4) = x.drop i := fun i => by rw [← List.drop_drop]; exact List.take_append_drop 4 _
      rw [g 12, g 8, g 4, List.take_append_drop]
    simp only [cat, List.flatMap_cons, List.flatMap_nil, List.append_nil, List.append_assoc]
    rw [← e1]
end Go.Proofs.Ytgnfleldkjhgcaa
