/- RdO: texts RdaO, RdaP of our own, joined. No statement of the seat is proved here. -/
import Derived.Test.YtaijcoiepfjecaaGreatRdB
import Derived.Test.YtaijcoiepfjecaaGreatOcD
import Derived.Test.YtaijcoiepfjecaaGreatOcJ
import Derived.Test.YtaijcoiepfjecaaGreatNaA
import Derived.StillTailTactics
import Derived.Deep.RegionHeld3
namespace Go.Proofs.YtaijcoiepfjecaaGreat
open Go.RowKit

theorem widths_any (w : World) : Calls Tryz.prog 84 #[] w fun e w' => ∃ g, e = .returned (.slice (some ⟨g, 0, none⟩) 5 5) ∧ Sees w' w'.heap.size (some ⟨g, 0, none⟩) 5 (ints .i64 [4, 4, 4, 4, 4]) ∧ Below w.heap.size w w' := by
  go_enter Tryz.func84, Tryz.ntmps84
  go_wp2
  go_ret
  have hw := Whole.new w 3 #[.int .i64 4, .int .i64 4, .int .i64 4, .int .i64 4, .int .i64 4]
  refine ⟨_, rfl, ⟨rfl, fun _ => ⟨_, 0, rfl, by simp, fun j u hu => ?_⟩⟩, (Below.refl _ _).alloc (Nat.le_refl _) _⟩
  rw [Nat.zero_add]
  refine (hw.cell j).trans ?_
  rw [← hu]; simp [ints]

/-- a list of strings that takes what is seen -/
def JL (c0 : Nat) (w0 : World) (vs : Vis) (W : World) : Prop := ∃ v, Whole W c0 67 #[v] ∧ W.ownsRow w0.heap.size 9 1 v vs.length (texts (vs.map fun x => mk x.2)) ∧ Below w0.heap.size w0 W ∧ w0.heap.size ≤ c0

set_option maxHeartbeats 1000000 in
theorem vis_soa (V : Vis) (c0 : Nat) (w0 : World) (hV : V.length ≤ 100) : Vst 108 (.pointer (some ⟨c0, 0, none⟩)) V (JL c0 w0) where
  enter := enters_of Tryz.func108 (by kernel_rfl) rfl
  below := fun vs w w' ⟨v, h1, h2, h3, h4⟩ hb => ⟨v, h1.below hb h1.lt, own_below h2 hb, h3.trans (hb.mono h3.size), h4⟩
  call := fun vs k s w hp ⟨v, h1, h2, h3, h4⟩ => by
    have hl : vs.length + 1 ≤ 100 := by
      have := hp.length_le
      rw [List.length_append] at this
      simp at this; omega
    obtain ⟨A, c, rfl, _⟩ := Sees.own h2
    obtain ⟨i0, hi0, hz0, hz1, hz2⟩ := info_parts text_infoG
    have H63 : Hid (vs.length + 1 ≤ maxLen) := Lib.hid (by unfold maxLen; omega)
    have H47 : Hid ((vs.length + 1) * 16 ≤ 140737488355328) := Lib.hid (by omega)
    have c1 := h1.cell1
    have H1 := Lib.hid h1
    have H2 := Lib.hid h2
    have H3 := Lib.hid h3
    clear h1 h2 h3 hp
    go_enter Tryz.func108, Tryz.ntmps108
    go_wp2_with (at_builtin; refine wpList_append_own _ rfl _ _ 67 rfl w0.heap.size 9 i0 (.string ⟨#[]⟩) 1 16 Tryz.underlying67 hi0 hz0 hz1 hz2 rfl (by decide) _ _ _ rfl (H2.out.alloc _) ⟨w.heap.size, 0, none⟩ 1 1 [.string (mk s)] rfl rfl (news1 _ _ _) (one1 _ rfl) H63.out H47.out (by have := H3.out.size; simp; omega) ?_)
    intro v' w1 hown hgrow _
    obtain ⟨A1, c1', rfl, _⟩ := Sees.own hown
    have hwc := (H1.out.alloc (.cells #[.string (mk s)] 9)).grown hgrow (fun e' => own_apart (H2.out.alloc (.cells #[.string (mk s)] 9)) (H1.out.alloc (.cells #[.string (mk s)] 9)) (by decide) e'.symm)
    have HWC := Lib.hid hwc
    have HOW := Lib.hid (show w1.ownsRow w0.heap.size 9 1 (.slice A1 (vs.length + 1) c1') (vs ++ [(k, s)]).length (texts ((vs ++ [(k, s)]).map fun x => mk x.2)) from by simpa [texts] using hown)
    have HB1 := Lib.hid ((H3.out.alloc H3.out.size (.cells #[.string (mk s)] 9)).grown hgrow (by have := H3.out.size; simp; omega) (fun j hj => (H2.out.lt j hj).1))
    have HPA := Lib.hid (fun g cs (hw : Whole w g paT cs) => (hw.alloc (.cells #[.string (mk s)] 9)).grown hgrow (fun e' => own_apart (H2.out.alloc (.cells #[.string (mk s)] 9)) (hw.alloc (.cells #[.string (mk s)] 9)) (by decide) e'.symm))
    have d0 := hwc.cell1
    have f0 := hwc.frozen 0
    clear hown hgrow hwc
    go_wp2_with fail
    go_end0
    refine ⟨rfl, ⟨_, HWC.out.put1 _, ?_, HB1.out.setCell (p := ⟨c0, 0, none⟩) h4 _, h4⟩, fun g cs hw => (HPA.out g cs hw).far (p := ⟨c0, 0, none⟩) (Whole.apart (HPA.out g cs hw) HWC.out (by decide)) _⟩
    exact HOW.out.kept (gset w1 ⟨c0, 0, none⟩ _) (.inr (own_apart HOW.out HWC.out (by decide)))

/-! ### the parts of the data of an SOA -/
def agg7 (m r : List UInt8) (n0 n1 n2 n3 n4 : Nat) : Array Value := #[.string (mk m), .string (mk r), .int .u32 (n0 : Nat), .int .u32 (n1 : Nat), .int .u32 (n2 : Nat), .int .u32 (n3 : Nat), .int .u32 (n4 : Nat)]
structure Soa7 (D m r a b c d e : List UInt8) : Prop where
  nm : (∃ L, nameL m = some L) ∧ ∃ L, nameL r = some L
  four : a.length = 4 ∧ b.length = 4 ∧ c.length = 4 ∧ d.length = 4 ∧ e.length = 4
  all : D = m ++ r ++ a ++ b ++ c ++ d ++ e
theorem Soa7.is {D m r a b c d e : List UInt8} (h : Soa7 D m r a b c d e) : rightR 6 D = true ∧ visR 6 D = [(-1, m), (-1, r), (20, a ++ b ++ c ++ d ++ e)] ∧
    steps D D.length (kindsR 6) 0 = ([(-1, m), (-1, r), (4, a), (4, b), (4, c), (4, d), (4, e)], some D.length) := by
  obtain ⟨h1, h2⟩ := h.nm
  obtain ⟨l0, l1, l2, l3, l4⟩ := h.four
  have hm : m.length ≤ 255 := by obtain ⟨L, hL⟩ := h1; exact (nameL_is hL).2.2
  have hr : r.length ≤ 255 := by obtain ⟨L, hL⟩ := h2; exact (nameL_is hL).2.2
  have w1 : WF [(-1, m), (-1, r), (20, a ++ b ++ c ++ d ++ e)] :=
    ⟨by simp [Part], ⟨fun _ => h1, by simp, by simp⟩, by simp, by simp [Part], ⟨fun _ => h2, by simp, by simp⟩, by simp, by simp [Part], ⟨by simp, by simp, fun _ => by simp [l0, l1, l2, l3, l4]⟩, by simp, trivial⟩
  have w2 : WF [(-1, m), (-1, r), (4, a), (4, b), (4, c), (4, d), (4, e)] :=
    ⟨by simp [Part], ⟨fun _ => h1, by simp, by simp⟩, by simp, by simp [Part], ⟨fun _ => h2, by simp, by simp⟩, by simp, by simp [Part], ⟨by simp, by simp, fun _ => by simp [l0]⟩, by simp, by simp [Part], ⟨by simp, by simp, fun _ => by simp [l1]⟩, by simp,
      by simp [Part], ⟨by simp, by simp, fun _ => by simp [l2]⟩, by simp, by simp [Part], ⟨by simp, by simp, fun _ => by simp [l3]⟩, by simp, by simp [Part], ⟨by simp, by simp, fun _ => by simp [l4]⟩, by simp, trivial⟩
  have c1 : cat [(-1, m), (-1, r), (20, a ++ b ++ c ++ d ++ e)] = D := by rw [h.all]; simp [cat]
  have c2 : cat [(-1, m), (-1, r), (4, a), (4, b), (4, c), (4, d), (4, e)] = D := by rw [h.all]; simp [cat]
  have hl : (cat [(-1, m), (-1, r), (20, a ++ b ++ c ++ d ++ e)]).length ≤ 65535 := by rw [c1, h.all]; simp; omega
  obtain ⟨r1, r2⟩ := right_of (t := 6) w1 rfl hl
  rw [c1] at r1 r2
  have s2 := steps_cat w2
  rw [c2] at s2
  exact ⟨r1, r2, s2⟩
theorem soa_is {D : List UInt8} (h : rightR 6 D = true) : ∃ m r a b c d e, Soa7 D m r a b c d e := by
  obtain ⟨_, _, h3, h4, h5⟩ := right_is h
  have hk : partsP 6 = [-1, -1, 20] := rfl
  rw [hk] at h5
  match hv : visR 6 D, h5 with
  | [(k1, m), (k2, r), (k3, x)], h5 =>
    simp only [List.map_cons, List.map_nil, List.cons.injEq, and_true] at h5
    obtain ⟨rfl, rfl, rfl⟩ := h5
    rw [hv] at h3 h4
    obtain ⟨_, ⟨a1, _, _⟩, _, _, ⟨b1, _, _⟩, _, _, ⟨_, _, c3⟩, _⟩ := h4
    have hx : x.length = 20 := by have := c3 (by decide); omega
    refine ⟨m, r, x.take 4, (x.drop 4).take 4, (x.drop 8).take 4, (x.drop 12).take 4, x.drop 16, ⟨a1 (.inl rfl), b1 (.inl rfl)⟩, by simp; omega, ?_⟩
    rw [← h3]
    have e1 : x = x.take 4 ++ ((x.drop 4).take 4 ++ ((x.drop 8).take 4 ++ ((x.drop 12).take 4 ++ x.drop 16))) := by
      have g : ∀ i, (x.drop i).take 4 ++ x.drop (i + 4) = x.drop i := fun i => by rw [← List.drop_drop]; exact List.take_append_drop 4 _
      rw [g 12, g 8, g 4, List.take_append_drop]
    simp only [cat, List.flatMap_cons, List.flatMap_nil, List.append_nil, List.append_assoc]
    rw [← e1]
end Go.Proofs.YtaijcoiepfjecaaGreat
namespace Go.Proofs.YtaijcoiepfjecaaGreat
open Go.RowKit

abbrev soT : TypeId := 61
theorem seven_put {w : World} {r t : Nat} {x0 x1 x2 x3 x4 x5 x6 : Value} (h : Whole w r t #[x0, x1, x2, x3, x4, x5, x6]) (a0 a1 a2 a3 a4 a5 a6 : Value) :
    Whole (((((((w.setCell ⟨r, 0, none⟩ a0).setCell ⟨r, 1, none⟩ a1).setCell ⟨r, 2, none⟩ a2).setCell ⟨r, 3, none⟩ a3).setCell ⟨r, 4, none⟩ a4).setCell ⟨r, 5, none⟩ a5).setCell ⟨r, 6, none⟩ a6) r t #[a0, a1, a2, a3, a4, a5, a6] := by
  have := ((((((h.put 0 a0).put 1 a1).put 2 a2).put 3 a3).put 4 a4).put 5 a5).put 6 a6
  simpa using this
theorem seven_below {B : Nat} {a w : World} {r : Nat} (h : Below B a w) (hr : B ≤ r) (a0 a1 a2 a3 a4 a5 a6 : Value) :
    Below B a (((((((w.setCell ⟨r, 0, none⟩ a0).setCell ⟨r, 1, none⟩ a1).setCell ⟨r, 2, none⟩ a2).setCell ⟨r, 3, none⟩ a3).setCell ⟨r, 4, none⟩ a4).setCell ⟨r, 5, none⟩ a5).setCell ⟨r, 6, none⟩ a6) :=
  ((((((h.setCell hr a0).setCell hr a1).setCell hr a2).setCell hr a3).setCell hr a4).setCell hr a5).setCell hr a6
theorem soa_size : (Tryz.prog.info? soT).map (·.size) = some 7 := by kernel_rfl
theorem retS {fn : Func} {R : Ending → World → Prop} {a : Act} {w : World} {p r : Nat} {a0 a1 a2 a3 a4 a5 a6 : Value} (hf : fn.results = #[.cell p soT]) (hd : a.defers = []) (hp : a.tmps.getD p undef = .pointer (some ⟨r, 0, none⟩))
    (h : Whole w r soT #[a0, a1, a2, a3, a4, a5, a6]) (hR : R (.returned (.agg #[a0, a1, a2, a3, a4, a5, a6])) w) : bodyPost Tryz.prog fn R .ret a w :=
  bodyPost_ret (results_cell_row hf _ _ r _ _ (0, 0) _ hp h Tryz.underlying61 rfl soa_size) hd hR
theorem retS2 {fn : Func} {R : Ending → World → Prop} {a : Act} {w : World} {p u r : Nat} {a0 a1 a2 a3 a4 a5 a6 x : Value} (hf : fn.results = #[.cell p soT, .tmp u]) (hd : a.defers = []) (hp : a.tmps.getD p undef = .pointer (some ⟨r, 0, none⟩)) (hx : a.tmps.getD u undef = x)
    (h : Whole w r soT #[a0, a1, a2, a3, a4, a5, a6]) (hR : R (.returned (.tuple #[.agg #[a0, a1, a2, a3, a4, a5, a6], x])) w) : bodyPost Tryz.prog fn R .ret a w := by
  refine bodyPost_ret ?_ hd hR
  rw [results_cell_tmp hf, hp, hx]
  simp [asAddr, run_loadVar_row w r soT _ _ (0, 0) _ h Tryz.underlying61 rfl soa_size, Result.andThen]
theorem soa_facts {w : World} {r t : Nat} {a0 a1 a2 a3 a4 a5 a6 : Value} (h : Whole w r t #[a0, a1, a2, a3, a4, a5, a6]) :
    w.cell? ⟨r, 0, none⟩ = some a0 ∧ w.cell? ⟨r, 1, none⟩ = some a1 ∧ w.cell? ⟨r, 2, none⟩ = some a2 ∧ w.cell? ⟨r, 3, none⟩ = some a3 ∧ w.cell? ⟨r, 4, none⟩ = some a4 ∧ w.cell? ⟨r, 5, none⟩ = some a5 ∧ w.cell? ⟨r, 6, none⟩ = some a6 :=
  ⟨(h.cell 0).trans rfl, (h.cell 1).trans rfl, (h.cell 2).trans rfl, (h.cell 3).trans rfl, (h.cell 4).trans rfl, (h.cell 5).trans rfl, (h.cell 6).trans rfl⟩
theorem soa_frozen {w : World} {r t : Nat} {cs : Array Value} (h : Whole w r t cs) : w.frozen? ⟨r, 0, none⟩ = false ∧ w.frozen? ⟨r, 1, none⟩ = false ∧ w.frozen? ⟨r, 2, none⟩ = false ∧ w.frozen? ⟨r, 3, none⟩ = false ∧ w.frozen? ⟨r, 4, none⟩ = false ∧ w.frozen? ⟨r, 5, none⟩ = false ∧ w.frozen? ⟨r, 6, none⟩ = false :=
  ⟨h.frozen 0, h.frozen 1, h.frozen 2, h.frozen 3, h.frozen 4, h.frozen 5, h.frozen 6⟩
def zeroS : Array Value := #[.string ⟨#[]⟩, .string ⟨#[]⟩, .int .u32 0, .int .u32 0, .int .u32 0, .int .u32 0, .int .u32 0]
set_option maxHeartbeats 2000000 in
set_option maxRecDepth 20000 in
theorem Soa_no (S : ByteArray) (D : List UInt8) (w : World) (hS : S = mk D) (hD : D.length ≤ 65535) (hr : rightR 6 D = false) :
    Calls Tryz.prog 82 #[.string S] w fun e w' => e = .returned (.tuple #[.agg zeroS, .int .i64 2]) ∧ Below w.heap.size w w' := by
  have HS := Lib.hid hS
  have HR := Lib.hid hr
  clear hS hr
  go_enter Tryz.func82, Tryz.ntmps82
  go_wp2_with fail
  refine (DRight_any S D 6 _ HS.out hD).mono ?_
  rw [HR.out]
  rintro e w1 ⟨rfl, hB⟩
  have hw0 := Whole.new w soT zeroS
  unfold zeroS at hw0
  have hB0 : Below w.heap.size w (w.alloc (.cells zeroS soT)) := (Below.refl _ _).alloc (Nat.le_refl _) _
  have hw := hw0.below hB (Whole.lt hw0)
  have HB := Lib.hid (hB0.trans (hB.mono hB0.size))
  obtain ⟨c0, c1, c2, c3, c4, c5, c6⟩ := soa_facts hw
  obtain ⟨f0, f1, f2, f3, f4, f5, f6⟩ := soa_frozen hw
  have HW := Lib.hid hw
  clear hB hw0 hB0 hw
  go_wp2_with fail
  exact retS2 rfl rfl rfl rfl (seven_put HW.out _ _ _ _ _ _ _) ⟨rfl, seven_below HB.out (Nat.le_refl _) _ _ _ _ _ _ _⟩
theorem splitF_step {a t : List UInt8} (h : a.length = 4) (ws : List Int) : splitF (mk (a ++ t)) (4 :: ws) = (splitF (mk t) ws).map fun (p : List Int × ByteArray) => ((num a : Int) :: p.1, p.2) := by
  have h1 : ¬ (((mk (a ++ t)).size : Int) < 4) := by rw [mk_size]; simp; omega
  have e1 : (mk (a ++ t)).extract 4 (mk (a ++ t)).size = mk t := by rw [mk_extract, mk_size, List.take_length, List.drop_left' h]
  have e2 : numOf ((mk (a ++ t)).extract 0 4) = num a := by rw [mk_extract, mk_num, List.take_left' h, List.drop_zero]
  rw [splitF, if_neg h1]
  show Option.map _ (splitF ((mk (a ++ t)).extract 4 (mk (a ++ t)).size) ws) = _
  rw [e1]
  show Option.map (fun (p : List Int × ByteArray) => ((numOf ((mk (a ++ t)).extract 0 4) : Int) :: p.1, p.2)) _ = _
  rw [e2]
theorem split5 {a b c d e : List UInt8} (h : a.length = 4 ∧ b.length = 4 ∧ c.length = 4 ∧ d.length = 4 ∧ e.length = 4) :
    splitR (mk (a ++ b ++ c ++ d ++ e)) [4, 4, 4, 4, 4] = ([(num a : Int), (num b : Int), (num c : Int), (num d : Int), (num e : Int)], mk [], 0) := by
  obtain ⟨l0, l1, l2, l3, l4⟩ := h
  refine splitR_some (by decide) ?_
  have e0 : a ++ b ++ c ++ d ++ e = a ++ (b ++ (c ++ (d ++ (e ++ [])))) := by simp
  rw [e0, splitF_step l0, splitF_step l1, splitF_step l2, splitF_step l3, splitF_step l4]
  rfl
set_option maxHeartbeats 2000000 in
set_option maxRecDepth 20000 in
theorem Soa_yes (S : ByteArray) (D m r a b c d e : List UInt8) (w : World) (hS : S = mk D) (hD : D.length ≤ 65535) (h7 : Soa7 D m r a b c d e) :
    Calls Tryz.prog 82 #[.string S] w fun en w' => en = .returned (.tuple #[.agg (agg7 m r (num a) (num b) (num c) (num d) (num e)), .int .i64 0]) ∧ Below w.heap.size w w' := by
  have hmf : ∀ (fn : Fn) (first cap : Array Value) (w : World), (Instr.makeFunc fn first cap).run Tryz.prog w = .ok (.func fn first cap) w := fun _ _ _ _ => rfl
  obtain ⟨hr, hv, _⟩ := h7.is
  have HS := Lib.hid hS
  have HR := Lib.hid hr
  have HV := Lib.hid hv
  clear hS hr hv
  go_enter Tryz.func82, Tryz.ntmps82
  go_wp2_with fail
  refine (DRight_any S D 6 _ HS.out hD).mono ?_
  rw [HR.out]
  rintro en w1 ⟨rfl, hB⟩
  have hw0 := Whole.new w soT zeroS
  unfold zeroS at hw0
  have hB0 : Below w.heap.size w (w.alloc (.cells zeroS soT)) := (Below.refl _ _).alloc (Nat.le_refl _) _
  have hw := hw0.below hB (Whole.lt hw0)
  have HB := Lib.hid (hB0.trans (hB.mono hB0.size))
  have HW := Lib.hid hw
  have hb1 : Below w1.heap.size w1 (w1.alloc (.cells #[.slice none 0 0] 67)) := (Below.refl _ _).alloc (Nat.le_refl _) _
  have HJ := Lib.hid (show JL w1.heap.size w1 [] (w1.alloc (.cells #[.slice none 0 0] 67)) from ⟨_, Whole.new w1 67 _, World.ownsRow_nil _ _ _ _, hb1, Nat.le_refl _⟩)
  have HVS := Lib.hid (vis_soa (visR 6 D) w1.heap.size w1 (by rw [HV.out]; simp))
  clear hB hw0 hB0 hw hb1
  go_wp2_with fail
  refine Calls.mono (walkData_any S D 6 _ _ _ (JL w1.heap.size w1) HVS.out HJ.out HS.out (by omega)) ?_
  rintro en w2 ⟨rfl, v, h1, h2, h3, _⟩
  rw [HV.out] at h2
  obtain ⟨A, cA, rfl, hsee⟩ := Sees.own h2
  obtain ⟨bb, off, hA, hbb, hc⟩ := hsee.addr (by simp)
  simp only [List.length_cons, List.length_nil] at hA h1 h2 hbb hc ⊢
  subst hA
  have s0 := hc 0 (.string (mk m)) rfl
  have s1 := hc 1 (.string (mk r)) rfl
  have s2 := hc 2 (.string (mk (a ++ b ++ c ++ d ++ e))) rfl
  have k0 : w2.cell? ⟨w1.heap.size, 0, none⟩ = some (.slice (some ⟨bb, off, none⟩) 3 cA) := h1.cell1
  have HW2 := Lib.hid (HW.out.below h3 (HW.out.lt))
  have HB2 := Lib.hid (HB.out.trans (h3.mono HB.out.size))
  have HC2 := Lib.hid h1
  have HJ2 := Lib.hid h2
  clear h1 h2 h3 hsee hc
  have c0 : w2.cell? ⟨bb, off, none⟩ = some (.string (mk m)) := s0
  obtain ⟨X, hX⟩ : ∃ X, X = mk (a ++ b ++ c ++ d ++ e) := ⟨_, rfl⟩
  rw [← hX] at s2
  have hXz : X.size ≤ 1073741824 := by obtain ⟨l0, l1, l2, l3, l4⟩ := h7.four; rw [hX, mk_size]; simp; omega
  have HSP := Lib.hid (show splitR X [4, 4, 4, 4, 4] = ([(num a : Int), (num b : Int), (num c : Int), (num d : Int), (num e : Int)], mk [], 0) by rw [hX]; exact split5 h7.four)
  clear hX s0
  go_wp2_with fail
  go_region_held3 (fun w' => w'.cell? ⟨w1.heap.size, 0, none⟩ = some (.slice (some ⟨bb, off, none⟩) 3 cA) ∧ w'.cell? ⟨bb, off + 2, none⟩ = some (.string X)) (go_keep) (first
    | (go_at_call 84; (refine (widths_any _).mono ?_; rintro en w3 ⟨g3, rfl, hs3, hB3⟩; have hB3 := (Below.refl _ _).drew.trans hB3; have k3 := (hB3.cell (p := ⟨w1.heap.size, 0, none⟩) HC2.out.lt).trans k0; have z3 := (hB3.cell (p := ⟨bb, off + 2, none⟩) hbb).trans s2; have hl3 := Nat.lt_of_lt_of_le HC2.out.lt hB3.size; have hb3 := Nat.lt_of_lt_of_le hbb hB3.size))
    | (go_at_call 109; (refine (Split_any X _ 5 5 _ [4, 4, 4, 4, 4] _ hs3 (by decide) (Nat.le_refl _) hXz).mono ?_; unfold SplitLeaves; rw [HSP.out]; rintro en w4 ⟨A4, c4, rfl, hs4, hB4⟩; have k3' := (hB4.cell (p := ⟨w1.heap.size, 0, none⟩) hl3).trans k3; have z3' := (hB4.cell (p := ⟨bb, off + 2, none⟩) hb3).trans z3)))
  all_goals (
    have hB34 := hB3.trans (hB4.mono hB3.size)
    obtain ⟨b4, off4, hA4, hb4, hc4⟩ := hs4.addr (by simp)
    subst hA4
    have v0 : w4.cell? ⟨b4, off4, none⟩ = some (.int .u64 (num a : Nat)) := hc4 0 _ rfl
    have v1 : w4.cell? ⟨b4, off4 + 1, none⟩ = some (.int .u64 (num b : Nat)) := hc4 1 _ rfl
    have v2 : w4.cell? ⟨b4, off4 + 2, none⟩ = some (.int .u64 (num c : Nat)) := hc4 2 _ rfl
    have v3 : w4.cell? ⟨b4, off4 + 3, none⟩ = some (.int .u64 (num d : Nat)) := hc4 3 _ rfl
    have v4 : w4.cell? ⟨b4, off4 + 4, none⟩ = some (.int .u64 (num e : Nat)) := hc4 4 _ rfl
    have k4 := (hB34.cell (p := ⟨w1.heap.size, 0, none⟩) HC2.out.lt).trans k0
    have x4 := (hB34.cell (p := ⟨bb, off, none⟩) hbb).trans c0
    have y4 := (hB34.cell (p := ⟨bb, off + 1, none⟩) hbb).trans s1
    have HW4 := Lib.hid (HW2.out.below hB34 HW2.out.lt)
    have HB4 := Lib.hid (HB2.out.trans (hB34.mono HB2.out.size))
    obtain ⟨l0, l1, l2, l3, l4⟩ := h7.four
    have na : num a < 4294967296 := by have := num_lt a; rw [l0] at this; omega
    have nb : num b < 4294967296 := by have := num_lt b; rw [l1] at this; omega
    have nc : num c < 4294967296 := by have := num_lt c; rw [l2] at this; omega
    have nd : num d < 4294967296 := by have := num_lt d; rw [l3] at this; omega
    have ne : num e < 4294967296 := by have := num_lt e; rw [l4] at this; omega
    clear hB3 hB4 hB34 hs4 hc4 hs3 k0 k3 z3 k3' z3' hl3 hb3 s1 s2 c0 l0 l1 l2 l3 l4
    go_wp2_with fail
    go_still_tail 27, (by kernel_rfl)
    change wpList _ _ _ _ _ w4.drew
    have HW5 := Lib.hid HW4.out.drew
    have HB5 := Lib.hid HB4.out.drew
    generalize w4.drew = w5 at HW5 HB5 ⊢
    obtain ⟨c0', c1', c2', c3', c4', c5', c6'⟩ := soa_facts HW5.out
    obtain ⟨f0, f1, f2, f3, f4, f5, f6⟩ := soa_frozen HW5.out
    go_wp2_with fail
    refine retS2 rfl rfl rfl rfl (seven_put HW5.out _ _ _ _ _ _ _) ⟨rfl, seven_below HB5.out (Nat.le_refl _) _ _ _ _ _ _ _⟩)
end Go.Proofs.YtaijcoiepfjecaaGreat
