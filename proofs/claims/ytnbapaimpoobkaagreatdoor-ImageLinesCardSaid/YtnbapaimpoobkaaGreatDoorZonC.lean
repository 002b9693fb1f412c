/- Parts of the proofs of the statements of image. No statement of the seat is proved here. -/
import Derived.Test.YtnbapaimpoobkaaGreatDoorZonB
import Derived.Test.YtnbapaimpoobkaaGreatDoorRsQ
namespace Go.Proofs.YtnbapaimpoobkaaGreatDoor
open Go.RowKit Go.Op
set_option linter.unusedVariables false

set_option maxHeartbeats 8000000 in
set_option maxRecDepth 300000 in
theorem isZone_any (A : Option Addr) (n c : Nat) (N : ByteArray) (nn : List UInt8) (D : List Rrd) (w : World) (hN : N = mk nn) (hl : nn.length ≤ 1000000)
    (hx : SeesR w w.heap.size A n D) (hcap : InCap A n c) (hok : OkL D) (hk : KS D) (hn : n ≤ 1000000) :
    Calls Tryz.prog 29 #[.string N, .slice A n c] w fun e w' => e = .returned (.bool (isZ nn D)) ∧ Below w.heap.size w w' := by
  obtain ⟨g, hg⟩ : ∃ g, g = w.heap.size := ⟨_, rfl⟩
  obtain ⟨W, hW⟩ : ∃ W, W = w.alloc (.cells #[.string N] 9) := ⟨_, rfl⟩
  have hB0 : Below w.heap.size w W := by rw [hW]; exact (Below.refl _ _).alloc (Nat.le_refl _) _
  have hc0 : W.cell? ⟨g, 0, none⟩ = some (.string N) := by rw [hW, hg]; exact (Whole.new w _ _).cell1
  have HB0 := Lib.hid hB0
  have HC0 := Lib.hid hc0
  have HX := Lib.hid ((hx.keep hB0).more hB0.size)
  have HW := Lib.hid hW
  have HG := Lib.hid hg
  have HN := Lib.hid hN
  have HCAP := Lib.hid hcap
  have HOK := Lib.hid hok
  have HK := Lib.hid hk
  obtain ⟨q1, h1⟩ : ∃ q1, q1 = D.all (goodR nn) := ⟨_, rfl⟩
  obtain ⟨T, hT⟩ : ∃ T, T = atX nn D := ⟨_, rfl⟩
  obtain ⟨X2, h2⟩ : ∃ X2, X2 = typX 6 D := ⟨_, rfl⟩
  obtain ⟨X3, h3⟩ : ∃ X3, X3 = typX 6 T := ⟨_, rfl⟩
  obtain ⟨X4, h4⟩ : ∃ X4, X4 = typX 2 T := ⟨_, rfl⟩
  obtain ⟨q5, h5⟩ : ∃ q5, q5 = aloneX D := ⟨_, rfl⟩
  have hz : isZ nn D = (q1 && (decide (X2.length = 1) && (decide (X3.length = 1) && (decide (0 < X4.length) && q5)))) := by rw [h1, h2, h3, h4, h5, hT]; rfl
  obtain ⟨r, hr⟩ : ∃ r, r = isZ nn D := ⟨_, rfl⟩
  rw [← hr]
  have HR := Lib.hid (hr.trans hz)
  have HT := Lib.hid hT
  have H1 := Lib.hid h1
  have H2 := Lib.hid h2
  have H3 := Lib.hid h3
  have H4 := Lib.hid h4
  have H5 := Lib.hid h5
  have HLT := Lib.hid (show T.length ≤ 1000000 by rw [hT]; have := atX_len nn D; rw [hx.1] at this; omega)
  clear hB0 hx hW hg hN hcap hok hk h1 h2 h3 h4 h5 hT hz hr
  go_enter Tryz.func29, Tryz.ntmps29
  go_wp2_with fail
  rw [← HW.out, ← HG.out]
  have c0 := HC0.out
  go_wp2_with fail
  refine (At_any A n c N nn D _ HN.out hl HX.out HCAP.out HOK.out HK.out hn).mono ?_
  rw [← HT.out]
  rintro e w1 ⟨v1, rfl, ho1, hB1⟩
  obtain ⟨A1, c1, rfl, hs1, _⟩ := own_sees ho1
  have HX1 := Lib.hid ((HX.out.keep hB1).more hB1.size)
  have HC1 := Lib.hid ((hB1.cell (World.block_lt_of_cell? W _ HC0.out)).trans HC0.out)
  have HB1 := Lib.hid (HB0.out.trans (hB1.mono HB0.out.size))
  have HS1 := Lib.hid hs1
  clear hB1 hs1 ho1 c0
  go_wp2_with fail
  refine (all1_any 70 (.pointer (some ⟨g, 0, none⟩)) (enters_of Tryz.func70 (by kernel_rfl) rfl) A n c D (goodR nn) _ HX1.out hn (fun x wr hm hB => Good_any g N nn x wr HN.out hl (HOK.out x hm) ((hB.cell (World.block_lt_of_cell? w1 _ HC1.out)).trans HC1.out))).mono ?_
  rw [← H1.out]
  rintro e w2 ⟨rfl, hB2⟩
  have HX2 := Lib.hid ((HX1.out.keep hB2).more hB2.size)
  have HS2 := Lib.hid ((HS1.out.keep hB2).more hB2.size)
  have HB2 := Lib.hid (HB1.out.trans (hB2.mono HB1.out.size))
  clear hB2
  cases q1 with
  | false =>
    go_wp2_with fail
    go_ret
    exact ⟨by rw [HR.out]; rfl, HB2.out⟩
  | true =>
    go_wp2_with fail
    refine (Typed_any A n c D 6 _ HX2.out hn).mono ?_
    rw [← H2.out]
    rintro e w3 ⟨v3, rfl, ho3, hB3⟩
    obtain ⟨A3, c3, rfl, _, _⟩ := own_sees ho3
    have HX3 := Lib.hid ((HX2.out.keep hB3).more hB3.size)
    have HS3 := Lib.hid ((HS2.out.keep hB3).more hB3.size)
    have HB3 := Lib.hid (HB2.out.trans (hB3.mono HB2.out.size))
    clear hB3 ho3
    obtain ⟨l2, hl2⟩ : ∃ l2, l2 = X2.length := ⟨_, rfl⟩
    rw [← hl2]
    have HL2 := Lib.hid hl2
    clear hl2
    by_cases e2 : l2 = 1
    · have g2 : ((l2 : Int) == 1) = true := by rw [beq_iff_eq]; omega
      have HE2 := Lib.hid e2
      clear e2
      go_wp2_with fail
      refine (Typed_any A1 T.length c1 T 6 _ HS3.out HLT.out).mono ?_
      rw [← H3.out]
      rintro e w4 ⟨v4, rfl, ho4, hB4⟩
      obtain ⟨A4, c4, rfl, _, _⟩ := own_sees ho4
      have HX4 := Lib.hid ((HX3.out.keep hB4).more hB4.size)
      have HS4 := Lib.hid ((HS3.out.keep hB4).more hB4.size)
      have HB4 := Lib.hid (HB3.out.trans (hB4.mono HB3.out.size))
      clear hB4 ho4
      obtain ⟨l3, hl3⟩ : ∃ l3, l3 = X3.length := ⟨_, rfl⟩
      rw [← hl3]
      have HL3 := Lib.hid hl3
      clear hl3
      by_cases e3 : l3 = 1
      · have g3 : ((l3 : Int) == 1) = true := by rw [beq_iff_eq]; omega
        have HE3 := Lib.hid e3
        clear e3
        go_wp2_with fail
        refine (Typed_any A1 T.length c1 T 2 _ HS4.out HLT.out).mono ?_
        rw [← H4.out]
        rintro e w5 ⟨v5, rfl, ho5, hB5⟩
        obtain ⟨A5, c5, rfl, _, _⟩ := own_sees ho5
        have HX5 := Lib.hid ((HX4.out.keep hB5).more hB5.size)
        have HB5 := Lib.hid (HB4.out.trans (hB5.mono HB4.out.size))
        clear hB5 ho5
        obtain ⟨l4, hl4⟩ : ∃ l4, l4 = X4.length := ⟨_, rfl⟩
        rw [← hl4]
        have HL4 := Lib.hid hl4
        clear hl4
        by_cases e4 : 0 < l4
        · have g4 : (l4 : Int) > 0 := by omega
          have HE4 := Lib.hid e4
          clear e4
          go_wp2_with fail
          refine (aliases_any A n c D _ HX5.out HOK.out hn).mono ?_
          rw [← H5.out]
          rintro e w6 ⟨rfl, hB6⟩
          have HB6 := Lib.hid (HB5.out.trans (hB6.mono HB5.out.size))
          clear hB6
          go_wp2_with fail
          go_ret
          exact ⟨by rw [HR.out, ← HL2.out, ← HL3.out, ← HL4.out, decide_eq_true HE2.out, decide_eq_true HE3.out, decide_eq_true HE4.out]; rfl, HB6.out⟩
        · have g4 : ¬ (l4 : Int) > 0 := by omega
          have HE4 := Lib.hid e4
          clear e4
          go_wp2_with fail
          go_ret
          exact ⟨by rw [HR.out, ← HL2.out, ← HL3.out, ← HL4.out, decide_eq_true HE2.out, decide_eq_true HE3.out, decide_eq_false HE4.out]; rfl, HB5.out⟩
      · have g3 : ((l3 : Int) == 1) = false := by rw [beq_eq_false_iff_ne]; omega
        have HE3 := Lib.hid e3
        clear e3
        go_wp2_with fail
        go_ret
        exact ⟨by rw [HR.out, ← HL2.out, ← HL3.out, decide_eq_true HE2.out, decide_eq_false HE3.out]; rfl, HB4.out⟩
    · have g2 : ((l2 : Int) == 1) = false := by rw [beq_eq_false_iff_ne]; omega
      have HE2 := Lib.hid e2
      clear e2
      go_wp2_with fail
      go_ret
      exact ⟨by rw [HR.out, ← HL2.out, decide_eq_false HE2.out]; rfl, HB3.out⟩

/-! ### zones as values -/
abbrev zoT : TypeId := 29
def zeroZ : Array Value := #[.string ⟨#[]⟩, .slice none 0 0, .string ⟨#[]⟩, .int .i64 0, .int .i64 0, .int .i64 0, .string ⟨#[]⟩]
theorem zo_size : (Tryz.prog.info? zoT).map (·.size) = some 7 := by kernel_rfl
theorem retZ2 {fn : Func} {R : Ending → World → Prop} {a : Act} {w : World} {p u r : Nat} {a0 a1 a2 a3 a4 a5 a6 x : Value} (hf : fn.results = #[.cell p zoT, .tmp u]) (hd : a.defers = []) (hp : a.tmps.getD p undef = .pointer (some ⟨r, 0, none⟩)) (hx : a.tmps.getD u undef = x)
    (h : Whole w r zoT #[a0, a1, a2, a3, a4, a5, a6]) (hR : R (.returned (.tuple #[.agg #[a0, a1, a2, a3, a4, a5, a6], x])) w) : bodyPost Tryz.prog fn R .ret a w := by
  refine bodyPost_ret ?_ hd hR
  rw [results_cell_tmp hf, hp, hx]
  simp [asAddr, run_loadVar_row w r zoT _ _ (0, 0) _ h Tryz.underlying29 rfl zo_size, Result.andThen]
theorem sevZ_put {w : World} {r t : Nat} {x0 x1 x2 x3 x4 x5 x6 : Value} (h : Whole w r t #[x0, x1, x2, x3, x4, x5, x6]) (a0 a1 a2 a3 a4 a5 a6 : Value) :
    Whole (((((((w.setCell ⟨r, 0, none⟩ a0).setCell ⟨r, 1, none⟩ a1).setCell ⟨r, 2, none⟩ a2).setCell ⟨r, 3, none⟩ a3).setCell ⟨r, 4, none⟩ a4).setCell ⟨r, 5, none⟩ a5).setCell ⟨r, 6, none⟩ a6) r t #[a0, a1, a2, a3, a4, a5, a6] := by
  have := ((((((h.put 0 a0).put 1 a1).put 2 a2).put 3 a3).put 4 a4).put 5 a5).put 6 a6
  simpa using this
theorem sevZ_own {w : World} {r base n : Nat} {v : Value} {xs : List Value} {cs : Array Value} (ho : w.ownsRow base 27 5 v n xs) (h : Whole w r zoT cs) (a0 a1 a2 a3 a4 a5 a6 : Value) :
    (((((((w.setCell ⟨r, 0, none⟩ a0).setCell ⟨r, 1, none⟩ a1).setCell ⟨r, 2, none⟩ a2).setCell ⟨r, 3, none⟩ a3).setCell ⟨r, 4, none⟩ a4).setCell ⟨r, 5, none⟩ a5).setCell ⟨r, 6, none⟩ a6).ownsRow base 27 5 v n xs := by
  have hne := own_apart ho h (by decide)
  exact ((((((ho.kept (gset _ ⟨r, 0, none⟩ a0) (.inr hne)).kept (gset _ ⟨r, 1, none⟩ a1) (.inr hne)).kept (gset _ ⟨r, 2, none⟩ a2) (.inr hne)).kept (gset _ ⟨r, 3, none⟩ a3) (.inr hne)).kept (gset _ ⟨r, 4, none⟩ a4) (.inr hne)).kept (gset _ ⟨r, 5, none⟩ a5) (.inr hne)).kept (gset _ ⟨r, 6, none⟩ a6) (.inr hne)
theorem sevZ_below {B : Nat} {a w : World} {r : Nat} (h : Below B a w) (hr : B ≤ r) (a0 a1 a2 a3 a4 a5 a6 : Value) :
    Below B a (((((((w.setCell ⟨r, 0, none⟩ a0).setCell ⟨r, 1, none⟩ a1).setCell ⟨r, 2, none⟩ a2).setCell ⟨r, 3, none⟩ a3).setCell ⟨r, 4, none⟩ a4).setCell ⟨r, 5, none⟩ a5).setCell ⟨r, 6, none⟩ a6) :=
  ((((((h.setCell hr a0).setCell hr a1).setCell hr a2).setCell hr a3).setCell hr a4).setCell hr a5).setCell hr a6
theorem zo_facts {w : World} {r t : Nat} {a0 a1 a2 a3 a4 a5 a6 : Value} (h : Whole w r t #[a0, a1, a2, a3, a4, a5, a6]) :
    w.cell? ⟨r, 0, none⟩ = some a0 ∧ w.cell? ⟨r, 1, none⟩ = some a1 ∧ w.cell? ⟨r, 2, none⟩ = some a2 ∧ w.cell? ⟨r, 3, none⟩ = some a3 ∧ w.cell? ⟨r, 4, none⟩ = some a4 ∧ w.cell? ⟨r, 5, none⟩ = some a5 ∧ w.cell? ⟨r, 6, none⟩ = some a6 :=
  ⟨(h.cell 0).trans rfl, (h.cell 1).trans rfl, (h.cell 2).trans rfl, (h.cell 3).trans rfl, (h.cell 4).trans rfl, (h.cell 5).trans rfl, (h.cell 6).trans rfl⟩
theorem zo_frozen {w : World} {r t : Nat} {cs : Array Value} (h : Whole w r t cs) : w.frozen? ⟨r, 0, none⟩ = false ∧ w.frozen? ⟨r, 1, none⟩ = false ∧ w.frozen? ⟨r, 2, none⟩ = false ∧ w.frozen? ⟨r, 3, none⟩ = false ∧ w.frozen? ⟨r, 4, none⟩ = false ∧ w.frozen? ⟨r, 5, none⟩ = false ∧ w.frozen? ⟨r, 6, none⟩ = false :=
  ⟨h.frozen 0, h.frozen 1, h.frozen 2, h.frozen 3, h.frozen 4, h.frozen 5, h.frozen 6⟩
/-- records of a size that is looked at -/
def LowL (xs : List Rrd) : Prop := ∀ x ∈ xs, x.s.size ≤ 600 ∧ x.d.size ≤ 30000
theorem LowL.ok {xs : List Rrd} (h : LowL xs) (k : xs.all (fun x => okR x.toRec) = true) : OkL xs := fun x hx => ⟨List.all_eq_true.1 k x hx, (h x hx).2⟩
theorem OkL.low {xs : List Rrd} (h : OkL xs) : LowL xs := fun x hx => ⟨by have := (h x hx).name; rw [name_len] at this; omega, (h x hx).2⟩
theorem OkL.all {xs : List Rrd} (h : OkL xs) : xs.all (fun x => okR x.toRec) = true := List.all_eq_true.2 fun x hx => (h x hx).1
set_option maxHeartbeats 30000000 in
theorem Right_far (S : ByteArray) (w : World) (hs : ¬ S.size ≤ 255) :
    Calls Tryz.prog 25 #[.string S] w fun e w' => e = .returned (.bool false) ∧ Below w.heap.size w w' := by
  have hlen : (255 : Int) < (S.size : Int) := by omega
  refine (callsIn_wide (n := 3)).1 ?_
  refine callsIn_of_wp_marks Tryz.func25 rfl trivial ?_ rfl
  simp only [Tryz.ntmps25, List.size_toArray, List.length_cons, List.length_nil, Nat.reduceAdd, Nat.reduceSub, Array.replicate_succ, Array.replicate_zero, List.push_toArray, List.append_toArray, List.nil_append, List.cons_append]
  have bO := (Boxed.new w 4 (.bool false)).cell
  gi_wp2
  exact ⟨.bool false, by simp [results, Tryz.f25, go_sem], rfl, (Below.refl _ w).alloc (Nat.le_refl _) _⟩
set_option maxHeartbeats 8000000 in
set_option maxRecDepth 300000 in
theorem New_name (A : Option Addr) (n c : Nat) (N : ByteArray) (w : World) (hR : ∀ w, Calls Tryz.prog 25 #[.string N] w fun e w' => e = .returned (.bool false) ∧ Below w.heap.size w w') :
    Calls Tryz.prog 10 #[.string N, .slice A n c] w fun e w' => e = .returned (.tuple #[.agg zeroZ, .int .i64 2]) ∧ Below w.heap.size w w' := by
  have hw0 := Whole.new w zoT zeroZ
  unfold zeroZ at hw0
  have hB0 : Below w.heap.size w (w.alloc (.cells zeroZ zoT)) := (Below.refl _ _).alloc (Nat.le_refl _) _
  have HB0 := Lib.hid hB0
  have HW0 := Lib.hid hw0
  have HR := Lib.hid hR
  clear hw0 hB0 hR
  go_enter Tryz.func10, Tryz.ntmps10
  go_wp2_with fail
  refine (HR.out _).mono ?_
  rintro e w1 ⟨rfl, hB⟩
  have HW1 := Lib.hid (HW0.out.below hB HW0.out.lt)
  have HB1 := Lib.hid (HB0.out.trans (hB.mono HB0.out.size))
  clear hB
  obtain ⟨c0, c1, c2, c3, c4, c5, c6⟩ := zo_facts HW1.out
  obtain ⟨f0, f1, f2, f3, f4, f5, f6⟩ := zo_frozen HW1.out
  go_wp2_with fail
  exact retZ2 rfl rfl rfl rfl (sevZ_put HW1.out _ _ _ _ _ _ _) ⟨rfl, sevZ_below HB1.out (Nat.le_refl _) _ _ _ _ _ _ _⟩
theorem right_no {N : ByteArray} {nn : List UInt8} (hN : N = mk nn) (hr : (nameL nn).isSome = false) (w : World) : Calls Tryz.prog 25 #[.string N] w fun e w' => e = .returned (.bool false) ∧ Below w.heap.size w w' := by
  by_cases h : N.size ≤ 255
  · rw [← hr]; exact Right_any N nn w hN (by rw [hN, mk_size] at h; omega)
  · exact Right_far N w h
theorem right_len {nn : List UInt8} (hr : (nameL nn).isSome = true) : nn.length ≤ 1000000 := by
  cases h : nameL nn with
  | none => rw [h] at hr; cases hr
  | some L => have := (nameL_is h).2.2; omega
set_option maxHeartbeats 8000000 in
set_option maxRecDepth 300000 in
theorem New_right (A : Option Addr) (n c : Nat) (N : ByteArray) (nn : List UInt8) (xs : List Rrd) (w : World) (hN : N = mk nn) (hl : nn.length ≤ 1000000) (hx : SeesR w w.heap.size A n xs) (hn : n ≤ 60000) (hlow : LowL xs) (hr : (nameL nn).isSome = true) (hb : xs.all (fun x => okR x.toRec) = false) :
    Calls Tryz.prog 10 #[.string N, .slice A n c] w fun e w' => e = .returned (.tuple #[.agg zeroZ, .int .i64 2]) ∧ Below w.heap.size w w' := by
  have hw0 := Whole.new w zoT zeroZ
  unfold zeroZ at hw0
  have hB0 : Below w.heap.size w (w.alloc (.cells zeroZ zoT)) := (Below.refl _ _).alloc (Nat.le_refl _) _
  have HX0 := Lib.hid ((hx.keep hB0).more hB0.size)
  have HB0 := Lib.hid hB0
  have HW0 := Lib.hid hw0
  have HN := Lib.hid hN
  have HLOW := Lib.hid hlow
  have HR := Lib.hid hr
  have HBAD := Lib.hid hb
  clear hw0 hB0 hx hN hlow hr hb
  go_enter Tryz.func10, Tryz.ntmps10
  go_wp2_with fail
  refine (Right_any N nn _ HN.out (by omega)).mono ?_
  rw [HR.out]
  rintro e w1 ⟨rfl, hB⟩
  have HX1 := Lib.hid ((HX0.out.keep hB).more hB.size)
  have HW1 := Lib.hid (HW0.out.below hB HW0.out.lt)
  have HB1 := Lib.hid (HB0.out.trans (hB.mono HB0.out.size))
  clear hB
  go_wp2_with fail
  refine (all0_any 27 (enters_of Tryz.func27 (by kernel_rfl) rfl) A n c xs (fun x => okR x.toRec) _ HX1.out (by omega) (fun x wr hm _ => by
      obtain ⟨l1, l2⟩ := HLOW.out x hm
      exact RRight_any x.s x.d x.toRec wr (rrd_name x) (rrd_data x) (by rw [name_len]; omega) (by rw [data_len]; omega))).mono ?_
  rw [HBAD.out]
  rintro e w2 ⟨rfl, hB⟩
  have HX2 := Lib.hid ((HX1.out.keep hB).more hB.size)
  have HW2 := Lib.hid (HW1.out.below hB HW1.out.lt)
  have HB2 := Lib.hid (HB1.out.trans (hB.mono HB1.out.size))
  clear hB
  obtain ⟨c0, c1, c2, c3, c4, c5, c6⟩ := zo_facts HW2.out
  obtain ⟨f0, f1, f2, f3, f4, f5, f6⟩ := zo_frozen HW2.out
  go_wp2_with fail
  exact retZ2 rfl rfl rfl rfl (sevZ_put HW2.out _ _ _ _ _ _ _) ⟨rfl, sevZ_below HB2.out (Nat.le_refl _) _ _ _ _ _ _ _⟩
set_option maxHeartbeats 8000000 in
set_option maxRecDepth 300000 in
theorem New_apex (A : Option Addr) (n c : Nat) (N : ByteArray) (nn : List UInt8) (xs : List Rrd) (w : World) (hN : N = mk nn) (hl : nn.length ≤ 1000000) (hx : SeesR w w.heap.size A n xs) (hn : n ≤ 60000) (hlow : LowL xs) (hr : (nameL nn).isSome = true) (hok : OkL xs) (hz : isZ nn (ofC xs) = false) :
    Calls Tryz.prog 10 #[.string N, .slice A n c] w fun e w' => e = .returned (.tuple #[.agg zeroZ, .int .i64 9]) ∧ Below w.heap.size w w' := by
  have hw0 := Whole.new w zoT zeroZ
  unfold zeroZ at hw0
  have hB0 : Below w.heap.size w (w.alloc (.cells zeroZ zoT)) := (Below.refl _ _).alloc (Nat.le_refl _) _
  have HX0 := Lib.hid ((hx.keep hB0).more hB0.size)
  have HB0 := Lib.hid hB0
  have HW0 := Lib.hid hw0
  have HN := Lib.hid hN
  have HLOW := Lib.hid hlow
  obtain ⟨D, hD⟩ : ∃ D, D = ofC xs := ⟨_, rfl⟩
  have hset : SetL cX D := by rw [hD]; exact ofC_set xs
  have HD := Lib.hid hD
  have HOK := Lib.hid hok
  have HOKD := Lib.hid (show OkL D by rw [hD]; exact hok.ofC)
  have HKD := Lib.hid hset.keys
  have HDL := Lib.hid (show D.length ≤ 60000 by rw [hD]; have := ofC_len xs; rw [hx.1] at this; omega)
  have HR := Lib.hid hr
  have HZ := Lib.hid (show isZ nn D = false by rw [hD]; exact hz)
  clear hw0 hB0 hx hN hlow hr hok hz hD hset
  go_enter Tryz.func10, Tryz.ntmps10
  go_wp2_with fail
  refine (Right_any N nn _ HN.out (by omega)).mono ?_
  rw [HR.out]
  rintro e w1 ⟨rfl, hB⟩
  have HX1 := Lib.hid ((HX0.out.keep hB).more hB.size)
  have HW1 := Lib.hid (HW0.out.below hB HW0.out.lt)
  have HB1 := Lib.hid (HB0.out.trans (hB.mono HB0.out.size))
  clear hB
  go_wp2_with fail
  refine (all0_any 27 (enters_of Tryz.func27 (by kernel_rfl) rfl) A n c xs (fun x => okR x.toRec) _ HX1.out (by omega) (fun x wr hm _ => by
      obtain ⟨l1, l2⟩ := HLOW.out x hm
      exact RRight_any x.s x.d x.toRec wr (rrd_name x) (rrd_data x) (by rw [name_len]; omega) (by rw [data_len]; omega))).mono ?_
  rw [HOK.out.all]
  rintro e w2 ⟨rfl, hB⟩
  have HX2 := Lib.hid ((HX1.out.keep hB).more hB.size)
  have HW2 := Lib.hid (HW1.out.below hB HW1.out.lt)
  have HB2 := Lib.hid (HB1.out.trans (hB.mono HB1.out.size))
  clear hB
  go_wp2_with fail
  refine (Of_any A n c xs _ HX2.out HOK.out hn).mono ?_
  rw [← HD.out]
  rintro e w3 ⟨v3, rfl, ho3, hB⟩
  obtain ⟨A3, c3', rfl, hs3, hcap3⟩ := own_sees ho3
  have HS3 := Lib.hid hs3
  have HCAP3 := Lib.hid hcap3
  have HO3 := Lib.hid ho3
  have g1 : ¬ ((D.length : Int) > 65536) := by have := HDL.out; omega
  have HX3 := Lib.hid ((HX2.out.keep hB).more hB.size)
  have HW3 := Lib.hid (HW2.out.below hB HW2.out.lt)
  have HB3 := Lib.hid (HB2.out.trans (hB.mono HB2.out.size))
  clear hB
  clear hs3 ho3 hcap3
  obtain ⟨m, hm⟩ : ∃ m, m = D.length := ⟨_, rfl⟩
  rw [← hm] at HS3 HO3 HCAP3 HDL g1
  try rw [← hm]
  have HM := Lib.hid hm
  clear hm
  go_wp2_with fail
  refine (isZone_any A3 m c3' N nn D _ HN.out hl HS3.out HCAP3.out HOKD.out HKD.out (by have := HDL.out; omega)).mono ?_
  rw [HZ.out]
  rintro e w4 ⟨rfl, hB⟩
  have HS4 := Lib.hid ((HS3.out.keep hB).more hB.size)
  have HO4 := Lib.hid (own_keep HO3.out hB)
  have HX4 := Lib.hid ((HX3.out.keep hB).more hB.size)
  have HW4 := Lib.hid (HW3.out.below hB HW3.out.lt)
  have HB4 := Lib.hid (HB3.out.trans (hB.mono HB3.out.size))
  clear hB
  obtain ⟨c0, c1, c2, c3, c4, c5, c6⟩ := zo_facts HW4.out
  obtain ⟨f0, f1, f2, f3, f4, f5, f6⟩ := zo_frozen HW4.out
  go_wp2_with fail
  exact retZ2 rfl rfl rfl rfl (sevZ_put HW4.out _ _ _ _ _ _ _) ⟨rfl, sevZ_below HB4.out (Nat.le_refl _) _ _ _ _ _ _ _⟩
/-- the zone of an apex and a set that stands in memory -/
def ZoneAt (w : World) (B : Nat) (N : ByteArray) (D : List Rrd) (v : Value) : Prop :=
  ∃ A c s, v = .agg #[.string N, .slice A D.length c, .string s.s, .int .i64 s.t, .int .i64 s.c, .int .i64 s.l, .string s.d] ∧ SeesR w B A D.length D ∧ InCap A D.length c ∧ typX 6 D = [s]
theorem isZ_soa {nn : List UInt8} {D : List Rrd} (h : isZ nn D = true) : ∃ s, typX 6 D = [s] := by
  unfold isZ at h
  rw [Bool.and_eq_true, Bool.and_eq_true, decide_eq_true_eq] at h
  exact List.length_eq_one_iff.1 h.2.1
set_option maxHeartbeats 8000000 in
set_option maxRecDepth 300000 in
theorem New_yes (A : Option Addr) (n c : Nat) (N : ByteArray) (nn : List UInt8) (xs : List Rrd) (w : World) (hN : N = mk nn) (hl : nn.length ≤ 1000000) (hx : SeesR w w.heap.size A n xs) (hn : n ≤ 60000) (hlow : LowL xs) (hr : (nameL nn).isSome = true) (hok : OkL xs) (hz : isZ nn (ofC xs) = true) :
    Calls Tryz.prog 10 #[.string N, .slice A n c] w fun e w' => (∃ v, e = .returned (.tuple #[v, .int .i64 0]) ∧ ZoneAt w' w'.heap.size N (ofC xs) v) ∧ Below w.heap.size w w' := by
  have hw0 := Whole.new w zoT zeroZ
  unfold zeroZ at hw0
  have hB0 : Below w.heap.size w (w.alloc (.cells zeroZ zoT)) := (Below.refl _ _).alloc (Nat.le_refl _) _
  have HX0 := Lib.hid ((hx.keep hB0).more hB0.size)
  have HB0 := Lib.hid hB0
  have HW0 := Lib.hid hw0
  have HN := Lib.hid hN
  have HLOW := Lib.hid hlow
  obtain ⟨D, hD⟩ : ∃ D, D = ofC xs := ⟨_, rfl⟩
  have hset : SetL cX D := by rw [hD]; exact ofC_set xs
  have HD := Lib.hid hD
  have HOK := Lib.hid hok
  have HOKD := Lib.hid (show OkL D by rw [hD]; exact hok.ofC)
  have HKD := Lib.hid hset.keys
  have HDL := Lib.hid (show D.length ≤ 60000 by rw [hD]; have := ofC_len xs; rw [hx.1] at this; omega)
  have HR := Lib.hid hr
  have HZ := Lib.hid (show isZ nn D = true by rw [hD]; exact hz)
  obtain ⟨s, hsoa⟩ := isZ_soa HZ.out
  have HSOA := Lib.hid hsoa
  rw [← hD]
  clear hw0 hB0 hx hN hlow hr hok hz hD hset hsoa
  go_enter Tryz.func10, Tryz.ntmps10
  go_wp2_with fail
  refine (Right_any N nn _ HN.out (by omega)).mono ?_
  rw [HR.out]
  rintro e w1 ⟨rfl, hB⟩
  have HX1 := Lib.hid ((HX0.out.keep hB).more hB.size)
  have HW1 := Lib.hid (HW0.out.below hB HW0.out.lt)
  have HB1 := Lib.hid (HB0.out.trans (hB.mono HB0.out.size))
  clear hB
  go_wp2_with fail
  refine (all0_any 27 (enters_of Tryz.func27 (by kernel_rfl) rfl) A n c xs (fun x => okR x.toRec) _ HX1.out (by omega) (fun x wr hm _ => by
      obtain ⟨l1, l2⟩ := HLOW.out x hm
      exact RRight_any x.s x.d x.toRec wr (rrd_name x) (rrd_data x) (by rw [name_len]; omega) (by rw [data_len]; omega))).mono ?_
  rw [HOK.out.all]
  rintro e w2 ⟨rfl, hB⟩
  have HX2 := Lib.hid ((HX1.out.keep hB).more hB.size)
  have HW2 := Lib.hid (HW1.out.below hB HW1.out.lt)
  have HB2 := Lib.hid (HB1.out.trans (hB.mono HB1.out.size))
  clear hB
  go_wp2_with fail
  refine (Of_any A n c xs _ HX2.out HOK.out hn).mono ?_
  rw [← HD.out]
  rintro e w3 ⟨v3, rfl, ho3, hB⟩
  obtain ⟨A3, c3', rfl, hs3, hcap3⟩ := own_sees ho3
  have HS3 := Lib.hid hs3
  have HCAP3 := Lib.hid hcap3
  have HO3 := Lib.hid ho3
  have g1 : ¬ ((D.length : Int) > 65536) := by have := HDL.out; omega
  have HX3 := Lib.hid ((HX2.out.keep hB).more hB.size)
  have HW3 := Lib.hid (HW2.out.below hB HW2.out.lt)
  have HB3 := Lib.hid (HB2.out.trans (hB.mono HB2.out.size))
  clear hB
  clear hs3 ho3 hcap3
  obtain ⟨m, hm⟩ : ∃ m, m = D.length := ⟨_, rfl⟩
  rw [← hm] at HS3 HO3 HCAP3 HDL g1
  try rw [← hm]
  have HM := Lib.hid hm
  clear hm
  go_wp2_with fail
  refine (isZone_any A3 m c3' N nn D _ HN.out hl HS3.out HCAP3.out HOKD.out HKD.out (by have := HDL.out; omega)).mono ?_
  rw [HZ.out]
  rintro e w4 ⟨rfl, hB⟩
  have HS4 := Lib.hid ((HS3.out.keep hB).more hB.size)
  have HO4 := Lib.hid (own_keep HO3.out hB)
  have HX4 := Lib.hid ((HX3.out.keep hB).more hB.size)
  have HW4 := Lib.hid (HW3.out.below hB HW3.out.lt)
  have HB4 := Lib.hid (HB3.out.trans (hB.mono HB3.out.size))
  clear hB
  go_wp2_with fail
  refine (Typed_any A3 m c3' D 6 _ HS4.out (by have := HDL.out; omega)).mono ?_
  rw [HSOA.out]
  rintro e w5 ⟨v5, rfl, ho5, hB⟩
  have HOW := Lib.hid (own_keep HO4.out hB)
  obtain ⟨A5, c5', rfl, hs5, _⟩ := own_sees ho5
  obtain ⟨b5, off5, x5, rfl, hb5, hx5, hf5⟩ := hs5.at (show 0 < 1 by omega)
  obtain rfl : s = x5 := by simpa using hx5
  obtain ⟨y0, y1, y2, y3, y4⟩ := hf5
  rw [Nat.zero_mul, Nat.add_zero] at y0 y1 y2 y3 y4
  have HS5 := Lib.hid ((HS4.out.keep hB).more hB.size)
  have HX5 := Lib.hid ((HX4.out.keep hB).more hB.size)
  have HW5 := Lib.hid (HW4.out.below hB HW4.out.lt)
  have HB5 := Lib.hid (HB4.out.trans (hB.mono HB4.out.size))
  clear hB
  clear ho5 hs5 hx5
  simp only [List.length_cons, List.length_nil]
  obtain ⟨c0, c1, c2, c3, c4, c5, c6⟩ := zo_facts HW5.out
  obtain ⟨f0, f1, f2, f3, f4, f5, f6⟩ := zo_frozen HW5.out
  go_wp2_with fail
  refine retZ2 rfl rfl rfl rfl (sevZ_put HW5.out _ _ _ _ _ _ _) ⟨?_, sevZ_below HB5.out (Nat.le_refl _) _ _ _ _ _ _ _⟩
  obtain ⟨A6, c6', e6, hs6, hcap6⟩ := own_sees (sevZ_own HOW.out HW5.out (.string N) (.slice A3 m c3') (.string s.s) (.int .i64 s.t) (.int .i64 s.c) (.int .i64 s.l) (.string s.d))
  obtain ⟨rfl, rfl⟩ : A3 = A6 ∧ c3' = c6' := by simpa using e6
  have hm2 : D.length = m := HM.out.symm
  refine ⟨_, rfl, A3, c3', s, ?_, ?_, ?_, HSOA.out⟩
  · rw [hm2]
  · rw [hm2]; exact hs6
  · rw [hm2]; exact hcap6

/-! ### New, whatever it is given -/
def codeZ (nn : List UInt8) (xs : List Rrd) : Int := if (nameL nn).isSome = true then if xs.all (fun x => okR x.toRec) = true then if isZ nn (ofC xs) = true then 0 else 9 else 2 else 2
def NewOut (w' : World) (N : ByteArray) (nn : List UInt8) (xs : List Rrd) (e : Ending) : Prop :=
  (codeZ nn xs = 2 ∧ e = .returned (.tuple #[.agg zeroZ, .int .i64 2])) ∨ (codeZ nn xs = 9 ∧ e = .returned (.tuple #[.agg zeroZ, .int .i64 9])) ∨
  (codeZ nn xs = 0 ∧ ∃ v, e = .returned (.tuple #[v, .int .i64 0]) ∧ ZoneAt w' w'.heap.size N (ofC xs) v)
theorem codeZ_zero {nn : List UInt8} {xs : List Rrd} (h : codeZ nn xs = 0) : (nameL nn).isSome = true ∧ xs.all (fun x => okR x.toRec) = true ∧ isZ nn (ofC xs) = true := by
  unfold codeZ at h
  split at h
  · rename_i h1
    split at h
    · rename_i h2
      split at h
      · rename_i h3; exact ⟨h1, h2, h3⟩
      · cases h
    · cases h
  · cases h
theorem ZNew_any (A : Option Addr) (n c : Nat) (N : ByteArray) (nn : List UInt8) (xs : List Rrd) (w : World) (hN : N = mk nn) (hx : SeesR w w.heap.size A n xs) (hn : n ≤ 60000) (hlow : LowL xs) :
    Calls Tryz.prog 10 #[.string N, .slice A n c] w fun e w' => NewOut w' N nn xs e ∧ Below w.heap.size w w' := by
  cases hr : (nameL nn).isSome with
  | false =>
    refine (New_name A n c N w (right_no hN hr)).mono ?_
    rintro e w' ⟨rfl, hB⟩
    exact ⟨.inl ⟨by unfold codeZ; rw [hr]; rfl, rfl⟩, hB⟩
  | true =>
    have hl := right_len hr
    cases ho : xs.all (fun x => okR x.toRec) with
    | false =>
      refine (New_right A n c N nn xs w hN hl hx hn hlow hr ho).mono ?_
      rintro e w' ⟨rfl, hB⟩
      exact ⟨.inl ⟨by unfold codeZ; rw [hr, ho]; rfl, rfl⟩, hB⟩
    | true =>
      have hok := hlow.ok ho
      cases hz : isZ nn (ofC xs) with
      | false =>
        refine (New_apex A n c N nn xs w hN hl hx hn hlow hr hok hz).mono ?_
        rintro e w' ⟨rfl, hB⟩
        exact ⟨.inr (.inl ⟨by unfold codeZ; rw [hr, ho, hz]; rfl, rfl⟩), hB⟩
      | true =>
        refine (New_yes A n c N nn xs w hN hl hx hn hlow hr hok hz).mono ?_
        rintro e w' ⟨⟨v, rfl, hv⟩, hB⟩
        exact ⟨.inr (.inr ⟨by unfold codeZ; rw [hr, ho, hz]; rfl, v, rfl, hv⟩), hB⟩
end Go.Proofs.YtnbapaimpoobkaaGreatDoor
