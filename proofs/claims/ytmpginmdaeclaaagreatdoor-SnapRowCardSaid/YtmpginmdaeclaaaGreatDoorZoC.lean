/- Parts of the proofs of the statements of image. No statement of the seat is proved here. -/
import Derived.Test.YtmpginmdaeclaaaGreatDoorZoA
import Derived.Test.YtmpginmdaeclaaaGreatDoorRrJ
import Derived.Test.YtmpginmdaeclaaaGreatDoorRdO
set_option maxHeartbeats 32000000
set_option maxRecDepth 20000
namespace Go.Proofs.YtmpginmdaeclaaaGreatDoor
open Go.RowKit Go.Op
set_option linter.unusedVariables false
theorem isZone_any (A : Option Addr) (n c : Nat) (N : ByteArray) (nn : List UInt8) (D : List Rrd) (w : World) (hN : N = mk nn) (hl : nn.length <= 1000000)
    (hx : SeesR w w.heap.size A n D) (hcap : InCap A n c) (hok : OkL D) (hk : KS D) (hn : n <= 1000000) :
    Calls Tryz.prog 77 #[.string N, .slice A n c] w fun e w' => e = .returned (.bool (isZ nn D)) /\ Below w.heap.size w w' := by
  obtain ⟨g, hg⟩ : ∃ g, g = w.heap.size := ⟨_, rfl⟩
  obtain ⟨W, hW⟩ : ∃ W, W = w.alloc (.cells #[.string N] 9) := ⟨_, rfl⟩
  have hB0 : Below w.heap.size w W := by rw [hW]; exact (Below.refl _ _).alloc (Nat.le_refl _) _
  have hc0 : W.cell? ⟨g, 0, none⟩ = some (.string N) := by rw [hW, hg]; exact (Whole.new w _ _).cell1
  have HB0 := Ha hB0
  have HC0 := Ha hc0
  have HX := Ha ((hx.keep hB0).more hB0.size)
  have HW := Ha hW
  have HG := Ha hg
  have HN := Ha hN
  have HCAP := Ha hcap
  have HOK := Ha hok
  have HK := Ha hk
  obtain ⟨q1, h1⟩ : ∃ q1, q1 = D.all (goodR nn) := ⟨_, rfl⟩
  obtain ⟨T, hT⟩ : ∃ T, T = atX nn D := ⟨_, rfl⟩
  obtain ⟨X2, h2⟩ : ∃ X2, X2 = typX 6 D := ⟨_, rfl⟩
  obtain ⟨X3, h3⟩ : ∃ X3, X3 = typX 6 T := ⟨_, rfl⟩
  obtain ⟨X4, h4⟩ : ∃ X4, X4 = typX 2 T := ⟨_, rfl⟩
  obtain ⟨q5, h5⟩ : ∃ q5, q5 = aloneX D := ⟨_, rfl⟩
  have hz : isZ nn D = (q1 && (decide (X2.length = 1) && (decide (X3.length = 1) && (decide (0 < X4.length) && q5)))) := by rw [h1, h2, h3, h4, h5, hT]; rfl
  obtain ⟨r, hr⟩ : ∃ r, r = isZ nn D := ⟨_, rfl⟩
  rw [<-hr]
  have HR := Ha (hr.trans hz)
  have HT := Ha hT
  have H1 := Ha h1
  have H2 := Ha h2
  have H3 := Ha h3
  have H4 := Ha h4
  have H5 := Ha h5
  have HLT := Ha (show T.length <= 1000000 by rw [hT]; have := atX_len nn D; rw [hx.1] at this; omega)
  clear hB0 hx hW hg hN hcap hok hk h1 h2 h3 h4 h5 hT hz hr
  go_enter Tryz.func77, Tryz.ntmps77
  go_wp2_with fail
  rw [<-HW.out, <-HG.out]
  have c0 := HC0.out
  go_wp2_with fail
  refine (At_any A n c N nn D _ HN.out hl HX.out HCAP.out HOK.out HK.out hn).mono ?_
  rw [<-HT.out]
  rintro e w1 ⟨v1, rfl, ho1, hB1⟩
  obtain ⟨A1, c1, rfl, hs1, _⟩ := own_sees ho1
  have HX1 := Ha ((HX.out.keep hB1).more hB1.size)
  have HC1 := Ha ((hB1.cell (World.block_lt_of_cell? W _ HC0.out)).trans HC0.out)
  have HB1 := thB HB0 hB1
  have HS1 := Ha hs1
  clear hB1 hs1 ho1 c0
  go_wp2_with fail
  refine (all1_any 131 (.pointer (some ⟨g, 0, none⟩)) (enters_of Tryz.func131 (by kernel_rfl) rfl) A n c D (goodR nn) _ HX1.out hn (fun x wr hm hB => Good_any g N nn x wr HN.out hl (HOK.out x hm) ((hB.cell (World.block_lt_of_cell? w1 _ HC1.out)).trans HC1.out))).mono ?_
  rw [<-H1.out]
  rintro e w2 ⟨rfl, hB2⟩
  have HX2 := Ha ((HX1.out.keep hB2).more hB2.size)
  have HS2 := Ha ((HS1.out.keep hB2).more hB2.size)
  have HB2 := thB HB1 hB2
  clear hB2
  cases q1 with
  | false =>
    go_wp2_with fail
    go_ret
    exact ⟨by rw [HR.out]; rfl, HB2.out⟩
  | true =>
    go_wp2_with fail
    refine (Typed_any A n c D 6 _ HX2.out hn).mono ?_
    rw [<-H2.out]
    rintro e w3 ⟨v3, rfl, ho3, hB3⟩; obtain ⟨A3, c3, rfl, _, _⟩ := own_sees ho3
    have HX3 := Ha ((HX2.out.keep hB3).more hB3.size)
    have HS3 := Ha ((HS2.out.keep hB3).more hB3.size)
    have HB3 := thB HB2 hB3
    clear hB3 ho3; obtain ⟨l2, hl2⟩ : ∃ l2, l2 = X2.length := ⟨_, rfl⟩
    rw [<-hl2]
    have HL2 := Ha hl2
    clear hl2
    by_cases e2 : l2 = 1
    · have g2 : ((l2 : Int) == 1) = true := by rw [beq_iff_eq]; omega
      have HE2 := Ha e2
      clear e2; go_wp2_with fail
      refine (Typed_any A1 T.length c1 T 6 _ HS3.out HLT.out).mono ?_
      rw [<-H3.out]
      rintro e w4 ⟨v4, rfl, ho4, hB4⟩; obtain ⟨A4, c4, rfl, _, _⟩ := own_sees ho4
      have HX4 := Ha ((HX3.out.keep hB4).more hB4.size)
      have HS4 := Ha ((HS3.out.keep hB4).more hB4.size)
      have HB4 := thB HB3 hB4
      clear hB4 ho4; obtain ⟨l3, hl3⟩ : ∃ l3, l3 = X3.length := ⟨_, rfl⟩
      rw [<-hl3]
      have HL3 := Ha hl3
      clear hl3
      by_cases e3 : l3 = 1
      · have g3 : ((l3 : Int) == 1) = true := by rw [beq_iff_eq]; omega
        have HE3 := Ha e3
        clear e3; go_wp2_with fail
        refine (Typed_any A1 T.length c1 T 2 _ HS4.out HLT.out).mono ?_
        rw [<-H4.out]
        rintro e w5 ⟨v5, rfl, ho5, hB5⟩; obtain ⟨A5, c5, rfl, _, _⟩ := own_sees ho5
        have HX5 := Ha ((HX4.out.keep hB5).more hB5.size)
        have HB5 := thB HB4 hB5
        clear hB5 ho5; obtain ⟨l4, hl4⟩ : ∃ l4, l4 = X4.length := ⟨_, rfl⟩
        rw [<-hl4]
        have HL4 := Ha hl4
        clear hl4
        by_cases e4 : 0 < l4
        · have g4 : (l4 : Int) > 0 := by omega
          have HE4 := Ha e4
          clear e4; go_wp2_with fail
          refine (aliases_any A n c D _ HX5.out HOK.out hn).mono ?_
          rw [<-H5.out]
          rintro e w6 ⟨rfl, hB6⟩; have HB6 := thB HB5 hB6
          clear hB6; go_wp2_with fail
          go_ret
          exact ⟨by rw [HR.out, <-HL2.out, <-HL3.out, <-HL4.out, decide_eq_true HE2.out, decide_eq_true HE3.out, decide_eq_true HE4.out]; rfl, HB6.out⟩
        · have g4 : ¬ (l4 : Int) > 0 := by omega
          have HE4 := Ha e4
          clear e4; go_wp2_with fail
          go_ret
          exact ⟨by rw [HR.out, <-HL2.out, <-HL3.out, <-HL4.out, decide_eq_true HE2.out, decide_eq_true HE3.out, decide_eq_false HE4.out]; rfl, HB5.out⟩
      · have g3 : ((l3 : Int) == 1) = false := by rw [beq_eq_false_iff_ne]; omega
        have HE3 := Ha e3
        clear e3; go_wp2_with fail
        go_ret
        exact ⟨by rw [HR.out, <-HL2.out, <-HL3.out, decide_eq_true HE2.out, decide_eq_false HE3.out]; rfl, HB4.out⟩
    · have g2 : ((l2 : Int) == 1) = false := by rw [beq_eq_false_iff_ne]; omega
      have HE2 := Ha e2
      clear e2; go_wp2_with fail
      go_ret
      exact ⟨by rw [HR.out, <-HL2.out, decide_eq_false HE2.out]; rfl, HB3.out⟩
abbrev zoT : TypeId := 48
def zeroZ : Array Value := #[.string ⟨#[]⟩, .slice none 0 0, .string ⟨#[]⟩, .int .i64 0, .int .i64 0, .int .i64 0, .string ⟨#[]⟩]
theorem zo_size : (Tryz.prog.info? zoT).map (·.size) = some 7 := by kernel_rfl
theorem retZ2 {fn : Func} {R : Ending -> World -> Prop} {a : Act} {w : World} {p u r : Nat} {a0 a1 a2 a3 a4 a5 a6 x : Value} (hf : fn.results = #[.cell p zoT, .tmp u]) (hd : a.defers = []) (hp : a.tmps.getD p undef = .pointer (some ⟨r, 0, none⟩)) (hx : a.tmps.getD u undef = x)
    (h : Whole w r zoT #[a0, a1, a2, a3, a4, a5, a6]) (hR : R (.returned (.tuple #[.agg #[a0, a1, a2, a3, a4, a5, a6], x])) w) : bodyPost Tryz.prog fn R .ret a w := by
  refine bodyPost_ret ?_ hd hR
  rw [results_cell_tmp hf, hp, hx]
  simp [asAddr, run_loadVar_row w r zoT _ _ (0, 0) _ h Tryz.underlying48 rfl zo_size, Result.andThen]
theorem sevZ_put {w : World} {r t : Nat} {x0 x1 x2 x3 x4 x5 x6 : Value} (h : Whole w r t #[x0, x1, x2, x3, x4, x5, x6]) (a0 a1 a2 a3 a4 a5 a6 : Value) :
    Whole (((((((w.setCell ⟨r, 0, none⟩ a0).setCell ⟨r, 1, none⟩ a1).setCell ⟨r, 2, none⟩ a2).setCell ⟨r, 3, none⟩ a3).setCell ⟨r, 4, none⟩ a4).setCell ⟨r, 5, none⟩ a5).setCell ⟨r, 6, none⟩ a6) r t #[a0, a1, a2, a3, a4, a5, a6] := by
  have := ((((((h.put 0 a0).put 1 a1).put 2 a2).put 3 a3).put 4 a4).put 5 a5).put 6 a6
  simpa using this
theorem sevZ_own {w : World} {r base n : Nat} {v : Value} {xs : List Value} {cs : Array Value} (ho : w.ownsRow base 46 5 v n xs) (h : Whole w r zoT cs) (a0 a1 a2 a3 a4 a5 a6 : Value) :
    (((((((w.setCell ⟨r, 0, none⟩ a0).setCell ⟨r, 1, none⟩ a1).setCell ⟨r, 2, none⟩ a2).setCell ⟨r, 3, none⟩ a3).setCell ⟨r, 4, none⟩ a4).setCell ⟨r, 5, none⟩ a5).setCell ⟨r, 6, none⟩ a6).ownsRow base 46 5 v n xs := by
  have hne := own_apart ho h (by decide)
  exact ((((((ho.kept (gset _ ⟨r, 0, none⟩ a0) (.inr hne)).kept (gset _ ⟨r, 1, none⟩ a1) (.inr hne)).kept (gset _ ⟨r, 2, none⟩ a2) (.inr hne)).kept (gset _ ⟨r, 3, none⟩ a3) (.inr hne)).kept (gset _ ⟨r, 4, none⟩ a4) (.inr hne)).kept (gset _ ⟨r, 5, none⟩ a5) (.inr hne)).kept (gset _ ⟨r, 6, none⟩ a6) (.inr hne)
theorem sevZ_below {B : Nat} {a w : World} {r : Nat} (h : Below B a w) (hr : B <= r) (a0 a1 a2 a3 a4 a5 a6 : Value) :
    Below B a (((((((w.setCell ⟨r, 0, none⟩ a0).setCell ⟨r, 1, none⟩ a1).setCell ⟨r, 2, none⟩ a2).setCell ⟨r, 3, none⟩ a3).setCell ⟨r, 4, none⟩ a4).setCell ⟨r, 5, none⟩ a5).setCell ⟨r, 6, none⟩ a6) :=
  ((((((h.setCell hr a0).setCell hr a1).setCell hr a2).setCell hr a3).setCell hr a4).setCell hr a5).setCell hr a6
theorem zo_facts {w : World} {r t : Nat} {a0 a1 a2 a3 a4 a5 a6 : Value} (h : Whole w r t #[a0, a1, a2, a3, a4, a5, a6]) :
    w.cell? ⟨r, 0, none⟩ = some a0 /\ w.cell? ⟨r, 1, none⟩ = some a1 /\ w.cell? ⟨r, 2, none⟩ = some a2 /\ w.cell? ⟨r, 3, none⟩ = some a3 /\ w.cell? ⟨r, 4, none⟩ = some a4 /\ w.cell? ⟨r, 5, none⟩ = some a5 /\ w.cell? ⟨r, 6, none⟩ = some a6 :=
  ⟨(h.cell 0).trans rfl, (h.cell 1).trans rfl, (h.cell 2).trans rfl, (h.cell 3).trans rfl, (h.cell 4).trans rfl, (h.cell 5).trans rfl, (h.cell 6).trans rfl⟩
theorem zo_frozen {w : World} {r t : Nat} {cs : Array Value} (h : Whole w r t cs) : w.frozen? ⟨r, 0, none⟩ = false /\ w.frozen? ⟨r, 1, none⟩ = false /\ w.frozen? ⟨r, 2, none⟩ = false /\ w.frozen? ⟨r, 3, none⟩ = false /\ w.frozen? ⟨r, 4, none⟩ = false /\ w.frozen? ⟨r, 5, none⟩ = false /\ w.frozen? ⟨r, 6, none⟩ = false :=
  ⟨h.frozen 0, h.frozen 1, h.frozen 2, h.frozen 3, h.frozen 4, h.frozen 5, h.frozen 6⟩
def LowL (xs : List Rrd) : Prop := ∀ x ∈ xs, x.s.size <= 600 /\ x.d.size <= 40000
theorem LowL.ok {xs : List Rrd} (h : LowL xs) (k : xs.all (fun x => okR x.toRec) = true) : OkL xs := fun x hx => ⟨List.all_eq_true.1 k x hx, (h x hx).2⟩
theorem OkL.low {xs : List Rrd} (h : OkL xs) : LowL xs := fun x hx => ⟨by have := (h x hx).name; rw [name_len] at this; omega, (h x hx).2⟩
theorem OkL.all {xs : List Rrd} (h : OkL xs) : xs.all (fun x => okR x.toRec) = true := List.all_eq_true.2 fun x hx => (h x hx).1
theorem Right_far (S : ByteArray) (w : World) (hs : ¬ S.size <= 255) :
    Calls Tryz.prog 73 #[.string S] w fun e w' => e = .returned (.bool false) /\ Below w.heap.size w w' := by
  have hlen : (255 : Int) < (S.size : Int) := by omega
  refine (callsIn_wide (n := 3)).1 ?_
  refine callsIn_of_wp_marks Tryz.func73 rfl trivial ?_ rfl
  simp only [Tryz.ntmps73, List.size_toArray, List.length_cons, List.length_nil, Nat.reduceAdd, Nat.reduceSub, Array.replicate_succ, Array.replicate_zero, List.push_toArray, List.append_toArray, List.nil_append, List.cons_append]
  have bO := (Boxed.new w 4 (.bool false)).cell
  gi_wp2
  exact ⟨.bool false, by simp [results, Tryz.f73, go_sem], rfl, (Below.refl _ w).alloc (Nat.le_refl _) _⟩
theorem New_name (A : Option Addr) (n c : Nat) (N : ByteArray) (w : World) (hR : ∀ w, Calls Tryz.prog 73 #[.string N] w fun e w' => e = .returned (.bool false) /\ Below w.heap.size w w') :
    Calls Tryz.prog 27 #[.string N, .slice A n c] w fun e w' => e = .returned (.tuple #[.agg zeroZ, .int .i64 2]) /\ Below w.heap.size w w' := by
  have hw0 := Whole.new w zoT zeroZ
  unfold zeroZ at hw0
  have hB0 : Below w.heap.size w (w.alloc (.cells zeroZ zoT)) := (Below.refl _ _).alloc (Nat.le_refl _) _
  have HB0 := Ha hB0
  have HW0 := Ha hw0
  have HR := Ha hR
  clear hw0 hB0 hR
  go_enter Tryz.func27, Tryz.ntmps27
  go_wp2_with fail
  refine (HR.out _).mono ?_
  rintro e w1 ⟨rfl, hB⟩
  have HW1 := Ha (HW0.out.below hB HW0.out.lt)
  have HB1 := thB HB0 hB
  clear hB
  obtain ⟨c0, c1, c2, c3, c4, c5, c6⟩ := zo_facts HW1.out
  obtain ⟨f0, f1, f2, f3, f4, f5, f6⟩ := zo_frozen HW1.out
  go_wp2_with fail
  exact retZ2 rfl rfl rfl rfl (sevZ_put HW1.out _ _ _ _ _ _ _) ⟨rfl, sevZ_below HB1.out (Nat.le_refl _) _ _ _ _ _ _ _⟩
theorem right_no {N : ByteArray} {nn : List UInt8} (hN : N = mk nn) (hr : (nameL nn).isSome = false) (w : World) : Calls Tryz.prog 73 #[.string N] w fun e w' => e = .returned (.bool false) /\ Below w.heap.size w w' := by
  by_cases h : N.size <= 255
  · rw [<-hr]; exact Right_any N nn w hN (by rw [hN, mk_size] at h; omega)
  · exact Right_far N w h
theorem right_len {nn : List UInt8} (hr : (nameL nn).isSome = true) : nn.length <= 1000000 := by
  cases h : nameL nn with
  | none => rw [h] at hr; cases hr
  | some L => have := (nameL_is h).2.2; omega
theorem New_right (A : Option Addr) (n c : Nat) (N : ByteArray) (nn : List UInt8) (xs : List Rrd) (w : World) (hN : N = mk nn) (hl : nn.length <= 1000000) (hx : SeesR w w.heap.size A n xs) (hn : n <= 60000) (hlow : LowL xs) (hr : (nameL nn).isSome = true) (hb : xs.all (fun x => okR x.toRec) = false) :
    Calls Tryz.prog 27 #[.string N, .slice A n c] w fun e w' => e = .returned (.tuple #[.agg zeroZ, .int .i64 2]) /\ Below w.heap.size w w' := by
  have hw0 := Whole.new w zoT zeroZ
  unfold zeroZ at hw0
  have hB0 : Below w.heap.size w (w.alloc (.cells zeroZ zoT)) := (Below.refl _ _).alloc (Nat.le_refl _) _
  have HX0 := Ha ((hx.keep hB0).more hB0.size)
  have HB0 := Ha hB0
  have HW0 := Ha hw0
  have HN := Ha hN
  have HLOW := Ha hlow
  have HR := Ha hr
  have HBAD := Ha hb
  clear hw0 hB0 hx hN hlow hr hb
  go_enter Tryz.func27, Tryz.ntmps27
  go_wp2_with fail
  refine (Right_any N nn _ HN.out (by omega)).mono ?_
  rw [HR.out]
  rintro e w1 ⟨rfl, hB⟩
  have HX1 := Ha ((HX0.out.keep hB).more hB.size)
  have HW1 := Ha (HW0.out.below hB HW0.out.lt)
  have HB1 := thB HB0 hB
  clear hB
  go_wp2_with fail
  refine (all0_any 75 (enters_of Tryz.func75 (by kernel_rfl) rfl) A n c xs (fun x => okR x.toRec) _ HX1.out (by omega) (fun x wr hm _ => by
      obtain ⟨l1, l2⟩ := HLOW.out x hm
      exact RRight_any x.s x.d x.toRec wr (rrd_name x) (rrd_data x) (by rw [name_len]; omega) (by rw [data_len]; omega))).mono ?_
  rw [HBAD.out]
  rintro e w2 ⟨rfl, hB⟩
  have HX2 := Ha ((HX1.out.keep hB).more hB.size)
  have HW2 := Ha (HW1.out.below hB HW1.out.lt)
  have HB2 := thB HB1 hB
  clear hB
  obtain ⟨c0, c1, c2, c3, c4, c5, c6⟩ := zo_facts HW2.out
  obtain ⟨f0, f1, f2, f3, f4, f5, f6⟩ := zo_frozen HW2.out
  go_wp2_with fail
  exact retZ2 rfl rfl rfl rfl (sevZ_put HW2.out _ _ _ _ _ _ _) ⟨rfl, sevZ_below HB2.out (Nat.le_refl _) _ _ _ _ _ _ _⟩
theorem New_apex (A : Option Addr) (n c : Nat) (N : ByteArray) (nn : List UInt8) (xs : List Rrd) (w : World) (hN : N = mk nn) (hl : nn.length <= 1000000) (hx : SeesR w w.heap.size A n xs) (hn : n <= 60000) (hlow : LowL xs) (hr : (nameL nn).isSome = true) (hok : OkL xs) (hz : isZ nn (ofC xs) = false) :
    Calls Tryz.prog 27 #[.string N, .slice A n c] w fun e w' => e = .returned (.tuple #[.agg zeroZ, .int .i64 9]) /\ Below w.heap.size w w' := by
  have hw0 := Whole.new w zoT zeroZ
  unfold zeroZ at hw0
  have hB0 : Below w.heap.size w (w.alloc (.cells zeroZ zoT)) := (Below.refl _ _).alloc (Nat.le_refl _) _
  have HX0 := Ha ((hx.keep hB0).more hB0.size)
  have HB0 := Ha hB0
  have HW0 := Ha hw0
  have HN := Ha hN
  have HLOW := Ha hlow
  obtain ⟨D, hD⟩ : ∃ D, D = ofC xs := ⟨_, rfl⟩
  have hset : SetL cX D := by rw [hD]; exact ofC_set xs
  have HD := Ha hD
  have HOK := Ha hok
  have HOKD := Ha (show OkL D by rw [hD]; exact hok.ofC)
  have HKD := Ha hset.keys
  have HDL := Ha (show D.length <= 60000 by rw [hD]; have := ofC_len xs; rw [hx.1] at this; omega)
  have HR := Ha hr
  have HZ := Ha (show isZ nn D = false by rw [hD]; exact hz)
  clear hw0 hB0 hx hN hlow hr hok hz hD hset
  go_enter Tryz.func27, Tryz.ntmps27
  go_wp2_with fail
  refine (Right_any N nn _ HN.out (by omega)).mono ?_
  rw [HR.out]
  rintro e w1 ⟨rfl, hB⟩
  have HX1 := Ha ((HX0.out.keep hB).more hB.size)
  have HW1 := Ha (HW0.out.below hB HW0.out.lt)
  have HB1 := thB HB0 hB
  clear hB
  go_wp2_with fail
  refine (all0_any 75 (enters_of Tryz.func75 (by kernel_rfl) rfl) A n c xs (fun x => okR x.toRec) _ HX1.out (by omega) (fun x wr hm _ => by
      obtain ⟨l1, l2⟩ := HLOW.out x hm
      exact RRight_any x.s x.d x.toRec wr (rrd_name x) (rrd_data x) (by rw [name_len]; omega) (by rw [data_len]; omega))).mono ?_
  rw [HOK.out.all]
  rintro e w2 ⟨rfl, hB⟩
  have HX2 := Ha ((HX1.out.keep hB).more hB.size)
  have HW2 := Ha (HW1.out.below hB HW1.out.lt)
  have HB2 := thB HB1 hB
  clear hB
  go_wp2_with fail
  refine (Of_any A n c xs _ HX2.out HOK.out hn).mono ?_
  rw [<-HD.out]
  rintro e w3 ⟨v3, rfl, ho3, hB⟩
  obtain ⟨A3, c3', rfl, hs3, hcap3⟩ := own_sees ho3
  have HS3 := Ha hs3
  have HCAP3 := Ha hcap3
  have HO3 := Ha ho3
  have g1 : ¬ ((D.length : Int) > 65536) := by have := HDL.out; omega
  have HX3 := Ha ((HX2.out.keep hB).more hB.size)
  have HW3 := Ha (HW2.out.below hB HW2.out.lt)
  have HB3 := thB HB2 hB
  clear hB
  clear hs3 ho3 hcap3
  obtain ⟨m, hm⟩ : ∃ m, m = D.length := ⟨_, rfl⟩
  rw [<-hm] at HS3 HO3 HCAP3 HDL g1
  try rw [<-hm]
  have HM := Ha hm
  clear hm
  go_wp2_with fail
  refine (isZone_any A3 m c3' N nn D _ HN.out hl HS3.out HCAP3.out HOKD.out HKD.out (by have := HDL.out; omega)).mono ?_
  rw [HZ.out]
  rintro e w4 ⟨rfl, hB⟩
  have HS4 := Ha ((HS3.out.keep hB).more hB.size)
  have HO4 := Ha (own_keep HO3.out hB)
  have HX4 := Ha ((HX3.out.keep hB).more hB.size)
  have HW4 := Ha (HW3.out.below hB HW3.out.lt)
  have HB4 := thB HB3 hB
  clear hB
  obtain ⟨c0, c1, c2, c3, c4, c5, c6⟩ := zo_facts HW4.out
  obtain ⟨f0, f1, f2, f3, f4, f5, f6⟩ := zo_frozen HW4.out
  go_wp2_with fail
  exact retZ2 rfl rfl rfl rfl (sevZ_put HW4.out _ _ _ _ _ _ _) ⟨rfl, sevZ_below HB4.out (Nat.le_refl _) _ _ _ _ _ _ _⟩
def ZoneAt (w : World) (B : Nat) (N : ByteArray) (D : List Rrd) (v : Value) : Prop :=
  ∃ A c s, v = .agg #[.string N, .slice A D.length c, .string s.s, .int .i64 s.t, .int .i64 s.c, .int .i64 s.l, .string s.d] /\ SeesR w B A D.length D /\ InCap A D.length c /\ typX 6 D = [s]
theorem isZ_soa {nn : List UInt8} {D : List Rrd} (h : isZ nn D = true) : ∃ s, typX 6 D = [s] := by
  unfold isZ at h
  rw [Bool.and_eq_true, Bool.and_eq_true, decide_eq_true_eq] at h
  exact List.length_eq_one_iff.1 h.2.1
theorem New_yes (A : Option Addr) (n c : Nat) (N : ByteArray) (nn : List UInt8) (xs : List Rrd) (w : World) (hN : N = mk nn) (hl : nn.length <= 1000000) (hx : SeesR w w.heap.size A n xs) (hn : n <= 60000) (hlow : LowL xs) (hr : (nameL nn).isSome = true) (hok : OkL xs) (hz : isZ nn (ofC xs) = true) :
    Calls Tryz.prog 27 #[.string N, .slice A n c] w fun e w' => (∃ v, e = .returned (.tuple #[v, .int .i64 0]) /\ ZoneAt w' w'.heap.size N (ofC xs) v) /\ Below w.heap.size w w' := by
  have hw0 := Whole.new w zoT zeroZ
  unfold zeroZ at hw0
  have hB0 : Below w.heap.size w (w.alloc (.cells zeroZ zoT)) := (Below.refl _ _).alloc (Nat.le_refl _) _
  have HX0 := Ha ((hx.keep hB0).more hB0.size)
  have HB0 := Ha hB0
  have HW0 := Ha hw0
  have HN := Ha hN
  have HLOW := Ha hlow
  obtain ⟨D, hD⟩ : ∃ D, D = ofC xs := ⟨_, rfl⟩
  have hset : SetL cX D := by rw [hD]; exact ofC_set xs
  have HD := Ha hD
  have HOK := Ha hok
  have HOKD := Ha (show OkL D by rw [hD]; exact hok.ofC)
  have HKD := Ha hset.keys
  have HDL := Ha (show D.length <= 60000 by rw [hD]; have := ofC_len xs; rw [hx.1] at this; omega)
  have HR := Ha hr
  have HZ := Ha (show isZ nn D = true by rw [hD]; exact hz)
  obtain ⟨s, hsoa⟩ := isZ_soa HZ.out
  have HSOA := Ha hsoa
  rw [<-hD]
  clear hw0 hB0 hx hN hlow hr hok hz hD hset hsoa
  go_enter Tryz.func27, Tryz.ntmps27
  go_wp2_with fail
  refine (Right_any N nn _ HN.out (by omega)).mono ?_
  rw [HR.out]
  rintro e w1 ⟨rfl, hB⟩
  have HX1 := Ha ((HX0.out.keep hB).more hB.size)
  have HW1 := Ha (HW0.out.below hB HW0.out.lt)
  have HB1 := thB HB0 hB
  clear hB
  go_wp2_with fail
  refine (all0_any 75 (enters_of Tryz.func75 (by kernel_rfl) rfl) A n c xs (fun x => okR x.toRec) _ HX1.out (by omega) (fun x wr hm _ => by
      obtain ⟨l1, l2⟩ := HLOW.out x hm
      exact RRight_any x.s x.d x.toRec wr (rrd_name x) (rrd_data x) (by rw [name_len]; omega) (by rw [data_len]; omega))).mono ?_
  rw [HOK.out.all]
  rintro e w2 ⟨rfl, hB⟩
  have HX2 := Ha ((HX1.out.keep hB).more hB.size)
  have HW2 := Ha (HW1.out.below hB HW1.out.lt)
  have HB2 := thB HB1 hB
  clear hB
  go_wp2_with fail
  refine (Of_any A n c xs _ HX2.out HOK.out hn).mono ?_
  rw [<-HD.out]
  rintro e w3 ⟨v3, rfl, ho3, hB⟩
  obtain ⟨A3, c3', rfl, hs3, hcap3⟩ := own_sees ho3
  have HS3 := Ha hs3
  have HCAP3 := Ha hcap3
  have HO3 := Ha ho3
  have g1 : ¬ ((D.length : Int) > 65536) := by have := HDL.out; omega
  have HX3 := Ha ((HX2.out.keep hB).more hB.size)
  have HW3 := Ha (HW2.out.below hB HW2.out.lt)
  have HB3 := thB HB2 hB
  clear hB
  clear hs3 ho3 hcap3
  obtain ⟨m, hm⟩ : ∃ m, m = D.length := ⟨_, rfl⟩
  rw [<-hm] at HS3 HO3 HCAP3 HDL g1
  try rw [<-hm]
  have HM := Ha hm
  clear hm
  go_wp2_with fail
  refine (isZone_any A3 m c3' N nn D _ HN.out hl HS3.out HCAP3.out HOKD.out HKD.out (by have := HDL.out; omega)).mono ?_
  rw [HZ.out]
  rintro e w4 ⟨rfl, hB⟩
  have HS4 := Ha ((HS3.out.keep hB).more hB.size)
  have HO4 := Ha (own_keep HO3.out hB)
  have HX4 := Ha ((HX3.out.keep hB).more hB.size)
  have HW4 := Ha (HW3.out.below hB HW3.out.lt)
  have HB4 := thB HB3 hB
  clear hB
  go_wp2_with fail
  refine (Typed_any A3 m c3' D 6 _ HS4.out (by have := HDL.out; omega)).mono ?_
  rw [HSOA.out]
  rintro e w5 ⟨v5, rfl, ho5, hB⟩
  have HOW := Ha (own_keep HO4.out hB)
  obtain ⟨A5, c5', rfl, hs5, _⟩ := own_sees ho5
  obtain ⟨b5, off5, x5, rfl, hb5, hx5, hf5⟩ := hs5.at (show 0 < 1 by omega)
  obtain rfl : s = x5 := by simpa using hx5
  obtain ⟨y0, y1, y2, y3, y4⟩ := hf5
  rw [Nat.zero_mul, Nat.add_zero] at y0 y1 y2 y3 y4
  have HS5 := Ha ((HS4.out.keep hB).more hB.size)
  have HX5 := Ha ((HX4.out.keep hB).more hB.size)
  have HW5 := Ha (HW4.out.below hB HW4.out.lt)
  have HB5 := thB HB4 hB
  clear hB
  clear ho5 hs5 hx5
  simp only [List.length_cons, List.length_nil]
  obtain ⟨c0, c1, c2, c3, c4, c5, c6⟩ := zo_facts HW5.out
  obtain ⟨f0, f1, f2, f3, f4, f5, f6⟩ := zo_frozen HW5.out
  go_wp2_with fail
  refine retZ2 rfl rfl rfl rfl (sevZ_put HW5.out _ _ _ _ _ _ _) ⟨?_, sevZ_below HB5.out (Nat.le_refl _) _ _ _ _ _ _ _⟩
  obtain ⟨A6, c6', e6, hs6, hcap6⟩ := own_sees (sevZ_own HOW.out HW5.out (.string N) (.slice A3 m c3') (.string s.s) (.int .i64 s.t) (.int .i64 s.c) (.int .i64 s.l) (.string s.d))
  obtain ⟨rfl, rfl⟩ : A3 = A6 /\ c3' = c6' := by simpa using e6
  have hm2 : D.length = m := HM.out.symm
  refine ⟨_, rfl, A3, c3', s, ?_, ?_, ?_, HSOA.out⟩
  · rw [hm2]
  · rw [hm2]; exact hs6
  · rw [hm2]; exact hcap6
def codeZ (nn : List UInt8) (xs : List Rrd) : Int := if (nameL nn).isSome = true then if xs.all (fun x => okR x.toRec) = true then if isZ nn (ofC xs) = true then 0 else 9 else 2 else 2
def NewOut (w' : World) (N : ByteArray) (nn : List UInt8) (xs : List Rrd) (e : Ending) : Prop :=
  (codeZ nn xs = 2 /\ e = .returned (.tuple #[.agg zeroZ, .int .i64 2])) \/ (codeZ nn xs = 9 /\ e = .returned (.tuple #[.agg zeroZ, .int .i64 9])) \/
  (codeZ nn xs = 0 /\ ∃ v, e = .returned (.tuple #[v, .int .i64 0]) /\ ZoneAt w' w'.heap.size N (ofC xs) v)
theorem codeZ_zero {nn : List UInt8} {xs : List Rrd} (h : codeZ nn xs = 0) : (nameL nn).isSome = true /\ xs.all (fun x => okR x.toRec) = true /\ isZ nn (ofC xs) = true := by
  unfold codeZ at h
  split at h
  · rename_i h1
    split at h
    · rename_i h2
      split at h
      · rename_i h3; exact ⟨h1, h2, h3⟩
      · cases h
    · cases h
  · cases h
theorem ZNew_any (A : Option Addr) (n c : Nat) (N : ByteArray) (nn : List UInt8) (xs : List Rrd) (w : World) (hN : N = mk nn) (hx : SeesR w w.heap.size A n xs) (hn : n <= 60000) (hlow : LowL xs) :
    Calls Tryz.prog 27 #[.string N, .slice A n c] w fun e w' => NewOut w' N nn xs e /\ Below w.heap.size w w' := by
  cases hr : (nameL nn).isSome with
  | false =>
    refine (New_name A n c N w (right_no hN hr)).mono ?_
    rintro e w' ⟨rfl, hB⟩; exact ⟨.inl ⟨by unfold codeZ; rw [hr]; rfl, rfl⟩, hB⟩
  | true =>
    have hl := right_len hr
    cases ho : xs.all (fun x => okR x.toRec) with
    | false =>
      refine (New_right A n c N nn xs w hN hl hx hn hlow hr ho).mono ?_
      rintro e w' ⟨rfl, hB⟩; exact ⟨.inl ⟨by unfold codeZ; rw [hr, ho]; rfl, rfl⟩, hB⟩
    | true =>
      have hok := hlow.ok ho
      cases hz : isZ nn (ofC xs) with
      | false =>
        refine (New_apex A n c N nn xs w hN hl hx hn hlow hr hok hz).mono ?_
        rintro e w' ⟨rfl, hB⟩; exact ⟨.inr (.inl ⟨by unfold codeZ; rw [hr, ho, hz]; rfl, rfl⟩), hB⟩
      | true =>
        refine (New_yes A n c N nn xs w hN hl hx hn hlow hr hok hz).mono ?_
        rintro e w' ⟨⟨v, rfl, hv⟩, hB⟩; exact ⟨.inr (.inr ⟨by unfold codeZ; rw [hr, ho, hz]; rfl, v, rfl, hv⟩), hB⟩
end Go.Proofs.YtmpginmdaeclaaaGreatDoor
namespace Go.Proofs.YtmpginmdaeclaaaGreatDoor
open Go.RowKit Go.Op
set_option linter.unusedVariables false
theorem ZoneAt.keep {w w' : World} {B : Nat} {N : ByteArray} {D : List Rrd} {v : Value} (h : ZoneAt w B N D v) (hb : Below B w w') : ZoneAt w' B N D v := by
  obtain ⟨A, c, s, e, hs, hcap, hsoa⟩ := h
  exact ⟨A, c, s, e, hs.keep hb, hcap, hsoa⟩
theorem ZoneAt.more {w : World} {B B' : Nat} {N : ByteArray} {D : List Rrd} {v : Value} (h : ZoneAt w B N D v) (hb : B <= B') : ZoneAt w B' N D v := by
  obtain ⟨A, c, s, e, hs, hcap, hsoa⟩ := h
  exact ⟨A, c, s, e, hs.more hb, hcap, hsoa⟩
theorem ZoneAt.later {w w' : World} {N : ByteArray} {D : List Rrd} {v : Value} (h : ZoneAt w w.heap.size N D v) (hb : Below w.heap.size w w') : ZoneAt w' w'.heap.size N D v := (h.keep hb).more hb.size
theorem All_any (N : ByteArray) (D : List Rrd) (v : Value) (w : World) (hz : ZoneAt w w.heap.size N D v) (hn : D.length <= 1000000) :
    Calls Tryz.prog 24 #[v] w fun e w' => ∃ u, e = .returned u /\ w'.ownsRow w.heap.size 46 5 u D.length (rcells D) /\ Below w.heap.size w w' := by
  obtain ⟨A, c, s, rfl, hs, hcap, hsoa⟩ := hz
  obtain ⟨m, hm⟩ : ∃ m, m = D.length := ⟨_, rfl⟩
  have HM := Ha hm
  rw [<-hm] at hs hcap hn ⊢
  have hw0 := Whole.new w zoT #[.string N, .slice A m c, .string s.s, .int .i64 s.t, .int .i64 s.c, .int .i64 s.l, .string s.d]
  have hB0 : Below w.heap.size w (w.alloc (.cells #[.string N, .slice A m c, .string s.s, .int .i64 s.t, .int .i64 s.c, .int .i64 s.l, .string s.d] zoT)) := (Below.refl _ _).alloc (Nat.le_refl _) _
  obtain ⟨c0, c1, c2, c3, c4, c5, c6⟩ := zo_facts hw0
  have HW0 := Ha hw0
  have HS := Ha ((hs.keep hB0).more hB0.size)
  have HB0 := Ha hB0
  have HCAP := Ha hcap
  have HSOA := Ha hsoa
  clear hw0 hB0 hs hcap hsoa
  clear hm
  go_enter Tryz.func24, Tryz.ntmps24
  go_wp2_with fail
  refine (RClone_any A m c D _ HS.out (by omega)).mono ?_
  rintro e w1 ⟨u, rfl, ho, hB⟩
  have HO := Ha (own_less ho HB0.out.size)
  have HB := thB HB0 hB
  clear ho hB c0 c1 c2 c3 c4 c5 c6
  go_wp2_with fail
  go_ret
  exact ⟨u, rfl, HO.out, HB.out⟩
theorem Apex_any (N : ByteArray) (D : List Rrd) (v : Value) (w : World) (hz : ZoneAt w w.heap.size N D v) :
    Calls Tryz.prog 86 #[v] w fun e w' => e = .returned (.string N) /\ Below w.heap.size w w' := by
  obtain ⟨A, c, s, rfl, hs, hcap, hsoa⟩ := hz
  have hw0 := Whole.new w zoT #[.string N, .slice A D.length c, .string s.s, .int .i64 s.t, .int .i64 s.c, .int .i64 s.l, .string s.d]
  have hB0 : Below w.heap.size w (w.alloc (.cells #[.string N, .slice A D.length c, .string s.s, .int .i64 s.t, .int .i64 s.c, .int .i64 s.l, .string s.d] zoT)) := (Below.refl _ _).alloc (Nat.le_refl _) _
  obtain ⟨c0, c1, c2, c3, c4, c5, c6⟩ := zo_facts hw0
  have HW0 := Ha hw0
  have HS := Ha ((hs.keep hB0).more hB0.size)
  have HB0 := Ha hB0
  have HCAP := Ha hcap
  have HSOA := Ha hsoa
  clear hw0 hB0 hs hcap hsoa
  go_enter Tryz.func86, Tryz.ntmps86
  go_wp2_with fail
  go_ret
  exact ⟨rfl, HB0.out⟩
def lowR (x : Rrd) : Bool := decide (x.d.size <= 2000) && decide (x.s.size <= 600)
def fewL (xs : List Rrd) : Bool := decide (xs.length <= 30) && xs.all lowR
theorem fewL_is {xs : List Rrd} (h : fewL xs = true) : xs.length <= 30 /\ LowL xs := by
  unfold fewL at h
  rw [Bool.and_eq_true, decide_eq_true_eq, List.all_eq_true] at h
  refine ⟨h.1, fun x hx => ?_⟩
  have := h.2 x hx
  unfold lowR at this
  rw [Bool.and_eq_true, decide_eq_true_eq, decide_eq_true_eq] at this
  exact ⟨this.2, by omega⟩
theorem fewL_not {xs : List Rrd} {k : Nat} {x : Rrd} (hx : xs[k]? = some x) (h : lowR x = false) : fewL xs = false := by
  unfold fewL
  rw [not_all hx h, Bool.and_false]
theorem Few_any (A : Option Addr) (n c : Nat) (xs : List Rrd) (w : World) (hx : SeesR w w.heap.size A n xs) (h63 : n <= 9223372036854775807) :
    Calls Tryz.prog 6 #[.slice A n c] w fun e w' => e = .returned (.bool (fewL xs)) /\ Below w.heap.size w w' := by
  have HX := Ha hx
  have HN := Ha hx.1
  clear hx
  go_enter Tryz.func6, Tryz.ntmps6
  go_wp2_with fail
  go_loopw [3] (fun i wr => ∃ k : Nat, k <= n /\ k <= 40 /\ i = .int .i64 (k : Nat) /\ Upto lowR xs k /\ Below w.heap.size w wr) (fun i _ => n - (intOf i).toNat)
  case atStart => exact ⟨0, Nat.zero_le _, by decide, rfl, Upto.zero _ _, Below.refl _ _⟩
  case round =>
    obtain ⟨k, hk, hk40, rfl, hup, hB⟩ := hrel
    have HU := Ha hup
    have HB := Ha hB
    clear hup hB
    by_cases hkn : k < n
    · have g2 : (k : Int) < (n : Int) := by omega
      by_cases hk4 : k < 40
      · have g3 : (k : Int) < 40 := by omega
        have g0 : (0 : Int) <= (k : Int) := by omega
        obtain ⟨b, off, x, rfl, hb, hxk, ht⟩ := (HX.out.keep HB.out).at hkn
        obtain ⟨x0, x1, x2, x3, x4⟩ := ht
        have HXK := Ha hxk
        clear hxk
        by_cases h1 : x.d.size <= 2000
        · have gd : ¬ ((x.d.size : Int) > 2000) := by omega
          by_cases h2 : x.s.size <= 600
          · have gs : ¬ ((x.s.size : Int) > 600) := by omega
            have HU2 := Ha (HU.out.succ HXK.out (show lowR x = true by unfold lowR; rw [decide_eq_true h1, decide_eq_true h2]; rfl))
            clear h1 h2; go_wp2_with fail
            go_roundw
            case rel => exact ⟨k + 1, by omega, by omega, by go_num, HU2.out, HB.out⟩
            case measure => simp [intOf]; omega
          · have gs : (x.s.size : Int) > 600 := by omega
            have HR := Ha (fewL_not HXK.out (show lowR x = false by unfold lowR; rw [decide_eq_false h2, Bool.and_false]))
            clear h1 h2; go_wp2_with fail
            go_ret
            exact ⟨by rw [HR.out]; rfl, HB.out⟩
        · have gd : (x.d.size : Int) > 2000 := by omega
          have HR := Ha (fewL_not HXK.out (show lowR x = false by unfold lowR; rw [decide_eq_false h1, Bool.false_and]))
          clear h1; go_wp2_with fail
          go_ret
          exact ⟨by rw [HR.out]; rfl, HB.out⟩
      · have g3 : ¬ (k : Int) < 40 := by omega
        have g4 : ¬ (n : Int) <= 30 := by omega
        have HR := Ha (show fewL xs = false by unfold fewL; rw [decide_eq_false (by rw [HN.out]; omega)]; rfl)
        go_wp2_with fail
        go_ret
        exact ⟨by rw [HR.out]; rfl, HB.out⟩
    · obtain rfl : k = n := by omega
      have g2 : ¬ ((k : Int) < (k : Int)) := by omega
      have ha := HU.out
      rw [<-HN.out] at ha
      have hall := ha.all
      by_cases h30 : k <= 30
      · have g4 : (k : Int) <= 30 := by omega
        have HR := Ha (show fewL xs = true by unfold fewL; rw [decide_eq_true (by rw [HN.out]; exact h30), hall]; rfl)
        clear ha hall h30; go_wp2_with fail
        go_ret
        exact ⟨by rw [HR.out]; rfl, HB.out⟩
      · have g4 : ¬ (k : Int) <= 30 := by omega
        have HR := Ha (show fewL xs = false by unfold fewL; rw [decide_eq_false (by rw [HN.out]; exact h30)]; rfl)
        clear ha hall h30; go_wp2_with fail
        go_ret
        exact ⟨by rw [HR.out]; rfl, HB.out⟩
def leA : Rrd := ⟨⟨#[1, 97, 0]⟩, 2, 1, 0, ⟨#[1, 110, 1, 97, 0]⟩⟩
def leB : Rrd := ⟨⟨#[1, 97, 0]⟩, 6, 1, 0, ⟨#[1, 110, 1, 97, 0, 0, 0, 0, 0, 1, 0, 0, 0, 2, 0, 0, 0, 3, 0, 0, 0, 4, 0, 0, 0, 5]⟩⟩
def leL : List Rrd := [leA, leB]
theorem name_n : nameL [1, 110, 1, 97, 0] = some [[110], [97]] := nameL_enc (L := [[110], [97]]) (by intro x hx; simp at hx; rcases hx with rfl | rfl <;> simp) (by decide)
theorem name_0 : nameL [0] = some [] := nameL_enc (L := []) (by intro x hx; cases hx) (by decide)
theorem nm_leA : nmX leA = [1, 97, 0] := rfl
theorem nm_leB : nmX leB = [1, 97, 0] := rfl
theorem right_leA : rightR 2 [1, 110, 1, 97, 0] = true := by
  have h := (right_of (t := 2) (V := [(-1, [1, 110, 1, 97, 0])]) ⟨by simp [Part], ⟨fun _ => ⟨_, name_n⟩, by simp, by simp⟩, by simp, trivial⟩ rfl (by simp [cat])).1
  simpa [cat] using h
theorem right_leB : rightR 6 [1, 110, 1, 97, 0, 0, 0, 0, 0, 1, 0, 0, 0, 2, 0, 0, 0, 3, 0, 0, 0, 4, 0, 0, 0, 5] = true :=
  (Soa7.is (D := [1, 110, 1, 97, 0, 0, 0, 0, 0, 1, 0, 0, 0, 2, 0, 0, 0, 3, 0, 0, 0, 4, 0, 0, 0, 5]) (m := [1, 110, 1, 97, 0]) (r := [0]) (a := [0, 0, 0, 1]) (b := [0, 0, 0, 2]) (c := [0, 0, 0, 3]) (d := [0, 0, 0, 4]) (e := [0, 0, 0, 5]) ⟨⟨⟨_, name_n⟩, ⟨_, name_0⟩⟩, ⟨rfl, rfl, rfl, rfl, rfl⟩, rfl⟩).1
theorem ok_leA : OkX leA := by
  refine ⟨?_, by decide⟩
  have h1 : leA.toRec = ⟨[1, 97, 0], 2, 1, 0, [1, 110, 1, 97, 0]⟩ := rfl
  rw [h1]
  unfold okR
  rw [name_a, show tyd 2 1 ([1, 110, 1, 97, 0] : List UInt8).length = 2 from rfl, right_leA]
  rfl
theorem ok_leB : OkX leB := by
  refine ⟨?_, by decide⟩
  have h1 : leB.toRec = ⟨[1, 97, 0], 6, 1, 0, [1, 110, 1, 97, 0, 0, 0, 0, 0, 1, 0, 0, 0, 2, 0, 0, 0, 3, 0, 0, 0, 4, 0, 0, 0, 5]⟩ := rfl
  rw [h1]
  unfold okR
  rw [name_a, show tyd 6 1 ([1, 110, 1, 97, 0, 0, 0, 0, 0, 1, 0, 0, 0, 2, 0, 0, 0, 3, 0, 0, 0, 4, 0, 0, 0, 5] : List UInt8).length = 6 from rfl, right_leB]
  rfl
theorem ok_leL : OkL leL := by
  intro x hx
  rcases List.mem_cons.1 hx with rfl | hx
  · exact ok_leA
  · rcases List.mem_cons.1 hx with rfl | hx
    · exact ok_leB
    · cases hx
theorem le_lt : cX leA leB = -1 := by
  unfold cX
  have h : cK leA.toRec.n leB.toRec.n = 0 := cmpL_self _
  rw [h]
  rfl
theorem ofC_leL : ofC leL = leL := by
  have h : putX cX leB [leA] = [leA, leB] := by
    unfold putX; rw [if_pos (by rw [le_lt]; decide)]
    rfl
  exact h
theorem le_alike : alikeN [1, 97, 0] [1, 97, 0] = true := by unfold alikeN; rw [name_a]; rfl
theorem le_under : underN [1, 97, 0] [1, 97, 0] = true := by unfold underN; rw [name_a]; simp
theorem le_good : ∀ x ∈ leL, goodR [1, 97, 0] x = true := by
  intro x hx
  rcases List.mem_cons.1 hx with rfl | hx
  · unfold goodR; rw [nm_leA, le_under]; rfl
  · rcases List.mem_cons.1 hx with rfl | hx
    · unfold goodR; rw [nm_leB, le_under]; rfl
    · cases hx
theorem at_leL : atX [1, 97, 0] leL = leL := by
  unfold atX
  rw [List.filter_eq_self]
  intro x hx
  rcases List.mem_cons.1 hx with rfl | hx
  · rw [nm_leA, le_alike]
  · rcases List.mem_cons.1 hx with rfl | hx
    · rw [nm_leB, le_alike]
    · cases hx
theorem isZ_leL : isZ [1, 97, 0] (ofC leL) = true := by
  rw [ofC_leL]
  unfold isZ
  rw [at_leL, List.all_eq_true.2 le_good]
  rfl
theorem low_leL : LowL leL := ok_leL.low
theorem Least_any (w : World) : Calls Tryz.prog 28 #[] w fun e w' => (∃ A c, e = .returned (.slice A 2 c) /\ SeesR w' w'.heap.size A 2 leL) /\ Below w.heap.size w w' := by
  go_enter Tryz.func28, Tryz.ntmps28
  go_wp2_with fail
  go_ret
  refine ⟨⟨_, _, rfl, rfl, fun _ => ⟨w.heap.size, 0, rfl, by simp, ?_⟩⟩, (Below.refl _ _).alloc (Nat.le_refl _) _⟩
  have hw := fun cs => Whole.new w 46 cs
  intro j x hx
  match j, hx with
  | 0, hx =>
    obtain rfl : leA = x := by simpa [leL] using hx
    exact ⟨(hw _).cell 0, (hw _).cell 1, (hw _).cell 2, (hw _).cell 3, (hw _).cell 4⟩
  | 1, hx =>
    obtain rfl : leB = x := by simpa [leL] using hx
    exact ⟨(hw _).cell 5, (hw _).cell 6, (hw _).cell 7, (hw _).cell 8, (hw _).cell 9⟩
  | j + 2, hx => simp [leL] at hx
end Go.Proofs.YtmpginmdaeclaaaGreatDoor
