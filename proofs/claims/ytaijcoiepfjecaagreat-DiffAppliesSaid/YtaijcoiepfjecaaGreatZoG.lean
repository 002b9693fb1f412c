/- ZoG: texts ZonG, ZonN of our own, joined. No statement of the seat is proved here. -/
import Derived.Test.YtaijcoiepfjecaaGreatZoF
import Derived.Test.YtaijcoiepfjecaaGreatRdR
import Derived.Laws.StructEq
namespace Go.Proofs.YtaijcoiepfjecaaGreat
open Go.RowKit Go.Op
set_option linter.unusedVariables false

theorem retRS {fn : Func} {R : Ending → World → Prop} {a : Act} {w : World} {p u r1 r2 : Nat} {a0 a1 a2 a3 a4 b0 b1 b2 b3 b4 b5 b6 : Value} (hf : fn.results = #[.cell p 26, .cell u soT]) (hd : a.defers = []) (hp : a.tmps.getD p undef = .pointer (some ⟨r1, 0, none⟩)) (hu : a.tmps.getD u undef = .pointer (some ⟨r2, 0, none⟩))
    (h : Whole w r1 26 #[a0, a1, a2, a3, a4]) (h2 : Whole w r2 soT #[b0, b1, b2, b3, b4, b5, b6]) (hR : R (.returned (.tuple #[.agg #[a0, a1, a2, a3, a4], .agg #[b0, b1, b2, b3, b4, b5, b6]])) w) : bodyPost Tryz.prog fn R .ret a w := by
  refine bodyPost_ret ?_ hd hR
  have hp' : a.tmps[p]?.getD undef = .pointer (some ⟨r1, 0, none⟩) := by simpa using hp
  have hu' : a.tmps[u]?.getD undef = .pointer (some ⟨r2, 0, none⟩) := by simpa using hu
  simp [results, hf, hp', hu', asAddr, run_loadVar_row w r1 26 _ _ (0, 0) _ h Tryz.underlying26 rfl rr_size, run_loadVar_row w r2 soT _ _ (0, 0) _ h2 Tryz.underlying61 rfl soa_size, Sem.run_bind, Result.andThen]
theorem five_far {w : World} {r g t : Nat} {cs : Array Value} (h : Whole w g t cs) (hne : g ≠ r) (a0 a1 a2 a3 a4 : Value) :
    Whole (((((w.setCell ⟨r, 0, none⟩ a0).setCell ⟨r, 1, none⟩ a1).setCell ⟨r, 2, none⟩ a2).setCell ⟨r, 3, none⟩ a3).setCell ⟨r, 4, none⟩ a4) g t cs :=
  ((((h.far (p := ⟨r, 0, none⟩) hne _).far (p := ⟨r, 1, none⟩) hne _).far (p := ⟨r, 2, none⟩) hne _).far (p := ⟨r, 3, none⟩) hne _).far (p := ⟨r, 4, none⟩) hne _
theorem sev_far {w : World} {r g t : Nat} {cs : Array Value} (h : Whole w g t cs) (hne : g ≠ r) (a0 a1 a2 a3 a4 a5 a6 : Value) :
    Whole (((((((w.setCell ⟨r, 0, none⟩ a0).setCell ⟨r, 1, none⟩ a1).setCell ⟨r, 2, none⟩ a2).setCell ⟨r, 3, none⟩ a3).setCell ⟨r, 4, none⟩ a4).setCell ⟨r, 5, none⟩ a5).setCell ⟨r, 6, none⟩ a6) g t cs :=
  ((((((h.far (p := ⟨r, 0, none⟩) hne _).far (p := ⟨r, 1, none⟩) hne _).far (p := ⟨r, 2, none⟩) hne _).far (p := ⟨r, 3, none⟩) hne _).far (p := ⟨r, 4, none⟩) hne _).far (p := ⟨r, 5, none⟩) hne _).far (p := ⟨r, 6, none⟩) hne _
theorem five_below {B : Nat} {a w : World} {r : Nat} (h : Below B a w) (hr : B ≤ r) (a0 a1 a2 a3 a4 : Value) :
    Below B a (((((w.setCell ⟨r, 0, none⟩ a0).setCell ⟨r, 1, none⟩ a1).setCell ⟨r, 2, none⟩ a2).setCell ⟨r, 3, none⟩ a3).setCell ⟨r, 4, none⟩ a4) :=
  ((((h.setCell hr a0).setCell hr a1).setCell hr a2).setCell hr a3).setCell hr a4
set_option maxHeartbeats 16000000 in
set_option maxRecDepth 20000 in
theorem ZSoa_any (N : ByteArray) (D : List Rrd) (A : Option Addr) (c : Nat) (s : Rrd) (m r a b cc d e : List UInt8) (w : World) (h7 : Soa7 s.toRec.d m r a b cc d e) (hl : s.toRec.d.length ≤ 65535) :
    Calls Tryz.prog 42 #[.agg #[.string N, .slice A D.length c, .string s.s, .int .i64 s.t, .int .i64 s.c, .int .i64 s.l, .string s.d]] w fun en w' =>
      en = .returned (.tuple #[.agg #[.string s.s, .int .i64 s.t, .int .i64 s.c, .int .i64 s.l, .string s.d], .agg (agg7 m r (num a) (num b) (num cc) (num d) (num e))]) ∧ Below w.heap.size w w' := by
  have H7 := Lib.hid h7
  have hw0 := Whole.new w zoT #[.string N, .slice A D.length c, .string s.s, .int .i64 s.t, .int .i64 s.c, .int .i64 s.l, .string s.d]
  have hB0 : Below w.heap.size w (w.alloc (.cells #[.string N, .slice A D.length c, .string s.s, .int .i64 s.t, .int .i64 s.c, .int .i64 s.l, .string s.d] zoT)) := (Below.refl _ _).alloc (Nat.le_refl _) _
  obtain ⟨W1, hW1⟩ : ∃ W, W = w.alloc (.cells #[.string N, .slice A D.length c, .string s.s, .int .i64 s.t, .int .i64 s.c, .int .i64 s.l, .string s.d] zoT) := ⟨_, rfl⟩
  rw [← hW1] at hw0 hB0
  have hw1 := Whole.new W1 26 #[.string ⟨#[]⟩, .int .i64 0, .int .i64 0, .int .i64 0, .string ⟨#[]⟩]
  have hB1 : Below W1.heap.size W1 (W1.alloc (.cells #[.string ⟨#[]⟩, .int .i64 0, .int .i64 0, .int .i64 0, .string ⟨#[]⟩] 26)) := (Below.refl _ _).alloc (Nat.le_refl _) _
  obtain ⟨W2, hW2⟩ : ∃ W, W = W1.alloc (.cells #[.string ⟨#[]⟩, .int .i64 0, .int .i64 0, .int .i64 0, .string ⟨#[]⟩] 26) := ⟨_, rfl⟩
  rw [← hW2] at hw1 hB1
  have hw2 := Whole.new W2 soT zeroS
  have hB2 : Below W2.heap.size W2 (W2.alloc (.cells zeroS soT)) := (Below.refl _ _).alloc (Nat.le_refl _) _
  obtain ⟨W3, hW3⟩ : ∃ W, W = W2.alloc (.cells zeroS soT) := ⟨_, rfl⟩
  rw [← hW3] at hw2 hB2
  have s1 : W1.heap.size = w.heap.size + 1 := by rw [hW1]; simp
  have s2 : W2.heap.size = w.heap.size + 1 + 1 := by rw [hW2]; simp [s1]
  have hz0 := (hw0.below hB1 hw0.lt).below hB2 (Nat.lt_of_lt_of_le hw0.lt hB1.size)
  have hz1 := hw1.below hB2 hw1.lt
  rw [s1] at hz1
  rw [s2] at hw2
  have hB3 : Below w.heap.size w W3 := hB0.trans ((hB1.trans (hB2.mono hB1.size)).mono hB0.size)
  have HZ0 := Lib.hid hz0
  have HZ1 := Lib.hid hz1
  have HZ2 := Lib.hid hw2
  have HB3 := Lib.hid hB3
  have HW1 := Lib.hid hW1
  have HW2 := Lib.hid hW2
  have HW3 := Lib.hid (show W3 = W2.alloc (.cells #[.string ⟨#[]⟩, .string ⟨#[]⟩, .int .u32 0, .int .u32 0, .int .u32 0, .int .u32 0, .int .u32 0] soT) from hW3)
  clear hw0 hB0 hW1 hw1 hB1 hW2 hw2 hB2 hW3 hz0 hz1 hB3 s1 s2 h7
  obtain ⟨c0, c1, c2, c3, c4, c5, c6⟩ := zo_facts HZ0.out
  go_enter Tryz.func42, Tryz.ntmps42
  go_wp2_with fail
  rw [← HW1.out, ← HW2.out, ← HW3.out]
  go_wp2_with fail
  refine (Soa_yes s.d s.toRec.d m r a b cc d e _ (rrd_data s) hl H7.out).mono ?_
  rintro en w4 ⟨rfl, hB⟩
  have hw4 := Whole.new w4 soT (agg7 m r (num a) (num b) (num cc) (num d) (num e))
  have hB4 : Below w4.heap.size w4 (w4.alloc (.cells (agg7 m r (num a) (num b) (num cc) (num d) (num e)) soT)) := (Below.refl _ _).alloc (Nat.le_refl _) _
  obtain ⟨W5, hW5⟩ : ∃ W, W = w4.alloc (.cells (agg7 m r (num a) (num b) (num cc) (num d) (num e)) soT) := ⟨_, rfl⟩
  rw [← hW5] at hw4 hB4
  have HZ0b := Lib.hid ((HZ0.out.below hB HZ0.out.lt).below hB4 (Nat.lt_of_lt_of_le HZ0.out.lt hB.size))
  have HZ1b := Lib.hid ((HZ1.out.below hB HZ1.out.lt).below hB4 (Nat.lt_of_lt_of_le HZ1.out.lt hB.size))
  have HZ2b := Lib.hid ((HZ2.out.below hB HZ2.out.lt).below hB4 (Nat.lt_of_lt_of_le HZ2.out.lt hB.size))
  have HZ4 := Lib.hid hw4
  have HB5 := Lib.hid (HB3.out.trans ((hB.trans (hB4.mono hB.size)).mono HB3.out.size))
  obtain ⟨q, hq⟩ : ∃ q, q = w4.heap.size := ⟨_, rfl⟩
  have hqn : ∀ k, k ≤ 2 → q ≠ w.heap.size + k := by
    intro k hk e
    have := HZ2.out.lt
    have := hB.size
    omega
  have n0 : q ≠ w.heap.size + 1 := hqn 1 (by omega)
  have n1 : q ≠ w.heap.size + 1 + 1 := hqn 2 (by omega)
  have HW5 := Lib.hid hW5
  have HQ := Lib.hid hq
  rw [← hq] at HZ4
  clear hw4 hB4 hW5 hB hq hqn c0 c1 c2 c3 c4 c5 c6
  unfold agg7 at *
  go_wp2_with fail
  rw [← HW5.out, ← HQ.out]
  obtain ⟨c0, c1, c2, c3, c4, c5, c6⟩ := zo_facts HZ0b.out
  obtain ⟨e0, e1, e2, e3, e4, e5, e6⟩ := soa_facts HZ4.out
  obtain ⟨f0, f1, f2, f3, f4, f5, f6⟩ := soa_frozen HZ2b.out
  have k0 := HZ1b.out.frozen 0
  have k1 := HZ1b.out.frozen 1
  have k2 := HZ1b.out.frozen 2
  have k3 := HZ1b.out.frozen 3
  have k4 := HZ1b.out.frozen 4
  obtain ⟨x0, x1, x2, x3, x4, x5, x6⟩ := soa_facts (show Whole W5 (w.heap.size + 1 + 1) soT #[.string ⟨#[]⟩, .string ⟨#[]⟩, .int .u32 0, .int .u32 0, .int .u32 0, .int .u32 0, .int .u32 0] from HZ2b.out)
  obtain ⟨y0, y1, y2, y3, y4⟩ := rr_facts (show Whole W5 (w.heap.size + 1) rrT (rrA ⟨#[]⟩ ⟨#[]⟩ 0 0 0) from HZ1b.out)
  go_wp2_with fail
  go_region
  clear c0 c1 c2 c3 c4 c5 c6 e0 e1 e2 e3 e4 e5 e6 f0 f1 f2 f3 f4 f5 f6 k0 k1 k2 k3 k4 x0 x1 x2 x3 x4 x5 x6 y0 y1 y2 y3 y4
  go_wp2_with fail
  refine retRS rfl rfl rfl rfl (sev_far (five_put HZ1b.out _ _ _ _ _) (by omega) _ _ _ _ _ _ _).drew (seven_put (five_far (show Whole W5 (w.heap.size + 1 + 1) soT #[.string ⟨#[]⟩, .string ⟨#[]⟩, .int .u32 0, .int .u32 0, .int .u32 0, .int .u32 0, .int .u32 0] from HZ2b.out) (by omega) _ _ _ _ _) _ _ _ _ _ _ _).drew ⟨rfl, (seven_below (five_below HB5.out (by omega) _ _ _ _ _) (by omega) _ _ _ _ _ _ _).drew⟩
theorem soa_of {nn : List UInt8} {D : List Rrd} {s : Rrd} (hz : isZ nn D = true) (hok : OkL D) (hs : typX 6 D = [s]) : s.c = 1 ∧ s.t = 6 ∧ s ∈ D ∧ s.toRec.d.length ≤ 65535 ∧ ∃ m r a b c d e, Soa7 s.toRec.d m r a b c d e := by
  have hm : s ∈ typX 6 D := by rw [hs]; simp
  obtain ⟨h1, h2⟩ := typX_mem.1 hm
  have hg : goodR nn s = true := by
    unfold isZ at hz
    rw [Bool.and_eq_true, List.all_eq_true] at hz
    exact hz.1 s h1
  unfold goodR at hg
  rw [Bool.and_eq_true, decide_eq_true_eq] at hg
  have ho := hok s h1
  obtain ⟨_, _, _, _, hr⟩ := ok_parts ho.1
  have hr6 : rightR 6 s.toRec.d = true := by
    have e : tyd s.toRec.t s.toRec.c s.toRec.d.length = 6 := by
      unfold tyd
      rw [if_pos (.inl hg.1)]
      exact h2
    rwa [e] at hr
  exact ⟨hg.1, h2, h1, by have := ho.data; omega, soa_is hr6⟩
theorem so_eqIn (M R : ByteArray) (z0 z1 z2 z3 z4 : Int) (w : World) : (Op.equalIn 10000 soT (.agg #[.string M, .string R, .int .u32 z0, .int .u32 z1, .int .u32 z2, .int .u32 z3, .int .u32 z4]) (.agg #[.string M, .string R, .int .u32 z0, .int .u32 z1, .int .u32 z2, .int .u32 z3, .int .u32 z4])).run Tryz.prog w = .ok true w := by
  have u9 := Tryz.underlying9
  have a9 := Tryz.isAgg9
  have z9 := Tryz.sizeOf9
  have u3 := Tryz.underlying49
  have a3 := Tryz.isAgg49
  have z3' := Tryz.sizeOf49
  have hS : Tryz.prog.underlying soT = some (.struct (Tryz.prog.fieldsOf soT)) := by kernel_rfl
  have hp : Tryz.prog.stoodInHeld soT = false := by kernel_rfl
  rw [show (10000 : Nat) = 9999 + 1 from rfl, run_equalIn_agg w 9999 soT _ _ hS hp]
  simp only [Program.fieldsOf, Tryz.underlying61]
  go_simp
theorem so_eql (M R : ByteArray) (z0 z1 z2 z3 z4 : Int) (w : World) : (binOp .eql soT (.agg #[.string M, .string R, .int .u32 z0, .int .u32 z1, .int .u32 z2, .int .u32 z3, .int .u32 z4]) (.agg #[.string M, .string R, .int .u32 z0, .int .u32 z1, .int .u32 z2, .int .u32 z3, .int .u32 z4])).run Tryz.prog w = .ok (.bool true) w := by
  rw [run_eql_struct, so_eqIn]
  rfl
theorem so_guard (op : BinOp) (x y : Operand) (M R : ByteArray) (z0 z1 z2 z3 z4 : Int) (w : World) : (eqGuard op soT x y (.agg #[.string M, .string R, .int .u32 z0, .int .u32 z1, .int .u32 z2, .int .u32 z3, .int .u32 z4]) (.agg #[.string M, .string R, .int .u32 z0, .int .u32 z1, .int .u32 z2, .int .u32 z3, .int .u32 z4])).run Tryz.prog w = .ok () w :=
  run_eqGuard_agg w op soT x y _ _ (by kernel_rfl)
end Go.Proofs.YtaijcoiepfjecaaGreat
namespace Go.Proofs.YtaijcoiepfjecaaGreat
open Go.Op
set_option linter.unusedVariables false

theorem dropX_c {r : Rrd} (hr : OkX r) : ∀ {l : List Rrd}, OkL l → dropX cmpX r l = dropX cX r l
  | [], _ => rfl
  | x :: l, h => by
    have e := cX_is (h x (by simp)) hr
    have ih := dropX_c hr (l := l) (fun y hy => h y (List.mem_cons_of_mem _ hy))
    unfold dropX
    rw [e, ih]
theorem hitX_c {r : Rrd} (hr : OkX r) : ∀ {l : List Rrd}, OkL l → hitX cmpX r l = hitX cX r l
  | [], _ => rfl
  | x :: l, h => by
    have e := cX_is (h x (by simp)) hr
    have ih := hitX_c hr (l := l) (fun y hy => h y (List.mem_cons_of_mem _ hy))
    unfold hitX
    rw [e, ih]
theorem drop_mid {s s0 : Rrd} {B : List Rrd} (h0 : cX s0 s = 0) : ∀ {A : List Rrd}, (∀ y ∈ A, cX y s = -1) → dropX cX s (A ++ s0 :: B) = A ++ B ∧ hitX cX s (A ++ s0 :: B) = true
  | [], _ => by
    rw [List.nil_append, dropX, hitX, if_neg (by omega), if_pos h0, if_neg (by omega), decide_eq_true h0]
    exact ⟨rfl, rfl⟩
  | y :: A, h => by
    have ih := drop_mid h0 (B := B) (A := A) (fun z hz => h z (List.mem_cons_of_mem _ hz))
    have e := h y (by simp)
    rw [List.cons_append, dropX, hitX, if_pos (by omega), if_pos (by omega), ih.1, ih.2]
    exact ⟨rfl, rfl⟩
theorem put_mid {s : Rrd} {B : List Rrd} (hB : ∀ y ∈ B, cX s y = -1) : ∀ {A : List Rrd}, (∀ y ∈ A, cX y s = -1) → putX cX s (A ++ B) = A ++ s :: B
  | [], _ => by
    cases B with
    | nil => rfl
    | cons y B =>
      have e := hB y (by simp)
      have f := cX_flip s y
      rw [List.nil_append, putX, if_neg (by omega), if_neg (by omega)]
      rfl
  | y :: A, h => by
    have ih := put_mid hB (A := A) (fun z hz => h z (List.mem_cons_of_mem _ hz))
    have e := h y (by simp)
    rw [List.cons_append, putX, if_pos (by omega), ih]
    rfl
/-- a record with other data -/
def withD (s : Rrd) (d : List UInt8) : Rrd := ⟨s.s, s.t, s.c, s.l, mk d⟩
theorem withD_rec (s : Rrd) (d : List UInt8) : (withD s d).toRec.d = d ∧ nmX (withD s d) = nmX s ∧ (withD s d).t = s.t ∧ (withD s d).c = s.c := by
  refine ⟨?_, rfl, rfl, rfl⟩
  unfold withD Rrd.toRec recOf
  simp [mk]
theorem withD_self (s : Rrd) : withD s s.toRec.d = s := by
  have := rrd_data s
  unfold withD
  rw [← this]
theorem cX_withD {s y : Rrd} (d : List UInt8) (h : y.t ≠ s.t) : cX y (withD s d) = cX y s ∧ cX (withD s d) y = cX s y := by
  have hs : ∀ a b : Int, a ≠ b → sgn a b ≠ 0 := by
    intro a b h
    unfold sgn
    split
    · decide
    · split
      · decide
      · omega
  have h1 : ∀ x : Int, orI x (orI (sgn y.t s.t) (sgn y.c s.c)) ≠ 0 := by
    intro x
    have := hs _ _ h
    unfold orI
    split
    · exact this
    · assumption
  have h2 : ∀ x : Int, orI x (orI (sgn s.t y.t) (sgn s.c y.c)) ≠ 0 := by
    intro x
    have := hs _ _ (Ne.symm h)
    unfold orI
    split
    · exact this
    · assumption
  have e1 : ∀ (p q r : Int), p ≠ 0 → orI p q = orI p r := by intro p q r hp; unfold orI; rw [if_neg hp, if_neg hp]
  constructor
  · exact e1 _ _ _ (h1 (cK (nmX y) (nmX s)))
  · exact e1 _ _ _ (h2 (cK (nmX s) (nmX y)))
/-- where the one record of a type stands -/
theorem typ_split {t : Int} {D : List Rrd} {s : Rrd} (h : typX t D = [s]) : ∃ A B, D = A ++ s :: B ∧ s.t = t ∧ (∀ y ∈ A, y.t ≠ t) ∧ ∀ y ∈ B, y.t ≠ t := by
  have hm : s ∈ typX t D := by rw [h]; simp
  obtain ⟨h1, h2⟩ := typX_mem.1 hm
  obtain ⟨A, B, rfl⟩ := List.append_of_mem h1
  have h3 : typX t A ++ s :: typX t B = [s] := by
    rw [← h]
    unfold typX
    rw [List.filter_append, List.filter_cons, if_pos (by simpa using h2)]
  have h4 : typX t A = [] ∧ typX t B = [] := by
    have hl := congrArg List.length h3
    simp at hl
    exact ⟨List.eq_nil_of_length_eq_zero (by omega), List.eq_nil_of_length_eq_zero (by omega)⟩
  refine ⟨A, B, rfl, h2, fun y hy e => ?_, fun y hy e => ?_⟩
  · have : y ∈ typX t A := typX_mem.2 ⟨hy, e⟩
    rw [h4.1] at this; cases this
  · have : y ∈ typX t B := typX_mem.2 ⟨hy, e⟩
    rw [h4.2] at this; cases this
theorem isZ_same {nn : List UInt8} {A B : List Rrd} {s s' : Rrd} (hn : nmX s' = nmX s) (ht : s'.t = s.t) (hc : s'.c = s.c) (hk : KS (A ++ s :: B)) (ok : OkL (A ++ s :: B)) (hk' : KS (A ++ s' :: B)) (ok' : OkL (A ++ s' :: B))
    (h : isZ nn (A ++ s :: B) = true) : isZ nn (A ++ s' :: B) = true := by
  have hg : goodR nn s' = goodR nn s := by unfold goodR; rw [hn, ht, hc]
  have hty : ∀ t, (typX t (A ++ s' :: B)).length = (typX t (A ++ s :: B)).length := by
    intro t
    unfold typX
    rw [List.filter_append, List.filter_append, List.filter_cons, List.filter_cons, ht]
    split <;> simp
  have hat : ∀ t, (typX t (atX nn (A ++ s' :: B))).length = (typX t (atX nn (A ++ s :: B))).length := by
    intro t
    unfold typX atX
    simp only [List.filter_append, List.filter_cons, List.length_append, hn]
    cases alikeN (nmX s) nn with
    | false => simp
    | true =>
      simp only [if_true, List.filter_cons, ht]
      split <;> simp
  have hp : ∀ y, pairX y s' = pairX y s ∧ pairX s' y = pairX s y := by intro y; unfold pairX; rw [hn, ht]; exact ⟨rfl, rfl⟩
  have hal : aloneX (A ++ s' :: B) = true := by
    have h1 : aloneX (A ++ s :: B) = true := by
      unfold isZ at h
      rw [Bool.and_eq_true, Bool.and_eq_true, Bool.and_eq_true, Bool.and_eq_true] at h
      exact h.2.2.2.2
    rw [alone_pair hk ok] at h1
    rw [alone_pair hk' ok']
    rw [List.pairwise_append, List.pairwise_cons] at h1 ⊢
    refine ⟨h1.1, ⟨fun y hy => ?_, h1.2.1.2⟩, fun y hy z hz => ?_⟩
    · rw [(hp y).2]; exact h1.2.1.1 y hy
    · rcases List.mem_cons.1 hz with rfl | hz
      · rw [(hp y).1]; exact h1.2.2 y hy s (by simp)
      · exact h1.2.2 y hy z (List.mem_cons_of_mem _ hz)
  unfold isZ at h ⊢
  rw [hty, hat, hat, hal]
  have h2 : (A ++ s' :: B).all (goodR nn) = (A ++ s :: B).all (goodR nn) := by simp [List.all_append, hg]
  rw [h2]
  simp only [Bool.and_eq_true] at h ⊢
  exact ⟨h.1, h.2.1, h.2.2.1, h.2.2.2.1, trivial⟩
/-- a zone with other data in its SOA record -/
structure Other (nn : List UInt8) (D : List Rrd) (s : Rrd) (D' : List Rrd) (s' : Rrd) : Prop where
  drop : dropX cmpX s D = dropX cmpX s' D'
  hit : hitX cmpX s D = true ∧ hitX cmpX s' D' = true
  put : putX cmpX s' (dropX cmpX s D) = D'
  back : putX cmpX s (dropX cmpX s' D') = D
  set : SetL cX D'
  ok : OkL D'
  okE : OkL (dropX cmpX s D)
  setE : SetL cmpX (dropX cmpX s D)
  zone : isZ nn D' = true
  typ : typX 6 D' = [s']
  len : D'.length = D.length
theorem other_of {nn : List UInt8} {D : List Rrd} {s : Rrd} {d : List UInt8} (hz : isZ nn D = true) (hset : SetL cX D) (hok : OkL D) (hs : typX 6 D = [s]) (hok' : OkX (withD s d)) : ∃ D', Other nn D s D' (withD s d) := by
  obtain ⟨A, B, rfl, ht, hA, hB⟩ := typ_split hs
  obtain ⟨s', hs'⟩ : ∃ s', s' = withD s d := ⟨_, rfl⟩
  obtain ⟨_, hn, ht', hc⟩ := withD_rec s d
  have hxA : ∀ y ∈ A, cX y s' = cX y s ∧ cX s' y = cX s y := fun y hy => by rw [hs']; exact cX_withD d (by rw [ht]; exact hA y hy)
  have hxB : ∀ y ∈ B, cX y s' = cX y s ∧ cX s' y = cX s y := fun y hy => by rw [hs']; exact cX_withD d (by rw [ht]; exact hB y hy)
  rw [← hs'] at hn ht' hc hok' ⊢
  have hset0 := hset
  unfold SetL at hset
  rw [List.pairwise_append, List.pairwise_cons] at hset
  obtain ⟨p1, ⟨p2, p3⟩, p4⟩ := hset
  have hAs : ∀ y ∈ A, cX y s = -1 := fun y hy => p4 y hy s (by simp)
  have hset' : SetL cX (A ++ s' :: B) := by
    unfold SetL
    rw [List.pairwise_append, List.pairwise_cons]
    refine ⟨p1, ⟨fun y hy => by rw [(hxB y hy).2]; exact p2 y hy, p3⟩, fun y hy z hz => ?_⟩
    rcases List.mem_cons.1 hz with rfl | hz
    · rw [(hxA y hy).1]; exact hAs y hy
    · exact p4 y hy z (List.mem_cons_of_mem _ hz)
  have hokE : OkL (A ++ B) := fun x hx => hok x (by rcases List.mem_append.1 hx with h | h <;> simp [h])
  have hokD' : OkL (A ++ s' :: B) := by
    intro x hx
    rcases List.mem_append.1 hx with h | h
    · exact hok x (by simp [h])
    · rcases List.mem_cons.1 h with rfl | h
      · exact hok'
      · exact hok x (by simp [h])
  have oks : OkX s := hok s (by simp)
  have hAs' : ∀ y ∈ A, cX y s' = -1 := fun y hy => by rw [(hxA y hy).1]; exact hAs y hy
  have hBs' : ∀ y ∈ B, cX s' y = -1 := fun y hy => by rw [(hxB y hy).2]; exact p2 y hy
  have d1 := drop_mid (s := s) (s0 := s) (B := B) (cX_ord.self s) hAs
  have d2 := drop_mid (s := s') (s0 := s') (B := B) (cX_ord.self s') hAs'
  have e1 : dropX cmpX s (A ++ s :: B) = A ++ B := (dropX_c oks hok).trans d1.1
  have e2 : dropX cmpX s' (A ++ s' :: B) = A ++ B := (dropX_c hok' hokD').trans d2.1
  refine ⟨A ++ s' :: B, ?_⟩
  exact {
    drop := e1.trans e2.symm
    hit := ⟨(hitX_c oks hok).trans d1.2, (hitX_c hok' hokD').trans d2.2⟩
    put := by rw [e1, putX_c hok' hokE]; exact put_mid hBs' hAs'
    back := by rw [e2, putX_c oks hokE]; exact put_mid p2 hAs
    set := hset'
    ok := hokD'
    okE := by rw [e1]; exact hokE
    setE := by
      rw [e1]
      refine (SetL_c hokE).2 ?_
      unfold SetL
      rw [List.pairwise_append]
      exact ⟨p1, p3, fun y hy z hz => p4 y hy z (List.mem_cons_of_mem _ hz)⟩
    zone := isZ_same hn ht' hc hset0.keys hok hset'.keys hokD' hz
    typ := by
      have hA0 : typX 6 A = [] := by unfold typX; rw [List.filter_eq_nil_iff]; intro y hy; simp [hA y hy]
      have hB0 : typX 6 B = [] := by unfold typX; rw [List.filter_eq_nil_iff]; intro y hy; simp [hB y hy]
      unfold typX at hA0 hB0 ⊢
      rw [List.filter_append, List.filter_cons, hA0, hB0, if_pos (by simp [ht', ht])]
      rfl
    len := by simp }
end Go.Proofs.YtaijcoiepfjecaaGreat
