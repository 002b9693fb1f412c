/- ZoG: texts ZonG of our own, joined. No statement of the seat is proved here. -/
import Derived.Test.YtkgihfoknpimfaaGreatZoF
import Derived.Test.YtkgihfoknpimfaaGreatRdR
import Derived.Laws.StructEq
namespace Go.Proofs.YtkgihfoknpimfaaGreat
open Go.RowKit Go.Op
set_option linter.unusedVariables false

theorem retRS {fn : Func} {R : Ending → World → Prop} {a : Act} {w : World} {p u r1 r2 : Nat} {a0 a1 a2 a3 a4 b0 b1 b2 b3 b4 b5 b6 : Value} (hf : fn.results = #[.cell p 26, .cell u soT]) (hd : a.defers = []) (hp : a.tmps.getD p undef = .pointer (some ⟨r1, 0, none⟩)) (hu : a.tmps.getD u undef = .pointer (some ⟨r2, 0, none⟩))
    (h : Whole w r1 26 #[a0, a1, a2, a3, a4]) (h2 : Whole w r2 soT #[b0, b1, b2, b3, b4, b5, b6]) (hR : R (.returned (.tuple #[.agg #[a0, a1, a2, a3, a4], .agg #[b0, b1, b2, b3, b4, b5, b6]])) w) : bodyPost Tryz.prog fn R .ret a w := by
  refine bodyPost_ret ?_ hd hR
  have hp' : a.tmps[p]?.getD undef = .pointer (some ⟨r1, 0, none⟩) := by simpa using hp
  have hu' : a.tmps[u]?.getD undef = .pointer (some ⟨r2, 0, none⟩) := by simpa using hu
  simp [results, hf, hp', hu', asAddr, run_loadVar_row w r1 26 _ _ (0, 0) _ h Tryz.underlying26 rfl rr_size, run_loadVar_row w r2 soT _ _ (0, 0) _ h2 Tryz.underlying83 rfl soa_size, Sem.run_bind, Result.andThen]
theorem five_far {w : World} {r g t : Nat} {cs : Array Value} (h : Whole w g t cs) (hne : g ≠ r) (a0 a1 a2 a3 a4 : Value) :
    Whole (((((w.setCell ⟨r, 0, none⟩ a0).setCell ⟨r, 1, none⟩ a1).setCell ⟨r, 2, none⟩ a2).setCell ⟨r, 3, none⟩ a3).setCell ⟨r, 4, none⟩ a4) g t cs :=
  ((((h.far (p := ⟨r, 0, none⟩) hne _).far (p := ⟨r, 1, none⟩) hne _).far (p := ⟨r, 2, none⟩) hne _).far (p := ⟨r, 3, none⟩) hne _).far (p := ⟨r, 4, none⟩) hne _
theorem sev_far {w : World} {r g t : Nat} {cs : Array Value} (h : Whole w g t cs) (hne : g ≠ r) (a0 a1 a2 a3 a4 a5 a6 : Value) :
    Whole (((((((w.setCell ⟨r, 0, none⟩ a0).setCell ⟨r, 1, none⟩ a1).setCell ⟨r, 2, none⟩ a2).setCell ⟨r, 3, none⟩ a3).setCell ⟨r, 4, none⟩ a4).setCell ⟨r, 5, none⟩ a5).setCell ⟨r, 6, none⟩ a6) g t cs :=
  ((((((h.far (p := ⟨r, 0, none⟩) hne _).far (p := ⟨r, 1, none⟩) hne _).far (p := ⟨r, 2, none⟩) hne _).far (p := ⟨r, 3, none⟩) hne _).far (p := ⟨r, 4, none⟩) hne _).far (p := ⟨r, 5, none⟩) hne _).far (p := ⟨r, 6, none⟩) hne _
theorem five_below {B : Nat} {a w : World} {r : Nat} (h : Below B a w) (hr : B ≤ r) (a0 a1 a2 a3 a4 : Value) :
    Below B a (((((w.setCell ⟨r, 0, none⟩ a0).setCell ⟨r, 1, none⟩ a1).setCell ⟨r, 2, none⟩ a2).setCell ⟨r, 3, none⟩ a3).setCell ⟨r, 4, none⟩ a4) :=
  ((((h.setCell hr a0).setCell hr a1).setCell hr a2).setCell hr a3).setCell hr a4
set_option maxHeartbeats 16000000 in
set_option maxRecDepth 20000 in
theorem ZSoa_any (N : ByteArray) (D : List Rrd) (A : Option Addr) (c : Nat) (s : Rrd) (m r a b cc d e : List UInt8) (w : World) (h7 : Soa7 s.toRec.d m r a b cc d e) (hl : s.toRec.d.length ≤ 65535) :
    Calls Tryz.prog 59 #[.agg #[.string N, .slice A D.length c, .string s.s, .int .i64 s.t, .int .i64 s.c, .int .i64 s.l, .string s.d]] w fun en w' =>
      en = .returned (.tuple #[.agg #[.string s.s, .int .i64 s.t, .int .i64 s.c, .int .i64 s.l, .string s.d], .agg (agg7 m r (num a) (num b) (num cc) (num d) (num e))]) ∧ Below w.heap.size w w' := by
  have H7 := Lib.hid h7
  have hw0 := Whole.new w zoT #[.string N, .slice A D.length c, .string s.s, .int .i64 s.t, .int .i64 s.c, .int .i64 s.l, .string s.d]
  have hB0 : Below w.heap.size w (w.alloc (.cells #[.string N, .slice A D.length c, .string s.s, .int .i64 s.t, .int .i64 s.c, .int .i64 s.l, .string s.d] zoT)) := (Below.refl _ _).alloc (Nat.le_refl _) _
  obtain ⟨W1, hW1⟩ : ∃ W, W = w.alloc (.cells #[.string N, .slice A D.length c, .string s.s, .int .i64 s.t, .int .i64 s.c, .int .i64 s.l, .string s.d] zoT) := ⟨_, rfl⟩
  rw [← hW1] at hw0 hB0
  have hw1 := Whole.new W1 26 #[.string ⟨#[]⟩, .int .i64 0, .int .i64 0, .int .i64 0, .string ⟨#[]⟩]
  have hB1 : Below W1.heap.size W1 (W1.alloc (.cells #[.string ⟨#[]⟩, .int .i64 0, .int .i64 0, .int .i64 0, .string ⟨#[]⟩] 26)) := (Below.refl _ _).alloc (Nat.le_refl _) _
  obtain ⟨W2, hW2⟩ : ∃ W, W = W1.alloc (.cells #[.string ⟨#[]⟩, .int .i64 0, .int .i64 0, .int .i64 0, .string ⟨#[]⟩] 26) := ⟨_, rfl⟩
  rw [← hW2] at hw1 hB1
  have hw2 := Whole.new W2 soT zeroS
  have hB2 : Below W2.heap.size W2 (W2.alloc (.cells zeroS soT)) := (Below.refl _ _).alloc (Nat.le_refl _) _
  obtain ⟨W3, hW3⟩ : ∃ W, W = W2.alloc (.cells zeroS soT) := ⟨_, rfl⟩
  rw [← hW3] at hw2 hB2
  have s1 : W1.heap.size = w.heap.size + 1 := by rw [hW1]; simp
  have s2 : W2.heap.size = w.heap.size + 1 + 1 := by rw [hW2]; simp [s1]
  have hz0 := (hw0.below hB1 hw0.lt).below hB2 (Nat.lt_of_lt_of_le hw0.lt hB1.size)
  have hz1 := hw1.below hB2 hw1.lt
  rw [s1] at hz1
  rw [s2] at hw2
  have hB3 : Below w.heap.size w W3 := hB0.trans ((hB1.trans (hB2.mono hB1.size)).mono hB0.size)
  have HZ0 := Lib.hid hz0
  have HZ1 := Lib.hid hz1
  have HZ2 := Lib.hid hw2
  have HB3 := Lib.hid hB3
  have HW1 := Lib.hid hW1
  have HW2 := Lib.hid hW2
  have HW3 := Lib.hid (show W3 = W2.alloc (.cells #[.string ⟨#[]⟩, .string ⟨#[]⟩, .int .u32 0, .int .u32 0, .int .u32 0, .int .u32 0, .int .u32 0] soT) from hW3)
  clear hw0 hB0 hW1 hw1 hB1 hW2 hw2 hB2 hW3 hz0 hz1 hB3 s1 s2 h7
  obtain ⟨c0, c1, c2, c3, c4, c5, c6⟩ := zo_facts HZ0.out
  go_enter Tryz.func59, Tryz.ntmps59
  go_wp2_with fail
  rw [← HW1.out, ← HW2.out, ← HW3.out]
  go_wp2_with fail
  refine (Soa_yes s.d s.toRec.d m r a b cc d e _ (rrd_data s) hl H7.out).mono ?_
  rintro en w4 ⟨rfl, hB⟩
  have hw4 := Whole.new w4 soT (agg7 m r (num a) (num b) (num cc) (num d) (num e))
  have hB4 : Below w4.heap.size w4 (w4.alloc (.cells (agg7 m r (num a) (num b) (num cc) (num d) (num e)) soT)) := (Below.refl _ _).alloc (Nat.le_refl _) _
  obtain ⟨W5, hW5⟩ : ∃ W, W = w4.alloc (.cells (agg7 m r (num a) (num b) (num cc) (num d) (num e)) soT) := ⟨_, rfl⟩
  rw [← hW5] at hw4 hB4
  have HZ0b := Lib.hid ((HZ0.out.below hB HZ0.out.lt).below hB4 (Nat.lt_of_lt_of_le HZ0.out.lt hB.size))
  have HZ1b := Lib.hid ((HZ1.out.below hB HZ1.out.lt).below hB4 (Nat.lt_of_lt_of_le HZ1.out.lt hB.size))
  have HZ2b := Lib.hid ((HZ2.out.below hB HZ2.out.lt).below hB4 (Nat.lt_of_lt_of_le HZ2.out.lt hB.size))
  have HZ4 := Lib.hid hw4
  have HB5 := Lib.hid (HB3.out.trans ((hB.trans (hB4.mono hB.size)).mono HB3.out.size))
  obtain ⟨q, hq⟩ : ∃ q, q = w4.heap.size := ⟨_, rfl⟩
  have hqn : ∀ k, k ≤ 2 → q ≠ w.heap.size + k := by
    intro k hk e
    have := HZ2.out.lt
    have := hB.size
    omega
  have n0 : q ≠ w.heap.size + 1 := hqn 1 (by omega)
  have n1 : q ≠ w.heap.size + 1 + 1 := hqn 2 (by omega)
  have HW5 := Lib.hid hW5
  have HQ := Lib.hid hq
  rw [← hq] at HZ4
  clear hw4 hB4 hW5 hB hq hqn c0 c1 c2 c3 c4 c5 c6
  unfold agg7 at *
  go_wp2_with fail
  rw [← HW5.out, ← HQ.out]
  obtain ⟨c0, c1, c2, c3, c4, c5, c6⟩ := zo_facts HZ0b.out
  obtain ⟨e0, e1, e2, e3, e4, e5, e6⟩ := soa_facts HZ4.out
  obtain ⟨f0, f1, f2, f3, f4, f5, f6⟩ := soa_frozen HZ2b.out
  have k0 := HZ1b.out.frozen 0
  have k1 := HZ1b.out.frozen 1
  have k2 := HZ1b.out.frozen 2
  have k3 := HZ1b.out.frozen 3
  have k4 := HZ1b.out.frozen 4
  obtain ⟨x0, x1, x2, x3, x4, x5, x6⟩ := soa_facts (show Whole W5 (w.heap.size + 1 + 1) soT #[.string ⟨#[]⟩, .string ⟨#[]⟩, .int .u32 0, .int .u32 0, .int .u32 0, .int .u32 0, .int .u32 0] from HZ2b.out)
  obtain ⟨y0, y1, y2, y3, y4⟩ := rr_facts (show Whole W5 (w.heap.size + 1) rrT (rrA ⟨#[]⟩ ⟨#[]⟩ 0 0 0) from HZ1b.out)
  go_wp2_with fail
  go_region
  clear c0 c1 c2 c3 c4 c5 c6 e0 e1 e2 e3 e4 e5 e6 f0 f1 f2 f3 f4 f5 f6 k0 k1 k2 k3 k4 x0 x1 x2 x3 x4 x5 x6 y0 y1 y2 y3 y4
  go_wp2_with fail
  refine retRS rfl rfl rfl rfl (sev_far (five_put HZ1b.out _ _ _ _ _) (by omega) _ _ _ _ _ _ _).drew (seven_put (five_far (show Whole W5 (w.heap.size + 1 + 1) soT #[.string ⟨#[]⟩, .string ⟨#[]⟩, .int .u32 0, .int .u32 0, .int .u32 0, .int .u32 0, .int .u32 0] from HZ2b.out) (by omega) _ _ _ _ _) _ _ _ _ _ _ _).drew ⟨rfl, (seven_below (five_below HB5.out (by omega) _ _ _ _ _) (by omega) _ _ _ _ _ _ _).drew⟩
set_option maxHeartbeats 16000000 in
set_option maxRecDepth 20000 in
theorem ZRSoa_any (N : ByteArray) (D : List Rrd) (A : Option Addr) (c l0 : Nat) (s : Rrd) (m r a b cc d e : List UInt8) (w : World) (hx : SeesR w w.heap.size A l0 D) (hn : l0 ≤ 1000000) (hsoa : typX 6 D = [s]) (h7 : Soa7 s.toRec.d m r a b cc d e) (hl : s.toRec.d.length ≤ 65535) :
    Calls Tryz.prog 60 #[.agg #[.string N, .slice A l0 c]] w fun en w' =>
      en = .returned (.tuple #[.agg #[.string s.s, .int .i64 s.t, .int .i64 s.c, .int .i64 s.l, .string s.d], .agg (agg7 m r (num a) (num b) (num cc) (num d) (num e))]) ∧ Below w.heap.size w w' := by
  have H7 := Lib.hid h7
  have HSOA := Lib.hid hsoa
  have hw0 := Whole.new w rzT #[.string N, .slice A l0 c]
  have hB0 : Below w.heap.size w (w.alloc (.cells #[.string N, .slice A l0 c] rzT)) := (Below.refl _ _).alloc (Nat.le_refl _) _
  obtain ⟨W1, hW1⟩ : ∃ W, W = w.alloc (.cells #[.string N, .slice A l0 c] rzT) := ⟨_, rfl⟩
  rw [← hW1] at hw0 hB0
  have hw1 := Whole.new W1 26 #[.string ⟨#[]⟩, .int .i64 0, .int .i64 0, .int .i64 0, .string ⟨#[]⟩]
  have hB1 : Below W1.heap.size W1 (W1.alloc (.cells #[.string ⟨#[]⟩, .int .i64 0, .int .i64 0, .int .i64 0, .string ⟨#[]⟩] 26)) := (Below.refl _ _).alloc (Nat.le_refl _) _
  obtain ⟨W2, hW2⟩ : ∃ W, W = W1.alloc (.cells #[.string ⟨#[]⟩, .int .i64 0, .int .i64 0, .int .i64 0, .string ⟨#[]⟩] 26) := ⟨_, rfl⟩
  rw [← hW2] at hw1 hB1
  have hw2 := Whole.new W2 soT zeroS
  have hB2 : Below W2.heap.size W2 (W2.alloc (.cells zeroS soT)) := (Below.refl _ _).alloc (Nat.le_refl _) _
  obtain ⟨W3, hW3⟩ : ∃ W, W = W2.alloc (.cells zeroS soT) := ⟨_, rfl⟩
  rw [← hW3] at hw2 hB2
  have s1 : W1.heap.size = w.heap.size + 1 := by rw [hW1]; simp
  have s2 : W2.heap.size = w.heap.size + 1 + 1 := by rw [hW2]; simp [s1]
  have hz0 := (hw0.below hB1 hw0.lt).below hB2 (Nat.lt_of_lt_of_le hw0.lt hB1.size)
  have hz1 := hw1.below hB2 hw1.lt
  rw [s1] at hz1
  rw [s2] at hw2
  have hB3 : Below w.heap.size w W3 := hB0.trans ((hB1.trans (hB2.mono hB1.size)).mono hB0.size)
  have HZ0 := Lib.hid hz0
  have HZ1 := Lib.hid hz1
  have HZ2 := Lib.hid hw2
  have HB3 := Lib.hid hB3
  have HS3 := Lib.hid ((hx.keep hB3).more hB3.size)
  have HW1 := Lib.hid hW1
  have HW2 := Lib.hid hW2
  have HW3 := Lib.hid (show W3 = W2.alloc (.cells #[.string ⟨#[]⟩, .string ⟨#[]⟩, .int .u32 0, .int .u32 0, .int .u32 0, .int .u32 0, .int .u32 0] soT) from hW3)
  clear hw0 hB0 hW1 hw1 hB1 hW2 hw2 hB2 hW3 hz0 hz1 hB3 s1 s2 h7 hx hsoa
  have c0 : W3.cell? ⟨w.heap.size, 0, none⟩ = some (.string N) := (HZ0.out.cell 0).trans rfl
  have c1 : W3.cell? ⟨w.heap.size, 1, none⟩ = some (.slice A l0 c) := (HZ0.out.cell 1).trans rfl
  go_enter Tryz.func60, Tryz.ntmps60
  go_wp2_with fail
  rw [← HW1.out, ← HW2.out, ← HW3.out]
  go_wp2_with fail
  refine (RefTyped_any A l0 c D 6 _ HS3.out hn).mono ?_
  rw [show (D.filter fun y => decide (y.t = 6)) = [s] from HSOA.out]
  rintro en w4 ⟨v4, rfl, ho4, hB⟩
  obtain ⟨A4, c4, rfl, hs4, _⟩ := own_sees ho4
  obtain ⟨b4, off4, x4, rfl, hb4, hx4, hf4⟩ := hs4.at (show 0 < 1 by omega)
  obtain rfl : s = x4 := by simpa using hx4
  have hw4 := Whole.new w4 26 #[.string s.s, .int .i64 s.t, .int .i64 s.c, .int .i64 s.l, .string s.d]
  have hB4 : Below w4.heap.size w4 (w4.alloc (.cells #[.string s.s, .int .i64 s.t, .int .i64 s.c, .int .i64 s.l, .string s.d] 26)) := (Below.refl _ _).alloc (Nat.le_refl _) _
  obtain ⟨p0, p1, p2, p3, p4⟩ := box_five w4 s
  obtain ⟨y0, y1, y2, y3, y4⟩ := hf4
  rw [Nat.zero_mul, Nat.add_zero] at y0 y1 y2 y3 y4
  have HZ1b := Lib.hid ((HZ1.out.below hB HZ1.out.lt).below hB4 (Nat.lt_of_lt_of_le HZ1.out.lt hB.size))
  have HZ2b := Lib.hid ((HZ2.out.below hB HZ2.out.lt).below hB4 (Nat.lt_of_lt_of_le HZ2.out.lt hB.size))
  have HB4 := Lib.hid (HB3.out.trans ((hB.trans (hB4.mono hB.size)).mono HB3.out.size))
  have HF4 := Lib.hid hw4
  have HL4 := Lib.hid (Nat.lt_of_lt_of_le HZ2.out.lt hB.size)
  clear hB ho4 hs4 hx4 hw4 hB4 c0 c1
  simp only [List.length_cons, List.length_nil]
  go_wp2_with fail
  refine (RefSoa_yes s.d s.toRec.d m r a b cc d e _ (rrd_data s) hl H7.out).mono ?_
  rintro en w5 ⟨rfl, hB⟩
  have hw5 := Whole.new w5 soT (agg7 m r (num a) (num b) (num cc) (num d) (num e))
  have hB5 : Below w5.heap.size w5 (w5.alloc (.cells (agg7 m r (num a) (num b) (num cc) (num d) (num e)) soT)) := (Below.refl _ _).alloc (Nat.le_refl _) _
  obtain ⟨W6, hW6⟩ : ∃ W, W = w5.alloc (.cells (agg7 m r (num a) (num b) (num cc) (num d) (num e)) soT) := ⟨_, rfl⟩
  rw [← hW6] at hw5 hB5
  have HZ1c := Lib.hid ((HZ1b.out.below hB HZ1b.out.lt).below hB5 (Nat.lt_of_lt_of_le HZ1b.out.lt hB.size))
  have HZ2c := Lib.hid ((HZ2b.out.below hB HZ2b.out.lt).below hB5 (Nat.lt_of_lt_of_le HZ2b.out.lt hB.size))
  have HF6 := Lib.hid ((HF4.out.below hB HF4.out.lt).below hB5 (Nat.lt_of_lt_of_le HF4.out.lt hB.size))
  have HS6 := Lib.hid hw5
  have HB6 := Lib.hid (HB4.out.trans ((hB.trans (hB5.mono hB.size)).mono HB4.out.size))
  obtain ⟨q, hq⟩ : ∃ q, q = w5.heap.size := ⟨_, rfl⟩
  obtain ⟨u, hu⟩ : ∃ u, u = w4.heap.size := ⟨_, rfl⟩
  have hu1 : w.heap.size + 1 + 1 < u := by rw [hu]; exact HL4.out
  have hq1 : u < q := by rw [hu, hq]; have := HF4.out.lt; have := hB.size; omega
  have n0 : q ≠ w.heap.size + 1 := by omega
  have n1 : q ≠ w.heap.size + 1 + 1 := by omega
  have n2 : u ≠ w.heap.size + 1 := by omega
  have n3 : u ≠ w.heap.size + 1 + 1 := by omega
  have HW6 := Lib.hid hW6
  have HQ := Lib.hid hq
  have HU := Lib.hid hu
  rw [← hq] at HS6
  rw [← hu] at HF6
  clear hw5 hB5 hW6 hB hq hu p0 p1 p2 p3 p4 y0 y1 y2 y3 y4
  unfold agg7 at *
  go_wp2_with fail
  rw [← HW6.out, ← HQ.out, ← HU.out]
  obtain ⟨g0, g1, g2, g3, g4⟩ := rr_facts (show Whole W6 u rrT (rrA s.s s.d s.t s.c s.l) from HF6.out)
  obtain ⟨e0, e1, e2, e3, e4, e5, e6⟩ := soa_facts HS6.out
  obtain ⟨f0, f1, f2, f3, f4, f5, f6⟩ := soa_frozen HZ2c.out
  have k0 := HZ1c.out.frozen 0
  have k1 := HZ1c.out.frozen 1
  have k2 := HZ1c.out.frozen 2
  have k3 := HZ1c.out.frozen 3
  have k4 := HZ1c.out.frozen 4
  obtain ⟨x0, x1, x2, x3, x4, x5, x6⟩ := soa_facts (show Whole W6 (w.heap.size + 1 + 1) soT #[.string ⟨#[]⟩, .string ⟨#[]⟩, .int .u32 0, .int .u32 0, .int .u32 0, .int .u32 0, .int .u32 0] from HZ2c.out)
  obtain ⟨y0, y1, y2, y3, y4⟩ := rr_facts (show Whole W6 (w.heap.size + 1) rrT (rrA ⟨#[]⟩ ⟨#[]⟩ 0 0 0) from HZ1c.out)
  go_wp2_with fail
  go_region
  clear g0 g1 g2 g3 g4 e0 e1 e2 e3 e4 e5 e6 f0 f1 f2 f3 f4 f5 f6 k0 k1 k2 k3 k4 x0 x1 x2 x3 x4 x5 x6 y0 y1 y2 y3 y4
  go_wp2_with fail
  refine retRS rfl rfl rfl rfl (sev_far (five_put HZ1c.out _ _ _ _ _) (by omega) _ _ _ _ _ _ _).drew (seven_put (five_far (show Whole W6 (w.heap.size + 1 + 1) soT #[.string ⟨#[]⟩, .string ⟨#[]⟩, .int .u32 0, .int .u32 0, .int .u32 0, .int .u32 0, .int .u32 0] from HZ2c.out) (by omega) _ _ _ _ _) _ _ _ _ _ _ _).drew ⟨rfl, (seven_below (five_below HB6.out (by omega) _ _ _ _ _) (by omega) _ _ _ _ _ _ _).drew⟩
theorem soa_of {nn : List UInt8} {D : List Rrd} {s : Rrd} (hz : isZ nn D = true) (hok : OkL D) (hs : typX 6 D = [s]) : s.c = 1 ∧ s.t = 6 ∧ s ∈ D ∧ s.toRec.d.length ≤ 65535 ∧ ∃ m r a b c d e, Soa7 s.toRec.d m r a b c d e := by
  have hm : s ∈ typX 6 D := by rw [hs]; simp
  obtain ⟨h1, h2⟩ := typX_mem.1 hm
  have hg : goodR nn s = true := by
    unfold isZ at hz
    rw [Bool.and_eq_true, List.all_eq_true] at hz
    exact hz.1 s h1
  unfold goodR at hg
  rw [Bool.and_eq_true, decide_eq_true_eq] at hg
  have ho := hok s h1
  obtain ⟨_, _, _, _, hr⟩ := ok_parts ho.1
  have hr6 : rightR 6 s.toRec.d = true := by
    have e : tyd s.toRec.t s.toRec.c s.toRec.d.length = 6 := by
      unfold tyd
      rw [if_pos (.inl hg.1)]
      exact h2
    rwa [e] at hr
  exact ⟨hg.1, h2, h1, by have := ho.data; omega, soa_is hr6⟩
theorem so_eqIn (M R : ByteArray) (z0 z1 z2 z3 z4 : Int) (w : World) : (Op.equalIn 10000 soT (.agg #[.string M, .string R, .int .u32 z0, .int .u32 z1, .int .u32 z2, .int .u32 z3, .int .u32 z4]) (.agg #[.string M, .string R, .int .u32 z0, .int .u32 z1, .int .u32 z2, .int .u32 z3, .int .u32 z4])).run Tryz.prog w = .ok true w := by
  have u9 := Tryz.underlying9
  have a9 := Tryz.isAgg9
  have z9 := Tryz.sizeOf9
  have u3 := Tryz.underlying81
  have a3 := Tryz.isAgg81
  have z3' := Tryz.sizeOf81
  have hS : Tryz.prog.underlying soT = some (.struct (Tryz.prog.fieldsOf soT)) := by kernel_rfl
  have hp : Tryz.prog.stoodInHeld soT = false := by kernel_rfl
  rw [show (10000 : Nat) = 9999 + 1 from rfl, run_equalIn_agg w 9999 soT _ _ hS hp]
  simp only [Program.fieldsOf, Tryz.underlying83]
  go_simp
theorem so_eql (M R : ByteArray) (z0 z1 z2 z3 z4 : Int) (w : World) : (binOp .eql soT (.agg #[.string M, .string R, .int .u32 z0, .int .u32 z1, .int .u32 z2, .int .u32 z3, .int .u32 z4]) (.agg #[.string M, .string R, .int .u32 z0, .int .u32 z1, .int .u32 z2, .int .u32 z3, .int .u32 z4])).run Tryz.prog w = .ok (.bool true) w := by
  rw [run_eql_struct, so_eqIn]
  rfl
theorem so_guard (op : BinOp) (x y : Operand) (M R : ByteArray) (z0 z1 z2 z3 z4 : Int) (w : World) : (eqGuard op soT x y (.agg #[.string M, .string R, .int .u32 z0, .int .u32 z1, .int .u32 z2, .int .u32 z3, .int .u32 z4]) (.agg #[.string M, .string R, .int .u32 z0, .int .u32 z1, .int .u32 z2, .int .u32 z3, .int .u32 z4])).run Tryz.prog w = .ok () w :=
  run_eqGuard_agg w op soT x y _ _ (by kernel_rfl)
end Go.Proofs.YtkgihfoknpimfaaGreat
