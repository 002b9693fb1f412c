/- From a reading of a message that came in, of bounded bulk, to what our walks are told of it. No statement of the seat is proved here. -/
import Derived.Test.YtokjmefleanjaaaGreatMesB
import Derived.Test.YtokjmefleanjaaaGreatReQ
import Derived.Lib.SmallJoins
import Derived.Deep.Fields
namespace Go.Proofs.YtokjmefleanjaaaGreat
open Go.ChangeShapes Go.WideShapes Go.ChangeAt Go.RowKit Go.Deep

theorem bulk_pos {H : Type} (d : DataW H) : 1 ≤ Rows.uptoBulk d := by
  cases d with
  | lit l => cases l <;> simp [Rows.uptoBulk]
  | _ => simp [Rows.uptoBulk]
theorem bulk_len {H : Type} (l : List (DataW H)) : l.length ≤ Rows.uptoBulkAll l := by
  induction l with
  | nil => simp [Rows.uptoBulkAll]
  | cons x r ih => have := bulk_pos x; simp only [Rows.uptoBulkAll, List.length_cons]; omega

theorem three_cells {H : Type} {enc : TypeId × Value → H} {P : Program} {w : World} {base : Nat} {spare : Nat → Bool} {held : Bool} {t : TypeId} {f0 f1 f2 : Field} {fuel : Nat} {cs : List Value} {x : DataW H × List MemPlace}
    (hs : P.underlying t = some (.struct #[f0, f1, f2])) (hone : oneCellFields P #[f0, f1, f2] = true) (hC : P.cellsOf t = 3) (h : DataW.trod enc P w base spare held fuel t cs = some x) :
    ∃ (c0 c1 c2 : Value) (y0 y1 y2 : DataW H × List MemPlace) (n : Nat), cs = [c0, c1, c2] ∧ DataW.trod enc P w base spare held n f0.type [c0] = some y0 ∧ DataW.trod enc P w base spare held n f1.type [c1] = some y1 ∧
      DataW.trod enc P w base spare held n f2.type [c2] = some y2 := by
  obtain ⟨xs, n, _, _, hl, hlen, hg⟩ := DataW.trod_struct hs h
  obtain ⟨o0, k0⟩ := hone_of hone 0 f0 rfl
  obtain ⟨o1, k1⟩ := hone_of hone 1 f1 rfl
  obtain ⟨o2, k2⟩ := hone_of hone 2 f2 rfl
  have g0 := hg 0 f0 rfl
  have g1 := hg 1 f1 rfl
  have g2 := hg 2 f2 rfl
  match xs, hlen with
  | [y0, y1, y2], _ =>
    match cs, hl.trans hC with
    | [c0, c1, c2], _ =>
      exact ⟨c0, c1, c2, y0, y1, y2, n, rfl, by simpa [o0, k0] using g0, by simpa [o1, k1] using g1, by simpa [o2, k2] using g2⟩
theorem ques_in {H : Type} {enc : TypeId × Value → H} {W : World} {base : Nat} {held : Bool} {a : Option Addr} {len cap : Nat} {d : DataW H} {p : List MemPlace}
    (h : DataW.Trod enc Tryz.prog W base (fun _ => true) held 23 (.slice a len cap) d p) : ∃ xs, SeesQ W W.heap.size a len xs := by
  obtain ⟨fuel, hf⟩ := h
  have hC : Tryz.prog.cellsOf 45 = 3 := by kernel_rfl
  rcases open_slice Tryz.underlying23 hf with ⟨hcs, _⟩ | ⟨x, l, c, m, n, D, Pl, hcs, _, hl, _, hm, _, hi⟩
  · simp [Value.cells] at hcs
    obtain ⟨rfl, rfl, rfl⟩ := hcs
    exact ⟨[], rfl, fun h => absurd h (by omega)⟩
  · simp [Value.cells] at hcs
    obtain ⟨rfl, rfl, rfl⟩ := hcs
    have hmc : m = cap := by simpa using hm
    have H1 : ∀ i, i < len → ∃ z : Qrd, W.cell? ((x.add (i * 3)).add 0) = some (.string z.s) ∧ W.cell? ((x.add (i * 3)).add 1) = some (.int .i64 z.t) ∧ W.cell? ((x.add (i * 3)).add 2) = some (.int .i64 z.c) := by
      intro i hlt
      obtain ⟨cs', hc, ht⟩ := hi i (by omega)
      rw [hC] at hc
      obtain ⟨c0, c1, c2, y0, y1, y2, n', rfl, t0, t1, t2⟩ := three_cells Tryz.underlying45 (by kernel_rfl) hC ht
      obtain ⟨_, _, hat⟩ := World.cells?_some hc
      obtain ⟨s0, e0, _, _⟩ := DataW.trod_string Tryz.underlying9 t0
      obtain ⟨b1, e1, _⟩ := DataW.trod_int Tryz.underlying3 t1
      obtain ⟨b2, e2, _⟩ := DataW.trod_int Tryz.underlying3 t2
      obtain rfl : c0 = .string s0 := by simpa using e0
      obtain rfl : c1 = .int .i64 b1 := by simpa using e1
      obtain rfl : c2 = .int .i64 b2 := by simpa using e2
      exact ⟨⟨s0, b1, b2⟩, hat 0 (by omega), hat 1 (by omega), hat 2 (by omega)⟩
    obtain ⟨f, hff⟩ : ∃ f : Nat → Qrd, ∀ i, i < len → W.cell? ((x.add (i * 3)).add 0) = some (.string (f i).s) ∧ W.cell? ((x.add (i * 3)).add 1) = some (.int .i64 (f i).t) ∧ W.cell? ((x.add (i * 3)).add 2) = some (.int .i64 (f i).c) :=
      ⟨fun i => if h : i < len then (H1 i h).choose else ⟨.empty, 0, 0⟩, fun i hi => by
        simp only [dif_pos hi]
        exact (H1 i hi).choose_spec⟩
    refine ⟨(List.range len).map f, by simp, fun hpos => ?_⟩
    obtain ⟨b, off, spot⟩ := x
    have h1 := (hff 0 hpos).1
    have hspot : spot = none := by simpa [Addr.add] using World.cell?_spot h1
    subst hspot
    have hb := World.block_lt_of_cell? W _ h1
    refine ⟨b, off, rfl, by simpa [Addr.add] using hb, fun j z hz => ?_⟩
    have hj : j < len := by
      have := (List.getElem?_eq_some_iff.1 hz).1
      simpa using this
    have hzf : z = f j := by
      rw [List.getElem?_map, List.getElem?_range hj] at hz
      exact (Option.some.inj hz).symm
    obtain ⟨x0, x1, x2⟩ := hff j hj
    rw [hzf]
    rw [add_flat, add_flat] at x0 x1 x2
    exact ⟨x0, x1, x2⟩
/-- a slice that came in within a struct: its shape, and its length by the bulk -/
theorem slice_of {H : Type} {enc : TypeId × Value → H} {W : World} {base : Nat} {held : Bool} {T E : TypeId} {fuel : Nat} {v : Value} {y : DataW H × List MemPlace} (hT : Tryz.prog.underlying T = some (.slice E))
    (hf : DataW.trod enc Tryz.prog W base (fun _ => true) held fuel T [v] = some y) : ∃ A n c, v = .slice A n c ∧ n ≤ Rows.uptoBulk y.1 ∧ DataW.Trod enc Tryz.prog W base (fun _ => true) held T (.slice A n c) y.1 y.2 := by
  have hf' := hf
  rcases open_slice hT hf with ⟨hcs, rfl⟩ | ⟨x, l, c, m, n, D, Pl, hcs, _, hl, _, hm, rfl, hi⟩
  · simp only [List.cons.injEq, and_true] at hcs
    subst hcs
    exact ⟨none, 0, 0, rfl, Nat.zero_le _, fuel, by simpa [Value.cells] using hf'⟩
  · simp only [List.cons.injEq, and_true] at hcs
    subst hcs
    refine ⟨some x, l, c, rfl, ?_, fuel, by simpa [Value.cells] using hf'⟩
    have h1 := bulk_len ((List.range l).map D)
    simp only [List.length_map, List.length_range] at h1
    simp only [Rows.uptoBulk]
    omega
theorem array13 {α : Type} {cs : Array α} (h : cs.size = 13) : ∃ c0 c1 c2 c3 c4 c5 c6 c7 c8 c9 c10 c11 c12, cs = #[c0, c1, c2, c3, c4, c5, c6, c7, c8, c9, c10, c11, c12] := by
  obtain ⟨l⟩ := cs
  match l, h with
  | [c0, c1, c2, c3, c4, c5, c6, c7, c8, c9, c10, c11, c12], _ => exact ⟨c0, c1, c2, c3, c4, c5, c6, c7, c8, c9, c10, c11, c12, rfl⟩
set_option maxRecDepth 100000 in
theorem open_agg13 {H : Type} {enc : TypeId × Value → H} {P : Program} {w : World} {base : Nat} {spare : Nat → Bool} {held : Bool} {r : Reach} {b0 : Nat} {t : TypeId} {f0 f1 f2 f3 f4 f5 f6 f7 f8 f9 f10 f11 f12 : Field} {v : Value} {d : DataW H} {p : List MemPlace} (hs : P.underlying t = some (.struct #[f0, f1, f2, f3, f4, f5, f6, f7, f8, f9, f10, f11, f12])) (hone : oneCellFields P #[f0, f1, f2, f3, f4, f5, f6, f7, f8, f9, f10, f11, f12] = true) (hC : P.cellsOf t = 13)
    (hv : Value.okWide P w r b0 t v) (h : DataW.Trod enc P w base spare held t v d p) :
    ∃ (v0 v1 v2 v3 v4 v5 v6 v7 v8 v9 v10 v11 v12 : Value) (y0 y1 y2 y3 y4 y5 y6 y7 y8 y9 y10 y11 y12 : DataW H × List MemPlace) (n : Nat), v = .agg #[v0, v1, v2, v3, v4, v5, v6, v7, v8, v9, v10, v11, v12] ∧ d = .agg [y0.1, y1.1, y2.1, y3.1, y4.1, y5.1, y6.1, y7.1, y8.1, y9.1, y10.1, y11.1, y12.1] ∧
      DataW.trod enc P w base spare held n f0.type [v0] = some y0 ∧ DataW.trod enc P w base spare held n f1.type [v1] = some y1 ∧ DataW.trod enc P w base spare held n f2.type [v2] = some y2 ∧ DataW.trod enc P w base spare held n f3.type [v3] = some y3 ∧ DataW.trod enc P w base spare held n f4.type [v4] = some y4 ∧ DataW.trod enc P w base spare held n f5.type [v5] = some y5 ∧ DataW.trod enc P w base spare held n f6.type [v6] = some y6 ∧ DataW.trod enc P w base spare held n f7.type [v7] = some y7 ∧ DataW.trod enc P w base spare held n f8.type [v8] = some y8 ∧ DataW.trod enc P w base spare held n f9.type [v9] = some y9 ∧ DataW.trod enc P w base spare held n f10.type [v10] = some y10 ∧ DataW.trod enc P w base spare held n f11.type [v11] = some y11 ∧ DataW.trod enc P w base spare held n f12.type [v12] = some y12 := by
  obtain ⟨cs, rfl, hsz⟩ := okWide_struct hs hv
  obtain ⟨c0, c1, c2, c3, c4, c5, c6, c7, c8, c9, c10, c11, c12, rfl⟩ := array13 (hsz.trans hC)
  obtain ⟨fuel, hf⟩ := h
  obtain ⟨xs, n, _, hx, _, hlen, hg⟩ := DataW.trod_struct hs hf
  obtain ⟨o0, k0⟩ := hone_of hone 0 f0 rfl
  obtain ⟨o1, k1⟩ := hone_of hone 1 f1 rfl
  obtain ⟨o2, k2⟩ := hone_of hone 2 f2 rfl
  obtain ⟨o3, k3⟩ := hone_of hone 3 f3 rfl
  obtain ⟨o4, k4⟩ := hone_of hone 4 f4 rfl
  obtain ⟨o5, k5⟩ := hone_of hone 5 f5 rfl
  obtain ⟨o6, k6⟩ := hone_of hone 6 f6 rfl
  obtain ⟨o7, k7⟩ := hone_of hone 7 f7 rfl
  obtain ⟨o8, k8⟩ := hone_of hone 8 f8 rfl
  obtain ⟨o9, k9⟩ := hone_of hone 9 f9 rfl
  obtain ⟨o10, k10⟩ := hone_of hone 10 f10 rfl
  obtain ⟨o11, k11⟩ := hone_of hone 11 f11 rfl
  obtain ⟨o12, k12⟩ := hone_of hone 12 f12 rfl
  have g0 := hg 0 f0 rfl
  have g1 := hg 1 f1 rfl
  have g2 := hg 2 f2 rfl
  have g3 := hg 3 f3 rfl
  have g4 := hg 4 f4 rfl
  have g5 := hg 5 f5 rfl
  have g6 := hg 6 f6 rfl
  have g7 := hg 7 f7 rfl
  have g8 := hg 8 f8 rfl
  have g9 := hg 9 f9 rfl
  have g10 := hg 10 f10 rfl
  have g11 := hg 11 f11 rfl
  have g12 := hg 12 f12 rfl
  match xs, hlen with
  | [y0, y1, y2, y3, y4, y5, y6, y7, y8, y9, y10, y11, y12], _ =>
    simp only [Prod.mk.injEq] at hx
    exact ⟨c0, c1, c2, c3, c4, c5, c6, c7, c8, c9, c10, c11, c12, y0, y1, y2, y3, y4, y5, y6, y7, y8, y9, y10, y11, y12, n, rfl, by simpa using hx.1, by simpa [Value.cells, o0, k0] using g0, by simpa [Value.cells, o1, k1] using g1, by simpa [Value.cells, o2, k2] using g2, by simpa [Value.cells, o3, k3] using g3, by simpa [Value.cells, o4, k4] using g4, by simpa [Value.cells, o5, k5] using g5, by simpa [Value.cells, o6, k6] using g6, by simpa [Value.cells, o7, k7] using g7, by simpa [Value.cells, o8, k8] using g8, by simpa [Value.cells, o9, k9] using g9, by simpa [Value.cells, o10, k10] using g10, by simpa [Value.cells, o11, k11] using g11, by simpa [Value.cells, o12, k12] using g12⟩
set_option maxRecDepth 100000 in
set_option maxHeartbeats 1000000 in
/-- a message that came in -/
theorem msg_in {H : Type} {enc : TypeId × Value → H} {W : World} {base b0 : Nat} {held : Bool} {r : Reach} {v : Value} {d : DataW H} {p : List MemPlace} (hv : Value.okWide Tryz.prog W r b0 msT v) (h : DataW.Trod enc Tryz.prog W base (fun _ => true) held msT v d p) :
    ∃ (hd : Hd) (x : Mrd), v = .agg (msV hd x) ∧ SeesM W W.heap.size x ∧ x.qn + x.an + x.nn + x.dn ≤ Rows.uptoBulk d := by
  obtain ⟨v0, v1, v2, v3, v4, v5, v6, v7, v8, v9, v10, v11, v12, y0, y1, y2, y3, y4, y5, y6, y7, y8, y9, y10, y11, y12, n, rfl, rfl, t0, t1, t2, t3, t4, t5, t6, t7, t8, t9, t10, t11, t12⟩ := open_agg13 (enc := enc) Tryz.underlying26 (by kernel_rfl) (by kernel_rfl) hv h
  obtain ⟨b0', e0, _⟩ := DataW.trod_int Tryz.underlying3 t0
  obtain rfl : v0 = .int .i64 b0' := by simpa using e0
  obtain ⟨b1, e1, _⟩ := DataW.trod_bool Tryz.underlying4 t1
  obtain rfl : v1 = .bool b1 := by simpa using e1
  obtain ⟨b2, e2, _⟩ := DataW.trod_int Tryz.underlying3 t2
  obtain rfl : v2 = .int .i64 b2 := by simpa using e2
  obtain ⟨b3, e3, _⟩ := DataW.trod_bool Tryz.underlying4 t3
  obtain rfl : v3 = .bool b3 := by simpa using e3
  obtain ⟨b4, e4, _⟩ := DataW.trod_bool Tryz.underlying4 t4
  obtain rfl : v4 = .bool b4 := by simpa using e4
  obtain ⟨b5, e5, _⟩ := DataW.trod_bool Tryz.underlying4 t5
  obtain rfl : v5 = .bool b5 := by simpa using e5
  obtain ⟨b6, e6, _⟩ := DataW.trod_bool Tryz.underlying4 t6
  obtain rfl : v6 = .bool b6 := by simpa using e6
  obtain ⟨b7, e7, _⟩ := DataW.trod_int Tryz.underlying3 t7
  obtain rfl : v7 = .int .i64 b7 := by simpa using e7
  obtain ⟨b8, e8, _⟩ := DataW.trod_int Tryz.underlying22 t8
  obtain rfl : v8 = .int .i64 b8 := by simpa using e8
  obtain ⟨A9, n9, c9, rfl, l9, q9⟩ := slice_of Tryz.underlying23 t9
  obtain ⟨xs9, s9⟩ := ques_in q9
  obtain ⟨A10, n10, c10, rfl, l10, q10⟩ := slice_of Tryz.underlying24 t10
  obtain ⟨xs10, s10⟩ := recs_in q10
  obtain ⟨A11, n11, c11, rfl, l11, q11⟩ := slice_of Tryz.underlying24 t11
  obtain ⟨xs11, s11⟩ := recs_in q11
  obtain ⟨A12, n12, c12, rfl, l12, q12⟩ := slice_of Tryz.underlying24 t12
  obtain ⟨xs12, s12⟩ := recs_in q12
  refine ⟨⟨b0', b1, b2, b3, b4, b5, b6, b7, b8⟩, ⟨A9, n9, c9, A10, n10, c10, A11, n11, c11, A12, n12, c12, xs9, xs10, xs11, xs12⟩, rfl, ⟨s9, s10, s11, s12⟩, ?_⟩
  simp only [Rows.uptoBulk, Rows.uptoBulkAll]
  omega
end Go.Proofs.YtokjmefleanjaaaGreat
