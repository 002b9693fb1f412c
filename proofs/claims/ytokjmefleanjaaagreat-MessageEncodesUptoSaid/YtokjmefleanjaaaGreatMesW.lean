/- What a message that came in says of the names of its questions, by the bulk. No statement of the seat is proved here. -/
import Derived.Test.YtokjmefleanjaaaGreatMesV
namespace Go.Proofs.YtokjmefleanjaaaGreat
open Go.ChangeShapes Go.WideShapes Go.ChangeAt Go.RowKit Go.Deep

theorem bulk_mem {H : Type} {d : DataW H} {l : List (DataW H)} (h : d ∈ l) : Rows.uptoBulk d ≤ Rows.uptoBulkAll l := by
  induction l with
  | nil => cases h
  | cons x r ih =>
    simp only [Rows.uptoBulkAll]
    rcases List.mem_cons.1 h with rfl | h
    · omega
    · have := ih h
      omega
theorem three_cells2 {H : Type} {enc : TypeId × Value → H} {P : Program} {w : World} {base : Nat} {spare : Nat → Bool} {held : Bool} {t : TypeId} {f0 f1 f2 : Field} {fuel : Nat} {cs : List Value} {x : DataW H × List MemPlace}
    (hs : P.underlying t = some (.struct #[f0, f1, f2])) (hone : oneCellFields P #[f0, f1, f2] = true) (hC : P.cellsOf t = 3) (h : DataW.trod enc P w base spare held fuel t cs = some x) :
    ∃ (c0 c1 c2 : Value) (y0 y1 y2 : DataW H × List MemPlace) (n : Nat), cs = [c0, c1, c2] ∧ x.1 = .agg [y0.1, y1.1, y2.1] ∧ DataW.trod enc P w base spare held n f0.type [c0] = some y0 ∧ DataW.trod enc P w base spare held n f1.type [c1] = some y1 ∧
      DataW.trod enc P w base spare held n f2.type [c2] = some y2 := by
  obtain ⟨xs, n, _, hx, hl, hlen, hg⟩ := DataW.trod_struct hs h
  obtain ⟨o0, k0⟩ := hone_of hone 0 f0 rfl
  obtain ⟨o1, k1⟩ := hone_of hone 1 f1 rfl
  obtain ⟨o2, k2⟩ := hone_of hone 2 f2 rfl
  have g0 := hg 0 f0 rfl
  have g1 := hg 1 f1 rfl
  have g2 := hg 2 f2 rfl
  match xs, hlen with
  | [y0, y1, y2], _ =>
    match cs, hl.trans hC with
    | [c0, c1, c2], _ =>
      exact ⟨c0, c1, c2, y0, y1, y2, n, rfl, by rw [hx]; rfl, by simpa [o0, k0] using g0, by simpa [o1, k1] using g1, by simpa [o2, k2] using g2⟩
theorem ques_in2 {H : Type} {enc : TypeId × Value → H} {W : World} {base : Nat} {held : Bool} {a : Option Addr} {len cap : Nat} {d : DataW H} {p : List MemPlace}
    (h : DataW.Trod enc Tryz.prog W base (fun _ => true) held 23 (.slice a len cap) d p) : ∃ xs, SeesQ W W.heap.size a len xs ∧ ∀ y ∈ xs, y.s.size ≤ Rows.uptoBulk d := by
  obtain ⟨fuel, hf⟩ := h
  have hC : Tryz.prog.cellsOf 45 = 3 := by kernel_rfl
  rcases open_slice Tryz.underlying23 hf with ⟨hcs, _⟩ | ⟨x, l, c, m, n, D, Pl, hcs, _, hl, _, hm, hxe, hi⟩
  · simp [Value.cells] at hcs
    obtain ⟨rfl, rfl, rfl⟩ := hcs
    exact ⟨[], ⟨rfl, fun h => absurd h (by omega)⟩, fun y hy => by cases hy⟩
  · simp [Value.cells] at hcs
    obtain ⟨rfl, rfl, rfl⟩ := hcs
    have hmc : m = cap := by simpa using hm
    have hde : d = .slice ((List.range len).map D) ((List.range (m - len)).map fun j => D (len + j)) := congrArg Prod.fst hxe
    have H1 : ∀ i, i < len → ∃ z : Qrd, W.cell? ((x.add (i * 3)).add 0) = some (.string z.s) ∧ W.cell? ((x.add (i * 3)).add 1) = some (.int .i64 z.t) ∧ W.cell? ((x.add (i * 3)).add 2) = some (.int .i64 z.c) ∧ z.s.size ≤ Rows.uptoBulk (D i) := by
      intro i hlt
      obtain ⟨cs', hc, ht⟩ := hi i (by omega)
      rw [hC] at hc
      obtain ⟨c0, c1, c2, y0, y1, y2, n', rfl, hag, t0, t1, t2⟩ := three_cells2 Tryz.underlying45 (by kernel_rfl) hC ht
      obtain ⟨_, _, hat⟩ := World.cells?_some hc
      obtain ⟨s0, e0, hy0, _⟩ := DataW.trod_string Tryz.underlying9 t0
      obtain ⟨b1, e1, _⟩ := DataW.trod_int Tryz.underlying3 t1
      obtain ⟨b2, e2, _⟩ := DataW.trod_int Tryz.underlying3 t2
      obtain rfl : c0 = .string s0 := by simpa using e0
      obtain rfl : c1 = .int .i64 b1 := by simpa using e1
      obtain rfl : c2 = .int .i64 b2 := by simpa using e2
      exact ⟨⟨s0, b1, b2⟩, hat 0 (by omega), hat 1 (by omega), hat 2 (by omega), by simp only at hag; rw [hag, hy0]; simp only [Rows.uptoBulk, Rows.uptoBulkAll]; show s0.size ≤ _; rw [show s0.data.toList.length = s0.size by simp]; omega⟩
    obtain ⟨f, hff⟩ : ∃ f : Nat → Qrd, ∀ i, i < len → W.cell? ((x.add (i * 3)).add 0) = some (.string (f i).s) ∧ W.cell? ((x.add (i * 3)).add 1) = some (.int .i64 (f i).t) ∧ W.cell? ((x.add (i * 3)).add 2) = some (.int .i64 (f i).c) ∧ (f i).s.size ≤ Rows.uptoBulk (D i) :=
      ⟨fun i => if h : i < len then (H1 i h).choose else ⟨.empty, 0, 0⟩, fun i hi => by
        simp only [dif_pos hi]
        exact (H1 i hi).choose_spec⟩
    refine ⟨(List.range len).map f, ⟨by simp, fun hpos => ?_⟩, fun y hy => ?_⟩
    rotate_left
    · obtain ⟨i, hi2, rfl⟩ := List.mem_map.1 hy
      have h1 := (hff i (List.mem_range.1 hi2)).2.2.2
      have h2 := bulk_mem (List.mem_map_of_mem (f := D) hi2)
      rw [hde]
      simp only [Rows.uptoBulk]
      omega
    obtain ⟨b, off, spot⟩ := x
    have h1 := (hff 0 hpos).1
    have hspot : spot = none := by simpa [Addr.add] using World.cell?_spot h1
    subst hspot
    have hb := World.block_lt_of_cell? W _ h1
    refine ⟨b, off, rfl, by simpa [Addr.add] using hb, fun j z hz => ?_⟩
    have hj : j < len := by
      have := (List.getElem?_eq_some_iff.1 hz).1
      simpa using this
    have hzf : z = f j := by
      rw [List.getElem?_map, List.getElem?_range hj] at hz
      exact (Option.some.inj hz).symm
    obtain ⟨x0, x1, x2, _⟩ := hff j hj
    rw [hzf]
    rw [add_flat, add_flat] at x0 x1 x2
    exact ⟨x0, x1, x2⟩
set_option maxRecDepth 100000 in
set_option maxHeartbeats 1000000 in
/-- a message that came in -/
theorem msg_in2 {H : Type} {enc : TypeId × Value → H} {W : World} {base b0 : Nat} {held : Bool} {r : Reach} {v : Value} {d : DataW H} {p : List MemPlace} (hv : Value.okWide Tryz.prog W r b0 msT v) (h : DataW.Trod enc Tryz.prog W base (fun _ => true) held msT v d p) :
    ∃ (hd : Hd) (x : Mrd), v = .agg (msV hd x) ∧ SeesM W W.heap.size x ∧ x.qn + x.an + x.nn + x.dn ≤ Rows.uptoBulk d ∧ (∀ y ∈ x.lq, y.s.size ≤ Rows.uptoBulk d) := by
  obtain ⟨v0, v1, v2, v3, v4, v5, v6, v7, v8, v9, v10, v11, v12, y0, y1, y2, y3, y4, y5, y6, y7, y8, y9, y10, y11, y12, n, rfl, rfl, t0, t1, t2, t3, t4, t5, t6, t7, t8, t9, t10, t11, t12⟩ := open_agg13 (enc := enc) Tryz.underlying26 (by kernel_rfl) (by kernel_rfl) hv h
  obtain ⟨b0', e0, _⟩ := DataW.trod_int Tryz.underlying3 t0
  obtain rfl : v0 = .int .i64 b0' := by simpa using e0
  obtain ⟨b1, e1, _⟩ := DataW.trod_bool Tryz.underlying4 t1
  obtain rfl : v1 = .bool b1 := by simpa using e1
  obtain ⟨b2, e2, _⟩ := DataW.trod_int Tryz.underlying3 t2
  obtain rfl : v2 = .int .i64 b2 := by simpa using e2
  obtain ⟨b3, e3, _⟩ := DataW.trod_bool Tryz.underlying4 t3
  obtain rfl : v3 = .bool b3 := by simpa using e3
  obtain ⟨b4, e4, _⟩ := DataW.trod_bool Tryz.underlying4 t4
  obtain rfl : v4 = .bool b4 := by simpa using e4
  obtain ⟨b5, e5, _⟩ := DataW.trod_bool Tryz.underlying4 t5
  obtain rfl : v5 = .bool b5 := by simpa using e5
  obtain ⟨b6, e6, _⟩ := DataW.trod_bool Tryz.underlying4 t6
  obtain rfl : v6 = .bool b6 := by simpa using e6
  obtain ⟨b7, e7, _⟩ := DataW.trod_int Tryz.underlying3 t7
  obtain rfl : v7 = .int .i64 b7 := by simpa using e7
  obtain ⟨b8, e8, _⟩ := DataW.trod_int Tryz.underlying22 t8
  obtain rfl : v8 = .int .i64 b8 := by simpa using e8
  obtain ⟨A9, n9, c9, rfl, l9, q9⟩ := slice_of Tryz.underlying23 t9
  obtain ⟨xs9, s9, z9⟩ := ques_in2 q9
  obtain ⟨A10, n10, c10, rfl, l10, q10⟩ := slice_of Tryz.underlying24 t10
  obtain ⟨xs10, s10⟩ := recs_in q10
  obtain ⟨A11, n11, c11, rfl, l11, q11⟩ := slice_of Tryz.underlying24 t11
  obtain ⟨xs11, s11⟩ := recs_in q11
  obtain ⟨A12, n12, c12, rfl, l12, q12⟩ := slice_of Tryz.underlying24 t12
  obtain ⟨xs12, s12⟩ := recs_in q12
  refine ⟨⟨b0', b1, b2, b3, b4, b5, b6, b7, b8⟩, ⟨A9, n9, c9, A10, n10, c10, A11, n11, c11, A12, n12, c12, xs9, xs10, xs11, xs12⟩, rfl, ⟨s9, s10, s11, s12⟩, ?_, fun y hy => ?_⟩
  · simp only [Rows.uptoBulk, Rows.uptoBulkAll]
    omega
  · have := z9 y hy
    simp only [Rows.uptoBulk, Rows.uptoBulkAll]
    omega
end Go.Proofs.YtokjmefleanjaaaGreat
