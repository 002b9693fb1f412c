/- A slice of records that came in, with its room. No statement of the seat is proved here. -/
import Derived.Test.YtnbapaimpoobkaaGreatDoorRrE
import Derived.Lib.SmallJoins
import Derived.Deep.Fields
namespace Go.Proofs.YtnbapaimpoobkaaGreatDoor
open Go.ChangeShapes Go.WideShapes Go.ChangeAt Go.RowKit Go.Deep
theorem add_flatV (b off i : Nat) : (⟨b, off, none⟩ : Addr).add i = ⟨b, off + i, none⟩ := by unfold Addr.add; split <;> simp_all
theorem five_cellsV {H : Type} {enc : TypeId × Value → H} {P : Program} {w : World} {base : Nat} {spare : Nat → Bool} {held : Bool} {t : TypeId} {f0 f1 f2 f3 f4 : Field} {fuel : Nat} {cs : List Value} {x : DataW H × List MemPlace}
    (hs : P.underlying t = some (.struct #[f0, f1, f2, f3, f4])) (hone : oneCellFields P #[f0, f1, f2, f3, f4] = true) (hC : P.cellsOf t = 5) (h : DataW.trod enc P w base spare held fuel t cs = some x) :
    ∃ (c0 c1 c2 c3 c4 : Value) (y0 y1 y2 y3 y4 : DataW H × List MemPlace) (n : Nat), cs = [c0, c1, c2, c3, c4] ∧ DataW.trod enc P w base spare held n f0.type [c0] = some y0 ∧ DataW.trod enc P w base spare held n f1.type [c1] = some y1 ∧
      DataW.trod enc P w base spare held n f2.type [c2] = some y2 ∧ DataW.trod enc P w base spare held n f3.type [c3] = some y3 ∧ DataW.trod enc P w base spare held n f4.type [c4] = some y4 := by
  obtain ⟨xs, n, _, _, hl, hlen, hg⟩ := DataW.trod_struct hs h
  obtain ⟨o0, k0⟩ := hone_of hone 0 f0 rfl
  obtain ⟨o1, k1⟩ := hone_of hone 1 f1 rfl
  obtain ⟨o2, k2⟩ := hone_of hone 2 f2 rfl
  obtain ⟨o3, k3⟩ := hone_of hone 3 f3 rfl
  obtain ⟨o4, k4⟩ := hone_of hone 4 f4 rfl
  have g0 := hg 0 f0 rfl
  have g1 := hg 1 f1 rfl
  have g2 := hg 2 f2 rfl
  have g3 := hg 3 f3 rfl
  have g4 := hg 4 f4 rfl
  match xs, hlen with
  | [y0, y1, y2, y3, y4], _ =>
    match cs, hl.trans hC with
    | [c0, c1, c2, c3, c4], _ =>
      exact ⟨c0, c1, c2, c3, c4, y0, y1, y2, y3, y4, n, rfl, by simpa [o0, k0] using g0, by simpa [o1, k1] using g1, by simpa [o2, k2] using g2, by simpa [o3, k3] using g3, by simpa [o4, k4] using g4⟩
theorem recs_inV {H : Type} {enc : TypeId × Value → H} {W : World} {base : Nat} {held : Bool} {a : Option Addr} {len cap : Nat} {d : DataW H} {p : List MemPlace}
    (h : DataW.Trod enc Tryz.prog W base (fun _ => true) held 22 (.slice a len cap) d p) : ∃ xs, SeesR W W.heap.size a len xs := by
  obtain ⟨fuel, hf⟩ := h
  have hC : Tryz.prog.cellsOf 27 = 5 := by kernel_rfl
  rcases open_slice Tryz.underlying22 hf with ⟨hcs, _⟩ | ⟨x, l, c, m, n, D, Pl, hcs, _, hl, _, hm, _, hi⟩
  · simp [Value.cells] at hcs
    obtain ⟨rfl, rfl, rfl⟩ := hcs
    exact ⟨[], rfl, fun h => absurd h (by omega)⟩
  · simp [Value.cells] at hcs
    obtain ⟨rfl, rfl, rfl⟩ := hcs
    have hmc : m = cap := by simpa using hm
    have H1 : ∀ i, i < len → ∃ z : Rrd, W.cell? ((x.add (i * 5)).add 0) = some (.string z.s) ∧ W.cell? ((x.add (i * 5)).add 1) = some (.int .i64 z.t) ∧ W.cell? ((x.add (i * 5)).add 2) = some (.int .i64 z.c) ∧
        W.cell? ((x.add (i * 5)).add 3) = some (.int .i64 z.l) ∧ W.cell? ((x.add (i * 5)).add 4) = some (.string z.d) := by
      intro i hlt
      obtain ⟨cs', hc, ht⟩ := hi i (by omega)
      rw [hC] at hc
      obtain ⟨c0, c1, c2, c3, c4, y0, y1, y2, y3, y4, n', rfl, t0, t1, t2, t3, t4⟩ := five_cellsV Tryz.underlying27 (by kernel_rfl) hC ht
      obtain ⟨_, _, hat⟩ := World.cells?_some hc
      obtain ⟨s0, e0, _, _⟩ := DataW.trod_string Tryz.underlying9 t0
      obtain ⟨b1, e1, _⟩ := DataW.trod_int Tryz.underlying3 t1
      obtain ⟨b2, e2, _⟩ := DataW.trod_int Tryz.underlying3 t2
      obtain ⟨b3, e3, _⟩ := DataW.trod_int Tryz.underlying3 t3
      obtain ⟨s4, e4, _, _⟩ := DataW.trod_string Tryz.underlying9 t4
      obtain rfl : c0 = .string s0 := by simpa using e0
      obtain rfl : c1 = .int .i64 b1 := by simpa using e1
      obtain rfl : c2 = .int .i64 b2 := by simpa using e2
      obtain rfl : c3 = .int .i64 b3 := by simpa using e3
      obtain rfl : c4 = .string s4 := by simpa using e4
      exact ⟨⟨s0, b1, b2, b3, s4⟩, hat 0 (by omega), hat 1 (by omega), hat 2 (by omega), hat 3 (by omega), hat 4 (by omega)⟩
    obtain ⟨f, hff⟩ : ∃ f : Nat → Rrd, ∀ i, i < len → W.cell? ((x.add (i * 5)).add 0) = some (.string (f i).s) ∧ W.cell? ((x.add (i * 5)).add 1) = some (.int .i64 (f i).t) ∧ W.cell? ((x.add (i * 5)).add 2) = some (.int .i64 (f i).c) ∧
        W.cell? ((x.add (i * 5)).add 3) = some (.int .i64 (f i).l) ∧ W.cell? ((x.add (i * 5)).add 4) = some (.string (f i).d) :=
      ⟨fun i => if h : i < len then (H1 i h).choose else ⟨.empty, 0, 0, 0, .empty⟩, fun i hi => by
        simp only [dif_pos hi]
        exact (H1 i hi).choose_spec⟩
    refine ⟨(List.range len).map f, by simp, fun hpos => ?_⟩
    obtain ⟨b, off, spot⟩ := x
    have h1 := (hff 0 hpos).1
    have hspot : spot = none := by simpa [Addr.add] using World.cell?_spot h1
    subst hspot
    have hb := World.block_lt_of_cell? W _ h1
    refine ⟨b, off, rfl, by simpa [Addr.add] using hb, fun j z hz => ?_⟩
    have hj : j < len := by
      have := (List.getElem?_eq_some_iff.1 hz).1
      simpa using this
    have hzf : z = f j := by
      rw [List.getElem?_map, List.getElem?_range hj] at hz
      exact (Option.some.inj hz).symm
    obtain ⟨x0, x1, x2, x3, x4⟩ := hff j hj
    rw [hzf]
    rw [add_flatV, add_flatV] at x0 x1 x2 x3 x4
    exact ⟨x0, x1, x2, x3, x4⟩

set_option maxRecDepth 20000 in
theorem recs_in3 {H : Type} {enc : TypeId × Value → H} {W : World} {base : Nat} {held : Bool} {a : Option Addr} {len cap : Nat} {d : DataW H} {p : List MemPlace}
    (h : DataW.Trod enc Tryz.prog W base (fun _ => true) held 22 (.slice a len cap) d p) : ∃ xs, SeesR W W.heap.size a len xs ∧ InCap a len cap ∧ len ≤ 9223372036854775807 := by
  obtain ⟨xs, hx⟩ := recs_inV h
  refine ⟨xs, hx, ?_⟩
  obtain ⟨fuel, hf⟩ := h
  have hC : Tryz.prog.cellsOf 27 = 5 := by kernel_rfl
  rcases open_slice Tryz.underlying22 hf with ⟨hcs, _⟩ | ⟨x, l, c, m, n, D, Pl, hcs, _, hl, hc, hm, _, hi⟩
  · simp [Value.cells] at hcs
    obtain ⟨rfl, rfl, rfl⟩ := hcs
    exact ⟨⟨Nat.le_refl _, Nat.zero_le _, fun _ => rfl, fun ad h => (by cases h)⟩, Nat.zero_le _⟩
  · simp [Value.cells] at hcs
    obtain ⟨rfl, rfl, rfl⟩ := hcs
    have hmc : m = cap := by simpa using hm
    have hc' : cap ≤ 9223372036854775807 := by unfold maxLen at hc; omega
    have hl' : len ≤ 9223372036854775807 := Nat.le_trans hl hc'
    refine ⟨⟨hl, hc', fun h => (by cases h), fun ad h h0 => ?_⟩, hl'⟩
    obtain rfl : x = ad := by simpa using h
    obtain ⟨cs', hcells, _⟩ := hi 0 (by omega)
    rw [hC] at hcells
    obtain ⟨hlen, _, hat⟩ := World.cells?_some hcells
    have h1 := hat 0 (by omega)
    obtain ⟨u, hu⟩ : ∃ u, cs'[0]? = some u := ⟨cs'[0]'(by omega), List.getElem?_eq_getElem _⟩
    rw [hu] at h1
    obtain ⟨b, off, spot⟩ := x
    have hspot : spot = none := by simpa [Addr.add] using World.cell?_spot h1
    exact hspot
end Go.Proofs.YtnbapaimpoobkaaGreatDoor
