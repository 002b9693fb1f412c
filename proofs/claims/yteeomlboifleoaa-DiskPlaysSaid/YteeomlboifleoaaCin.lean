/- From a reading of an argument to the list of calls that came in. No statement of the seat is proved here. -/
import Derived.Test.YteeomlboifleoaaCal
import Derived.Lib.SmallJoins
namespace Go.Proofs.Yteeomlboifleoaa
open Go.ChangeShapes Go.WideShapes Go.ChangeAt Go.RowKit Go.Deep

theorem four_cells {H : Type} {enc : TypeId × Value → H} {P : Program} {w : World} {base : Nat} {spare : Nat → Bool} {held : Bool} {t : TypeId} {f0 f1 f2 f3 : Field} {fuel : Nat} {cs : List Value} {x : DataW H × List MemPlace}
    (hs : P.underlying t = some (.struct #[f0, f1, f2, f3])) (hone : oneCellFields P #[f0, f1, f2, f3] = true) (hC : P.cellsOf t = 4) (h : DataW.trod enc P w base spare held fuel t cs = some x) :
    ∃ (c0 c1 c2 c3 : Value) (y0 y1 y2 y3 : DataW H × List MemPlace) (n : Nat), cs = [c0, c1, c2, c3] ∧ DataW.trod enc P w base spare held n f0.type [c0] = some y0 ∧ DataW.trod enc P w base spare held n f1.type [c1] = some y1 ∧ DataW.trod enc P w base spare held n f2.type [c2] = some y2 ∧ DataW.trod enc P w base spare held n f3.type [c3] = some y3 := by
  obtain ⟨y0, y1, y2, y3, n, _, hl, t0, t1, t2, t3⟩ := Joins.trod_struct4 hs h
  obtain ⟨o0, k0⟩ := hone_of hone 0 f0 rfl
  obtain ⟨o1, k1⟩ := hone_of hone 1 f1 rfl
  obtain ⟨o2, k2⟩ := hone_of hone 2 f2 rfl
  obtain ⟨o3, k3⟩ := hone_of hone 3 f3 rfl
  match cs, hl.trans hC with
  | [c0, c1, c2, c3], _ =>
    exact ⟨c0, c1, c2, c3, y0, y1, y2, y3, n, rfl, by simpa [o0, k0] using t0, by simpa [o1, k1] using t1, by simpa [o2, k2] using t2, by simpa [o3, k3] using t3⟩
theorem u8r {a : Int} (h : (Lit.int .u8 a).wf = true) : 0 ≤ a ∧ a < 256 := by
  have h' : IntKind.u8.min ≤ a ∧ a ≤ IntKind.u8.max := by simpa [Lit.wf] using h
  have e1 : IntKind.u8.min = 0 := by decide
  have e2 : IntKind.u8.max = 255 := by decide
  omega
theorem i64r {a : Int} (h : (Lit.int .i64 a).wf = true) : -9223372036854775808 ≤ a ∧ a ≤ 9223372036854775807 := by
  have h' : IntKind.i64.min ≤ a ∧ a ≤ IntKind.i64.max := by simpa [Lit.wf] using h
  have e1 : IntKind.i64.min = -9223372036854775808 := by decide
  have e2 : IntKind.i64.max = 9223372036854775807 := by decide
  omega
theorem calls_in {H : Type} {enc : TypeId × Value → H} {W : World} {base : Nat} {held : Bool} {a : Option Addr} {len cap : Nat} {d : DataW H} {p : List MemPlace}
    (h : DataW.Trod enc Try.prog W base (fun _ => true) held 22 (.slice a len cap) d p) : ∃ cs, SeesC W W.heap.size a len cs := by
  obtain ⟨fuel, hf⟩ := h
  have hC : Try.prog.cellsOf 38 = 4 := by kernel_rfl
  rcases open_slice Try.underlying22 hf with ⟨hcs, _⟩ | ⟨x, l, c, m, n, D, Pl, hcs, _, hl, _, hm, _, hi⟩
  · simp [Value.cells] at hcs
    obtain ⟨rfl, rfl, rfl⟩ := hcs
    exact ⟨[], rfl, fun _ h => (by cases h), fun h => absurd h (by omega)⟩
  · simp [Value.cells] at hcs
    obtain ⟨rfl, rfl, rfl⟩ := hcs
    have hmc : m = cap := by simpa using hm
    have H1 : ∀ i, i < len → ∃ z : CallV, z.fits ∧ W.cell? ((x.add (i * 4)).add 0) = some (.int .u8 (z.kind : Nat)) ∧ W.cell? ((x.add (i * 4)).add 1) = some (.string z.a) ∧ W.cell? ((x.add (i * 4)).add 2) = some (.string z.b) ∧ W.cell? ((x.add (i * 4)).add 3) = some (.int .i64 z.n) := by
      intro i hlt
      obtain ⟨cs', hc, ht⟩ := hi i (by omega)
      rw [hC] at hc
      obtain ⟨c0, c1, c2, c3, y0, y1, y2, y3, n', rfl, t0, t1, t2, t3⟩ := four_cells Try.underlying38 (by kernel_rfl) hC ht
      obtain ⟨_, _, hat⟩ := World.cells?_some hc
      obtain ⟨k, e0, _, w0⟩ := DataW.trod_int Try.underlying5 t0
      obtain ⟨s1, e1, _, _⟩ := DataW.trod_string Try.underlying9 t1
      obtain ⟨s2, e2, _, _⟩ := DataW.trod_string Try.underlying9 t2
      obtain ⟨v, e3, _, w3⟩ := DataW.trod_int Try.underlying3 t3
      obtain rfl : c0 = .int .u8 k := by simpa using e0
      obtain rfl : c1 = .string s1 := by simpa using e1
      obtain rfl : c2 = .string s2 := by simpa using e2
      obtain rfl : c3 = .int .i64 v := by simpa using e3
      have hk := u8r w0
      have hv := i64r w3
      have hkk : ((k.toNat : Nat) : Int) = k := by omega
      refine ⟨⟨k.toNat, s1, s2, v⟩, ⟨by show k.toNat ≤ 255; omega, hv.1, hv.2⟩, ?_, hat 1 (by omega), hat 2 (by omega), hat 3 (by omega)⟩
      rw [hat 0 (by omega)]
      show some (Value.int .u8 k) = some (Value.int .u8 ((k.toNat : Nat) : Int))
      rw [hkk]
    obtain ⟨f, hff⟩ : ∃ f : Nat → CallV, ∀ i, i < len → (f i).fits ∧ W.cell? ((x.add (i * 4)).add 0) = some (.int .u8 ((f i).kind : Nat)) ∧ W.cell? ((x.add (i * 4)).add 1) = some (.string (f i).a) ∧ W.cell? ((x.add (i * 4)).add 2) = some (.string (f i).b) ∧ W.cell? ((x.add (i * 4)).add 3) = some (.int .i64 (f i).n) :=
      ⟨fun i => if h : i < len then (H1 i h).choose else ⟨0, .empty, .empty, 0⟩, fun i hi => by
        simp only [dif_pos hi]
        exact (H1 i hi).choose_spec⟩
    refine ⟨(List.range len).map f, by simp, fun z hz => ?_, fun hpos => ?_⟩
    · obtain ⟨i, hi, rfl⟩ := List.mem_map.1 hz
      exact (hff i (by simpa using hi)).1
    · obtain ⟨b, off, spot⟩ := x
      have h1 := (hff 0 hpos).2.1
      have hspot : spot = none := by simpa [Addr.add] using World.cell?_spot h1
      subst hspot
      have hb := World.block_lt_of_cell? W _ h1
      refine ⟨b, off, rfl, by simpa [Addr.add] using hb, fun j z hz => ?_⟩
      have hj : j < len := by
        have := (List.getElem?_eq_some_iff.1 hz).1
        simpa using this
      have hzf : z = f j := by
        rw [List.getElem?_map, List.getElem?_range hj] at hz
        exact (Option.some.inj hz).symm
      obtain ⟨_, x0, x1, x2, x3⟩ := hff j hj
      rw [hzf]
      rw [add_flat, add_flat] at x0 x1 x2 x3
      exact ⟨x0, x1, x2, x3⟩
end Go.Proofs.Yteeomlboifleoaa
