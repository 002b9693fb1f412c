/- From a reading of an entry that came in, of bounded bulk, to what our walks are told of it. No statement of the seat is proved here. -/
import Derived.Test.YtglihcalfdofoaaRows
import Derived.Test.YtglihcalfdofoaaOcJ
import Derived.Test.YtglihcalfdofoaaEntD
import Derived.Lib.SmallJoins
import Derived.Deep.Fields
namespace Go.Proofs.Ytglihcalfdofoaa
open Go.ChangeShapes Go.WideShapes Go.ChangeAt Go.RowKit Go.Deep

theorem bulk_pos {H : Type} (d : DataW H) : 1 ≤ Rows.uptoBulk d := by
  cases d with
  | lit l => cases l <;> simp [Rows.uptoBulk]
  | _ => simp [Rows.uptoBulk]
theorem bulk_len {H : Type} (l : List (DataW H)) : l.length ≤ Rows.uptoBulkAll l := by
  induction l with
  | nil => simp [Rows.uptoBulkAll]
  | cons x r ih => have := bulk_pos x; simp only [Rows.uptoBulkAll, List.length_cons]; omega

/-- a slice that came in within a struct: its shape, and its length by the bulk -/
theorem slice_of {H : Type} {enc : TypeId × Value → H} {W : World} {base : Nat} {held : Bool} {T E : TypeId} {fuel : Nat} {v : Value} {y : DataW H × List MemPlace} (hT : Try.prog.underlying T = some (.slice E))
    (hf : DataW.trod enc Try.prog W base (fun _ => true) held fuel T [v] = some y) : ∃ A n c, v = .slice A n c ∧ n ≤ Rows.uptoBulk y.1 ∧ DataW.Trod enc Try.prog W base (fun _ => true) held T (.slice A n c) y.1 y.2 := by
  have hf' := hf
  rcases open_slice hT hf with ⟨hcs, rfl⟩ | ⟨x, l, c, m, n, D, Pl, hcs, _, hl, _, hm, rfl, hi⟩
  · simp only [List.cons.injEq, and_true] at hcs
    subst hcs
    exact ⟨none, 0, 0, rfl, Nat.zero_le _, fuel, by simpa [Value.cells] using hf'⟩
  · simp only [List.cons.injEq, and_true] at hcs
    subst hcs
    refine ⟨some x, l, c, rfl, ?_, fuel, by simpa [Value.cells] using hf'⟩
    have h1 := bulk_len ((List.range l).map D)
    simp only [List.length_map, List.length_range] at h1
    simp only [Rows.uptoBulk]
    omega
theorem array4 {α : Type} {cs : Array α} (h : cs.size = 4) : ∃ c0 c1 c2 c3, cs = #[c0, c1, c2, c3] := by
  obtain ⟨l⟩ := cs
  match l, h with
  | [c0, c1, c2, c3], _ => exact ⟨c0, c1, c2, c3, rfl⟩
theorem open_agg4 {H : Type} {enc : TypeId × Value → H} {P : Program} {w : World} {base : Nat} {spare : Nat → Bool} {held : Bool} {r : Reach} {b0 : Nat} {t : TypeId} {f0 f1 f2 f3 : Field} {v : Value} {d : DataW H} {p : List MemPlace} (hs : P.underlying t = some (.struct #[f0, f1, f2, f3])) (hone : oneCellFields P #[f0, f1, f2, f3] = true) (hC : P.cellsOf t = 4)
    (hv : Value.okWide P w r b0 t v) (h : DataW.Trod enc P w base spare held t v d p) :
    ∃ (v0 v1 v2 v3 : Value) (y0 y1 y2 y3 : DataW H × List MemPlace) (n : Nat), v = .agg #[v0, v1, v2, v3] ∧ d = .agg [y0.1, y1.1, y2.1, y3.1] ∧
      DataW.trod enc P w base spare held n f0.type [v0] = some y0 ∧ DataW.trod enc P w base spare held n f1.type [v1] = some y1 ∧ DataW.trod enc P w base spare held n f2.type [v2] = some y2 ∧ DataW.trod enc P w base spare held n f3.type [v3] = some y3 := by
  obtain ⟨cs, rfl, hsz⟩ := okWide_struct hs hv
  obtain ⟨c0, c1, c2, c3, rfl⟩ := array4 (hsz.trans hC)
  obtain ⟨fuel, hf⟩ := h
  obtain ⟨xs, n, _, hx, _, hlen, hg⟩ := DataW.trod_struct hs hf
  obtain ⟨o0, k0⟩ := hone_of hone 0 f0 rfl
  obtain ⟨o1, k1⟩ := hone_of hone 1 f1 rfl
  obtain ⟨o2, k2⟩ := hone_of hone 2 f2 rfl
  obtain ⟨o3, k3⟩ := hone_of hone 3 f3 rfl
  have g0 := hg 0 f0 rfl
  have g1 := hg 1 f1 rfl
  have g2 := hg 2 f2 rfl
  have g3 := hg 3 f3 rfl
  match xs, hlen with
  | [y0, y1, y2, y3], _ =>
    simp only [Prod.mk.injEq] at hx
    exact ⟨c0, c1, c2, c3, y0, y1, y2, y3, n, rfl, by simpa using hx.1, by simpa [Value.cells, o0, k0] using g0, by simpa [Value.cells, o1, k1] using g1, by simpa [Value.cells, o2, k2] using g2, by simpa [Value.cells, o3, k3] using g3⟩
theorem u32_wf {n : Int} (h : (Lit.int .u32 n).wf = true) : u32 n := by
  simp [Lit.wf] at h
  have h1 : IntKind.u32.min = 0 := rfl
  have h2 : IntKind.u32.max = 4294967295 := rfl
  rw [h1, h2] at h
  exact ⟨by omega, by omega⟩
set_option maxRecDepth 100000 in
set_option maxHeartbeats 1000000 in
/-- an entry that came in -/
theorem entry_in {H : Type} {enc : TypeId × Value → H} {W : World} {base b0 : Nat} {held : Bool} {r : Reach} {v : Value} {d : DataW H} {p : List MemPlace} (hv : Value.okWide Try.prog W r b0 enT v) (h : DataW.Trod enc Try.prog W base (fun _ => true) held enT v d p) :
    ∃ (f t : Int) (A A' : Option Addr) (n c n' c' : Nat) (xs ys : List Rrd), v = .agg #[.int .u32 f, .int .u32 t, .slice A n c, .slice A' n' c'] ∧ SeesR W W.heap.size A n xs ∧ SeesR W W.heap.size A' n' ys ∧ u32 f ∧ u32 t ∧ n + n' ≤ Rows.uptoBulk d := by
  obtain ⟨v0, v1, v2, v3, y0, y1, y2, y3, n, rfl, rfl, t0, t1, t2, t3⟩ := open_agg4 (enc := enc) Try.underlying25 (by kernel_rfl) (by kernel_rfl) hv h
  obtain ⟨f, e0, _, w0⟩ := DataW.trod_int Try.underlying22 t0
  obtain rfl : v0 = .int .u32 f := by simpa using e0
  obtain ⟨t, e1, _, w1⟩ := DataW.trod_int Try.underlying22 t1
  obtain rfl : v1 = .int .u32 t := by simpa using e1
  obtain ⟨A2, n2, c2, rfl, l2, q2⟩ := slice_of Try.underlying23 t2
  obtain ⟨xs2, s2⟩ := recs_in q2
  obtain ⟨A3, n3, c3, rfl, l3, q3⟩ := slice_of Try.underlying23 t3
  obtain ⟨xs3, s3⟩ := recs_in q3
  refine ⟨f, t, A2, A3, n2, c2, n3, c3, xs2, xs3, rfl, s2, s3, u32_wf w0, u32_wf w1, ?_⟩
  simp only [Rows.uptoBulk, Rows.uptoBulkAll]
  omega
end Go.Proofs.Ytglihcalfdofoaa
