/- What the program's text lays in the listed variables; a list of entries and an entry that came in, of bounded bulk. No statement of the seat is proved here. -/
import Derived.Test.YtggognnjnfphgaaGreatDoorRows
import Derived.Test.YtggognnjnfphgaaGreatDoorOcJ
import Derived.Test.YtggognnjnfphgaaGreatDoorReQ
import Derived.Test.YtggognnjnfphgaaGreatDoorLogQ
import Derived.LaidMore
import Derived.Stop.Joined
import Derived.Stop.LaidErr
import Derived.Lay
import Derived.OpenShut
import Derived.Lib.LaidTab
import Derived.Lib.SmallJoins
import Derived.Deep.Fields
import Derived.JoinedCond
import Derived.HandedShaped
namespace Go.Proofs.YtggognnjnfphgaaGreatDoor
open Go.ChangeShapes Go.WideShapes Go.ChangeAt Go.RowKit Go.Deep

def lay3 : List (String × DataW Unit) := Rows.logNamesRow.laid
theorem door3 (os : Os) (args : Array Value) : laidMetH Tryz.prog lay3 ((World.doorLaid Tryz.prog 65 os).forCall (fun _ _ => 0) ⟨#[], args, []⟩).memory :=
  laidMetH_of_parts3 (fuel := 8) (laidMet_of_run' 8 (by kernel_rfl) (by kernel_rfl)) (by kernel_rfl) (by kernel_rfl)
theorem tab_of_laid {W : World} (h : laidMetH Tryz.prog lay3 W) : Tab W := by
  rw [MakeChecks.laidMetH_plain _ _ _ (by kernel_rfl)] at h
  have h0 : laidMet Tryz.prog [("math/bits.deBruijn32tab", Rows.laid_math_bits_deBruijn32tab), ("math/bits.deBruijn64tab", Rows.laid_math_bits_deBruijn64tab), ("internal/strconv.uint64pow10", Rows.laid_internal_strconv_uint64pow10)] W := h
  exact Lib.tabIs_of_head (g := 0) (t := 160) (e := 22) (n := 20) (by kernel_rfl) (by kernel_rfl) Tryz.underlying160 Tryz.underlying22 (by kernel_rfl) (by kernel_rfl) h0.tail.tail
/-- the wrap with a further condition, and the world's shape -/
theorem change_and_shape {H : Type} {enc : TypeId × Value → H} {a : Assume} {C : Checked} {os : Os} {f : FuncId} {fn : Func} {s : ChangeSpec} {conds : List PathCond} {apart fresh handsOn again : Bool} {X : World → Array Value → Prop}
    (hX : ∀ (w w' : World) (args : Array Value), w.heap = w'.heap → X w args → X w' args)
    (own : ownKnob C.prog.godebug = none) (started : os.Started) (noInit : C.prog.inits.idxOf? f = none) (hfn : C.prog.funcs[f]? = some fn)
    (witness : ∃ (w : World) (tape : Tape) (i : Input), w.os = os ∧ (w.forCall tape i).Shaped C.prog ∧ i.vars = [] ∧ Input.okWide C.prog (w.forCall tape i) .any w.heap.size f i ∧
      ((s.pre enc C.prog fn conds apart (w.forCall tape i).memory i.args ∧ X (w.forCall tape i).memory i.args) ∧ sizedMet enc C.prog fn (OpenSpec.ofChange s) apart (w.forCall tape i).memory i.args) ∧ a.holds C.prog (lone (Frame.enter C.prog f i.args .normal) [] (w.forCall tape i)))
    (contract : ∀ (W : World) (base : Nat) (args : Array Value) (ds gs : List (DataW H)) (before : List MemPlace),
      (∀ (j : Nat) t v, fn.params[j]? = some t → args[j]? = some v → Value.okWide C.prog W .any base t v) →
      DataW.Whole enc C.prog fn.params.toList s.vars apart W args.toList ds gs before → X W args → W.ShapedOpen C.prog →
      Calls C.prog f args W fun e W' => ∃ v, e = .returned v ∧ s.post enc C.prog fn apart fresh handsOn again W args v W') :
    ReturnsInHanded a C os f .any (fun w args => (s.pre enc C.prog fn conds apart w args ∧ X w args) ∧ sizedMet enc C.prog fn (OpenSpec.ofChange s) apart w args) (s.post enc C.prog fn apart fresh handsOn again) := by
  refine returnsInHanded_of_calls own started noInit witness ?_
  intro w tape i _ hsh _ hok hpre hholds
  obtain ⟨_, _, _, fn', hfn', _, _, _, _, hval⟩ := hok
  obtain rfl : fn' = fn := Option.some.inj (hfn'.symm.trans hfn)
  obtain ⟨⟨⟨ds, gs, before, hw, hc⟩, hx⟩, hz⟩ := hpre
  have hw' := DataW.Whole.of_heap (w' := w.forCall tape i) (by rfl) hw
  refine (contract (w.forCall tape i) w.heap.size i.args ds gs before hval hw' (hX _ _ _ (by rfl) hx) hsh).mono fun e W' ⟨v, he, hp⟩ => ?_
  subst he
  exact ChangeSpec.post_blind hp
/-- the wrap under a bound on the bulk, beside what is laid -/
theorem cond_and_laid {H : Type} {enc : TypeId × Value → H} {a : Assume} {C : Checked} {os : Os} {f : FuncId} {fn : Func} {s : OpenSpec} {k : (H : Type) → List (DataW H) → Bool} (hk : s.cond = some k) {F : Stop.Interp} {conds : List PathCond} {apart fresh handsOn again : Bool} {X : World → Array Value → Prop}
    (own : ownKnob C.prog.godebug = none) (started : os.Started) (noInit : C.prog.inits.idxOf? f = none) (hfn : C.prog.funcs[f]? = some fn)
    (witness : ∃ (w : World) (tape : Tape) (i : Input), w.os = os ∧ (w.forCall tape i).Shaped C.prog ∧ i.vars = [] ∧ Input.okWide C.prog (w.forCall tape i) .any w.heap.size f i ∧
      ((s.pre enc C.prog fn conds apart (w.forCall tape i).memory i.args ∧ X (w.forCall tape i).memory i.args) ∧ sizedMet enc C.prog fn s apart (w.forCall tape i).memory i.args) ∧ a.holds C.prog (lone (Frame.enter C.prog f i.args .normal) [] (w.forCall tape i)))
    (contract : ∀ (W : World) (base : Nat) (args : Array Value) (ds gs : List (DataW H)) (before : List MemPlace),
      (∀ (j : Nat) t v, fn.params[j]? = some t → args[j]? = some v → Value.okWide C.prog W .any base t v) →
      DataW.Whole enc C.prog fn.params.toList s.vars apart W args.toList ds gs before → k H (ds ++ gs) = true →
      Calls C.prog f args W fun e W' => ∃ v, e = .returned v ∧ (s.at F).post enc C.prog fn apart fresh handsOn again W args v W') :
    ReturnsInHanded a C os f .any (fun w args => (s.pre enc C.prog fn conds apart w args ∧ X w args) ∧ sizedMet enc C.prog fn s apart w args) ((s.at F).post enc C.prog fn apart fresh handsOn again) := by
  refine returnsInHanded_of_calls own started noInit witness ?_
  intro w tape i _ _ _ hok hpre _
  obtain ⟨_, _, _, fn', hfn', _, _, _, _, hval⟩ := hok
  have e : fn' = fn := Option.some.inj (hfn'.symm.trans hfn)
  subst e
  obtain ⟨ds, gs, before, hw, _, hkk⟩ := (OpenSpec.pre_some hk conds apart _ _).1 hpre.1.1
  have hw' := DataW.Whole.of_heap (w' := w.forCall tape i) (by rfl) hw
  refine (contract (w.forCall tape i) w.heap.size i.args ds gs before hval hw' hkk).mono fun e W' ⟨v, he, hp⟩ => ?_
  subst he
  exact ChangeSpec.post_blind hp
theorem cond_witness {H : Type} {enc : TypeId × Value → H} {C : Checked} {os : Os} {f : FuncId} {fn : Func} {s : OpenSpec} {k : (H : Type) → List (DataW H) → Bool} (hk : s.cond = some k) {conds : List PathCond} {apart : Bool} {X : World → Array Value → Prop} (w0 : World) (args : Array Value) (fuel : Nat) (hos : w0.os = os)
    (hsh : (w0.forCall (fun _ _ => 0) ⟨#[], args, []⟩).Shaped C.prog) (hok : Input.okWideB C.prog (w0.forCall (fun _ _ => 0) ⟨#[], args, []⟩) f ⟨#[], args, []⟩ = true)
    {x : List (DataW H) × List (DataW H) × List MemPlace} (hx : DataW.whole enc C.prog (w0.forCall (fun _ _ => 0) ⟨#[], args, []⟩).memory fn.params.toList s.vars apart args.toList fuel = some x)
    (hconds : conds.all (PathCond.test C.prog ⟨fn.params.toList, x.1, s.bare.plain.varTypes C.prog, x.2.1⟩) = true) (hkk : k H (x.1 ++ x.2.1) = true)
    (hsz : s.bare.sizedB enc C.prog fn apart (w0.forCall (fun _ _ => 0) ⟨#[], args, []⟩).memory args fuel = true) (hX : X (w0.forCall (fun _ _ => 0) ⟨#[], args, []⟩).memory args) :
    ∃ (w : World) (tape : Tape) (i : Input), w.os = os ∧ (w.forCall tape i).Shaped C.prog ∧ i.vars = [] ∧ Input.okWide C.prog (w.forCall tape i) .any w.heap.size f i ∧
      ((s.pre enc C.prog fn conds apart (w.forCall tape i).memory i.args ∧ X (w.forCall tape i).memory i.args) ∧ sizedMet enc C.prog fn s apart (w.forCall tape i).memory i.args) ∧ ({} : Assume).holds C.prog (lone (Frame.enter C.prog f i.args .normal) [] (w.forCall tape i)) :=
  ⟨w0, fun _ _ => 0, ⟨#[], args, []⟩, hos, hsh, (Input.okWide_of_okWideB (base := 0) hok).1, (Input.okWide_of_okWideB hok).2, ⟨⟨(OpenSpec.pre_some hk conds apart _ _).2 ⟨x.1, x.2.1, x.2.2, DataW.Whole_of_whole hx, hconds, hkk⟩, hX⟩, sizedMet_of_sizedB hsz⟩, by
    simp only [Assume.holds]
    exact ⟨by simp, by simp, fun _ => Modest.zero, by simp, by simp⟩⟩
theorem bulk_pos {H : Type} (d : DataW H) : 1 ≤ Rows.uptoBulk d := by
  cases d with
  | lit l => cases l <;> simp [Rows.uptoBulk]
  | _ => simp [Rows.uptoBulk]
theorem bulk_len {H : Type} (l : List (DataW H)) : l.length ≤ Rows.uptoBulkAll l := by
  induction l with
  | nil => simp [Rows.uptoBulkAll]
  | cons x r ih => have := bulk_pos x; simp only [Rows.uptoBulkAll, List.length_cons]; omega

/-- a slice that came in within a struct: its shape, and its length by the bulk -/
theorem slice_of {H : Type} {enc : TypeId × Value → H} {W : World} {base : Nat} {held : Bool} {T E : TypeId} {fuel : Nat} {v : Value} {y : DataW H × List MemPlace} (hT : Tryz.prog.underlying T = some (.slice E))
    (hf : DataW.trod enc Tryz.prog W base (fun _ => true) held fuel T [v] = some y) : ∃ A n c, v = .slice A n c ∧ n ≤ Rows.uptoBulk y.1 ∧ DataW.Trod enc Tryz.prog W base (fun _ => true) held T (.slice A n c) y.1 y.2 := by
  have hf' := hf
  rcases open_slice hT hf with ⟨hcs, rfl⟩ | ⟨x, l, c, m, n, D, Pl, hcs, _, hl, _, hm, rfl, hi⟩
  · simp only [List.cons.injEq, and_true] at hcs
    subst hcs
    exact ⟨none, 0, 0, rfl, Nat.zero_le _, fuel, by simpa [Value.cells] using hf'⟩
  · simp only [List.cons.injEq, and_true] at hcs
    subst hcs
    refine ⟨some x, l, c, rfl, ?_, fuel, by simpa [Value.cells] using hf'⟩
    have h1 := bulk_len ((List.range l).map D)
    simp only [List.length_map, List.length_range] at h1
    simp only [Rows.uptoBulk]
    omega
theorem array4 {α : Type} {cs : Array α} (h : cs.size = 4) : ∃ c0 c1 c2 c3, cs = #[c0, c1, c2, c3] := by
  obtain ⟨l⟩ := cs
  match l, h with
  | [c0, c1, c2, c3], _ => exact ⟨c0, c1, c2, c3, rfl⟩
theorem open_agg4 {H : Type} {enc : TypeId × Value → H} {P : Program} {w : World} {base : Nat} {spare : Nat → Bool} {held : Bool} {r : Reach} {b0 : Nat} {t : TypeId} {f0 f1 f2 f3 : Field} {v : Value} {d : DataW H} {p : List MemPlace} (hs : P.underlying t = some (.struct #[f0, f1, f2, f3])) (hone : oneCellFields P #[f0, f1, f2, f3] = true) (hC : P.cellsOf t = 4)
    (hv : Value.okWide P w r b0 t v) (h : DataW.Trod enc P w base spare held t v d p) :
    ∃ (v0 v1 v2 v3 : Value) (y0 y1 y2 y3 : DataW H × List MemPlace) (n : Nat), v = .agg #[v0, v1, v2, v3] ∧ d = .agg [y0.1, y1.1, y2.1, y3.1] ∧
      DataW.trod enc P w base spare held n f0.type [v0] = some y0 ∧ DataW.trod enc P w base spare held n f1.type [v1] = some y1 ∧ DataW.trod enc P w base spare held n f2.type [v2] = some y2 ∧ DataW.trod enc P w base spare held n f3.type [v3] = some y3 := by
  obtain ⟨cs, rfl, hsz⟩ := okWide_struct hs hv
  obtain ⟨c0, c1, c2, c3, rfl⟩ := array4 (hsz.trans hC)
  obtain ⟨fuel, hf⟩ := h
  obtain ⟨xs, n, _, hx, _, hlen, hg⟩ := DataW.trod_struct hs hf
  obtain ⟨o0, k0⟩ := hone_of hone 0 f0 rfl
  obtain ⟨o1, k1⟩ := hone_of hone 1 f1 rfl
  obtain ⟨o2, k2⟩ := hone_of hone 2 f2 rfl
  obtain ⟨o3, k3⟩ := hone_of hone 3 f3 rfl
  have g0 := hg 0 f0 rfl
  have g1 := hg 1 f1 rfl
  have g2 := hg 2 f2 rfl
  have g3 := hg 3 f3 rfl
  match xs, hlen with
  | [y0, y1, y2, y3], _ =>
    simp only [Prod.mk.injEq] at hx
    exact ⟨c0, c1, c2, c3, y0, y1, y2, y3, n, rfl, by simpa using hx.1, by simpa [Value.cells, o0, k0] using g0, by simpa [Value.cells, o1, k1] using g1, by simpa [Value.cells, o2, k2] using g2, by simpa [Value.cells, o3, k3] using g3⟩
theorem u32_wf {n : Int} (h : (Lit.int .u32 n).wf = true) : u32 n := by
  simp [Lit.wf] at h
  have h1 : IntKind.u32.min = 0 := rfl
  have h2 : IntKind.u32.max = 4294967295 := rfl
  rw [h1, h2] at h
  exact ⟨by omega, by omega⟩
set_option maxRecDepth 100000 in
set_option maxHeartbeats 1000000 in
/-- an entry that came in -/
theorem entry_in {H : Type} {enc : TypeId × Value → H} {W : World} {base b0 : Nat} {held : Bool} {r : Reach} {v : Value} {d : DataW H} {p : List MemPlace} (hv : Value.okWide Tryz.prog W r b0 enT v) (h : DataW.Trod enc Tryz.prog W base (fun _ => true) held enT v d p) :
    ∃ (f t : Int) (A A' : Option Addr) (n c n' c' : Nat) (xs ys : List Rrd), v = .agg #[.int .u32 f, .int .u32 t, .slice A n c, .slice A' n' c'] ∧ SeesR W W.heap.size A n xs ∧ SeesR W W.heap.size A' n' ys ∧ u32 f ∧ u32 t ∧ n + n' ≤ Rows.uptoBulk d := by
  obtain ⟨v0, v1, v2, v3, y0, y1, y2, y3, n, rfl, rfl, t0, t1, t2, t3⟩ := open_agg4 (enc := enc) Tryz.underlying45 (by kernel_rfl) (by kernel_rfl) hv h
  obtain ⟨f, e0, _, w0⟩ := DataW.trod_int Tryz.underlying42 t0
  obtain rfl : v0 = .int .u32 f := by simpa using e0
  obtain ⟨t, e1, _, w1⟩ := DataW.trod_int Tryz.underlying42 t1
  obtain rfl : v1 = .int .u32 t := by simpa using e1
  obtain ⟨A2, n2, c2, rfl, l2, q2⟩ := slice_of Tryz.underlying43 t2
  obtain ⟨xs2, s2⟩ := recs_in q2
  obtain ⟨A3, n3, c3, rfl, l3, q3⟩ := slice_of Tryz.underlying43 t3
  obtain ⟨xs3, s3⟩ := recs_in q3
  refine ⟨f, t, A2, A3, n2, c2, n3, c3, xs2, xs3, rfl, s2, s3, u32_wf w0, u32_wf w1, ?_⟩
  simp only [Rows.uptoBulk, Rows.uptoBulkAll]
  omega
theorem bulk_mem {H : Type} {d : DataW H} : ∀ {l : List (DataW H)}, d ∈ l → Rows.uptoBulk d ≤ Rows.uptoBulkAll l := by
  intro l
  induction l with
  | nil => intro h; cases h
  | cons x r ih =>
    intro h
    simp only [Rows.uptoBulkAll]
    rcases List.mem_cons.1 h with rfl | h
    · omega
    · have := ih h; omega
theorem seesK_in {W : World} {A : Option Addr} {n : Nat} {xs : List Rrd} (h : SeesR W W.heap.size A n xs) : SeesK W.heap.size W A n xs :=
  ⟨h, fun hn b off sp e => .inl (by
    obtain ⟨b', off', e', hb, _⟩ := h.2 hn
    rw [e] at e'
    injection e' with e'
    injection e' with e'
    omega)⟩
theorem four_cells {H : Type} {enc : TypeId × Value → H} {P : Program} {w : World} {base : Nat} {spare : Nat → Bool} {held : Bool} {t : TypeId} {f0 f1 f2 f3 : Field} {fuel : Nat} {cs : List Value} {x : DataW H × List MemPlace}
    (hs : P.underlying t = some (.struct #[f0, f1, f2, f3])) (hone : oneCellFields P #[f0, f1, f2, f3] = true) (hC : P.cellsOf t = 4) (h : DataW.trod enc P w base spare held fuel t cs = some x) :
    ∃ (c0 c1 c2 c3 : Value) (y0 y1 y2 y3 : DataW H × List MemPlace) (n : Nat), cs = [c0, c1, c2, c3] ∧ x.1 = .agg [y0.1, y1.1, y2.1, y3.1] ∧ DataW.trod enc P w base spare held n f0.type [c0] = some y0 ∧ DataW.trod enc P w base spare held n f1.type [c1] = some y1 ∧
      DataW.trod enc P w base spare held n f2.type [c2] = some y2 ∧ DataW.trod enc P w base spare held n f3.type [c3] = some y3 := by
  obtain ⟨xs, n, _, hx, hl, hlen, hg⟩ := DataW.trod_struct hs h
  obtain ⟨o0, k0⟩ := hone_of hone 0 f0 rfl
  obtain ⟨o1, k1⟩ := hone_of hone 1 f1 rfl
  obtain ⟨o2, k2⟩ := hone_of hone 2 f2 rfl
  obtain ⟨o3, k3⟩ := hone_of hone 3 f3 rfl
  have g0 := hg 0 f0 rfl
  have g1 := hg 1 f1 rfl
  have g2 := hg 2 f2 rfl
  have g3 := hg 3 f3 rfl
  match xs, hlen with
  | [y0, y1, y2, y3], _ =>
    match cs, hl.trans hC with
    | [c0, c1, c2, c3], _ =>
      exact ⟨c0, c1, c2, c3, y0, y1, y2, y3, n, rfl, by rw [hx]; simp, by simpa [o0, k0] using g0, by simpa [o1, k1] using g1, by simpa [o2, k2] using g2, by simpa [o3, k3] using g3⟩
set_option maxRecDepth 100000 in
set_option maxHeartbeats 1000000 in
/-- a list of entries that came in -/
theorem entries_in {H : Type} {enc : TypeId × Value → H} {W : World} {base : Nat} {held : Bool} {a : Option Addr} {len cap : Nat} {d : DataW H} {p : List MemPlace}
    (h : DataW.Trod enc Tryz.prog W base (fun _ => true) held 26 (.slice a len cap) d p) : ∃ vs, SeesE W a len vs ∧ SeesVs W.heap.size W vs ∧ Bulky (Rows.uptoBulk d) vs ∧ (∀ v ∈ vs, u32 v.f ∧ u32 v.t) ∧ len ≤ cap := by
  obtain ⟨fuel, hf⟩ := h
  have hC : Tryz.prog.cellsOf enT = 4 := by kernel_rfl
  rcases open_slice Tryz.underlying26 hf with ⟨hcs, _⟩ | ⟨x, l, c, m, n, D, Pl, hcs, _, hl, _, hm, hd, hi⟩
  · simp [Value.cells] at hcs
    obtain ⟨rfl, rfl, rfl⟩ := hcs
    exact ⟨[], ⟨rfl, fun h => absurd h (by omega)⟩, SeesVs.nil _ _, (fun v hv => absurd hv List.not_mem_nil), (fun v hv => absurd hv List.not_mem_nil), Nat.le_refl _⟩
  · simp [Value.cells] at hcs
    obtain ⟨rfl, rfl, rfl⟩ := hcs
    have hmc : m = cap := by simpa using hm
    have hdd : d = .slice ((List.range len).map D) ((List.range (m - len)).map fun j => D (len + j)) := by
      simp only [Prod.mk.injEq] at hd
      first | exact hd.1 | simpa using hd.1
    have H1 : ∀ i, i < len → ∃ z : Ev, (W.cell? ((x.add (i * 4)).add 0) = some (.int .u32 z.f) ∧ W.cell? ((x.add (i * 4)).add 1) = some (.int .u32 z.t) ∧ W.cell? ((x.add (i * 4)).add 2) = some (.slice z.A z.n z.c) ∧ W.cell? ((x.add (i * 4)).add 3) = some (.slice z.A' z.n' z.c')) ∧
        SeesV W.heap.size W z ∧ z.n + z.n' ≤ Rows.uptoBulk (D i) ∧ u32 z.f ∧ u32 z.t := by
      intro i hlt
      obtain ⟨cs', hc, ht⟩ := hi i (by omega)
      rw [hC] at hc
      obtain ⟨c0, c1, c2, c3, y0, y1, y2, y3, n', rfl, hag, t0, t1, t2, t3⟩ := four_cells Tryz.underlying45 (by kernel_rfl) hC ht
      obtain ⟨_, _, hat⟩ := World.cells?_some hc
      obtain ⟨b0, e0, _, w0⟩ := DataW.trod_int Tryz.underlying42 t0
      obtain ⟨b1, e1, _, w1⟩ := DataW.trod_int Tryz.underlying42 t1
      obtain rfl : c0 = .int .u32 b0 := by simpa using e0
      obtain rfl : c1 = .int .u32 b1 := by simpa using e1
      obtain ⟨A2, n2, k2, rfl, l2, q2⟩ := slice_of Tryz.underlying43 t2
      obtain ⟨A3, n3, k3, rfl, l3, q3⟩ := slice_of Tryz.underlying43 t3
      obtain ⟨xs2, s2⟩ := recs_in q2
      obtain ⟨xs3, s3⟩ := recs_in q3
      refine ⟨⟨b0, b1, A2, n2, k2, xs2, A3, n3, k3, xs3⟩, ⟨hat 0 (by omega), hat 1 (by omega), hat 2 (by omega), hat 3 (by omega)⟩, ⟨seesK_in s2, seesK_in s3⟩, ?_, u32_wf w0, u32_wf w1⟩
      have hag' : D i = .agg [y0.1, y1.1, y2.1, y3.1] := hag
      rw [hag']
      simp only [Rows.uptoBulk, Rows.uptoBulkAll]
      omega
    obtain ⟨f, hff⟩ : ∃ f : Nat → Ev, ∀ i, i < len → (W.cell? ((x.add (i * 4)).add 0) = some (.int .u32 (f i).f) ∧ W.cell? ((x.add (i * 4)).add 1) = some (.int .u32 (f i).t) ∧ W.cell? ((x.add (i * 4)).add 2) = some (.slice (f i).A (f i).n (f i).c) ∧ W.cell? ((x.add (i * 4)).add 3) = some (.slice (f i).A' (f i).n' (f i).c')) ∧
        SeesV W.heap.size W (f i) ∧ (f i).n + (f i).n' ≤ Rows.uptoBulk (D i) ∧ u32 (f i).f ∧ u32 (f i).t :=
      ⟨fun i => if h : i < len then (H1 i h).choose else oneTwo, fun i hi => by
        simp only [dif_pos hi]
        exact (H1 i hi).choose_spec⟩
    have hmem : ∀ v ∈ (List.range len).map f, ∃ i, i < len ∧ v = f i := by
      intro v hv
      obtain ⟨i, h1, rfl⟩ := List.mem_map.1 hv
      exact ⟨i, by simpa using h1, rfl⟩
    refine ⟨(List.range len).map f, ⟨by simp, fun hpos => ?_⟩, fun v hv => ?_, fun v hv => ?_, fun v hv => ?_, hl⟩
    · obtain ⟨b, off, spot⟩ := x
      have h1 := (hff 0 hpos).1.1
      have hspot : spot = none := by simpa [Addr.add] using World.cell?_spot h1
      subst hspot
      have hb := World.block_lt_of_cell? W _ h1
      refine ⟨b, off, rfl, by simpa [Addr.add] using hb, fun j z hz => ?_⟩
      have hj : j < len := by
        have := (List.getElem?_eq_some_iff.1 hz).1
        simpa using this
      have hzf : z = f j := by
        rw [List.getElem?_map, List.getElem?_range hj] at hz
        exact (Option.some.inj hz).symm
      obtain ⟨x0, x1, x2, x3⟩ := (hff j hj).1
      rw [hzf]
      rw [add_flat, add_flat] at x0 x1 x2 x3
      exact ⟨x0, x1, x2, x3⟩
    · obtain ⟨i, hi2, rfl⟩ := hmem v hv
      exact (hff i hi2).2.1
    · obtain ⟨i, hi2, rfl⟩ := hmem v hv
      have h1 := (hff i hi2).2.2.1
      have h2 : Rows.uptoBulk (D i) ≤ Rows.uptoBulkAll ((List.range len).map D) := bulk_mem (List.mem_map_of_mem (by simpa using hi2))
      rw [hdd]
      simp only [Rows.uptoBulk]
      omega
    · obtain ⟨i, hi2, rfl⟩ := hmem v hv
      exact (hff i hi2).2.2.2
theorem u64_is {a : Int} (h : (Lit.int .u64 a).wf = true) : ∃ v : Nat, a = (v : Int) ∧ v < 18446744073709551616 := by
  have h2 : 0 ≤ a ∧ a ≤ 18446744073709551615 := by simpa [Lit.wf, IntKind.min, IntKind.max, IntKind.bits, IntKind.signed] using h
  exact ⟨a.toNat, by omega, by omega⟩
theorem u8_is {a : Int} (h : (Lit.int .u8 a).wf = true) : ∃ v : Nat, a = (v : Int) ∧ v ≤ 255 := by
  have h2 : 0 ≤ a ∧ a ≤ 255 := by simpa [Lit.wf, IntKind.min, IntKind.max, IntKind.bits, IntKind.signed] using h
  exact ⟨a.toNat, by omega, by omega⟩
end Go.Proofs.YtggognnjnfphgaaGreatDoor
