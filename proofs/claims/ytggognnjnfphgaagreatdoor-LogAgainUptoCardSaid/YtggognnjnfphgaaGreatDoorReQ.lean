/- ReQ: texts RecQ of our own, joined. No statement of the seat is proved here. -/
import Derived.Test.YtggognnjnfphgaaGreatDoorReE
import Derived.Test.YtggognnjnfphgaaGreatDoorReI
import Derived.Test.YtggognnjnfphgaaGreatDoorOcJ
import Derived.Test.YtggognnjnfphgaaGreatDoorReN
import Derived.Lib.SmallJoins
import Derived.Deep.Fields
namespace Go.Proofs.YtggognnjnfphgaaGreatDoor
open Go.ChangeShapes Go.WideShapes Go.ChangeAt Go.RowKit Go.Deep

structure Rrd where
  s : ByteArray
  t : Int
  c : Int
  l : Int
  d : ByteArray
def Rrd.toRec (x : Rrd) : Rec := recOf x.s x.d x.t x.c x.l
/-- what a walk is told of a slice of records that came in -/
def SeesR (W : World) (B : Nat) (A : Option Addr) (n : Nat) (xs : List Rrd) : Prop :=
  xs.length = n ∧ (0 < n → ∃ b off, A = some ⟨b, off, none⟩ ∧ b < B ∧ ∀ j x, xs[j]? = some x →
    W.cell? ⟨b, off + j * 5, none⟩ = some (.string x.s) ∧ W.cell? ⟨b, off + j * 5 + 1, none⟩ = some (.int .i64 x.t) ∧ W.cell? ⟨b, off + j * 5 + 2, none⟩ = some (.int .i64 x.c) ∧
    W.cell? ⟨b, off + j * 5 + 3, none⟩ = some (.int .i64 x.l) ∧ W.cell? ⟨b, off + j * 5 + 4, none⟩ = some (.string x.d))
def InRecs (W : World) (A : Option Addr) (n : Nat) (xs : List Rrd) : Prop := SeesR W W.heap.size A n xs
theorem SeesR.keep {W W' : World} {B n : Nat} {A : Option Addr} {xs : List Rrd} (h : SeesR W B A n xs) (hb : Below B W W') : SeesR W' B A n xs :=
  ⟨h.1, fun hn => by
    obtain ⟨b, off, e, hlt, hc⟩ := h.2 hn
    exact ⟨b, off, e, hlt, fun j x hx => by
      obtain ⟨x0, x1, x2, x3, x4⟩ := hc j x hx
      exact ⟨(hb.cell hlt).trans x0, (hb.cell hlt).trans x1, (hb.cell hlt).trans x2, (hb.cell hlt).trans x3, (hb.cell hlt).trans x4⟩⟩⟩
/-- five cells in a row, in a block that stands -/
def Five (W : World) (b o : Nat) (x : Rrd) : Prop :=
  W.cell? ⟨b, o, none⟩ = some (.string x.s) ∧ W.cell? ⟨b, o + 1, none⟩ = some (.int .i64 x.t) ∧ W.cell? ⟨b, o + 2, none⟩ = some (.int .i64 x.c) ∧ W.cell? ⟨b, o + 3, none⟩ = some (.int .i64 x.l) ∧ W.cell? ⟨b, o + 4, none⟩ = some (.string x.d)
theorem Five.keep {W W' : World} {B b o : Nat} {x : Rrd} (h : Five W b o x) (hb : Below B W W') (hlt : b < B) : Five W' b o x := by
  obtain ⟨x0, x1, x2, x3, x4⟩ := h
  exact ⟨(hb.cell hlt).trans x0, (hb.cell hlt).trans x1, (hb.cell hlt).trans x2, (hb.cell hlt).trans x3, (hb.cell hlt).trans x4⟩
theorem SeesR.at {W : World} {B : Nat} {A : Option Addr} {n : Nat} {xs : List Rrd} (h : SeesR W B A n xs) {j : Nat} (hj : j < n) :
    ∃ b off x, A = some ⟨b, off, none⟩ ∧ b < B ∧ xs[j]? = some x ∧ Five W b (off + j * 5) x := by
  obtain ⟨h1, h3⟩ := h
  obtain ⟨b, off, e, hb, hc⟩ := h3 (by omega)
  have hl : j < xs.length := by omega
  exact ⟨b, off, xs[j], e, hb, List.getElem?_eq_getElem hl, hc j xs[j] (List.getElem?_eq_getElem hl)⟩
theorem five_cells {H : Type} {enc : TypeId × Value → H} {P : Program} {w : World} {base : Nat} {spare : Nat → Bool} {held : Bool} {t : TypeId} {f0 f1 f2 f3 f4 : Field} {fuel : Nat} {cs : List Value} {x : DataW H × List MemPlace}
    (hs : P.underlying t = some (.struct #[f0, f1, f2, f3, f4])) (hone : oneCellFields P #[f0, f1, f2, f3, f4] = true) (hC : P.cellsOf t = 5) (h : DataW.trod enc P w base spare held fuel t cs = some x) :
    ∃ (c0 c1 c2 c3 c4 : Value) (y0 y1 y2 y3 y4 : DataW H × List MemPlace) (n : Nat), cs = [c0, c1, c2, c3, c4] ∧ DataW.trod enc P w base spare held n f0.type [c0] = some y0 ∧ DataW.trod enc P w base spare held n f1.type [c1] = some y1 ∧
      DataW.trod enc P w base spare held n f2.type [c2] = some y2 ∧ DataW.trod enc P w base spare held n f3.type [c3] = some y3 ∧ DataW.trod enc P w base spare held n f4.type [c4] = some y4 := by
  obtain ⟨xs, n, _, _, hl, hlen, hg⟩ := DataW.trod_struct hs h
  obtain ⟨o0, k0⟩ := hone_of hone 0 f0 rfl
  obtain ⟨o1, k1⟩ := hone_of hone 1 f1 rfl
  obtain ⟨o2, k2⟩ := hone_of hone 2 f2 rfl
  obtain ⟨o3, k3⟩ := hone_of hone 3 f3 rfl
  obtain ⟨o4, k4⟩ := hone_of hone 4 f4 rfl
  have g0 := hg 0 f0 rfl
  have g1 := hg 1 f1 rfl
  have g2 := hg 2 f2 rfl
  have g3 := hg 3 f3 rfl
  have g4 := hg 4 f4 rfl
  match xs, hlen with
  | [y0, y1, y2, y3, y4], _ =>
    match cs, hl.trans hC with
    | [c0, c1, c2, c3, c4], _ =>
      exact ⟨c0, c1, c2, c3, c4, y0, y1, y2, y3, y4, n, rfl, by simpa [o0, k0] using g0, by simpa [o1, k1] using g1, by simpa [o2, k2] using g2, by simpa [o3, k3] using g3, by simpa [o4, k4] using g4⟩
theorem recs_in {H : Type} {enc : TypeId × Value → H} {W : World} {base : Nat} {held : Bool} {a : Option Addr} {len cap : Nat} {d : DataW H} {p : List MemPlace}
    (h : DataW.Trod enc Tryz.prog W base (fun _ => true) held 43 (.slice a len cap) d p) : ∃ xs, InRecs W a len xs := by
  obtain ⟨fuel, hf⟩ := h
  have hC : Tryz.prog.cellsOf 76 = 5 := by kernel_rfl
  rcases open_slice Tryz.underlying43 hf with ⟨hcs, _⟩ | ⟨x, l, c, m, n, D, Pl, hcs, _, hl, _, hm, _, hi⟩
  · simp [Value.cells] at hcs
    obtain ⟨rfl, rfl, rfl⟩ := hcs
    exact ⟨[], rfl, fun h => absurd h (by omega)⟩
  · simp [Value.cells] at hcs
    obtain ⟨rfl, rfl, rfl⟩ := hcs
    have hmc : m = cap := by simpa using hm
    have H1 : ∀ i, i < len → ∃ z : Rrd, W.cell? ((x.add (i * 5)).add 0) = some (.string z.s) ∧ W.cell? ((x.add (i * 5)).add 1) = some (.int .i64 z.t) ∧ W.cell? ((x.add (i * 5)).add 2) = some (.int .i64 z.c) ∧
        W.cell? ((x.add (i * 5)).add 3) = some (.int .i64 z.l) ∧ W.cell? ((x.add (i * 5)).add 4) = some (.string z.d) := by
      intro i hlt
      obtain ⟨cs', hc, ht⟩ := hi i (by omega)
      rw [hC] at hc
      obtain ⟨c0, c1, c2, c3, c4, y0, y1, y2, y3, y4, n', rfl, t0, t1, t2, t3, t4⟩ := five_cells Tryz.underlying76 (by kernel_rfl) hC ht
      obtain ⟨_, _, hat⟩ := World.cells?_some hc
      obtain ⟨s0, e0, _, _⟩ := DataW.trod_string Tryz.underlying9 t0
      obtain ⟨b1, e1, _⟩ := DataW.trod_int Tryz.underlying3 t1
      obtain ⟨b2, e2, _⟩ := DataW.trod_int Tryz.underlying3 t2
      obtain ⟨b3, e3, _⟩ := DataW.trod_int Tryz.underlying3 t3
      obtain ⟨s4, e4, _, _⟩ := DataW.trod_string Tryz.underlying9 t4
      obtain rfl : c0 = .string s0 := by simpa using e0
      obtain rfl : c1 = .int .i64 b1 := by simpa using e1
      obtain rfl : c2 = .int .i64 b2 := by simpa using e2
      obtain rfl : c3 = .int .i64 b3 := by simpa using e3
      obtain rfl : c4 = .string s4 := by simpa using e4
      exact ⟨⟨s0, b1, b2, b3, s4⟩, hat 0 (by omega), hat 1 (by omega), hat 2 (by omega), hat 3 (by omega), hat 4 (by omega)⟩
    obtain ⟨f, hff⟩ : ∃ f : Nat → Rrd, ∀ i, i < len → W.cell? ((x.add (i * 5)).add 0) = some (.string (f i).s) ∧ W.cell? ((x.add (i * 5)).add 1) = some (.int .i64 (f i).t) ∧ W.cell? ((x.add (i * 5)).add 2) = some (.int .i64 (f i).c) ∧
        W.cell? ((x.add (i * 5)).add 3) = some (.int .i64 (f i).l) ∧ W.cell? ((x.add (i * 5)).add 4) = some (.string (f i).d) :=
      ⟨fun i => if h : i < len then (H1 i h).choose else ⟨.empty, 0, 0, 0, .empty⟩, fun i hi => by
        simp only [dif_pos hi]
        exact (H1 i hi).choose_spec⟩
    refine ⟨(List.range len).map f, by simp, fun hpos => ?_⟩
    obtain ⟨b, off, spot⟩ := x
    have h1 := (hff 0 hpos).1
    have hspot : spot = none := by simpa [Addr.add] using World.cell?_spot h1
    subst hspot
    have hb := World.block_lt_of_cell? W _ h1
    refine ⟨b, off, rfl, by simpa [Addr.add] using hb, fun j z hz => ?_⟩
    have hj : j < len := by
      have := (List.getElem?_eq_some_iff.1 hz).1
      simpa using this
    have hzf : z = f j := by
      rw [List.getElem?_map, List.getElem?_range hj] at hz
      exact (Option.some.inj hz).symm
    obtain ⟨x0, x1, x2, x3, x4⟩ := hff j hj
    rw [hzf]
    rw [add_flat, add_flat] at x0 x1 x2 x3 x4
    exact ⟨x0, x1, x2, x3, x4⟩

/-! ### what records make of a packer -/
def stepW (st : WSt) (x : Rrd) : WSt := if okR x.toRec = true then writeW x.toRec st else st
def runW (xs : List Rrd) : WSt := xs.foldl stepW ([], noneK)
theorem runW_snoc (xs : List Rrd) (x : Rrd) : runW (xs ++ [x]) = stepW (runW xs) x := by simp [runW]
theorem stepW_grows {st : WSt} (h : InvK st.1 st.2) (x : Rrd) : InvK (stepW st x).1 (stepW st x).2 ∧ ∃ z, (stepW st x).1 = st.1 ++ z ∧ z.length ≤ 265 + x.d.size := by
  unfold stepW
  by_cases hr : okR x.toRec = true
  · rw [if_pos hr]
    obtain ⟨h1, z, hz, hzl⟩ := write_inv2 hr h
    exact ⟨h1, z, hz, hzl⟩
  · rw [if_neg hr]
    exact ⟨h, [], by simp, by simp⟩
theorem foldW_inv : ∀ (xs : List Rrd) (st : WSt), InvK st.1 st.2 → InvK (xs.foldl stepW st).1 (xs.foldl stepW st).2 ∧ ∃ z, (xs.foldl stepW st).1 = st.1 ++ z
  | [], _, h => ⟨h, [], by simp⟩
  | x :: r, st, h => by
    obtain ⟨h1, z, hz, _⟩ := stepW_grows h x
    obtain ⟨h2, z2, hz2⟩ := foldW_inv r (stepW st x) h1
    exact ⟨h2, z ++ z2, by rw [List.foldl_cons, hz2, hz, List.append_assoc]⟩
theorem runW_inv (xs : List Rrd) : InvK (runW xs).1 (runW xs).2 := (foldW_inv xs _ InvK.none).1
theorem runW_pre (xs : List Rrd) (j : Nat) : ∃ z, (runW xs).1 = (runW (xs.take j)).1 ++ z := by
  have h : runW xs = (xs.drop j).foldl stepW (runW (xs.take j)) := by
    unfold runW
    rw [← List.foldl_append, List.take_append_drop]
  rw [h]
  exact (foldW_inv _ _ (runW_inv _)).2
theorem takeW_snoc {xs : List Rrd} {k : Nat} {x : Rrd} (h : xs[k]? = some x) : xs.take (k + 1) = xs.take k ++ [x] := by
  rw [List.take_add_one, h]; rfl
def atsW (xs : List Rrd) (k : Nat) : List Int := (List.range k).map fun j => ((runW (xs.take j)).1.length : Int)
theorem atsW_succ (xs : List Rrd) (k : Nat) : atsW xs (k + 1) = atsW xs k ++ [((runW (xs.take k)).1.length : Int)] := by simp [atsW, List.range_succ]
theorem atsW_at (xs : List Rrd) {k j : Nat} (h : j < k) : (ints .i64 (atsW xs k))[j]? = some (.int .i64 ((runW (xs.take j)).1.length : Nat)) := by
  simp [ints, atsW, h]
theorem int_info : (Tryz.prog.info? 3).map (fun i => (i.zero, i.size, i.bytes)) = some (some (.int .i64 0), 1, 8) := by kernel_rfl
def SmallW (xs : List Rrd) (k : Nat) : Prop := ∀ j x, j < k → xs[j]? = some x → x.s.size ≤ 600 ∧ x.d.size ≤ 2000
theorem SmallW.step {xs : List Rrd} {k : Nat} {x : Rrd} (h : SmallW xs k) (hx : xs[k]? = some x) (hs : x.s.size ≤ 600 ∧ x.d.size ≤ 2000) : SmallW xs (k + 1) := fun j y hj hy => by
  rcases Nat.lt_succ_iff_lt_or_eq.1 hj with hj | rfl
  · exact h j y hj hy
  · rw [hx] at hy; injection hy with hy; subst hy; exact hs

/-- a row of another type stands while the packer turns -/
theorem Kp.rowT {B b m c : Nat} {w w' : World} {v v' : Value} {l : List UInt8} {K : Kn} {base e size n : Nat} {x : Value} {xs : List Value} (hk : Kp b m v v' w w') (hp : Pk B w b m v l K c) (ho : w.ownsRow base e size x n xs) (h1 : e ≠ pkT) (h2 : e ≠ 5) : w'.ownsRow base e size x n xs := by
  refine ⟨ho.1, ?_⟩
  rcases ho.2 with h3 | ⟨g, cap, cur, hx, hg, hh, r⟩
  · exact .inl h3
  · refine .inr ⟨g, cap, cur, hx, hg, ?_, r⟩
    have hgb : g ≠ b := by
      rintro rfl
      obtain ⟨p, _, hb⟩ := hp.blk
      rw [hh] at hb
      injection hb with hb
      injection hb with _ hb _
      exact absurd hb h1
    have hgm : g ≠ m := by
      rintro rfl
      obtain ⟨D, n', ⟨es, clock, hm, _⟩, _⟩ := hp.map
      rw [hh] at hm; cases hm
    exact (hk.block g (Array.getElem?_eq_some_iff.1 hh).1 hgb hgm (Lib.ownBlock_neF hp.row hh h2)).trans hh
/-- the packer stands while a row of another type turns -/
theorem Pk.rowT {B b m c : Nat} {w w' : World} {v : Value} {l : List UInt8} {K : Kn} {base e size n : Nat} {x : Value} {xs : List Value} (hp : Pk B w b m v l K c) (ho : w.ownsRow base e size x n xs) (hg : w.grownBy w' x.ownBlock) (h1 : e ≠ pkT) (h2 : e ≠ 5) : Pk B w' b m v l K c := by
  obtain ⟨p, hpp, hb⟩ := hp.blk
  obtain ⟨D, n', hm1, hm2, hm3⟩ := hp.map
  have hty : ∀ g, x.ownBlock = some g → ∃ cur, w.heap[g]? = some (.cells cur e (0, 0)) := by
    intro g hg
    rcases ho.2 with ⟨rfl, _⟩ | ⟨g', cap, cur, rfl, _, hh, _⟩
    · simp [Value.ownBlock] at hg
    · obtain rfl : g' = g := by simpa [Value.ownBlock] using hg
      exact ⟨cur, hh⟩
  have hgb : x.ownBlock ≠ some b := by
    intro hx
    obtain ⟨cur, hh⟩ := hty b hx
    rw [hh] at hb
    injection hb with hb
    injection hb with _ hb _
    exact h1 hb
  have hgm : x.ownBlock ≠ some m := by
    intro hx
    obtain ⟨cur, hh⟩ := hty m hx
    obtain ⟨es, clock, hm, _⟩ := hm1
    rw [hh] at hm; cases hm
  refine ⟨hp.hb, hp.hm, ⟨p, hpp, (hg.block b hp.blt (Ne.symm hgb)).trans hb⟩, hp.row.kept hg ?_, ⟨D, n', hm1.kept hg (Ne.symm hgm), hm2, hm3⟩, hp.nl⟩
  cases hv : v.ownBlock with
  | none => exact .inl rfl
  | some g =>
    refine .inr ?_
    intro hx
    obtain ⟨cur, hh⟩ := hty g hx.symm
    exact Lib.ownBlock_neF hp.row hh h2 hv

/-- a block of another type stands while a row turns -/
theorem Whole.rowT2 {w' : World} {W0 : World} {g t : Nat} {cs : Array Value} {base e size n : Nat} {x : Value} {xs : List Value} (hw : Whole W0 g t cs) {o : Obj} (ho : (W0.alloc o).ownsRow base e size x n xs) (hg : (W0.alloc o).grownBy w' x.ownBlock) (h : t ≠ e) : Whole w' g t cs :=
  (hw.alloc o).grown hg (fun e' => own_apart ho (hw.alloc o) (Ne.symm h) e'.symm)
/-- a row stands while a block of another type turns -/
theorem own_off {w : World} {g t : Nat} {cs : Array Value} {base e n : Nat} {v : Value} {xs : List Value} (hw : Whole w g t cs) (h : w.ownsRow base e 1 v n xs) (hne : e ≠ t) (i : Nat) (u : Value) : (w.setCell ⟨g, i, none⟩ u).ownsRow base e 1 v n xs :=
  h.kept (gset w ⟨g, i, none⟩ u) (.inr (own_apart h hw hne))
end Go.Proofs.YtggognnjnfphgaaGreatDoor
