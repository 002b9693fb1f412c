/- RrsA: texts RrsA of our own, joined. No statement of the seat is proved here. -/
import Derived.Test.YtaijcoiepfjecaaGreatReE
import Derived.Test.YtaijcoiepfjecaaGreatOcJ
import Derived.Lib.SmallJoins
import Derived.Deep.Fields
import Derived.Deep.AppendSrc
import Derived.Deep.RegionHeld3
namespace Go.Proofs.YtaijcoiepfjecaaGreat
open Go.ChangeShapes Go.WideShapes Go.ChangeAt Go.RowKit Go.Deep Go.Op

structure Rrd where
  s : ByteArray
  t : Int
  c : Int
  l : Int
  d : ByteArray
def Rrd.toRec (x : Rrd) : Rec := recOf x.s x.d x.t x.c x.l
/-- what a walk is told of a slice of records that came in -/
def SeesR (W : World) (B : Nat) (A : Option Addr) (n : Nat) (xs : List Rrd) : Prop :=
  xs.length = n ∧ (0 < n → ∃ b off, A = some ⟨b, off, none⟩ ∧ b < B ∧ ∀ j x, xs[j]? = some x →
    W.cell? ⟨b, off + j * 5, none⟩ = some (.string x.s) ∧ W.cell? ⟨b, off + j * 5 + 1, none⟩ = some (.int .i64 x.t) ∧ W.cell? ⟨b, off + j * 5 + 2, none⟩ = some (.int .i64 x.c) ∧
    W.cell? ⟨b, off + j * 5 + 3, none⟩ = some (.int .i64 x.l) ∧ W.cell? ⟨b, off + j * 5 + 4, none⟩ = some (.string x.d))
def InRecs (W : World) (A : Option Addr) (n : Nat) (xs : List Rrd) : Prop := SeesR W W.heap.size A n xs
theorem SeesR.keep {W W' : World} {B n : Nat} {A : Option Addr} {xs : List Rrd} (h : SeesR W B A n xs) (hb : Below B W W') : SeesR W' B A n xs :=
  ⟨h.1, fun hn => by
    obtain ⟨b, off, e, hlt, hc⟩ := h.2 hn
    exact ⟨b, off, e, hlt, fun j x hx => by
      obtain ⟨x0, x1, x2, x3, x4⟩ := hc j x hx
      exact ⟨(hb.cell hlt).trans x0, (hb.cell hlt).trans x1, (hb.cell hlt).trans x2, (hb.cell hlt).trans x3, (hb.cell hlt).trans x4⟩⟩⟩
/-- five cells in a row, in a block that stands -/
def Five (W : World) (b o : Nat) (x : Rrd) : Prop :=
  W.cell? ⟨b, o, none⟩ = some (.string x.s) ∧ W.cell? ⟨b, o + 1, none⟩ = some (.int .i64 x.t) ∧ W.cell? ⟨b, o + 2, none⟩ = some (.int .i64 x.c) ∧ W.cell? ⟨b, o + 3, none⟩ = some (.int .i64 x.l) ∧ W.cell? ⟨b, o + 4, none⟩ = some (.string x.d)
theorem Five.keep {W W' : World} {B b o : Nat} {x : Rrd} (h : Five W b o x) (hb : Below B W W') (hlt : b < B) : Five W' b o x := by
  obtain ⟨x0, x1, x2, x3, x4⟩ := h
  exact ⟨(hb.cell hlt).trans x0, (hb.cell hlt).trans x1, (hb.cell hlt).trans x2, (hb.cell hlt).trans x3, (hb.cell hlt).trans x4⟩
theorem SeesR.at {W : World} {B : Nat} {A : Option Addr} {n : Nat} {xs : List Rrd} (h : SeesR W B A n xs) {j : Nat} (hj : j < n) :
    ∃ b off x, A = some ⟨b, off, none⟩ ∧ b < B ∧ xs[j]? = some x ∧ Five W b (off + j * 5) x := by
  obtain ⟨h1, h3⟩ := h
  obtain ⟨b, off, e, hb, hc⟩ := h3 (by omega)
  have hl : j < xs.length := by omega
  exact ⟨b, off, xs[j], e, hb, List.getElem?_eq_getElem hl, hc j xs[j] (List.getElem?_eq_getElem hl)⟩
theorem five_cells {H : Type} {enc : TypeId × Value → H} {P : Program} {w : World} {base : Nat} {spare : Nat → Bool} {held : Bool} {t : TypeId} {f0 f1 f2 f3 f4 : Field} {fuel : Nat} {cs : List Value} {x : DataW H × List MemPlace}
    (hs : P.underlying t = some (.struct #[f0, f1, f2, f3, f4])) (hone : oneCellFields P #[f0, f1, f2, f3, f4] = true) (hC : P.cellsOf t = 5) (h : DataW.trod enc P w base spare held fuel t cs = some x) :
    ∃ (c0 c1 c2 c3 c4 : Value) (y0 y1 y2 y3 y4 : DataW H × List MemPlace) (n : Nat), cs = [c0, c1, c2, c3, c4] ∧ DataW.trod enc P w base spare held n f0.type [c0] = some y0 ∧ DataW.trod enc P w base spare held n f1.type [c1] = some y1 ∧
      DataW.trod enc P w base spare held n f2.type [c2] = some y2 ∧ DataW.trod enc P w base spare held n f3.type [c3] = some y3 ∧ DataW.trod enc P w base spare held n f4.type [c4] = some y4 := by
  obtain ⟨xs, n, _, _, hl, hlen, hg⟩ := DataW.trod_struct hs h
  obtain ⟨o0, k0⟩ := hone_of hone 0 f0 rfl
  obtain ⟨o1, k1⟩ := hone_of hone 1 f1 rfl
  obtain ⟨o2, k2⟩ := hone_of hone 2 f2 rfl
  obtain ⟨o3, k3⟩ := hone_of hone 3 f3 rfl
  obtain ⟨o4, k4⟩ := hone_of hone 4 f4 rfl
  have g0 := hg 0 f0 rfl
  have g1 := hg 1 f1 rfl
  have g2 := hg 2 f2 rfl
  have g3 := hg 3 f3 rfl
  have g4 := hg 4 f4 rfl
  match xs, hlen with
  | [y0, y1, y2, y3, y4], _ =>
    match cs, hl.trans hC with
    | [c0, c1, c2, c3, c4], _ =>
      exact ⟨c0, c1, c2, c3, c4, y0, y1, y2, y3, y4, n, rfl, by simpa [o0, k0] using g0, by simpa [o1, k1] using g1, by simpa [o2, k2] using g2, by simpa [o3, k3] using g3, by simpa [o4, k4] using g4⟩
theorem recs_in {H : Type} {enc : TypeId × Value → H} {W : World} {base : Nat} {held : Bool} {a : Option Addr} {len cap : Nat} {d : DataW H} {p : List MemPlace}
    (h : DataW.Trod enc Tryz.prog W base (fun _ => true) held 22 (.slice a len cap) d p) : ∃ xs, InRecs W a len xs := by
  obtain ⟨fuel, hf⟩ := h
  have hC : Tryz.prog.cellsOf 26 = 5 := by kernel_rfl
  rcases open_slice Tryz.underlying22 hf with ⟨hcs, _⟩ | ⟨x, l, c, m, n, D, Pl, hcs, _, hl, _, hm, _, hi⟩
  · simp [Value.cells] at hcs
    obtain ⟨rfl, rfl, rfl⟩ := hcs
    exact ⟨[], rfl, fun h => absurd h (by omega)⟩
  · simp [Value.cells] at hcs
    obtain ⟨rfl, rfl, rfl⟩ := hcs
    have hmc : m = cap := by simpa using hm
    have H1 : ∀ i, i < len → ∃ z : Rrd, W.cell? ((x.add (i * 5)).add 0) = some (.string z.s) ∧ W.cell? ((x.add (i * 5)).add 1) = some (.int .i64 z.t) ∧ W.cell? ((x.add (i * 5)).add 2) = some (.int .i64 z.c) ∧
        W.cell? ((x.add (i * 5)).add 3) = some (.int .i64 z.l) ∧ W.cell? ((x.add (i * 5)).add 4) = some (.string z.d) := by
      intro i hlt
      obtain ⟨cs', hc, ht⟩ := hi i (by omega)
      rw [hC] at hc
      obtain ⟨c0, c1, c2, c3, c4, y0, y1, y2, y3, y4, n', rfl, t0, t1, t2, t3, t4⟩ := five_cells Tryz.underlying26 (by kernel_rfl) hC ht
      obtain ⟨_, _, hat⟩ := World.cells?_some hc
      obtain ⟨s0, e0, _, _⟩ := DataW.trod_string Tryz.underlying9 t0
      obtain ⟨b1, e1, _⟩ := DataW.trod_int Tryz.underlying3 t1
      obtain ⟨b2, e2, _⟩ := DataW.trod_int Tryz.underlying3 t2
      obtain ⟨b3, e3, _⟩ := DataW.trod_int Tryz.underlying3 t3
      obtain ⟨s4, e4, _, _⟩ := DataW.trod_string Tryz.underlying9 t4
      obtain rfl : c0 = .string s0 := by simpa using e0
      obtain rfl : c1 = .int .i64 b1 := by simpa using e1
      obtain rfl : c2 = .int .i64 b2 := by simpa using e2
      obtain rfl : c3 = .int .i64 b3 := by simpa using e3
      obtain rfl : c4 = .string s4 := by simpa using e4
      exact ⟨⟨s0, b1, b2, b3, s4⟩, hat 0 (by omega), hat 1 (by omega), hat 2 (by omega), hat 3 (by omega), hat 4 (by omega)⟩
    obtain ⟨f, hff⟩ : ∃ f : Nat → Rrd, ∀ i, i < len → W.cell? ((x.add (i * 5)).add 0) = some (.string (f i).s) ∧ W.cell? ((x.add (i * 5)).add 1) = some (.int .i64 (f i).t) ∧ W.cell? ((x.add (i * 5)).add 2) = some (.int .i64 (f i).c) ∧
        W.cell? ((x.add (i * 5)).add 3) = some (.int .i64 (f i).l) ∧ W.cell? ((x.add (i * 5)).add 4) = some (.string (f i).d) :=
      ⟨fun i => if h : i < len then (H1 i h).choose else ⟨.empty, 0, 0, 0, .empty⟩, fun i hi => by
        simp only [dif_pos hi]
        exact (H1 i hi).choose_spec⟩
    refine ⟨(List.range len).map f, by simp, fun hpos => ?_⟩
    obtain ⟨b, off, spot⟩ := x
    have h1 := (hff 0 hpos).1
    have hspot : spot = none := by simpa [Addr.add] using World.cell?_spot h1
    subst hspot
    have hb := World.block_lt_of_cell? W _ h1
    refine ⟨b, off, rfl, by simpa [Addr.add] using hb, fun j z hz => ?_⟩
    have hj : j < len := by
      have := (List.getElem?_eq_some_iff.1 hz).1
      simpa using this
    have hzf : z = f j := by
      rw [List.getElem?_map, List.getElem?_range hj] at hz
      exact (Option.some.inj hz).symm
    obtain ⟨x0, x1, x2, x3, x4⟩ := hff j hj
    rw [hzf]
    rw [add_flat, add_flat] at x0 x1 x2 x3 x4
    exact ⟨x0, x1, x2, x3, x4⟩

theorem SeesR.more {W : World} {B B' n : Nat} {A : Option Addr} {xs : List Rrd} (h : SeesR W B A n xs) (hB : B ≤ B') : SeesR W B' A n xs :=
  ⟨h.1, fun hn => by
    obtain ⟨b, off, e, hlt, hc⟩ := h.2 hn
    exact ⟨b, off, e, Nat.lt_of_lt_of_le hlt hB, hc⟩⟩
theorem rrd_name (x : Rrd) : x.s = mk x.toRec.n := (mk_toList x.s).symm
theorem rrd_data (x : Rrd) : x.d = mk x.toRec.d := (mk_toList x.d).symm
/-- all elements ahead of k are right -/
def Upto {α : Type} (f : α → Bool) (xs : List α) (k : Nat) : Prop := ∀ x ∈ xs.take k, f x = true
theorem Upto.zero {α : Type} (f : α → Bool) (xs : List α) : Upto f xs 0 := fun x h => by simp at h
theorem Upto.succ {α : Type} {f : α → Bool} {xs : List α} {k : Nat} {x : α} (h : Upto f xs k) (hx : xs[k]? = some x) (hf : f x = true) : Upto f xs (k + 1) := by
  intro y hy
  rw [List.take_add_one, hx] at hy
  rcases List.mem_append.1 hy with hy | hy
  · exact h y hy
  · obtain rfl : y = x := by simpa using hy
    exact hf
theorem Upto.all {α : Type} {f : α → Bool} {xs : List α} (h : Upto f xs xs.length) : xs.all f = true := by
  rw [List.all_eq_true]
  intro x hx
  exact h x (by rw [List.take_length]; exact hx)
theorem not_all {α : Type} {f : α → Bool} {xs : List α} {k : Nat} {x : α} (hx : xs[k]? = some x) (hf : f x = false) : xs.all f = false := by
  rw [List.all_eq_false]
  exact ⟨x, List.mem_of_getElem? hx, by rw [hf]; simp⟩
def SmallR (xs : List Rrd) : Prop := ∀ x ∈ xs, x.s.size ≤ 1073741824 ∧ x.d.size ≤ 65535

def rcells (xs : List Rrd) : List Value := xs.flatMap fun x => [.string x.s, .int .i64 x.t, .int .i64 x.c, .int .i64 x.l, .string x.d]
theorem rcells_nil : rcells [] = [] := rfl
theorem rcells_cons (x : Rrd) (xs : List Rrd) : rcells (x :: xs) = [.string x.s, .int .i64 x.t, .int .i64 x.c, .int .i64 x.l, .string x.d] ++ rcells xs := by simp [rcells]
theorem rcells_append (xs ys : List Rrd) : rcells (xs ++ ys) = rcells xs ++ rcells ys := by simp [rcells]
theorem rcells_len (xs : List Rrd) : (rcells xs).length = xs.length * 5 := by
  induction xs with
  | nil => rfl
  | cons x xs ih => rw [rcells_cons, List.length_append, ih, List.length_cons]; simp; omega
theorem rcells_one (xs : List Rrd) : ∀ u ∈ rcells xs, u.oneCell' = true := by
  intro u hu
  simp only [rcells, List.mem_flatMap] at hu
  obtain ⟨k, _, hu⟩ := hu
  simp only [List.mem_cons, List.not_mem_nil, or_false] at hu
  rcases hu with rfl | rfl | rfl | rfl | rfl <;> rfl
/-- the five cells of element j -/
theorem rcells_at : ∀ (xs : List Rrd) (j : Nat) (x : Rrd), xs[j]? = some x → (rcells xs)[j * 5]? = some (.string x.s) ∧ (rcells xs)[j * 5 + 1]? = some (.int .i64 x.t) ∧ (rcells xs)[j * 5 + 2]? = some (.int .i64 x.c) ∧ (rcells xs)[j * 5 + 3]? = some (.int .i64 x.l) ∧ (rcells xs)[j * 5 + 4]? = some (.string x.d) := by
  intro xs
  induction xs with
  | nil => intro j x h; simp at h
  | cons y xs ih =>
    intro j x h
    rw [rcells_cons]
    cases j with
    | zero => simp only [List.getElem?_cons_zero, Option.some.injEq] at h; subst h; exact ⟨rfl, rfl, rfl, rfl, rfl⟩
    | succ j =>
      rw [List.getElem?_cons_succ] at h
      obtain ⟨a0, a1, a2, a3, a4⟩ := ih j x h
      have e : ∀ r, ([Value.string y.s, .int .i64 y.t, .int .i64 y.c, .int .i64 y.l, .string y.d] ++ rcells xs)[(j + 1) * 5 + r]? = (rcells xs)[j * 5 + r]? := by
        intro r
        rw [List.getElem?_append_right (by simp; omega)]
        congr 1
        simp; omega
      exact ⟨(e 0).trans a0, (e 1).trans a1, (e 2).trans a2, (e 3).trans a3, (e 4).trans a4⟩
theorem SeesR.cells {w : World} {B : Nat} {A : Option Addr} {n : Nat} {xs : List Rrd} (h : SeesR w B A n xs) (hn : 0 < n) : ∃ b off, A = some ⟨b, off, none⟩ ∧ b < B ∧ ∀ j u, (rcells xs)[j]? = some u → w.cell? ⟨b, off + j, none⟩ = some u := by
  obtain ⟨hl, h2⟩ := h
  obtain ⟨b, off, e, hb, hc⟩ := h2 hn
  refine ⟨b, off, e, hb, fun j u hu => ?_⟩
  have hj : j < (rcells xs).length := (List.getElem?_eq_some_iff.1 hu).1
  rw [rcells_len] at hj
  obtain ⟨x, hx⟩ : ∃ x, xs[j / 5]? = some x := ⟨xs[j / 5]'(by omega), List.getElem?_eq_getElem (by omega)⟩
  obtain ⟨a0, a1, a2, a3, a4⟩ := rcells_at xs (j / 5) x hx
  obtain ⟨c0, c1, c2, c3, c4⟩ := hc (j / 5) x hx
  have hr : j % 5 < 5 := Nat.mod_lt _ (by omega)
  have hj5 : j = j / 5 * 5 + j % 5 := by omega
  obtain ⟨r, hrr⟩ : ∃ r, r = j % 5 := ⟨_, rfl⟩
  rw [← hrr] at hr hj5
  rw [hj5] at hu ⊢
  rcases (show r = 0 ∨ r = 1 ∨ r = 2 ∨ r = 3 ∨ r = 4 by omega) with rfl | rfl | rfl | rfl | rfl
  · rw [Nat.add_zero] at hu ⊢; rw [a0] at hu; injection hu with hu; subst hu; exact c0
  · rw [a1] at hu; injection hu with hu; subst hu; exact c1
  · rw [a2] at hu; injection hu with hu; subst hu; exact c2
  · rw [a3] at hu; injection hu with hu; subst hu; exact c3
  · rw [a4] at hu; injection hu with hu; subst hu; exact c4
/-- a row of one's own, seen as records -/
theorem SeesR.own {w : World} {base : Nat} {v : Value} {n : Nat} {xs : List Rrd} (h : w.ownsRow base 26 5 v n (rcells xs)) :
    ∃ A c, v = .slice A n c ∧ SeesR w w.heap.size A n xs := by
  have hl : xs.length = n := by have := h.1; rw [rcells_len] at this; omega
  rcases h.2 with ⟨rfl, rfl⟩ | ⟨g, cap, cur, rfl, hb, hg, h1, h2, h3, h4⟩
  · exact ⟨none, 0, rfl, hl, fun h => absurd h (by omega)⟩
  · refine ⟨some ⟨g, 0, none⟩, cap, rfl, hl, fun _ => ⟨g, 0, rfl, (Array.getElem?_eq_some_iff.1 hg).1, fun j x hx => ?_⟩⟩
    obtain ⟨a0, a1, a2, a3, a4⟩ := rcells_at xs j x hx
    have hj : j < n := by rw [← hl]; exact (List.getElem?_eq_some_iff.1 hx).1
    rw [Nat.zero_add]
    exact ⟨(h.cellAt _ (by omega)).trans a0, (h.cellAt _ (by omega)).trans a1, (h.cellAt _ (by omega)).trans a2, (h.cellAt _ (by omega)).trans a3, (h.cellAt _ (by omega)).trans a4⟩

theorem rec_info : (Tryz.prog.info? 26).map (fun i => (i.zero, i.size, i.bytes)) = some (some (.agg #[.string ⟨#[]⟩, .int .i64 0, .int .i64 0, .int .i64 0, .string ⟨#[]⟩]), 5, 56) := by kernel_rfl
set_option maxRecDepth 20000 in
/-- records appended to a row of one's own that is not nil: one step of a region -/
theorem step_append_R {w : World} {ops : Array Oper} {o : Oper} {a : Act} {K : Act → World → Prop} {Q : Exit → Act → World → Prop} {E : Prop} (hgd : o.guard = none) (s x : Operand)
    (ho : o.op = .call { callee := .builtin .append, args := #[s, x], argTypes := #[22, 22] }) (base : Nat) (v : Value) (n : Nat) (xs : List Value) (hs : a.eval s = v) (hown : w.ownsRow base 26 5 v n xs) (hv : v ≠ .slice none 0 0)
    (B : Nat) (A : Option Addr) (m c : Nat) (KL : List Rrd) (hx : a.eval x = .slice A m c) (hr : SeesR w B A m KL) (N : Nat) (hN : n + m = N) (ys : List Value) (hys : xs ++ rcells KL = ys) (h63 : N ≤ 1073741824) (hbase : base ≤ w.heap.size)
    (h : ∀ v' w', w'.ownsRow base 26 5 v' N ys → w.grownBy w' v.ownBlock → v' ≠ .slice none 0 0 → K (a.put o.dst v') w') : if Region.wanted o (yielded ops a.tmps) = true then Oper.wp Tryz.prog o a w K Q else E := by
  have hw : Region.wanted o (yielded ops a.tmps) = true := by simp [Region.wanted, hgd]
  rw [if_pos hw]
  subst hN
  subst hys
  obtain ⟨i, hi, hz0, hz1, hz2⟩ := info_parts rec_info
  have hkl := rcells_len KL
  rw [hr.1] at hkl
  rcases A with _ | ad
  · have hm : m = 0 := by
      rcases Nat.eq_zero_or_pos m with h0 | h0
      · exact h0
      · obtain ⟨b, off, e, _⟩ := hr.2 h0
        cases e
    subst hm
    have hn : rcells KL = [] := List.eq_nil_of_length_eq_zero (by omega)
    rw [hn, List.append_nil] at h
    rcases hown.2 with ⟨rfl, _⟩ | ⟨g, cap, cur, rfl, _, _, hnc, _⟩
    · exact absurd rfl hv
    · have hrun := run_append_room_src (P := Tryz.prog) w 22 22 o.type 26 i Tryz.underlying22 hi g 0 n cap (.slice none 0 c) 0 [] (Src.ofNil w Tryz.underlying22 c) (by omega) (by simp) (by simp)
      have hsame : w.setCells g (0 + n * i.size) [] = w := rfl
      rw [hsame] at hrun
      unfold Oper.wp
      simp [execOp, ho, resolve, invoke, builtin, hs, hx, hrun, Result.andThen]
      exact h _ _ hown (World.grownBy.refl w _) hv
  · have hcells : ∀ j u, (rcells KL)[j]? = some u → w.cell? (ad.add j) = some u := by
      intro j u hu
      have hj : j < (rcells KL).length := (List.getElem?_eq_some_iff.1 hu).1
      obtain ⟨b, off, e, _, hc⟩ := hr.cells (by omega)
      injection e with e
      subst e
      rw [show (⟨b, off, none⟩ : Addr).add j = ⟨b, off + j, none⟩ from by unfold Addr.add; split <;> simp_all]
      exact hc j u hu
    refine wp_append_own w s x 22 ho base 26 i (.agg #[.string ⟨#[]⟩, .int .i64 0, .int .i64 0, .int .i64 0, .string ⟨#[]⟩]) 5 56 Tryz.underlying22 hi hz0 hz1 hz2 rfl (by decide) v n xs hs hown ad m c (rcells KL) hx hkl hcells (rcells_one KL) (by unfold maxLen; omega) (by omega) hbase ?_
    intro v' w' h1 h2 h3
    exact h v' w' h1 h2 fun e => hv (h3.1 e).1
theorem own_noneR (w : World) (base : Nat) (hb : base ≤ w.heap.size) : (w.alloc (.cells #[] 26)).ownsRow base 26 5 (.slice (some ⟨w.heap.size, 0, none⟩) 0 0) 0 [] :=
  ⟨rfl, .inr ⟨w.heap.size, 0, #[], rfl, hb, heap_alloc_new w _, Nat.le_refl _, by unfold maxLen; omega, rfl, rfl⟩⟩

end Go.Proofs.YtaijcoiepfjecaaGreat
