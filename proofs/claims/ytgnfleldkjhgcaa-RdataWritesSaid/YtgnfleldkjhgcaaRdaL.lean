/- Items as data: from a reading of an argument; what items make of a packer. No statement of the seat is proved here. -/
import Derived.Test.YtgnfleldkjhgcaaRdaK
import Derived.Test.YtgnfleldkjhgcaaRdaI
import Derived.Lib.SmallJoins
import Derived.Deep.Fields
import Derived.ProofKit
import Derived.OpenShut
namespace Go.Proofs.Ytgnfleldkjhgcaa
open Go.ChangeShapes Go.WideShapes Go.ChangeAt Go.RowKit Go.Deep

structure Itd where
  t : Int
  s : ByteArray
/-- what a walk is told of a slice of items that came in -/
def SeesI (W : World) (B : Nat) (A : Option Addr) (n : Nat) (xs : List Itd) : Prop :=
  xs.length = n ∧ (0 < n → ∃ b off, A = some ⟨b, off, none⟩ ∧ b < B ∧ ∀ j x, xs[j]? = some x →
    W.cell? ⟨b, off + j * 2, none⟩ = some (.int .i64 x.t) ∧ W.cell? ⟨b, off + j * 2 + 1, none⟩ = some (.string x.s))
def InItems (W : World) (A : Option Addr) (n : Nat) (xs : List Itd) : Prop := SeesI W W.heap.size A n xs
theorem SeesI.keep {W W' : World} {B n : Nat} {A : Option Addr} {xs : List Itd} (h : SeesI W B A n xs) (hb : Below B W W') : SeesI W' B A n xs :=
  ⟨h.1, fun hn => by
    obtain ⟨b, off, e, hlt, hc⟩ := h.2 hn
    exact ⟨b, off, e, hlt, fun j x hx => by
      obtain ⟨x0, x1⟩ := hc j x hx
      exact ⟨(hb.cell hlt).trans x0, (hb.cell hlt).trans x1⟩⟩⟩
theorem SeesI.at {W : World} {B : Nat} {A : Option Addr} {n : Nat} {xs : List Itd} (h : SeesI W B A n xs) {j : Nat} (hj : j < n) :
    ∃ b off x, A = some ⟨b, off, none⟩ ∧ b < B ∧ xs[j]? = some x ∧ W.cell? ⟨b, off + j * 2, none⟩ = some (.int .i64 x.t) ∧ W.cell? ⟨b, off + j * 2 + 1, none⟩ = some (.string x.s) := by
  obtain ⟨h1, h3⟩ := h
  obtain ⟨b, off, e, hb, hc⟩ := h3 (by omega)
  have hl : j < xs.length := by omega
  obtain ⟨x0, x1⟩ := hc j xs[j] (List.getElem?_eq_getElem hl)
  exact ⟨b, off, xs[j], e, hb, List.getElem?_eq_getElem hl, x0, x1⟩
theorem two_cells {H : Type} {enc : TypeId × Value → H} {P : Program} {w : World} {base : Nat} {spare : Nat → Bool} {held : Bool} {t : TypeId} {f0 f1 : Field} {fuel : Nat} {cs : List Value} {x : DataW H × List MemPlace}
    (hs : P.underlying t = some (.struct #[f0, f1])) (hone : oneCellFields P #[f0, f1] = true) (hC : P.cellsOf t = 2) (h : DataW.trod enc P w base spare held fuel t cs = some x) :
    ∃ (c0 c1 : Value) (y0 y1 : DataW H × List MemPlace) (n : Nat), cs = [c0, c1] ∧ DataW.trod enc P w base spare held n f0.type [c0] = some y0 ∧ DataW.trod enc P w base spare held n f1.type [c1] = some y1 := by
  obtain ⟨y0, y1, n, _, hl, t0, t1⟩ := trod_struct2 hs h
  obtain ⟨o0, k0⟩ := hone_of hone 0 f0 rfl
  obtain ⟨o1, k1⟩ := hone_of hone 1 f1 rfl
  match cs, hl.trans hC with
  | [c0, c1], _ =>
    exact ⟨c0, c1, y0, y1, n, rfl, by simpa [o0, k0] using t0, by simpa [o1, k1] using t1⟩
theorem items_in {H : Type} {enc : TypeId × Value → H} {W : World} {base : Nat} {held : Bool} {a : Option Addr} {len cap : Nat} {d : DataW H} {p : List MemPlace}
    (h : DataW.Trod enc Try.prog W base (fun _ => true) held 25 (.slice a len cap) d p) : ∃ xs, InItems W a len xs := by
  obtain ⟨fuel, hf⟩ := h
  have hC : Try.prog.cellsOf 33 = 2 := by kernel_rfl
  rcases open_slice Try.underlying25 hf with ⟨hcs, _⟩ | ⟨x, l, c, m, n, D, Pl, hcs, _, hl, _, hm, _, hi⟩
  · simp [Value.cells] at hcs
    obtain ⟨rfl, rfl, rfl⟩ := hcs
    exact ⟨[], rfl, fun h => absurd h (by omega)⟩
  · simp [Value.cells] at hcs
    obtain ⟨rfl, rfl, rfl⟩ := hcs
    have hmc : m = cap := by simpa using hm
    have H1 : ∀ i, i < len → ∃ z : Itd, W.cell? ((x.add (i * 2)).add 0) = some (.int .i64 z.t) ∧ W.cell? ((x.add (i * 2)).add 1) = some (.string z.s) := by
      intro i hlt
      obtain ⟨cs', hc, ht⟩ := hi i (by omega)
      rw [hC] at hc
      obtain ⟨c0, c1, y0, y1, n', rfl, t0, t1⟩ := two_cells Try.underlying33 (by kernel_rfl) hC ht
      obtain ⟨_, _, hat⟩ := World.cells?_some hc
      obtain ⟨b0, e0, _⟩ := DataW.trod_int Try.underlying3 t0
      obtain ⟨s1, e1, _, _⟩ := DataW.trod_string Try.underlying9 t1
      obtain rfl : c0 = .int .i64 b0 := by simpa using e0
      obtain rfl : c1 = .string s1 := by simpa using e1
      exact ⟨⟨b0, s1⟩, hat 0 (by omega), hat 1 (by omega)⟩
    obtain ⟨f, hff⟩ : ∃ f : Nat → Itd, ∀ i, i < len → W.cell? ((x.add (i * 2)).add 0) = some (.int .i64 (f i).t) ∧ W.cell? ((x.add (i * 2)).add 1) = some (.string (f i).s) :=
      ⟨fun i => if h : i < len then (H1 i h).choose else ⟨0, .empty⟩, fun i hi => by
        simp only [dif_pos hi]
        exact (H1 i hi).choose_spec⟩
    refine ⟨(List.range len).map f, by simp, fun hpos => ?_⟩
    obtain ⟨b, off, spot⟩ := x
    have h1 := (hff 0 hpos).1
    have hspot : spot = none := by simpa [Addr.add] using World.cell?_spot h1
    subst hspot
    have hb := World.block_lt_of_cell? W _ h1
    refine ⟨b, off, rfl, by simpa [Addr.add] using hb, fun j z hz => ?_⟩
    have hj : j < len := by
      have := (List.getElem?_eq_some_iff.1 hz).1
      simpa using this
    have hzf : z = f j := by
      rw [List.getElem?_map, List.getElem?_range hj] at hz
      exact (Option.some.inj hz).symm
    obtain ⟨x0, x1⟩ := hff j hj
    rw [hzf]
    rw [add_flat, add_flat] at x0 x1
    exact ⟨x0, x1⟩

/-! ### what items make of a packer -/
def bytesD (x : Itd) : List UInt8 := x.s.data.toList
def stepD (st : WSt) (x : Itd) : WSt := if rightR x.t (bytesD x) = true then writeV true (visR x.t (bytesD x)) st else st
def runD (xs : List Itd) : WSt := xs.foldl stepD ([], noneK)
theorem runD_snoc (xs : List Itd) (x : Itd) : runD (xs ++ [x]) = stepD (runD xs) x := by simp [runD]
theorem stepD_grows {st : WSt} (h : InvK st.1 st.2) (x : Itd) : InvK (stepD st x).1 (stepD st x).2 ∧ ∃ z, (stepD st x).1 = st.1 ++ z ∧ z.length ≤ x.s.size := by
  unfold stepD
  by_cases hr : rightR x.t (bytesD x) = true
  · rw [if_pos hr]
    obtain ⟨_, _, h3, h4, _⟩ := right_is hr
    obtain ⟨h1, z, hz, hzl⟩ := write_inv true _ st h (wf_all h4)
    exact ⟨h1, z, hz, by rw [h3] at hzl; exact hzl⟩
  · rw [if_neg hr]
    exact ⟨h, [], by simp, by simp⟩
theorem foldD_inv : ∀ (xs : List Itd) (st : WSt), InvK st.1 st.2 → InvK (xs.foldl stepD st).1 (xs.foldl stepD st).2 ∧ ∃ z, (xs.foldl stepD st).1 = st.1 ++ z
  | [], _, h => ⟨h, [], by simp⟩
  | x :: r, st, h => by
    obtain ⟨h1, z, hz, _⟩ := stepD_grows h x
    obtain ⟨h2, z2, hz2⟩ := foldD_inv r (stepD st x) h1
    exact ⟨h2, z ++ z2, by rw [List.foldl_cons, hz2, hz, List.append_assoc]⟩
theorem runD_inv (xs : List Itd) : InvK (runD xs).1 (runD xs).2 := (foldD_inv xs _ InvK.none).1
theorem runD_pre (xs : List Itd) (j : Nat) : ∃ z, (runD xs).1 = (runD (xs.take j)).1 ++ z := by
  have h : runD xs = (xs.drop j).foldl stepD (runD (xs.take j)) := by
    unfold runD
    rw [← List.foldl_append, List.take_append_drop]
  rw [h]
  exact (foldD_inv _ _ (runD_inv _)).2
theorem takeD_snoc {xs : List Itd} {k : Nat} {x : Itd} (h : xs[k]? = some x) : xs.take (k + 1) = xs.take k ++ [x] := by
  rw [List.take_add_one, h]; rfl
theorem back_data {xs : List Itd} {k : Nat} {x : Itd} (hx : xs[k]? = some x) (hr : rightR x.t (bytesD x) = true) :
    dataR (runD xs).1 (runD (xs.take k)).1.length (runD (xs.take (k + 1))).1.length x.t = some (bytesD x) := by
  obtain ⟨z, hz⟩ := runD_pre xs (k + 1)
  have hst : runD (xs.take (k + 1)) = writeV true (visR x.t (bytesD x)) (runD (xs.take k)) := by
    rw [takeD_snoc hx, runD_snoc]
    unfold stepD
    rw [if_pos hr]
  rw [hz, hst]
  exact write_back hr (runD_inv _) z
def atsD (xs : List Itd) (k : Nat) : List Int := (List.range k).map fun j => ((runD (xs.take j)).1.length : Int)
theorem atsD_succ (xs : List Itd) (k : Nat) : atsD xs (k + 1) = atsD xs k ++ [((runD (xs.take k)).1.length : Int)] := by simp [atsD, List.range_succ]
theorem atsD_at (xs : List Itd) {k j : Nat} (h : j < k) : (ints .i64 (atsD xs k))[j]? = some (.int .i64 ((runD (xs.take j)).1.length : Nat)) := by
  simp [ints, atsD, h]
theorem int_info : (Try.prog.info? 3).map (fun i => (i.zero, i.size, i.bytes)) = some (some (.int .i64 0), 1, 8) := by kernel_rfl
end Go.Proofs.Ytgnfleldkjhgcaa
