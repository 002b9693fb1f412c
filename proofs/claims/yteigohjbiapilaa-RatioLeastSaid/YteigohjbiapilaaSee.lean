/- A slice of floats that came in is seen as its list. No statement of the seat is proved here. -/
import Derived.Test.YteigohjbiapilaaRatD
import Derived.ChangeSlices
namespace Go.Proofs.Yteigohjbiapilaa
open Go.ChangeShapes Go.WideShapes Go.ChangeAt Go.RowKit

/-- the slice value '.slice A n c' reads, in w, as the cells xs, one cell an element, below block B -/
def Sees (w : World) (B : Nat) (A : Option Addr) (n : Nat) (xs : List Value) : Prop :=
  xs.length = n ∧ (0 < n → ∃ b off, A = some ⟨b, off, none⟩ ∧ b < B ∧ ∀ j u, xs[j]? = some u → w.cell? ⟨b, off + j, none⟩ = some u)

theorem Sees.nil (w : World) (B : Nat) (A : Option Addr) : Sees w B A 0 [] := ⟨rfl, fun h => absurd h (by omega)⟩
theorem Sees.len {w : World} {B : Nat} {A : Option Addr} {n : Nat} {xs : List Value} (h : Sees w B A n xs) : xs.length = n := h.1
theorem Sees.addr {w : World} {B : Nat} {A : Option Addr} {n : Nat} {xs : List Value} (h : Sees w B A n xs) (hn : 0 < n) :
    ∃ b off, A = some ⟨b, off, none⟩ ∧ b < B ∧ ∀ j u, xs[j]? = some u → w.cell? ⟨b, off + j, none⟩ = some u := h.2 hn
theorem Sees.keep {w w' : World} {B : Nat} {A : Option Addr} {n : Nat} {xs : List Value} (h : Sees w B A n xs)
    (hk : ∀ p : Addr, p.block < B → w'.cell? p = w.cell? p) : Sees w' B A n xs :=
  ⟨h.1, fun hn => by
    obtain ⟨b, off, e, hb, hc⟩ := h.2 hn
    exact ⟨b, off, e, hb, fun j u hu => (hk _ hb).trans (hc j u hu)⟩⟩
theorem Sees.below {w w' : World} {B : Nat} {A : Option Addr} {n : Nat} {xs : List Value} (h : Sees w B A n xs) (hb : Below B w w') : Sees w' B A n xs :=
  h.keep fun _ hp => hb.cell hp
theorem Sees.more {w : World} {B B' : Nat} {A : Option Addr} {n : Nat} {xs : List Value} (h : Sees w B A n xs) (hB : B ≤ B') : Sees w B' A n xs :=
  ⟨h.1, fun hn => by
    obtain ⟨b, off, e, hb, hc⟩ := h.2 hn
    exact ⟨b, off, e, by omega, hc⟩⟩
theorem add_flat (b off i : Nat) : (⟨b, off, none⟩ : Addr).add i = ⟨b, off + i, none⟩ := by unfold Addr.add; split <;> simp_all

theorem sees_of_cells {W : World} {x : Addr} {len : Nat} {xs : List Value} (hl : xs.length = len) (hc : ∀ i, i < len → W.cell? (x.add i) = xs[i]?) : Sees W W.heap.size (some x) len xs := by
  refine ⟨hl, fun h0 => ?_⟩
  obtain ⟨b, off, spot⟩ := x
  have h1 := hc 0 h0
  rw [List.getElem?_eq_getElem (by omega)] at h1
  have hspot : spot = none := by simpa [Addr.add] using World.cell?_spot h1
  subst hspot
  have hb := World.block_lt_of_cell? W _ h1
  refine ⟨b, off, rfl, by simpa [Addr.add] using hb, fun j u hu => ?_⟩
  have hj : j < len := by rw [← hl]; exact (List.getElem?_eq_some_iff.1 hu).1
  rw [← add_flat, hc j hj, hu]

def floats (l : List Nat) : List Value := l.map (Value.float .f64)
def nth (zs : List Nat) (k : Nat) : Nat := zs.getD k 0
theorem floats_at {w : World} {B : Nat} {A : Option Addr} {n : Nat} {zs : List Nat} (h : Sees w B A n (floats zs)) {k : Nat} (hk : k < n) :
    ∃ b off, A = some ⟨b, off, none⟩ ∧ b < B ∧ w.cell? ⟨b, off + k, none⟩ = some (.float .f64 (nth zs k)) := by
  obtain ⟨b, off, e, hb, hc⟩ := h.addr (by omega)
  have hl : k < zs.length := by have := h.len; simp [floats] at this; omega
  exact ⟨b, off, e, hb, hc k _ (by simp [floats, nth, List.getD, hl])⟩
/-- what a walk is told of a slice of floats that came in -/
def InFloats (W : World) (a : Option Addr) (len cap : Nat) (zs : List Nat) : Prop := Sees W W.heap.size a len (floats zs) ∧ (∀ z ∈ zs, (Lit.float .f64 z).wf = true) ∧ len ≤ cap ∧ cap ≤ maxLen

section
variable {H : Type} {enc : TypeId × Value → H} {P : Program} {w : World} {base : Nat} {spare : Nat → Bool} {held : Bool}
theorem trod_float {t : TypeId} {k : FloatKind} {fuel : Nat} {cs : List Value} {x : DataW H × List MemPlace} (ht : P.underlying t = some (.float k)) (h : DataW.trod enc P w base spare held fuel t cs = some x) :
    ∃ n, cs = [.float k n] ∧ x = (.lit (.float k n), []) ∧ (Lit.float k n).wf = true := by
  cases fuel with
  | zero => simp [DataW.trod] at h
  | succ n =>
    unfold DataW.trod at h
    rw [ht] at h
    split at h <;> simp_all
def wordOf (y : DataW H × List MemPlace) : Nat := match y.1 with | .lit (.float _ n) => n | _ => 0
theorem open_floats {t e : TypeId} {k : FloatKind} {fuel : Nat} {cs : List Value} {x : DataW H × List MemPlace} (ht : P.underlying t = some (.slice e)) (he : P.underlying e = some (.float k)) (hc : P.cellsOf e = 1)
    (h : DataW.trod enc P w base spare held fuel t cs = some x) :
    cs = [.slice none 0 0] ∨
    ∃ (a : Addr) (len cap : Nat) (zs : List Nat), cs = [.slice (some a) len cap] ∧ len ≤ cap ∧ cap ≤ maxLen ∧ zs.length = len ∧
      (∀ i, i < len → w.cell? (a.add i) = some (.float k (zs.getD i 0))) ∧ (∀ n ∈ zs, (Lit.float k n).wf = true) := by
  rcases DataW.trod_slice ht h with h0 | ⟨a, len, cap, elems, rest, n, _, rfl, rfl, hb, hl, hm, hlen, hel, hsp, hns⟩
  · exact Or.inl h0.1
  right
  have each : ∀ i y, elems[i]? = some y → (Lit.float k (wordOf y)).wf = true ∧ w.cell? (a.add i) = some (.float k (wordOf y)) := by
    intro i y hy
    have hi : i < len := by have := (List.getElem?_eq_some_iff.1 hy).1; omega
    have hb' : (w.cells? base (a.add (i * P.cellsOf e)) (P.cellsOf e)).bind (DataW.trod enc P w base spare held n e) = some y := by rw [hel i hi, ← hy]
    rw [hc, Nat.mul_one, Option.bind_eq_some_iff] at hb'
    obtain ⟨cs', hcs, hy'⟩ := hb'
    obtain ⟨m, rfl, rfl, hw⟩ := trod_float he hy'
    exact ⟨hw, cell_of_cells?_one hcs⟩
  refine ⟨a, len, cap, elems.map wordOf, rfl, hl, hm, by simpa using hlen, ?_, ?_⟩
  · intro i hi
    have hi' : i < elems.length := by omega
    have hy : elems[i]? = some (elems[i]'hi') := List.getElem?_eq_getElem hi'
    rw [(each i _ hy).2]
    simp [List.getD, hy]
  · intro m hm'
    obtain ⟨y, hy, rfl⟩ := List.mem_map.1 hm'
    obtain ⟨i, hi⟩ := List.getElem?_of_mem hy
    exact (each i y hi).1
end
theorem floats_in {H : Type} {enc : TypeId × Value → H} {W : World} {base : Nat} {held : Bool} {T E : TypeId} {a : Option Addr} {len cap : Nat} {d : DataW H} {p : List MemPlace}
    (hT : Try.prog.underlying T = some (.slice E)) (hE : Try.prog.underlying E = some (.float .f64)) (hc1 : Try.prog.cellsOf E = 1)
    (h : DataW.Trod enc Try.prog W base (fun _ => true) held T (.slice a len cap) d p) : ∃ zs, InFloats W a len cap zs := by
  obtain ⟨fuel, hf⟩ := h
  rcases open_floats hT hE hc1 hf with hcs | ⟨x, l, c, zs, hcs, hl, hm, hz, hcell, hwz⟩
  · simp [Value.cells] at hcs
    obtain ⟨rfl, rfl, rfl⟩ := hcs
    exact ⟨[], Sees.nil _ _ _, (fun _ hz => by cases hz), Nat.le_refl _, by decide⟩
  · simp [Value.cells] at hcs
    obtain ⟨rfl, rfl, rfl⟩ := hcs
    refine ⟨zs, sees_of_cells (by simp [floats]; omega) (fun i hi => ?_), hwz, hl, hm⟩
    rw [hcell i hi]
    simp [floats, List.getD, show i < zs.length by omega]
end Go.Proofs.Yteigohjbiapilaa
