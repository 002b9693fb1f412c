/- From a reading of an argument to what our walks are told of it: a slice of integers or of strings that came in is seen as its list. No statement of the seat is proved here. -/
import Derived.Test.YtdanncclnhkmgaaOctA
import Derived.ProofKit
import Derived.OpenShut
import Derived.ShutString
import Derived.ChangeOld
import Derived.SliceStrings
namespace Go.Proofs.Ytdanncclnhkmgaa
open Go.ChangeShapes Go.WideShapes Go.ChangeAt Go.RowKit

theorem try_own : ownKnob Try.prog.godebug = none := by kernel_rfl
theorem try_laid : laidOutB Try.prog = true := by kernel_rfl

theorem add_flat (b off i : Nat) : (⟨b, off, none⟩ : Addr).add i = ⟨b, off + i, none⟩ := by unfold Addr.add; split <;> simp_all

theorem sees_of_cells {W : World} {x : Addr} {len : Nat} {xs : List Value} (hl : xs.length = len) (hc : ∀ i, i < len → W.cell? (x.add i) = xs[i]?) : Sees W W.heap.size (some x) len xs := by
  refine ⟨hl, fun h0 => ?_⟩
  obtain ⟨b, off, spot⟩ := x
  have h1 := hc 0 h0
  rw [List.getElem?_eq_getElem (by omega)] at h1
  have hspot : spot = none := by simpa [Addr.add] using World.cell?_spot h1
  subst hspot
  have hb := World.block_lt_of_cell? W _ h1
  refine ⟨b, off, rfl, by simpa [Addr.add] using hb, fun j u hu => ?_⟩
  have hj : j < len := by rw [← hl]; exact (List.getElem?_eq_some_iff.1 hu).1
  rw [← add_flat, hc j hj, hu]

/-- what a walk is told of a slice of integers that came in -/
def InInts (kd : IntKind) (W : World) (a : Option Addr) (len : Nat) (zs : List Int) : Prop := Sees W W.heap.size a len (ints kd zs) ∧ ∀ z ∈ zs, (Lit.int kd z).wf = true
/-- what a walk is told of a slice of strings that came in -/
def InTexts (W : World) (a : Option Addr) (len cap : Nat) (zs : List ByteArray) : Prop := Sees W W.heap.size a len (texts zs) ∧ len ≤ cap

theorem ints_in {H : Type} {enc : TypeId × Value → H} {W : World} {base : Nat} {held : Bool} {T E : TypeId} {kd : IntKind} {a : Option Addr} {len cap : Nat} {d : DataW H} {p : List MemPlace}
    (hT : Try.prog.underlying T = some (.slice E)) (hE : Try.prog.underlying E = some (.int kd)) (hc1 : Try.prog.cellsOf E = 1)
    (h : DataW.Trod enc Try.prog W base (fun _ => true) held T (.slice a len cap) d p) : ∃ zs, InInts kd W a len zs := by
  obtain ⟨fuel, hf⟩ := h
  rcases open_ints hT hE hc1 hf with ⟨hcs, _⟩ | ⟨x, l, c, zs, hcs, _, hl, hm, hz, _, hcell, hwz⟩
  · simp [Value.cells] at hcs
    obtain ⟨rfl, rfl, rfl⟩ := hcs
    exact ⟨[], Sees.nil _ _ _, fun _ hz => by cases hz⟩
  · simp [Value.cells] at hcs
    obtain ⟨rfl, rfl, rfl⟩ := hcs
    have hz' : zs.length = cap := by simpa using hz
    refine ⟨zs.take len, sees_of_cells (by simp [ints]; omega) (fun i hi => ?_), fun z hz => hwz z (List.mem_of_mem_take hz)⟩
    rw [hcell i (by omega)]
    simp [ints, hi, List.getD, show i < zs.length by omega]

theorem strings_in {H : Type} {enc : TypeId × Value → H} {W : World} {base : Nat} {held : Bool} {T E : TypeId} {a : Option Addr} {len cap : Nat} {d : DataW H} {p : List MemPlace}
    (hT : Try.prog.underlying T = some (.slice E)) (hE : Try.prog.underlying E = some .string) (hc1 : Try.prog.cellsOf E = 1)
    (h : DataW.Trod enc Try.prog W base (fun _ => true) held T (.slice a len cap) d p) : ∃ zs, InTexts W a len cap zs := by
  obtain ⟨fuel, hf⟩ := h
  rcases open_strings hT hE hc1 hf with ⟨hcs, _⟩ | ⟨x, l, c, zs, hcs, _, hl, hm, hz, _, hcell, hwz⟩
  · simp [Value.cells] at hcs
    obtain ⟨rfl, rfl, rfl⟩ := hcs
    exact ⟨[], Sees.nil _ _ _, by omega⟩
  · simp [Value.cells] at hcs
    obtain ⟨rfl, rfl, rfl⟩ := hcs
    have hz' : zs.length = cap := by simpa using hz
    refine ⟨zs.take len, sees_of_cells (by simp [texts]; omega) (fun i hi => ?_), by omega⟩
    rw [hcell i (by omega)]
    simp [texts, hi, List.getD, show i < zs.length by omega]
end Go.Proofs.Ytdanncclnhkmgaa
