/- From a reading of an argument to what our walks are told of it: a slice of integers or of strings that came in is seen as its list. No statement of the seat is proved here. -/
import Derived.Test.YtnbapaimpoobkaaGreatDoorOcA
import Derived.ProofKit
import Derived.OpenShut
import Derived.ShutString
import Derived.ChangeOld
import Derived.SliceStrings
namespace Go.Proofs.YtnbapaimpoobkaaGreatDoor
open Go.ChangeShapes Go.WideShapes Go.ChangeAt Go.RowKit

theorem try_ownF : ownKnob Tryz.prog.godebug = none := by kernel_rfl
theorem try_laidF : laidOutB Tryz.prog = true := by kernel_rfl

theorem add_flatF (b off i : Nat) : (⟨b, off, none⟩ : Addr).add i = ⟨b, off + i, none⟩ := by unfold Addr.add; split <;> simp_all

theorem sees_of_cellsF {W : World} {x : Addr} {len : Nat} {xs : List Value} (hl : xs.length = len) (hc : ∀ i, i < len → W.cell? (x.add i) = xs[i]?) : Sees W W.heap.size (some x) len xs := by
  refine ⟨hl, fun h0 => ?_⟩
  obtain ⟨b, off, spot⟩ := x
  have h1 := hc 0 h0
  rw [List.getElem?_eq_getElem (by omega)] at h1
  have hspot : spot = none := by simpa [Addr.add] using World.cell?_spot h1
  subst hspot
  have hb := World.block_lt_of_cell? W _ h1
  refine ⟨b, off, rfl, by simpa [Addr.add] using hb, fun j u hu => ?_⟩
  have hj : j < len := by rw [← hl]; exact (List.getElem?_eq_some_iff.1 hu).1
  rw [← add_flatF, hc j hj, hu]

/-- what a walk is told of a slice of strings that came in -/
def InTextsF (W : World) (a : Option Addr) (len cap : Nat) (zs : List ByteArray) : Prop := Sees W W.heap.size a len (texts zs) ∧ len ≤ cap

theorem strings_inF {H : Type} {enc : TypeId × Value → H} {W : World} {base : Nat} {held : Bool} {T E : TypeId} {a : Option Addr} {len cap : Nat} {d : DataW H} {p : List MemPlace}
    (hT : Tryz.prog.underlying T = some (.slice E)) (hE : Tryz.prog.underlying E = some .string) (hc1 : Tryz.prog.cellsOf E = 1)
    (h : DataW.Trod enc Tryz.prog W base (fun _ => true) held T (.slice a len cap) d p) : ∃ zs, InTextsF W a len cap zs := by
  obtain ⟨fuel, hf⟩ := h
  rcases open_strings hT hE hc1 hf with ⟨hcs, _⟩ | ⟨x, l, c, zs, hcs, _, hl, hm, hz, _, hcell, hwz⟩
  · simp [Value.cells] at hcs
    obtain ⟨rfl, rfl, rfl⟩ := hcs
    exact ⟨[], Sees.nil _ _ _, by omega⟩
  · simp [Value.cells] at hcs
    obtain ⟨rfl, rfl, rfl⟩ := hcs
    have hz' : zs.length = cap := by simpa using hz
    refine ⟨zs.take len, sees_of_cellsF (by simp [texts]; omega) (fun i hi => ?_), by omega⟩
    rw [hcell i (by omega)]
    simp [texts, hi, List.getD, show i < zs.length by omega]
end Go.Proofs.YtnbapaimpoobkaaGreatDoor
