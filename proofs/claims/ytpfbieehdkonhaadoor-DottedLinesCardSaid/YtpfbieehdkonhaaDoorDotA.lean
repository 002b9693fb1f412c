/- strings.Builder and strings.Join at bytes and strings; the table of weights. -/
import Derived.Test.YtpfbieehdkonhaaDoorShl
import Derived.Test.YtpfbieehdkonhaaDoorDotM
import Derived.Test.YtpfbieehdkonhaaDoorNamE
namespace Go.Proofs.YtpfbieehdkonhaaDoor
open Go.RowKit Go.Shelf

theorem builderX : Builder.Extra Tryd.prog writeL_ren := {
  sizeBuilder := by kernel_rfl
  liesBuilder := by kernel_rfl
  t5 := Tryd.underlying5
  a5 := Tryd.isAgg5
  z5 := Tryd.sizeOf5
  v5 := Tryd.zeroValue5
  infoByte := by kernel_rfl
  cellsByte := by kernel_rfl
  sizeByte := by kernel_rfl
  neB5 := by decide }
theorem builderXs : Builder.Extra Tryd.prog stringL_ren := { builderX with }
theorem builderXj : Builder.Extra Tryd.prog joinL_ren := { builderX with }

/-- block b, of one's own, is a strings.Builder that holds the bytes l -/
def Bld (b : Nat) (l : List UInt8) (w : World) : Prop := Lib.IsBuilderF 40 5 b b (Lib.byteCells l) w

theorem Bld.new (w : World) : Bld w.heap.size [] (w.alloc (.cells #[.pointer none, .slice none 0 0] 40)) :=
  Lib.IsBuilderF.of (Lib.fresh_isBuilder _ _ w)
theorem Bld.drew {b : Nat} {l : List UInt8} {w : World} (h : Bld b l w) : Bld b l w.drew := h
theorem byteCells_snoc (l : List UInt8) (c : UInt8) : Lib.byteCells (l ++ [c]) = Lib.byteCells l ++ [.int .u8 (c.toNat : Nat)] := by simp [Lib.byteCells]
theorem byteCells_len (l : List UInt8) : (Lib.byteCells l).length = l.length := by simp [Lib.byteCells]
theorem Bld.lt {b : Nat} {l : List UInt8} {w : World} (h : Bld b l w) : b < w.heap.size := by
  rcases h with h | h <;> exact h.lt

theorem WriteByte_any (b : Nat) (l : List UInt8) (c : UInt8) (w : World) (h : Bld b l w) (hl : l.length ≤ 100000000000) :
    Calls Tryd.prog 20 #[.pointer (some ⟨b, 0, none⟩), .int .u8 (c.toNat : Nat)] w fun e w' => e = .returned .nilIface ∧ Bld b (l ++ [c]) w' ∧ Below b w w' := by
  refine (Any.Builder_WriteByte_k writeL builderX b b (Lib.byteCells l) (c.toNat : Nat) w h (by rw [byteCells_len]; omega) (Nat.le_of_lt h.lt)).mono ?_
  rintro e w' ⟨rfl, h1, h2, _⟩
  refine ⟨rfl, ?_, h2⟩
  rw [← byteCells_snoc] at h1
  exact .inr h1
theorem WB (b : Nat) (l : List UInt8) (c : Int) (w : World) (h : Bld b l w) (hl : l.length ≤ 100000000000) (h0 : 0 ≤ c) (h1 : c < 256) :
    Calls Tryd.prog 20 #[.pointer (some ⟨b, 0, none⟩), .int .u8 c] w fun e w' => e = .returned .nilIface ∧ Bld b (l ++ [UInt8.ofNat c.toNat]) w' ∧ Below b w w' := by
  have e : ((UInt8.ofNat c.toNat).toNat : Int) = c := by rw [UInt8.toNat_ofNat']; omega
  have := WriteByte_any b l (UInt8.ofNat c.toNat) w h hl
  rwa [e] at this
theorem BString_any (b : Nat) (l : List UInt8) (w : World) (h : Bld b l w) :
    Calls Tryd.prog 21 #[.pointer (some ⟨b, 0, none⟩)] w fun e w' => e = .returned (.string (mk l)) ∧ Bld b l w' ∧ Below b w w' :=
  Any.Builder_String_any_f stringL builderXs b b l w h (Nat.le_of_lt h.lt)
theorem BLen_any (b : Nat) (l : List UInt8) (w : World) (h : Bld b l w) :
    Calls Tryd.prog 46 #[.pointer (some ⟨b, 0, none⟩)] w fun e w' => e = .returned (.int .i64 l.length) ∧ w' = w := by
  have := Any.Builder_Len_f lenL b b (Lib.byteCells l) w h
  rwa [byteCells_len] at this

/-! ### The table of weights -/
/-- the variable 'weights' holds what its initialiser lays -/
def Wts (w : World) : Prop := w.cell? ⟨0, 0, none⟩ = some (.int .i64 100) ∧ w.cell? ⟨0, 1, none⟩ = some (.int .i64 10) ∧ w.cell? ⟨0, 2, none⟩ = some (.int .i64 1)
theorem Wts.pos {w : World} (h : Wts w) : 0 < w.heap.size := World.block_lt_of_cell? w _ h.1
theorem Wts.below {w w' : World} {B : Nat} (h : Wts w) (hB : Below B w w') (hb : 0 < B) : Wts w' :=
  ⟨(hB.cell (p := ⟨0, 0, none⟩) hb).trans h.1, (hB.cell (p := ⟨0, 1, none⟩) hb).trans h.2.1, (hB.cell (p := ⟨0, 2, none⟩) hb).trans h.2.2⟩
theorem Wts.beyond {w w' : World} (h : Wts w) (hB : Below w.heap.size w w') : Wts w' := h.below hB h.pos
abbrev wtsV : Array Value := #[.int .i64 100, .int .i64 10, .int .i64 1]
theorem wts_0 (W : World) : (Instr.index 53 (.agg wtsV) (.int .i64 0)).run Tryd.prog W = .ok (.int .i64 100) W := by kernel_rfl
theorem wts_1 (W : World) : (Instr.index 53 (.agg wtsV) (.int .i64 1)).run Tryd.prog W = .ok (.int .i64 10) W := by kernel_rfl
theorem wts_2 (W : World) : (Instr.index 53 (.agg wtsV) (.int .i64 2)).run Tryd.prog W = .ok (.int .i64 1) W := by kernel_rfl
theorem Wts.drew {w : World} (h : Wts w) : Wts w.drew := h
end Go.Proofs.YtpfbieehdkonhaaDoor
