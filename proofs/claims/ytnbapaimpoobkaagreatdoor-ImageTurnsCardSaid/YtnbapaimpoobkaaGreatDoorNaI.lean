/- Parts of the proofs of the statements of image. No statement of the seat is proved here. -/
import Derived.Shelf.SlMaps.Clone
import Derived.Shelf.Pu.Clone
import Derived.Ground.SlmcProg
import Derived.Ground.MpProg
import Derived.Test.YtnbapaimpoobkaaGreatDoorProg
import Derived.Test.YtnbapaimpoobkaaGreatDoorNaA
import Derived.BigQuiet
import Derived.Laws.Cover1
import Derived.Deep.AppendSrc
import Derived.Deep.RegionWith
namespace Go.Proofs.YtnbapaimpoobkaaGreatDoor
open Go.Shelf
def cloneL_ren : Go.Shelf.Ren := ⟨fun | 5 => 231 | 7 => 245 | n => n, fun | 23 => 179 | 25 => 9 | 3 => 3 | 4 => 4 | 20 => 20 | n => n, fun | n => n⟩
theorem cloneL : Go.Proofs.SlLaysW.n5 Tryz.prog cloneL_ren := {
  mixed := by kernel_rfl
  f5 := ⟨Tryz.f231.name, by decide, Tryz.func231.trans (congrArg some (by kernel_rfl))⟩
  f7 := Tryz.func245.trans (congrArg some (by kernel_rfl))
  t4 := Tryz.underlying4
  a4 := Tryz.isAgg4
  z4 := Tryz.sizeOf4
  v4 := Tryz.zeroValue4
  t20 := Tryz.underlying20
  a20 := Tryz.isAgg20
  z20 := Tryz.sizeOf20
  v20 := Tryz.zeroValue20
  t23 := Tryz.underlying179
  a23 := Tryz.isAgg179
  z23 := Tryz.sizeOf179
  v23 := Tryz.zeroValue179 }
def scloneL_ren : Go.Shelf.Ren := ⟨fun | 25 => 104 | n => n, fun | 9 => 9 | 3 => 3 | 4 => 4 | 37 => 64 | 0 => 0 | 47 => 115 | 5 => 5 | n => n, fun | n => n⟩
theorem scloneL : Go.Proofs.LaysPu.n25 Tryz.prog scloneL_ren := {
  mixed := by kernel_rfl
  f25 := Tryz.func104.trans (congrArg some (by kernel_rfl))
  t0 := Tryz.underlying0
  a0 := Tryz.isAgg0
  z0 := Tryz.sizeOf0
  v0 := Tryz.zeroValue0
  i0 := by kernel_rfl
  t3 := Tryz.underlying3
  a3 := Tryz.isAgg3
  z3 := Tryz.sizeOf3
  v3 := Tryz.zeroValue3
  i3 := by kernel_rfl
  t4 := Tryz.underlying4
  a4 := Tryz.isAgg4
  z4 := Tryz.sizeOf4
  v4 := Tryz.zeroValue4
  i4 := by kernel_rfl
  t5 := Tryz.underlying5
  a5 := Tryz.isAgg5
  z5 := Tryz.sizeOf5
  v5 := Tryz.zeroValue5
  i5 := by kernel_rfl
  t9 := Tryz.underlying9
  a9 := Tryz.isAgg9
  z9 := Tryz.sizeOf9
  v9 := Tryz.zeroValue9
  i9 := by kernel_rfl
  t37 := Tryz.underlying64
  a37 := Tryz.isAgg64
  z37 := Tryz.sizeOf64
  v37 := Tryz.zeroValue64
  i37 := by kernel_rfl
  t47 := Tryz.underlying115
  a47 := Tryz.isAgg115
  z47 := Tryz.sizeOf115
  v47 := Tryz.zeroValue115
  i47 := by kernel_rfl }
end Go.Proofs.YtnbapaimpoobkaaGreatDoor
namespace Go.Proofs.YtnbapaimpoobkaaGreatDoor
open Go.RowKit

theorem mk_get {S : ByteArray} {s : List UInt8} (hS : S = mk s) {k : Nat} (h : k < S.size) (h' : k < s.length) : (S[k]'h).toNat = s[k].toNat := by subst hS; rfl
theorem textL_snoc (L : List (List UInt8)) (x : List UInt8) : textL (L ++ [x]) = textL L ++ [.string (mk x)] := by simp [textL, texts]

/-- where the reference stands: the first k bytes are the labels out -/
def RefNm (s : List UInt8) (k : Nat) (out : List (List UInt8)) : Prop := parse s = (parse (s.drop k)).map (out ++ ·) ∧ out.length ≤ k
theorem RefNm.start (s : List UInt8) : RefNm s 0 [] := ⟨by simp, Nat.le_refl _⟩
theorem drop_cons {s : List UInt8} {k : Nat} (h : k < s.length) : s.drop k = s[k] :: s.drop (k + 1) := List.drop_eq_getElem_cons h
theorem RefNm.over {s : List UInt8} {k : Nat} {out : List (List UInt8)} (h : RefNm s k out) (hk : s.length ≤ k) : parse s = none := by
  rw [h.1, List.drop_of_length_le hk, parse_none rfl]; rfl
theorem RefNm.zero {s : List UInt8} {k : Nat} {out : List (List UInt8)} (h : RefNm s k out) (hk : k < s.length) (h0 : s[k].toNat = 0) : parse s = if k + 1 = s.length then some out else none := by
  have e : s[k] = 0 := UInt8.toNat_inj.1 (by simpa using h0)
  rw [h.1, drop_cons hk, e, parse_some (cut_zero _), if_pos rfl]
  by_cases hl : k + 1 = s.length
  · rw [if_pos hl, if_pos (List.drop_of_length_le (by omega))]; simp
  · rw [if_neg hl, if_neg (by intro e'; have := congrArg List.length e'; simp at this; omega)]; rfl
theorem RefNm.far {s : List UInt8} {k : Nat} {out : List (List UInt8)} (h : RefNm s k out) (hk : k < s.length) (hf : s.length < k + 1 + s[k].toNat) : parse s = none := by
  rw [h.1, drop_cons hk, parse_none]
  · rfl
  · simp only [cutL]; rw [if_pos (by simp; omega)]
theorem RefNm.step {s : List UInt8} {k : Nat} {out : List (List UInt8)} (h : RefNm s k out) (hk : k < s.length) (h0 : 0 < s[k].toNat) (h63 : s[k].toNat ≤ 63) (hl : k + 1 + s[k].toNat ≤ s.length) :
    RefNm s (k + 1 + s[k].toNat) (out ++ [(s.take (k + 1 + s[k].toNat)).drop (k + 1)]) := by
  have hc : cutL (s.drop k) = some ((s.drop (k + 1)).take s[k].toNat, (s.drop (k + 1)).drop s[k].toNat) := by
    rw [drop_cons hk]; simp only [cutL]; rw [if_neg (by simp; omega)]
  have hlen : ((s.drop (k + 1)).take s[k].toNat).length = s[k].toNat := by simp; omega
  have e1 : (s.take (k + 1 + s[k].toNat)).drop (k + 1) = (s.drop (k + 1)).take s[k].toNat := by
    rw [List.drop_take]; congr 1; omega
  refine ⟨?_, by have := h.2; simp; omega⟩
  rw [h.1, parse_some hc, if_neg (by intro e; rw [e] at hlen; simp at hlen; omega), if_neg (by omega), e1, List.drop_drop, Option.map_map]
  congr 1
  funext L
  simp

end Go.Proofs.YtnbapaimpoobkaaGreatDoor
