/- The library's contracts of strings.Clone and maps.Clone, laid at this translation. No statement of the seat is proved here. -/
import Derived.Shelf.SlMaps.Clone
import Derived.Shelf.Pu.Clone
import Derived.Ground.SlmcProg
import Derived.Ground.MpProg
import Derived.Test.YtokjmefleanjaaaGreatProg
namespace Go.Proofs.YtokjmefleanjaaaGreat
open Go.Shelf
def cloneL_ren : Go.Shelf.Ren := ⟨fun | 5 => 100 | 7 => 111 | n => n, fun | 23 => 80 | 25 => 9 | 3 => 3 | 4 => 4 | 20 => 20 | n => n, fun | n => n⟩
theorem cloneL : Go.Proofs.SlLaysW.n5 Tryz.prog cloneL_ren := {
  mixed := by kernel_rfl
  f5 := ⟨Tryz.f100.name, by decide, Tryz.func100.trans (congrArg some (by kernel_rfl))⟩
  f7 := Tryz.func111.trans (congrArg some (by kernel_rfl))
  t4 := Tryz.underlying4
  a4 := Tryz.isAgg4
  z4 := Tryz.sizeOf4
  v4 := Tryz.zeroValue4
  t20 := Tryz.underlying20
  a20 := Tryz.isAgg20
  z20 := Tryz.sizeOf20
  v20 := Tryz.zeroValue20
  t23 := Tryz.underlying80
  a23 := Tryz.isAgg80
  z23 := Tryz.sizeOf80
  v23 := Tryz.zeroValue80 }
def scloneL_ren : Go.Shelf.Ren := ⟨fun | 25 => 99 | n => n, fun | 9 => 9 | 3 => 3 | 4 => 4 | 37 => 35 | 0 => 0 | 47 => 138 | 5 => 5 | n => n, fun | n => n⟩
theorem scloneL : Go.Proofs.LaysPu.n25 Tryz.prog scloneL_ren := {
  mixed := by kernel_rfl
  f25 := Tryz.func99.trans (congrArg some (by kernel_rfl))
  t0 := Tryz.underlying0
  a0 := Tryz.isAgg0
  z0 := Tryz.sizeOf0
  v0 := Tryz.zeroValue0
  i0 := by kernel_rfl
  t3 := Tryz.underlying3
  a3 := Tryz.isAgg3
  z3 := Tryz.sizeOf3
  v3 := Tryz.zeroValue3
  i3 := by kernel_rfl
  t4 := Tryz.underlying4
  a4 := Tryz.isAgg4
  z4 := Tryz.sizeOf4
  v4 := Tryz.zeroValue4
  i4 := by kernel_rfl
  t5 := Tryz.underlying5
  a5 := Tryz.isAgg5
  z5 := Tryz.sizeOf5
  v5 := Tryz.zeroValue5
  i5 := by kernel_rfl
  t9 := Tryz.underlying9
  a9 := Tryz.isAgg9
  z9 := Tryz.sizeOf9
  v9 := Tryz.zeroValue9
  i9 := by kernel_rfl
  t37 := Tryz.underlying35
  a37 := Tryz.isAgg35
  z37 := Tryz.sizeOf35
  v37 := Tryz.zeroValue35
  i37 := by kernel_rfl
  t47 := Tryz.underlying138
  a47 := Tryz.isAgg138
  z47 := Tryz.sizeOf138
  v47 := Tryz.zeroValue138
  i47 := by kernel_rfl }
end Go.Proofs.YtokjmefleanjaaaGreat
