/- The library's contracts of strings.Clone and maps.Clone, laid at this translation. No statement of the seat is proved here. -/
import Derived.Shelf.SlMaps.Clone
import Derived.Shelf.Pu.Clone
import Derived.Ground.SlmcProg
import Derived.Ground.MpProg
import Derived.Test.YtokjmefleanjaaaProg
namespace Go.Proofs.Ytokjmefleanjaaa
open Go.Shelf
def cloneL_ren : Go.Shelf.Ren := ⟨fun | 5 => 87 | 7 => 94 | n => n, fun | 23 => 86 | 25 => 9 | 3 => 3 | 4 => 4 | 20 => 20 | n => n, fun | n => n⟩
theorem cloneL : Go.Proofs.SlLaysW.n5 Try.prog cloneL_ren := {
  mixed := by kernel_rfl
  f5 := ⟨Try.f87.name, by decide, Try.func87.trans (congrArg some (by kernel_rfl))⟩
  f7 := Try.func94.trans (congrArg some (by kernel_rfl))
  t4 := Try.underlying4
  a4 := Try.isAgg4
  z4 := Try.sizeOf4
  v4 := Try.zeroValue4
  t20 := Try.underlying20
  a20 := Try.isAgg20
  z20 := Try.sizeOf20
  v20 := Try.zeroValue20
  t23 := Try.underlying86
  a23 := Try.isAgg86
  z23 := Try.sizeOf86
  v23 := Try.zeroValue86 }
def scloneL_ren : Go.Shelf.Ren := ⟨fun | 25 => 86 | n => n, fun | 9 => 9 | 3 => 3 | 4 => 4 | 37 => 88 | 0 => 0 | 47 => 135 | 5 => 5 | n => n, fun | n => n⟩
theorem scloneL : Go.Proofs.LaysPu.n25 Try.prog scloneL_ren := {
  mixed := by kernel_rfl
  f25 := Try.func86.trans (congrArg some (by kernel_rfl))
  t0 := Try.underlying0
  a0 := Try.isAgg0
  z0 := Try.sizeOf0
  v0 := Try.zeroValue0
  i0 := by kernel_rfl
  t3 := Try.underlying3
  a3 := Try.isAgg3
  z3 := Try.sizeOf3
  v3 := Try.zeroValue3
  i3 := by kernel_rfl
  t4 := Try.underlying4
  a4 := Try.isAgg4
  z4 := Try.sizeOf4
  v4 := Try.zeroValue4
  i4 := by kernel_rfl
  t5 := Try.underlying5
  a5 := Try.isAgg5
  z5 := Try.sizeOf5
  v5 := Try.zeroValue5
  i5 := by kernel_rfl
  t9 := Try.underlying9
  a9 := Try.isAgg9
  z9 := Try.sizeOf9
  v9 := Try.zeroValue9
  i9 := by kernel_rfl
  t37 := Try.underlying88
  a37 := Try.isAgg88
  z37 := Try.sizeOf88
  v37 := Try.zeroValue88
  i37 := by kernel_rfl
  t47 := Try.underlying135
  a47 := Try.isAgg135
  z47 := Try.sizeOf135
  v47 := Try.zeroValue135
  i47 := by kernel_rfl }
end Go.Proofs.Ytokjmefleanjaaa
