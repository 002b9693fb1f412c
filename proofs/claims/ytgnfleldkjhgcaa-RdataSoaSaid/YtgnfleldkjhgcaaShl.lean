/- The library's contract of strings.Clone, laid at this translation. No statement of the seat is proved here. -/
import Derived.Shelf.Pu.Clone
import Derived.Ground.MpProg
import Derived.Test.YtgnfleldkjhgcaaProg
namespace Go.Proofs.Ytgnfleldkjhgcaa
open Go.Shelf
def scloneL_ren : Go.Shelf.Ren := ⟨fun | 25 => 71 | n => n, fun | 9 => 9 | 3 => 3 | 4 => 4 | 37 => 56 | 0 => 0 | 47 => 90 | 5 => 5 | n => n, fun | n => n⟩
theorem scloneL : Go.Proofs.LaysPu.n25 Try.prog scloneL_ren := {
  mixed := by kernel_rfl
  f25 := Try.func71.trans (congrArg some (by kernel_rfl))
  t0 := Try.underlying0
  a0 := Try.isAgg0
  z0 := Try.sizeOf0
  v0 := Try.zeroValue0
  i0 := by kernel_rfl
  t3 := Try.underlying3
  a3 := Try.isAgg3
  z3 := Try.sizeOf3
  v3 := Try.zeroValue3
  i3 := by kernel_rfl
  t4 := Try.underlying4
  a4 := Try.isAgg4
  z4 := Try.sizeOf4
  v4 := Try.zeroValue4
  i4 := by kernel_rfl
  t5 := Try.underlying5
  a5 := Try.isAgg5
  z5 := Try.sizeOf5
  v5 := Try.zeroValue5
  i5 := by kernel_rfl
  t9 := Try.underlying9
  a9 := Try.isAgg9
  z9 := Try.sizeOf9
  v9 := Try.zeroValue9
  i9 := by kernel_rfl
  t37 := Try.underlying56
  a37 := Try.isAgg56
  z37 := Try.sizeOf56
  v37 := Try.zeroValue56
  i37 := by kernel_rfl
  t47 := Try.underlying90
  a47 := Try.isAgg90
  z47 := Try.sizeOf90
  v47 := Try.zeroValue90
  i47 := by kernel_rfl }
end Go.Proofs.Ytgnfleldkjhgcaa
