/- Parts of the proofs of the statements of image. No statement of the seat is proved here. -/
import Derived.Shelf.Strconv.Itoa1
import Derived.Shelf.Strconv.Itoa2
import Derived.Ground.NamesProg
import Derived.Test.YtmpginmdaeclaaaGreatDoorProg
import Derived.Test.YtmpginmdaeclaaaGreatDoorOcJ
import Derived.Test.YtmpginmdaeclaaaGreatDoorOcA
import Derived.Lib.ItoaMem
import Derived.Lib.AppendIntMem
import Derived.WalkKit
set_option maxHeartbeats 32000000
set_option maxRecDepth 20000
namespace Go.Proofs.YtmpginmdaeclaaaGreatDoor
open Go.Shelf
def smallL_ren : Go.Shelf.Ren := ⟨fun | 283 => 207 | n => n, fun | 3 => 3 | 9 => 9 | 4 => 4 | n => n, fun | n => n⟩
theorem smallL : Go.Proofs.Lays.n283 Tryz.prog smallL_ren := {
  mixed := by kernel_rfl
  f283 := Tryz.func207.trans (congrArg some (by kernel_rfl))
  t3 := Tryz.underlying3
  a3 := Tryz.isAgg3
  z3 := Tryz.sizeOf3
  v3 := Tryz.zeroValue3
  t4 := Tryz.underlying4
  a4 := Tryz.isAgg4
  z4 := Tryz.sizeOf4
  v4 := Tryz.zeroValue4
  t9 := Tryz.underlying9
  a9 := Tryz.isAgg9
  z9 := Tryz.sizeOf9
  v9 := Tryz.zeroValue9 }
end Go.Proofs.YtmpginmdaeclaaaGreatDoor
set_option maxHeartbeats 32000000
set_option maxRecDepth 20000
namespace Go.Proofs.YtmpginmdaeclaaaGreatDoor
open Go.RowKit Go.Sort Go.Shelf
def fileL (g : Nat) : List UInt8 := [108, 111, 103, 45] ++ Lib.decDigits g
theorem small_at (u : Nat) (hu : u < 100) (w : World) : Calls Tryz.prog 207 #[.int .i64 (u : Nat)] w fun e w' => e = .returned (.string (mk (Lib.decDigits u))) /\ w' = w :=
  Any.internal_strconv_small smallL u hu w
theorem FormatI_small (u : Nat) (hu : u < 100) (w : World) :
    Calls Tryz.prog 157 #[.int .u64 (u : Nat), .int .i64 10] w fun e w' => e = .returned (.string (mk (Lib.decDigits u))) /\ Below w.heap.size w w' := by
  have h1 : (u : Int) < 100 := by omega
  go_enter Tryz.func157, Tryz.ntmps157
  go_wp2_with fail
  refine (small_at u hu _).mono ?_
  rintro e w' ⟨rfl, rfl⟩
  go_wp2_with fail
  go_ret
  exact ⟨rfl, Below.refl _ _⟩
theorem Format_any (u : Nat) (hu : u < 18446744073709551616) (w : World) (h : ∀ W, W = w -> Calls Tryz.prog 157 #[.int .u64 (u : Nat), .int .i64 10] W fun e w' => e = .returned (.string (mk (Lib.decDigits u))) /\ Below W.heap.size W w') :
    Calls Tryz.prog 49 #[.int .u64 (u : Nat)] w fun e w' => e = .returned (.string (mk (fileL u))) /\ Below w.heap.size w w' := by
  obtain ⟨D, hD⟩ : ∃ D, D = mk (Lib.decDigits u) := ⟨_, rfl⟩
  have hn : (⟨#[108, 111, 103, 45]⟩ : ByteArray) ++ D = mk (fileL u) := by rw [hD]; exact mk_append [108, 111, 103, 45] (Lib.decDigits u)
  have HN := Ha hn
  have hF : Calls Tryz.prog 107 #[.int .u64 (u : Nat), .int .i64 10] w fun e w' => e = .returned (.string D) /\ Below w.heap.size w w' := by
    go_enter Tryz.func107, Tryz.ntmps107
    go_wp2_with fail
    have h2 := h w rfl
    rw [<-hD] at h2
    have HD := Ha hD
    clear hD; refine h2.mono ?_
    rintro e w' ⟨rfl, hB⟩; go_wp2_with fail
    go_ret
    exact ⟨rfl, hB⟩
  have hsz : (D.size : Int) <= 100 := by
    have : D.size = Lib.nDigits u := by rw [hD, mk_size, Lib.decDigits_length]
    have : Lib.nDigits u <= 20 := by
      rcases Nat.eq_zero_or_pos u with h0 | h0
      · rw [h0, Lib.nDigits_small (by omega)]; omega
      · have := Lib.numDigits_eq u h0 hu; split at this <;> omega
    omega
  have HF := Ha hF
  clear hD hn hF h
  go_enter Tryz.func49, Tryz.ntmps49
  go_wp2_with fail
  refine Calls.mono HF.out ?_
  rintro e w' ⟨rfl, hB⟩
  have HB := Ha hB
  clear hB
  go_wp2_with fail
  go_ret
  exact ⟨by rw [HN.out]; rfl, HB.out⟩
theorem Name_small (u : Nat) (hu : u < 100) (w : World) : Calls Tryz.prog 49 #[.int .u64 (u : Nat)] w fun e w' => e = .returned (.string (mk (fileL u))) /\ Below w.heap.size w w' :=
  Format_any u (by omega) w fun _ _ => FormatI_small u hu _
end Go.Proofs.YtmpginmdaeclaaaGreatDoor
