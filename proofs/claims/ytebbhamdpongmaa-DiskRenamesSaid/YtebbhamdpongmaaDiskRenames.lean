/-
  Proved: for every old file, next file, choices and either way of syncing the Go function beadrolllaw04.DiskRenames returns true, without a panic, and leaves its argument as it was.
  Conditions: none: every input of the Go types.
-/
import Derived.Test.YtebbhamdpongmaaRows
import Derived.Test.YtebbhamdpongmaaFrame
import Derived.Lib.SmallJoins
import Derived.Test.YtebbhamdpongmaaDkO
namespace Go.Proofs.Ytebbhamdpongmaa.diskRenames
open Go.ChangeShapes Go.WideShapes Go.ChangeAt Go.RowKit
open Go.ChangeMaps (open_string shut_string)
set_option linter.unusedVariables false
set_option maxRecDepth 100000 in
theorem lifted (os : Os) (started : os.Started) (H : Type) (enc : TypeId × Value → H) :
    ReturnsInHanded {} Try.checked os 6 .any (Rows.diskRenamesSpec.pre6 enc Try.prog Try.f6 Rows.diskRenamesRow.domain false) (Rows.diskRenamesSpec.post enc Try.prog Try.f6 false true false false) := by
  refine returnsInHanded_of_change_sized (C := Try.checked) try_own started (by kernel_rfl) Try.func6
    (ChangeSpec.witness6 (enc := enc) (C := Try.checked) false ⟨#[], #[.agg #[.string ByteArray.empty, .string ByteArray.empty, .string ByteArray.empty, .bool false]], []⟩ 8 (by kernel_rfl) (by kernel_rfl) (by kernel_rfl) (by kernel_rfl)) ?_
  intro W base args ds gs before hval0 hW hcnd hsized _
  have hval : ∀ (j : Nat) t v, Try.f6.params[j]? = some t → args[j]? = some v → Value.okWide Try.prog W .any base t v := hval0
  have hW' := hW
  obtain ⟨p, q, hA0, hV, rfl, hfz, hnd⟩ := hW
  have hA : DataW.TrodAll enc Try.prog W 0 (fun _ => true) true Try.f6.params.toList args.toList ds p := hA0
  rw [Try.params6] at hA hval
  obtain ⟨v0, vs0, d0, ds0, p0, q0, hargs, rfl, rfl, h0, r0⟩ := trodAll_cons hA
  obtain ⟨rfl, rfl, rfl⟩ := trodAll_nil r0
  obtain rfl : args = #[v0] := by cases args; simp_all
  obtain ⟨rfl, rfl⟩ := trodVars_none hV
  have k0 := h0
  have lt0 : ∀ x ∈ p0, x.block < W.heap.size := by obtain ⟨m, hm⟩ := k0; exact DataW.trod_lt m _ _ _ hm
  obtain ⟨u0, u1, u2, u3, y0, y1, y2, y3, n0, rfl, rfl, _, t0, t1, t2, t3⟩ := Joins.open_agg4 (enc := enc) Try.underlying54 (by kernel_rfl) (by kernel_rfl) (hval 0 54 v0 rfl rfl) h0
  obtain ⟨a0, e0, x0, _⟩ := DataW.trod_string Try.underlying9 t0
  obtain ⟨a1, e1, x1, _⟩ := DataW.trod_string Try.underlying9 t1
  obtain ⟨a2, e2, x2, _⟩ := DataW.trod_string Try.underlying9 t2
  obtain ⟨a3, e3, x3⟩ := DataW.trod_bool Try.underlying4 t3
  obtain rfl : u0 = .string a0 := by simpa using e0
  obtain rfl : u1 = .string a1 := by simpa using e1
  obtain rfl : u2 = .string a2 := by simpa using e2
  obtain rfl : u3 = .bool a3 := by simpa using e3
  subst x0 x1 x2 x3
  have hu : Try.checked.prog.underlying 54 = _ := Try.underlying54
  have z0 : a0.size ≤ 140737488351232 := size_reach (by
    have := List.all_eq_true.1 hsized _ (DataW.weights_mem_each (j := 0) (t := 54) rfl rfl a0.data.toList.length (by simp [DataW.weights, DataW.weightsEach, hu]))
    simpa using this)
  have z1 : a1.size ≤ 140737488351232 := size_reach (by
    have := List.all_eq_true.1 hsized _ (DataW.weights_mem_each (j := 0) (t := 54) rfl rfl a1.data.toList.length (by simp [DataW.weights, DataW.weightsEach, hu]))
    simpa using this)
  clear hA0 hval0
  refine (DiskRenames_walk a0 a1 a2 a3 W z0 z1).mono fun e W' ⟨he, bel⟩ => ?_
  subst he
  exact ⟨_, rfl, _, _, _, [], _, [], hW', trodAll_mk1 (shut_bool Try.underlying4 _), (trodAll_cons_mk (Below.trod try_laid (by kernel_rfl) (of_decide_eq_true (by kernel_rfl)) k0 bel lt0) trodAll_mk0), rfl, bel.frame _, fun h => by cases h⟩

theorem proved : Rows.DiskRenamesSaid :=
  OpenClaim.holds_of_wide 6 Try.f6 rfl rfl rfl rfl rfl rfl rfl ⟨rfl, rfl, rfl, rfl, rfl⟩ rfl rfl rfl rfl rfl (by kernel_rfl) Try.func6 (by kernel_rfl)
    (of_decide_eq_true (by kernel_rfl)) (by unfold Func.isWrapper; first | (rw [if_pos (by decide +kernel)]; kernel_rfl) | (rw [if_neg (by decide +kernel)]; exact ⟨rfl, rfl⟩))
    (fun os started H enc _ => lifted os started H enc)
#print axioms proved
end Go.Proofs.Ytebbhamdpongmaa.diskRenames
