/-
  Proved: for every list of records and every record the Go function beadrolllaw13.RrsetFinds returns true, without a panic, and leaves its arguments as they were.
  Conditions: none: every input of the Go types, of any size that a machine can hold.
-/
import Derived.Test.YtkgojdmjagicdaaRows
import Derived.Test.YtkgojdmjagicdaaOcJ
import Derived.Test.YtkgojdmjagicdaaRrsV
import Derived.Test.YtkgojdmjagicdaaRrsQ
import Derived.Lib.SmallJoins
namespace Go.Proofs.Ytkgojdmjagicdaa.rrsetFinds
open Go.ChangeShapes Go.WideShapes Go.ChangeAt Go.RowKit
open Go.ChangeMaps (open_string shut_string)
set_option linter.unusedVariables false
set_option maxRecDepth 100000 in
set_option maxHeartbeats 1000000 in
theorem lifted (os : Os) (started : os.Started) (H : Type) (enc : TypeId × Value → H) :
    ReturnsInHanded {} Try.checked os 4 .any (Rows.rrsetFindsSpec.pre6 enc Try.prog Try.f4 Rows.rrsetFindsRow.domain false) (Rows.rrsetFindsSpec.post enc Try.prog Try.f4 false true false false) := by
  refine returnsInHanded_of_change (C := Try.checked) try_own started (by kernel_rfl) Try.func4
    (ChangeSpec.witness6 (enc := enc) (C := Try.checked) false ⟨#[], #[.slice none 0 0, .agg #[.string ByteArray.empty, .int .i64 0, .int .i64 0, .int .i64 0, .string ByteArray.empty]], []⟩ 8 (by kernel_rfl) (by kernel_rfl) (by kernel_rfl) (by kernel_rfl)) ?_
  intro W base args ds gs before hval0 hW hcnd _
  have hval : ∀ (j : Nat) t v, Try.f4.params[j]? = some t → args[j]? = some v → Value.okWide Try.prog W .any base t v := hval0
  have hW' := hW
  obtain ⟨p, q, hA0, hV, rfl, hfz, hnd⟩ := hW
  have hA : DataW.TrodAll enc Try.prog W 0 (fun _ => true) true Try.f4.params.toList args.toList ds p := hA0
  rw [Try.params4] at hA hval
  obtain ⟨v0, vs0, d0, ds0, p0, q0, hargs, rfl, rfl, h0, r0⟩ := trodAll_cons hA
  obtain ⟨v1, vs1, d1, ds1, p1, q1, rfl, rfl, rfl, h1, r1⟩ := trodAll_cons r0
  obtain ⟨rfl, rfl, rfl⟩ := trodAll_nil r1
  obtain rfl : args = #[v0, v1] := by cases args; simp_all
  obtain ⟨rfl, rfl⟩ := trodVars_none hV
  obtain ⟨a0, len0, cap0, rfl⟩ := okWide_slice Try.underlying22 (hval 0 22 v0 rfl rfl)
  have k0 := h0
  have lt0 : ∀ x ∈ p0, x.block < W.heap.size := by obtain ⟨m, hm⟩ := k0; exact DataW.trod_lt m _ _ _ hm
  obtain ⟨z0, w0, c0, n0⟩ := recs_in3 h0
  have k1 := h1
  have lt1 : ∀ x ∈ p1, x.block < W.heap.size := by obtain ⟨m, hm⟩ := k1; exact DataW.trod_lt m _ _ _ hm
  obtain ⟨u10, u11, u12, u13, u14, y10, y11, y12, y13, y14, n1, rfl, rfl, t10, t11, t12, t13, t14⟩ := open_agg5 (enc := enc) Try.underlying24 (by kernel_rfl) (by kernel_rfl) (hval 1 24 v1 rfl rfl) h1
  obtain ⟨s10, e10, x10, _⟩ := DataW.trod_string Try.underlying9 t10
  obtain ⟨s14, e14, x14, _⟩ := DataW.trod_string Try.underlying9 t14
  obtain ⟨b11, e11, x11, _⟩ := DataW.trod_int Try.underlying3 t11
  obtain ⟨b12, e12, x12, _⟩ := DataW.trod_int Try.underlying3 t12
  obtain ⟨b13, e13, x13, _⟩ := DataW.trod_int Try.underlying3 t13
  obtain rfl : u10 = .string s10 := by simpa using e10
  obtain rfl : u14 = .string s14 := by simpa using e14
  obtain rfl : u11 = .int .i64 b11 := by simpa using e11
  obtain rfl : u12 = .int .i64 b12 := by simpa using e12
  obtain rfl : u13 = .int .i64 b13 := by simpa using e13
  subst x10 x11 x12 x13 x14
  clear hA0 hval0
  refine (RrsetFinds_walk a0 len0 cap0 z0 ⟨s10, b11, b12, b13, s14⟩ W w0 c0 n0).mono fun e W' ⟨he, bel⟩ => ?_
  subst he
  exact ⟨_, rfl, _, _, _, [], _, [], hW', trodAll_mk1 (shut_bool Try.underlying4 _), (trodAll_cons_mk (Below.trod try_laid (by kernel_rfl) (of_decide_eq_true (by kernel_rfl)) k0 bel lt0) (trodAll_cons_mk (Below.trod try_laid (by kernel_rfl) (of_decide_eq_true (by kernel_rfl)) k1 bel lt1) trodAll_mk0)), rfl, bel.frame _, fun h => by cases h⟩

theorem proved : Rows.RrsetFindsSaid :=
  OpenClaim.holds_of_wide 4 Try.f4 rfl rfl rfl rfl rfl rfl rfl ⟨rfl, rfl, rfl, rfl, rfl⟩ rfl rfl rfl rfl rfl (by kernel_rfl) Try.func4 (by kernel_rfl)
    (of_decide_eq_true (by kernel_rfl)) (by unfold Func.isWrapper; first | (rw [if_pos (by decide +kernel)]; kernel_rfl) | (rw [if_neg (by decide +kernel)]; exact ⟨rfl, rfl⟩))
    (fun os started H enc _ => lifted os started H enc)
#print axioms proved
end Go.Proofs.Ytkgojdmjagicdaa.rrsetFinds
