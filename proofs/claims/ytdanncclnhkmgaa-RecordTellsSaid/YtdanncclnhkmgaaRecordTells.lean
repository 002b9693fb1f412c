/-
  Proved: for every two records the Go function beadrolllaw11.RecordTells returns true, without a panic, and leaves its arguments as they were.
  Conditions: none: every input of the Go types, of any size that a machine can hold.
-/
import Derived.Test.YtdanncclnhkmgaaRows
import Derived.Test.YtdanncclnhkmgaaFrame
import Derived.Test.YtdanncclnhkmgaaRecV
import Derived.Test.YtdanncclnhkmgaaRecG
import Derived.Lib.SmallJoins
namespace Go.Proofs.Ytdanncclnhkmgaa.recordTells
open Go.ChangeShapes Go.WideShapes Go.ChangeAt Go.RowKit
open Go.ChangeMaps (open_string shut_string)
set_option linter.unusedVariables false
set_option maxRecDepth 100000 in
set_option maxHeartbeats 1000000 in
theorem lifted (os : Os) (started : os.Started) (H : Type) (enc : TypeId × Value → H) :
    ReturnsInHanded {} Try.checked os 3 .any (Rows.recordTellsSpec.pre6 enc Try.prog Try.f3 Rows.recordTellsRow.domain false) (Rows.recordTellsSpec.post enc Try.prog Try.f3 false true false false) := by
  refine returnsInHanded_of_change (C := Try.checked) try_own started (by kernel_rfl) Try.func3
    (ChangeSpec.witness6 (enc := enc) (C := Try.checked) false ⟨#[], #[.agg #[.string ByteArray.empty, .int .i64 0, .int .i64 0, .int .i64 0, .string ByteArray.empty], .agg #[.string ByteArray.empty, .int .i64 0, .int .i64 0, .int .i64 0, .string ByteArray.empty]], []⟩ 8 (by kernel_rfl) (by kernel_rfl) (by kernel_rfl) (by kernel_rfl)) ?_
  intro W base args ds gs before hval0 hW hcnd _
  have hval : ∀ (j : Nat) t v, Try.f3.params[j]? = some t → args[j]? = some v → Value.okWide Try.prog W .any base t v := hval0
  have hW' := hW
  obtain ⟨p, q, hA0, hV, rfl, hfz, hnd⟩ := hW
  have hA : DataW.TrodAll enc Try.prog W 0 (fun _ => true) true Try.f3.params.toList args.toList ds p := hA0
  rw [Try.params3] at hA hval
  obtain ⟨v0, vs0, d0, ds0, p0, q0, hargs, rfl, rfl, h0, r0⟩ := trodAll_cons hA
  obtain ⟨v1, vs1, d1, ds1, p1, q1, rfl, rfl, rfl, h1, r1⟩ := trodAll_cons r0
  obtain ⟨rfl, rfl, rfl⟩ := trodAll_nil r1
  obtain rfl : args = #[v0, v1] := by cases args; simp_all
  obtain ⟨rfl, rfl⟩ := trodVars_none hV
  have k0 := h0
  have lt0 : ∀ x ∈ p0, x.block < W.heap.size := by obtain ⟨m, hm⟩ := k0; exact DataW.trod_lt m _ _ _ hm
  obtain ⟨u00, u01, u02, u03, u04, y00, y01, y02, y03, y04, n0, rfl, rfl, t00, t01, t02, t03, t04⟩ := open_agg5 (enc := enc) Try.underlying23 (by kernel_rfl) (by kernel_rfl) (hval 0 23 v0 rfl rfl) h0
  obtain ⟨s00, e00, x00, _⟩ := DataW.trod_string Try.underlying9 t00
  obtain ⟨s04, e04, x04, _⟩ := DataW.trod_string Try.underlying9 t04
  obtain ⟨b01, e01, x01, _⟩ := DataW.trod_int Try.underlying3 t01
  obtain ⟨b02, e02, x02, _⟩ := DataW.trod_int Try.underlying3 t02
  obtain ⟨b03, e03, x03, _⟩ := DataW.trod_int Try.underlying3 t03
  obtain rfl : u00 = .string s00 := by simpa using e00
  obtain rfl : u04 = .string s04 := by simpa using e04
  obtain rfl : u01 = .int .i64 b01 := by simpa using e01
  obtain rfl : u02 = .int .i64 b02 := by simpa using e02
  obtain rfl : u03 = .int .i64 b03 := by simpa using e03
  subst x00 x01 x02 x03 x04
  have k1 := h1
  have lt1 : ∀ x ∈ p1, x.block < W.heap.size := by obtain ⟨m, hm⟩ := k1; exact DataW.trod_lt m _ _ _ hm
  obtain ⟨u10, u11, u12, u13, u14, y10, y11, y12, y13, y14, n1, rfl, rfl, t10, t11, t12, t13, t14⟩ := open_agg5 (enc := enc) Try.underlying23 (by kernel_rfl) (by kernel_rfl) (hval 1 23 v1 rfl rfl) h1
  obtain ⟨s10, e10, x10, _⟩ := DataW.trod_string Try.underlying9 t10
  obtain ⟨s14, e14, x14, _⟩ := DataW.trod_string Try.underlying9 t14
  obtain ⟨b11, e11, x11, _⟩ := DataW.trod_int Try.underlying3 t11
  obtain ⟨b12, e12, x12, _⟩ := DataW.trod_int Try.underlying3 t12
  obtain ⟨b13, e13, x13, _⟩ := DataW.trod_int Try.underlying3 t13
  obtain rfl : u10 = .string s10 := by simpa using e10
  obtain rfl : u14 = .string s14 := by simpa using e14
  obtain rfl : u11 = .int .i64 b11 := by simpa using e11
  obtain rfl : u12 = .int .i64 b12 := by simpa using e12
  obtain rfl : u13 = .int .i64 b13 := by simpa using e13
  subst x10 x11 x12 x13 x14
  clear hA0 hval0
  refine (RecordTells_walk s00 s04 s10 s14 b01 b02 b03 b11 b12 b13 W).mono fun e W' ⟨he, bel⟩ => ?_
  subst he
  exact ⟨_, rfl, _, _, _, [], _, [], hW', trodAll_mk1 (shut_bool Try.underlying4 _), (trodAll_cons_mk (Below.trod try_laid (by kernel_rfl) (of_decide_eq_true (by kernel_rfl)) k0 bel lt0) (trodAll_cons_mk (Below.trod try_laid (by kernel_rfl) (of_decide_eq_true (by kernel_rfl)) k1 bel lt1) trodAll_mk0)), rfl, bel.frame _, fun h => by cases h⟩

theorem proved : Rows.RecordTellsSaid :=
  OpenClaim.holds_of_wide 3 Try.f3 rfl rfl rfl rfl rfl rfl rfl ⟨rfl, rfl, rfl, rfl, rfl⟩ rfl rfl rfl rfl rfl (by kernel_rfl) Try.func3 (by kernel_rfl)
    (of_decide_eq_true (by kernel_rfl)) (by unfold Func.isWrapper; first | (rw [if_pos (by decide +kernel)]; kernel_rfl) | (rw [if_neg (by decide +kernel)]; exact ⟨rfl, rfl⟩))
    (fun os started H enc _ => lifted os started H enc)
#print axioms proved
end Go.Proofs.Ytdanncclnhkmgaa.recordTells
