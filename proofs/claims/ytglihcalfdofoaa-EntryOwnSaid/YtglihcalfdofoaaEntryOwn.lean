/-
  Proved: for every record the Go function beadrolllaw17.EntryOwn returns true, without a panic, and leaves its argument as it was.
  Conditions: none: every input of the Go types, of any size that a machine can hold.
-/
import Derived.Test.YtglihcalfdofoaaRows
import Derived.Test.YtglihcalfdofoaaOcJ
import Derived.Test.YtglihcalfdofoaaRecV
import Derived.Test.YtglihcalfdofoaaEntI
import Derived.Lib.SmallJoins
namespace Go.Proofs.Ytglihcalfdofoaa.entryOwn
open Go.ChangeShapes Go.WideShapes Go.ChangeAt Go.RowKit
open Go.ChangeMaps (open_string shut_string)
set_option linter.unusedVariables false
set_option maxRecDepth 100000 in
set_option maxHeartbeats 1000000 in
theorem lifted (os : Os) (started : os.Started) (H : Type) (enc : TypeId × Value → H) :
    ReturnsInHanded {} Try.checked os 5 .any (Rows.entryOwnSpec.pre6 enc Try.prog Try.f5 Rows.entryOwnRow.domain false) (Rows.entryOwnSpec.post enc Try.prog Try.f5 false true false false) := by
  refine returnsInHanded_of_change (C := Try.checked) try_own started (by kernel_rfl) Try.func5
    (ChangeSpec.witness6 (enc := enc) (C := Try.checked) false ⟨#[], #[.agg #[.string ByteArray.empty, .int .i64 0, .int .i64 0, .int .i64 0, .string ByteArray.empty]], []⟩ 8 (by kernel_rfl) (by kernel_rfl) (by kernel_rfl) (by kernel_rfl)) ?_
  intro W base args ds gs before hval0 hW hcnd _
  have hval : ∀ (j : Nat) t v, Try.f5.params[j]? = some t → args[j]? = some v → Value.okWide Try.prog W .any base t v := hval0
  have hW' := hW
  obtain ⟨p, q, hA0, hV, rfl, hfz, hnd⟩ := hW
  have hA : DataW.TrodAll enc Try.prog W 0 (fun _ => true) true Try.f5.params.toList args.toList ds p := hA0
  rw [Try.params5] at hA hval
  obtain ⟨v0, vs0, d0, ds0, p0, q0, hargs, rfl, rfl, h0, r0⟩ := trodAll_cons hA
  obtain ⟨rfl, rfl, rfl⟩ := trodAll_nil r0
  obtain rfl : args = #[v0] := by cases args; simp_all
  obtain ⟨rfl, rfl⟩ := trodVars_none hV
  have k0 := h0
  have lt0 : ∀ x ∈ p0, x.block < W.heap.size := by obtain ⟨m, hm⟩ := k0; exact DataW.trod_lt m _ _ _ hm
  obtain ⟨u00, u01, u02, u03, u04, y00, y01, y02, y03, y04, n0, rfl, rfl, t00, t01, t02, t03, t04⟩ := open_agg5 (enc := enc) Try.underlying44 (by kernel_rfl) (by kernel_rfl) (hval 0 44 v0 rfl rfl) h0
  obtain ⟨s00, e00, x00, _⟩ := DataW.trod_string Try.underlying9 t00
  obtain ⟨s04, e04, x04, _⟩ := DataW.trod_string Try.underlying9 t04
  obtain ⟨b01, e01, x01, _⟩ := DataW.trod_int Try.underlying3 t01
  obtain ⟨b02, e02, x02, _⟩ := DataW.trod_int Try.underlying3 t02
  obtain ⟨b03, e03, x03, _⟩ := DataW.trod_int Try.underlying3 t03
  obtain rfl : u00 = .string s00 := by simpa using e00
  obtain rfl : u04 = .string s04 := by simpa using e04
  obtain rfl : u01 = .int .i64 b01 := by simpa using e01
  obtain rfl : u02 = .int .i64 b02 := by simpa using e02
  obtain rfl : u03 = .int .i64 b03 := by simpa using e03
  subst x00 x01 x02 x03 x04
  clear hA0 hval0
  refine (EntryOwn_walk s00 s04 b01 b02 b03 W).mono fun e W' ⟨he, bel⟩ => ?_
  subst he
  exact ⟨_, rfl, _, _, _, [], _, [], hW', trodAll_mk1 (shut_bool Try.underlying4 _), (trodAll_cons_mk (Below.trod try_laid (by kernel_rfl) (of_decide_eq_true (by kernel_rfl)) k0 bel lt0) trodAll_mk0), rfl, bel.frame _, fun h => by cases h⟩

theorem proved : Rows.EntryOwnSaid :=
  OpenClaim.holds_of_wide 5 Try.f5 rfl rfl rfl rfl rfl rfl rfl ⟨rfl, rfl, rfl, rfl, rfl⟩ rfl rfl rfl rfl rfl (by kernel_rfl) Try.func5 (by kernel_rfl)
    (of_decide_eq_true (by kernel_rfl)) (by unfold Func.isWrapper; first | (rw [if_pos (by decide +kernel)]; kernel_rfl) | (rw [if_neg (by decide +kernel)]; exact ⟨rfl, rfl⟩))
    (fun os started H enc _ => lifted os started H enc)
#print axioms proved
end Go.Proofs.Ytglihcalfdofoaa.entryOwn
