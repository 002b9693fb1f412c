/-
  Proved: for every string and every SOA the Go function beadrolllaw10.RdataSoa returns true, without a panic, and leaves its arguments as they were.
  Conditions: none: every input of the Go types, of any size that a machine can hold.
-/
import Derived.Test.YtgnfleldkjhgcaaRows
import Derived.Test.YtgnfleldkjhgcaaFrame
import Derived.Lib.SmallJoins
import Derived.Test.YtgnfleldkjhgcaaRdaV
import Derived.Test.YtgnfleldkjhgcaaRdaU
namespace Go.Proofs.Ytgnfleldkjhgcaa.rdataSoa
open Go.ChangeShapes Go.WideShapes Go.ChangeAt Go.RowKit
open Go.ChangeMaps (open_string shut_string)
set_option linter.unusedVariables false
theorem u32_nat {n : Int} (h : (Lit.int .u32 n).wf = true) : ∃ k : Nat, n = (k : Int) ∧ k < 4294967296 := by
  have hmin : IntKind.u32.min = 0 := rfl
  have hmax : IntKind.u32.max = 4294967295 := rfl
  simp only [Lit.wf, Bool.and_eq_true, decide_eq_true_eq, hmin, hmax] at h
  exact ⟨n.toNat, by omega, by omega⟩
set_option maxRecDepth 100000 in
set_option maxHeartbeats 1000000 in
theorem lifted (os : Os) (started : os.Started) (H : Type) (enc : TypeId × Value → H) :
    ReturnsInHanded {} Try.checked os 5 .any (Rows.rdataSoaSpec.pre6 enc Try.prog Try.f5 Rows.rdataSoaRow.domain false) (Rows.rdataSoaSpec.post enc Try.prog Try.f5 false true false false) := by
  refine returnsInHanded_of_change_sized (C := Try.checked) try_own started (by kernel_rfl) Try.func5
    (ChangeSpec.witness6 (enc := enc) (C := Try.checked) false ⟨#[], #[.string ByteArray.empty, .agg #[.string ByteArray.empty, .string ByteArray.empty, .int .u32 0, .int .u32 0, .int .u32 0, .int .u32 0, .int .u32 0]], []⟩ 8 (by kernel_rfl) (by kernel_rfl) (by kernel_rfl) (by kernel_rfl)) ?_
  intro W base args ds gs before hval0 hW hcnd hsized _
  have hval : ∀ (j : Nat) t v, Try.f5.params[j]? = some t → args[j]? = some v → Value.okWide Try.prog W .any base t v := hval0
  have hW' := hW
  obtain ⟨p, q, hA0, hV, rfl, hfz, hnd⟩ := hW
  have hA : DataW.TrodAll enc Try.prog W 0 (fun _ => true) true Try.f5.params.toList args.toList ds p := hA0
  rw [Try.params5] at hA hval
  obtain ⟨v0, vs0, d0, ds0, p0, q0, hargs, rfl, rfl, h0, r0⟩ := trodAll_cons hA
  obtain ⟨v1, vs1, d1, ds1, p1, q1, rfl, rfl, rfl, h1, r1⟩ := trodAll_cons r0
  obtain ⟨rfl, rfl, rfl⟩ := trodAll_nil r1
  obtain rfl : args = #[v0, v1] := by cases args; simp_all
  obtain ⟨rfl, rfl⟩ := trodVars_none hV
  obtain ⟨a0, rfl, rfl, rfl, w0⟩ := open_string Try.underlying9 (hval 0 9 v0 rfl rfl) h0
  have z0 : a0.size ≤ 140737488351232 := size_reach (sized_string hsized (j := 0) rfl rfl)
  have k1 := h1
  have lt1 : ∀ x ∈ p1, x.block < W.heap.size := by obtain ⟨m, hm⟩ := k1; exact DataW.trod_lt m _ _ _ hm
  obtain ⟨u0, u1, u2, u3, u4, u5, u6, y0, y1, y2, y3, y4, y5, y6, n0, rfl, rfl, t0, t1, t2, t3, t4, t5, t6⟩ := open_agg7 (enc := enc) Try.underlying44 (by kernel_rfl) (by kernel_rfl) (hval 1 44 v1 rfl rfl) h1
  obtain ⟨a1, e1, x1, _⟩ := DataW.trod_string Try.underlying9 t0
  obtain ⟨a2, e2, x2, _⟩ := DataW.trod_string Try.underlying9 t1
  obtain ⟨b2, f2, g2, i2⟩ := DataW.trod_int Try.underlying42 t2
  obtain ⟨b3, f3, g3, i3⟩ := DataW.trod_int Try.underlying42 t3
  obtain ⟨b4, f4, g4, i4⟩ := DataW.trod_int Try.underlying42 t4
  obtain ⟨b5, f5, g5, i5⟩ := DataW.trod_int Try.underlying42 t5
  obtain ⟨b6, f6, g6, i6⟩ := DataW.trod_int Try.underlying42 t6
  obtain rfl : u0 = .string a1 := by simpa using e1
  obtain rfl : u1 = .string a2 := by simpa using e2
  obtain rfl : u2 = .int .u32 b2 := by simpa using f2
  obtain rfl : u3 = .int .u32 b3 := by simpa using f3
  obtain rfl : u4 = .int .u32 b4 := by simpa using f4
  obtain rfl : u5 = .int .u32 b5 := by simpa using f5
  obtain rfl : u6 = .int .u32 b6 := by simpa using f6
  subst x1 x2 g2 g3 g4 g5 g6
  have hu : Try.checked.prog.underlying 44 = _ := Try.underlying44
  have z1 : a1.size ≤ 140737488351232 := size_reach (by
    have := List.all_eq_true.1 hsized _ (DataW.weights_mem_each (j := 1) (t := 44) rfl rfl a1.data.toList.length (by simp [DataW.weights, DataW.weightsEach, hu]))
    simpa using this)
  have z2 : a2.size ≤ 140737488351232 := size_reach (by
    have := List.all_eq_true.1 hsized _ (DataW.weights_mem_each (j := 1) (t := 44) rfl rfl a2.data.toList.length (by simp [DataW.weights, DataW.weightsEach, hu]))
    simpa using this)
  obtain ⟨m2, rfl, l2⟩ := u32_nat i2
  obtain ⟨m3, rfl, l3⟩ := u32_nat i3
  obtain ⟨m4, rfl, l4⟩ := u32_nat i4
  obtain ⟨m5, rfl, l5⟩ := u32_nat i5
  obtain ⟨m6, rfl, l6⟩ := u32_nat i6
  clear hA0 hval0
  refine (RdataSoa_walk a0 a1 a2 m2 m3 m4 m5 m6 W z0 z1 z2 ⟨l2, l3, l4, l5, l6⟩).mono fun e W' ⟨he, bel⟩ => ?_
  subst he
  exact ⟨_, rfl, _, _, _, [], _, [], hW', trodAll_mk1 (shut_bool Try.underlying4 _), (trodAll_cons_mk (shut_string Try.underlying9 w0) (trodAll_cons_mk (Below.trod try_laid (by kernel_rfl) (of_decide_eq_true (by kernel_rfl)) k1 bel lt1) trodAll_mk0)), rfl, bel.frame _, fun h => by cases h⟩

theorem proved : Rows.RdataSoaSaid :=
  OpenClaim.holds_of_wide 5 Try.f5 rfl rfl rfl rfl rfl rfl rfl ⟨rfl, rfl, rfl, rfl, rfl⟩ rfl rfl rfl rfl rfl (by kernel_rfl) Try.func5 (by kernel_rfl)
    (of_decide_eq_true (by kernel_rfl)) (by unfold Func.isWrapper; first | (rw [if_pos (by decide +kernel)]; kernel_rfl) | (rw [if_neg (by decide +kernel)]; exact ⟨rfl, rfl⟩))
    (fun os started H enc _ => lifted os started H enc)
#print axioms proved
end Go.Proofs.Ytgnfleldkjhgcaa.rdataSoa
