/-
  Proved: for every list of entries and every entry the Go function beadrolllaw19.LogGaps returns true, without a panic, and leaves its arguments as they were.
  Conditions: the arguments hold at most 1048576 values and letters (uptoSmall of the Rows text); the listed package variables hold what the text lays in them (tied to the text by the card).
-/
import Derived.Test.YtggognnjnfphgaaGreatDoorRows
import Derived.Test.YtggognnjnfphgaaGreatDoorTie
import Derived.Test.YtggognnjnfphgaaGreatDoorCards
import Derived.Test.YtggognnjnfphgaaGreatDoorOcJ
import Derived.Test.YtggognnjnfphgaaGreatDoorLogW
import Derived.Test.YtggognnjnfphgaaGreatDoorLogV
import Derived.Lib.SmallJoins
import Derived.JoinedCond
namespace Go.Proofs.YtggognnjnfphgaaGreatDoor.logGaps
open Go.ChangeShapes Go.WideShapes Go.ChangeAt Go.RowKit
open Go.ChangeMaps (open_string shut_string)
set_option linter.unusedVariables false
set_option maxRecDepth 100000 in
set_option maxHeartbeats 1000000 in
theorem contract (H : Type) (enc : TypeId × Value → H) (W : World) (base : Nat) (args : Array Value) (ds gs : List (DataW H)) (before : List MemPlace)
    (hval0 : ∀ (j : Nat) t v, Tryz.f6.params[j]? = some t → args[j]? = some v → Value.okWide Tryz.prog W .any base t v)
    (hW : DataW.Whole enc Tryz.prog Tryz.f6.params.toList Rows.logGapsSpec.vars false W args.toList ds gs before) (hk : Rows.uptoSmall H (ds ++ gs) = true) :
    Calls Tryz.prog 6 args W fun e W' => ∃ v, e = .returned v ∧ Rows.logGapsSpec.post enc Tryz.prog Tryz.f6 false true false false W args v W' := by
  have hval : ∀ (j : Nat) t v, Tryz.f6.params[j]? = some t → args[j]? = some v → Value.okWide Tryz.prog W .any base t v := hval0
  have hW' := hW
  obtain ⟨p, q, hA0, hV, rfl, hfz, hnd⟩ := hW
  have hA : DataW.TrodAll enc Tryz.prog W 0 (fun _ => true) true Tryz.f6.params.toList args.toList ds p := hA0
  rw [Tryz.params6] at hA hval
  obtain ⟨v0, vs0, d0, ds0, p0, q0, hargs, rfl, rfl, h0, r0⟩ := trodAll_cons hA
  obtain ⟨v1, vs1, d1, ds1, p1, q1, rfl, rfl, rfl, h1, r1⟩ := trodAll_cons r0
  obtain ⟨rfl, rfl, rfl⟩ := trodAll_nil r1
  obtain rfl : args = #[v0, v1] := by cases args; simp_all
  obtain ⟨rfl, rfl⟩ := trodVars_none hV
  have hb : Rows.uptoBulkAll ((d0 :: d1 :: []) ++ ([] : List (DataW H))) ≤ 1048576 := of_decide_eq_true hk
  have hd0 : Rows.uptoBulk d0 ≤ 1048576 := by simp only [List.cons_append, Rows.uptoBulkAll] at hb; omega
  have hd1 : Rows.uptoBulk d1 ≤ 1048576 := by simp only [List.cons_append, Rows.uptoBulkAll] at hb; omega
  have k0 := h0
  have lt0 : ∀ x ∈ p0, x.block < W.heap.size := by obtain ⟨m, hm⟩ := k0; exact DataW.trod_lt m _ _ _ hm
  obtain ⟨a0, len0, cap0, rfl⟩ := okWide_slice Tryz.underlying26 (hval 0 26 v0 rfl rfl)
  obtain ⟨z0, e10, e20, e30, e40, e50⟩ := entries_in h0
  have k1 := h1
  have lt1 : ∀ x ∈ p1, x.block < W.heap.size := by obtain ⟨m, hm⟩ := k1; exact DataW.trod_lt m _ _ _ hm
  obtain ⟨f, t, A, A', n, c, n', c', xs, ys, rfl, s1, s2, w1, w2, hbulk⟩ := entry_in (hval 1 45 v1 rfl rfl) h1
  clear hA0 hval0
  refine (LogGaps_walk a0 len0 cap0 z0 ⟨f, t, A, n, c, xs, A', n', c', ys⟩ W e10 e20 (fun v hv => by have := e30 v hv; omega) (fun v hv => by rw [List.mem_singleton] at hv; subst hv; exact ⟨seesK_in s1, seesK_in s2⟩) (fun v hv => by rw [List.mem_singleton] at hv; subst hv; exact ⟨by show n ≤ _; omega, by show n' ≤ _; omega⟩) w1 w2).mono fun e W' ⟨he, bel⟩ => ?_
  subst he
  exact ⟨_, rfl, _, _, _, [], _, [], hW', trodAll_mk1 (shut_bool Tryz.underlying4 _), (trodAll_cons_mk (Below.trod try_laid (by kernel_rfl) (of_decide_eq_true (by kernel_rfl)) k0 bel lt0) (trodAll_cons_mk (Below.trod try_laid (by kernel_rfl) (of_decide_eq_true (by kernel_rfl)) k1 bel lt1) trodAll_mk0)), rfl, bel.frame _, fun h => by cases h⟩
set_option maxRecDepth 100000 in
set_option maxHeartbeats 1000000 in
theorem lifted (os : Os) (started : os.Started) (H : Type) (enc : TypeId × Value → H) (F : Stop.Interp) :
    ReturnsInHanded {} Tryz.checked os 6 .any (fun w args => ((Rows.OpenSpec.upto Rows.logGapsSpec).pre enc Tryz.prog Tryz.f6 [] false w args ∧ laidMetH Tryz.prog lay3 w) ∧ sizedMet enc Tryz.prog Tryz.f6 (Rows.OpenSpec.upto Rows.logGapsSpec) false w args)
      (((Rows.OpenSpec.upto Rows.logGapsSpec).at F).post enc Tryz.prog Tryz.f6 false true false false) := by
  refine cond_and_laid (C := Tryz.checked) (s := Rows.OpenSpec.upto Rows.logGapsSpec) (k := Rows.uptoSmall) rfl (X := fun w _ => laidMetH Tryz.prog lay3 w) try_own started (by kernel_rfl) Tryz.func6
    (cond_witness (enc := enc) (C := Tryz.checked) (os := os) (s := Rows.OpenSpec.upto Rows.logGapsSpec) (k := Rows.uptoSmall) rfl (X := fun w _ => laidMetH Tryz.prog lay3 w) (World.doorLaid Tryz.prog 65 os) #[.slice none 0 0, .agg #[.int .u32 0, .int .u32 0, .slice none 0 0, .slice none 0 0]] 8 rfl (World.shaped_of_RefB (by kernel_rfl) (by kernel_rfl)) (by kernel_rfl)
      (x := ([.nil, .agg [.lit (.int .u32 0), .lit (.int .u32 0), .nil, .nil]], [], [])) (by kernel_rfl) rfl (by kernel_rfl) (by kernel_rfl) (door3 os _)) ?_
  intro W base args ds gs before hval hW hk
  exact contract H enc W base args ds gs before hval hW hk
theorem row_holds : Rows.LogGapsUptoSaid :=
  OpenClaim.holds_of_cond 6 Tryz.f6 rfl rfl rfl rfl rfl rfl rfl ⟨rfl, rfl, rfl, rfl, rfl⟩ rfl rfl rfl rfl rfl (by kernel_rfl) Tryz.func6 (by kernel_rfl)
    (of_decide_eq_true (by kernel_rfl)) (by unfold Func.isWrapper; first | (rw [if_pos (by decide +kernel)]; kernel_rfl) | (rw [if_neg (by decide +kernel)]; exact ⟨rfl, rfl⟩))
    (fun os started H enc _ F => lifted os started H enc F)
theorem proved : Rows.LogGapsUptoCardSaid :=
  Claim7.holds_tied_plain_at .later [] [.data, .data, .data] true _ _
    row_holds (fun _ h => by cases h) (by kernel_rfl) (fun _ h => by cases h) logGapsUpto_row_tie rfl ⟨rfl, rfl⟩ (by kernel_rfl) rfl
    (fun f fn hf hfn => by
      obtain rfl : f = 6 := Option.some.inj (hf.symm.trans (show Tryz.prog.funcNamed Rows.logGapsUptoRow.func = some 6 by kernel_rfl))
      obtain rfl : fn = Tryz.f6 := (Option.some.inj (Tryz.func6.symm.trans hfn)).symm
      exact ⟨by kernel_rfl, fun j t ht => by
        rw [Tryz.params6] at ht
        have hm : t ∈ [26, 45] := by simpa using Array.mem_of_getElem? ht
        have hall : ([26, 45].all fun u => !Tryz.prog.wantsStandIn u) = true := by kernel_rfl
        exact (show Tryz.prog.wantsStandIn t = false by simpa using List.all_eq_true.1 hall t hm)⟩)
    (by kernel_rfl)
#print axioms proved
end Go.Proofs.YtggognnjnfphgaaGreatDoor.logGaps
