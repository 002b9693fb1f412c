/- The reference's Alike, Parent, Wild. -/
import Derived.Test.YtdanncclnhkmgaaNamK
namespace Go.Proofs.Ytdanncclnhkmgaa
open Go.RowKit

set_option maxHeartbeats 1000000 in
theorem RefAlike_any (A B : ByteArray) (a b : List UInt8) (w : World) (hA : A = mk a) (hB : B = mk b) :
    Calls Try.prog 35 #[.string A, .string B] w fun e w' => e = .returned (.bool (alikeN a b)) ∧ Below w.heap.size w w' := by
  have HA := Lib.hid hA
  have HB := Lib.hid hB
  clear hA hB
  cases h : nameL a with
  | none =>
    have h' : (nameL a).isSome = false := by rw [h]; rfl
    have hal : alikeN a b = false := by unfold alikeN; rw [h]
    rw [hal]
    clear h hal
    go_enter Try.func35, Try.ntmps35
    go_wp2_with fail
    refine (RefRight_any A a _ HA.out).mono ?_
    rw [h']
    rintro e w1 ⟨rfl, hB1⟩
    go_wp2_with fail
    go_ret
    exact ⟨rfl, hB1⟩
  | some L =>
    have h' : (nameL a).isSome = true := by rw [h]; rfl
    cases k : nameL b with
    | none =>
      have k' : (nameL b).isSome = false := by rw [k]; rfl
      have hal : alikeN a b = false := by unfold alikeN; rw [h, k]
      rw [hal]
      clear h k hal
      go_enter Try.func35, Try.ntmps35
      go_wp2_with fail
      refine (RefRight_any A a _ HA.out).mono ?_
      rw [h']
      rintro e w1 ⟨rfl, hB1⟩
      go_wp2_with fail
      refine (RefRight_any B b _ HB.out).mono ?_
      rw [k']
      rintro e w2 ⟨rfl, hB2⟩
      go_wp2_with fail
      go_ret
      exact ⟨rfl, hB1.trans (hB2.mono hB1.size)⟩
    | some M =>
      have k' : (nameL b).isSome = true := by rw [k]; rfl
      have hal : ((mk (foldL a)).toList == (mk (foldL b)).toList) = alikeN a b := by rw [mk_beq, alike_fold a b h]
      clear h k
      go_enter Try.func35, Try.ntmps35
      go_wp2_with fail
      refine (RefRight_any A a _ HA.out).mono ?_
      rw [h']
      rintro e w1 ⟨rfl, hB1⟩
      go_wp2_with fail
      refine (RefRight_any B b _ HB.out).mono ?_
      rw [k']
      rintro e w2 ⟨rfl, hB2⟩
      have GB2 := hB1.trans (hB2.mono hB1.size)
      go_wp2_with fail
      refine (RefFold_any A a _ HA.out).mono ?_
      rintro e w3 ⟨rfl, hB3⟩
      have GB3 := GB2.trans (hB3.mono GB2.size)
      go_wp2_with fail
      refine (RefFold_any B b _ HB.out).mono ?_
      rintro e w4 ⟨rfl, hB4⟩
      go_wp2_with fail
      go_ret
      exact ⟨rfl, GB3.trans (hB4.mono GB3.size)⟩

theorem name_parts (s : List UInt8) : nameL s = none ∨ nameL s = some [] ∨ ∃ x M, nameL s = some (x :: M) := by
  cases h : nameL s with
  | none => exact .inl rfl
  | some L => cases L with
    | nil => exact .inr (.inl rfl)
    | cons x M => exact .inr (.inr ⟨x, M, rfl⟩)

end Go.Proofs.Ytdanncclnhkmgaa
