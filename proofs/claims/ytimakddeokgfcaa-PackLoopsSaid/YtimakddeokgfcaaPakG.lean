/- awake; PackReads. No statement of the seat is proved here. -/
import Derived.Test.YtimakddeokgfcaaPakS
import Derived.Test.YtimakddeokgfcaaPakN
import Derived.Test.YtimakddeokgfcaaPakE
import Derived.Test.YtimakddeokgfcaaFrame
namespace Go.Proofs.Ytimakddeokgfcaa
open Go.RowKit

def aName : List UInt8 := [1, 97, 0]
theorem a_name : nameL aName = some [[97]] := by
  have : aName = enc [[97]] := rfl
  rw [this]
  exact nameL_enc (by intro x hx; simp at hx; subst hx; simp) (by decide)
theorem a_put : (putL true [[97]] [] noneK).1 = aName := rfl

set_option maxHeartbeats 1000000 in
theorem awake_any (w : World) : Calls Try.prog 8 #[] w fun e w' => e = .returned (.bool true) ∧ Below w.heap.size w w' := by
  have HP := Lib.hid a_put
  go_enter Try.func8, Try.ntmps8
  go_wp2_with fail
  refine (New_any _).mono ?_
  rintro e w1 ⟨b, m, rfl, hp, hB1⟩
  have HP1 := Lib.hid hp
  have HB1 := Lib.hid hB1
  clear hp hB1
  go_wp2_with fail
  refine (Name_yes HP1.out ⟨#[1, 97, 0]⟩ aName [[97]] true rfl a_name (by simp) HB1.out.size (fun r t h => by cases h)).mono ?_
  rw [HP.out]
  rintro e w2 ⟨rfl, v2, h2, k2⟩
  have HP2 := Lib.hid h2
  have HB2 := Lib.hid (HB1.out.trans (k2.below HP1.out HB1.out.size))
  clear h2 k2
  go_wp2_with fail
  refine (Len_any HP2.out).mono ?_
  rintro e w3 ⟨rfl, rfl⟩
  go_wp2_with fail
  refine (Bytes_any HP2.out).mono ?_
  rintro e w4 ⟨rfl, h4, k4⟩
  have heq : ((mk aName).toList == [1, 97, 0]) = true := by rw [mk_is]; rfl
  have HB4 := Lib.hid (HB2.out.trans (k4.below HP2.out HB2.out.size))
  clear h4 k4
  go_wp2_with fail
  go_ret
  exact ⟨rfl, HB4.out⟩

theorem Read_arg (S : ByteArray) (z : Int) (w : World) (h : z < 0 ∨ (S.size : Int) < z) :
    Calls Try.prog 9 #[.string S, .int .i64 z] w fun e w' => e = .returned (.tuple #[.string ⟨#[]⟩, .int .i64 0, .int .i64 1]) ∧ w' = w := by
  go_enter Try.func9, Try.ntmps9
  rcases h with h | h
  · have g : z < 0 := h
    go_wp2_with fail
    go_step3
    go_wp2_with fail
    rw [Exit.noGoto_ret]
    go_ret3
    exact ⟨rfl, rfl⟩
  · have g : ¬ z < 0 := by omega
    go_wp2_with fail
    go_step3
    go_wp2_with fail
    rw [Exit.noGoto_ret]
    go_ret3
    exact ⟨rfl, rfl⟩
theorem RefRead_arg (S : ByteArray) (z : Int) (w : World) (h : z < 0 ∨ (S.size : Int) < z) :
    Calls Try.prog 10 #[.string S, .int .i64 z] w fun e w' => e = .returned (.tuple #[.string ⟨#[]⟩, .int .i64 0, .int .i64 1]) ∧ w' = w := by
  go_enter Try.func10, Try.ntmps10
  rcases h with h | h
  · have g : z < 0 := h
    go_wp2_with fail
    go_ret3
    exact ⟨rfl, rfl⟩
  · have g : ¬ z < 0 := by omega
    go_wp2_with fail
    go_ret3
    exact ⟨rfl, rfl⟩

set_option maxHeartbeats 1000000 in
theorem PackReads_walk (S : ByteArray) (z : Int) (w : World) (_h : S.size ≤ maxLen) (_hz : (Lit.int .i64 z).wf = true) :
    Calls Try.prog 3 #[.string S, .int .i64 z] w fun e w' => e = .returned (.bool true) ∧ Below w.heap.size w w' := by
  obtain ⟨M, hM⟩ := mk_of S
  have hSz : S.size = M.length := by rw [hM, mk_size]
  have HM := Lib.hid hM
  clear hM
  by_cases hbig : 2000 < S.size
  · have gb : (2000 : Int) < (S.size : Int) := by omega
    clear hSz
    go_enter Try.func3, Try.ntmps3
    go_wp2_with fail
    refine (awake_any _).mono ?_
    rintro e w1 ⟨rfl, hB1⟩
    go_wp2_with fail
    refine (awake_any _).mono ?_
    rintro e w2 ⟨rfl, hB2⟩
    go_wp2_with fail
    go_ret
    exact ⟨rfl, hB1.trans (hB2.mono hB1.size)⟩
  · have gb : decide ((2000 : Int) < (S.size : Int)) = false := by rw [decide_eq_false_iff_not]; omega
    by_cases hz : z < 0 ∨ (S.size : Int) < z
    · have HZ := Lib.hid hz
      clear hz hSz
      go_enter Try.func3, Try.ntmps3
      go_wp2_with fail
      refine (awake_any _).mono ?_
      rintro e w1 ⟨rfl, hB1⟩
      go_wp2_with fail
      refine (Read_arg S z _ HZ.out).mono ?_
      rintro e w2 ⟨rfl, rfl⟩
      go_wp2_with fail
      refine (RefRead_arg S z _ HZ.out).mono ?_
      rintro e w3 ⟨rfl, rfl⟩
      go_wp2_with fail
      go_ret
      exact ⟨rfl, hB1⟩
    · obtain ⟨p, rfl⟩ : ∃ p : Nat, z = (p : Int) := ⟨z.toNat, by omega⟩
      have hp : p ≤ M.length := by omega
      have hM2 : M.length ≤ 2000 := by omega
      obtain ⟨R, hR⟩ : ∃ R, R = readR M [] p p none := ⟨_, rfl⟩
      have HR := Lib.hid hR
      clear hz hSz hR _hz
      go_enter Try.func3, Try.ntmps3
      go_wp2_with fail
      refine (awake_any _).mono ?_
      rintro e w1 ⟨rfl, hB1⟩
      have HB1 := Lib.hid hB1
      clear hB1
      go_wp2_with fail
      refine (Read_in S M p _ HM.out (by omega) hp).mono ?_
      rw [← HR.out]
      rintro e w2 ⟨rfl, hB2⟩
      have HB2 := Lib.hid (HB1.out.trans (hB2.mono HB1.out.size))
      clear hB2
      cases R with
      | none =>
        unfold readV
        go_wp2_with fail
        refine (RefRead_in S M p _ HM.out (by omega) hp).mono ?_
        rw [← HR.out]
        unfold readV
        rintro e w3 ⟨rfl, hB3⟩
        have HB3 := Lib.hid (HB2.out.trans (hB3.mono HB2.out.size))
        clear hB3
        go_wp2_with fail
        go_ret
        exact ⟨rfl, HB3.out⟩
      | some nk =>
        obtain ⟨n, k⟩ := nk
        unfold readV
        go_wp2_with fail
        refine (RefRead_in S M p _ HM.out (by omega) hp).mono ?_
        rw [← HR.out]
        unfold readV
        rintro e w3 ⟨rfl, hB3⟩
        have HB3 := Lib.hid (HB2.out.trans (hB3.mono HB2.out.size))
        clear hB3
        go_wp2_with fail
        go_ret
        exact ⟨rfl, HB3.out⟩
end Go.Proofs.Ytimakddeokgfcaa
