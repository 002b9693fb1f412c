/- The reference's Alike, Parent, Wild. -/
import Derived.Test.YtfmpoibcchiakaaNamK
namespace Go.Proofs.Ytfmpoibcchiakaa
open Go.RowKit

set_option maxHeartbeats 1000000 in
theorem RefAlike_any (A B : ByteArray) (a b : List UInt8) (w : World) (hA : A = mk a) (hB : B = mk b) :
    Calls Try.prog 23 #[.string A, .string B] w fun e w' => e = .returned (.bool (alikeN a b)) ∧ Below w.heap.size w w' := by
  have HA := Lib.hid hA
  have HB := Lib.hid hB
  clear hA hB
  cases h : nameL a with
  | none =>
    have h' : (nameL a).isSome = false := by rw [h]; rfl
    have hal : alikeN a b = false := by unfold alikeN; rw [h]
    rw [hal]
    clear h hal
    go_enter Try.func23, Try.ntmps23
    go_wp2_with fail
    refine (RefRight_any A a _ HA.out).mono ?_
    rw [h']
    rintro e w1 ⟨rfl, hB1⟩
    go_wp2_with fail
    go_ret
    exact ⟨rfl, hB1⟩
  | some L =>
    have h' : (nameL a).isSome = true := by rw [h]; rfl
    cases k : nameL b with
    | none =>
      have k' : (nameL b).isSome = false := by rw [k]; rfl
      have hal : alikeN a b = false := by unfold alikeN; rw [h, k]
      rw [hal]
      clear h k hal
      go_enter Try.func23, Try.ntmps23
      go_wp2_with fail
      refine (RefRight_any A a _ HA.out).mono ?_
      rw [h']
      rintro e w1 ⟨rfl, hB1⟩
      go_wp2_with fail
      refine (RefRight_any B b _ HB.out).mono ?_
      rw [k']
      rintro e w2 ⟨rfl, hB2⟩
      go_wp2_with fail
      go_ret
      exact ⟨rfl, hB1.trans (hB2.mono hB1.size)⟩
    | some M =>
      have k' : (nameL b).isSome = true := by rw [k]; rfl
      have hal : ((mk (foldL a)).toList == (mk (foldL b)).toList) = alikeN a b := by rw [mk_beq, alike_fold a b h]
      clear h k
      go_enter Try.func23, Try.ntmps23
      go_wp2_with fail
      refine (RefRight_any A a _ HA.out).mono ?_
      rw [h']
      rintro e w1 ⟨rfl, hB1⟩
      go_wp2_with fail
      refine (RefRight_any B b _ HB.out).mono ?_
      rw [k']
      rintro e w2 ⟨rfl, hB2⟩
      have GB2 := hB1.trans (hB2.mono hB1.size)
      go_wp2_with fail
      refine (RefFold_any A a _ HA.out).mono ?_
      rintro e w3 ⟨rfl, hB3⟩
      have GB3 := GB2.trans (hB3.mono GB2.size)
      go_wp2_with fail
      refine (RefFold_any B b _ HB.out).mono ?_
      rintro e w4 ⟨rfl, hB4⟩
      go_wp2_with fail
      go_ret
      exact ⟨rfl, GB3.trans (hB4.mono GB3.size)⟩

theorem name_parts (s : List UInt8) : nameL s = none ∨ nameL s = some [] ∨ ∃ x M, nameL s = some (x :: M) := by
  cases h : nameL s with
  | none => exact .inl rfl
  | some L => cases L with
    | nil => exact .inr (.inl rfl)
    | cons x M => exact .inr (.inr ⟨x, M, rfl⟩)

set_option maxHeartbeats 1000000 in
theorem RefParent_any (S : ByteArray) (s : List UInt8) (w : World) (hS : S = mk s) :
    Calls Try.prog 16 #[.string S] w fun e w' => e = .returned (.tuple #[.string (mk (parentN s).1), .bool (parentN s).2]) ∧ Below w.heap.size w w' := by
  have HS := Lib.hid hS
  clear hS
  rcases name_parts s with h | h | ⟨x, M, h⟩
  · have hp : parentN s = ([], false) := by unfold parentN; rw [h]
    rw [hp]
    have HN := Lib.hid h
    clear hp h
    go_enter Try.func16, Try.ntmps16
    go_wp2_with fail
    refine (RefLabels_no S s _ HS.out HN.out).mono ?_
    rintro e w1 ⟨v, rfl, hB1⟩
    go_wp2_with fail
    go_ret2
    exact ⟨rfl, hB1⟩
  · have hp : parentN s = ([], false) := by unfold parentN; rw [h]
    rw [hp]
    have HN := Lib.hid h
    clear hp h
    go_enter Try.func16, Try.ntmps16
    go_wp2_with fail
    refine (RefLabels_yes S s [] _ HS.out HN.out).mono ?_
    rintro e w1 ⟨v, rfl, hown, hB1⟩
    obtain ⟨A, c, rfl, hs⟩ := Sees.own hown
    have hl0 : ([] : List (List UInt8)).length = 0 := rfl
    rw [hl0] at *
    clear hown hs
    go_wp2_with fail
    go_ret2
    exact ⟨rfl, hB1⟩
  · have hp : parentN s = (enc M, true) := by unfold parentN; rw [h]
    rw [hp]
    obtain ⟨he, hg, hl⟩ := nameL_is h
    have hx := (hg x (by simp)).2
    have hsz : S.size = 1 + x.length + (enc M).length := by rw [HS.out, mk_size, he, enc_cons, List.length_append, lab_len]; omega
    have hex : S.extract (1 + x.length) S.size = mk (enc M) := by
      rw [HS.out, mk_extract, mk_size, he, enc_cons]
      congr 1
      rw [List.take_of_length_le (by simp)]
      exact List.drop_left' (by rw [lab_len]; omega)
    obtain ⟨X, hX⟩ : ∃ X, X = mk x := ⟨_, rfl⟩
    have hXs : X.size = x.length := by rw [hX, mk_size]
    have hX63 : X.size ≤ 63 := by omega
    have hle : 1 + X.size ≤ S.size := by omega
    have hS255 : S.size ≤ 255 := by rw [HS.out, mk_size]; exact hl
    rw [← hXs] at hex
    have HN := Lib.hid h
    have HX := Lib.hid hX
    have HEX := Lib.hid hex
    obtain ⟨n, hn⟩ : ∃ n, n = (x :: M).length := ⟨_, rfl⟩
    have hn0 : 0 < n := by rw [hn]; simp
    have hnz : ((n : Int) == 0) = false := by rw [beq_eq_false_iff_ne]; omega
    have HNN := Lib.hid hn
    have hto : ((1 : Int) + (X.size : Int)).toNat = 1 + X.size := by omega
    clear hp h he hg hl hx hsz hex hX hXs hn
    go_enter Try.func16, Try.ntmps16
    go_wp2_with fail
    refine (RefLabels_yes S s (x :: M) _ HS.out HN.out).mono ?_
    rw [← HNN.out]
    rintro e w1 ⟨v, rfl, hown, hB1⟩
    obtain ⟨A, c, rfl, hs⟩ := Sees.own hown
    obtain ⟨b, off, rfl, hbB, hc⟩ := textL_at hs hn0 (by simp)
    rw [List.getElem_cons_zero, ← HX.out, Nat.add_zero] at hc
    clear hown hs
    go_wp2_with fail
    go_ret2
    exact ⟨by rw [← HEX.out]; rfl, hB1⟩

set_option maxHeartbeats 1000000 in
theorem RefWild_any (S : ByteArray) (s : List UInt8) (w : World) (hS : S = mk s) :
    Calls Try.prog 21 #[.string S] w fun e w' => e = .returned (.bool (wildN s)) ∧ Below w.heap.size w w' := by
  have HS := Lib.hid hS
  clear hS
  rcases name_parts s with h | h | ⟨x, M, h⟩
  · have hp : wildN s = false := by unfold wildN; rw [h]
    rw [hp]
    have HN := Lib.hid h
    clear hp h
    go_enter Try.func21, Try.ntmps21
    go_wp2_with fail
    refine (RefLabels_no S s _ HS.out HN.out).mono ?_
    rintro e w1 ⟨v, rfl, hB1⟩
    go_wp2_with fail
    go_ret
    exact ⟨rfl, hB1⟩
  · have hp : wildN s = false := by unfold wildN; rw [h]
    rw [hp]
    have HN := Lib.hid h
    clear hp h
    go_enter Try.func21, Try.ntmps21
    go_wp2_with fail
    refine (RefLabels_yes S s [] _ HS.out HN.out).mono ?_
    rintro e w1 ⟨v, rfl, hown, hB1⟩
    obtain ⟨A, c, rfl, hs⟩ := Sees.own hown
    have hl0 : ([] : List (List UInt8)).length = 0 := rfl
    rw [hl0] at *
    clear hown hs
    go_wp2_with fail
    go_ret
    exact ⟨rfl, hB1⟩
  · have hp : wildN s = (x == [42]) := by unfold wildN; rw [h]
    rw [hp]
    obtain ⟨X, hX⟩ : ∃ X, X = mk x := ⟨_, rfl⟩
    have hq : (X.toList == [42]) = (x == [42]) := by rw [hX]; exact mk_is _ _
    have HN := Lib.hid h
    have HX := Lib.hid hX
    obtain ⟨n, hn⟩ : ∃ n, n = (x :: M).length := ⟨_, rfl⟩
    have hn0 : 0 < n := by rw [hn]; simp
    have HNN := Lib.hid hn
    clear hp h hX hn
    go_enter Try.func21, Try.ntmps21
    go_wp2_with fail
    refine (RefLabels_yes S s (x :: M) _ HS.out HN.out).mono ?_
    rw [← HNN.out]
    rintro e w1 ⟨v, rfl, hown, hB1⟩
    obtain ⟨A, c, rfl, hs⟩ := Sees.own hown
    obtain ⟨b, off, rfl, hbB, hc⟩ := textL_at hs hn0 (by simp)
    rw [List.getElem_cons_zero, ← HX.out, Nat.add_zero] at hc
    clear hown hs
    go_wp2_with fail
    go_ret
    exact ⟨rfl, hB1⟩
end Go.Proofs.Ytfmpoibcchiakaa
