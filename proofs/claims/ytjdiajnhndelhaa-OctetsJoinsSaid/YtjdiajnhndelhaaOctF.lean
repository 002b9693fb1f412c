/- The law OctetsSplits, walked: whatever the bytes and the widths, it returns true and writes nothing that was there. -/
import Derived.Test.YtjdiajnhndelhaaOctD
import Derived.Test.YtjdiajnhndelhaaOctE
import Derived.Test.YtjdiajnhndelhaaFrame
namespace Go.Proofs.Ytjdiajnhndelhaa
open Go.RowKit

theorem awake_split : splitR ⟨#[1, 2, 3]⟩ [1, 2] = ([1, 515], ⟨#[]⟩, 0) := by kernel_rfl

set_option maxHeartbeats 400000 in
theorem awake_any (w : World) : Calls Try.prog 9 #[] w fun e w' => e = .returned (.bool true) ∧ Below w.heap.size w w' := by
  have hseen : Sees (w.alloc (.cells #[.int .i64 1, .int .i64 2] 3)) (w.heap.size + 1) (some ⟨w.heap.size, 0, none⟩) 2 (ints .i64 [1, 2]) :=
    ⟨rfl, fun _ => ⟨w.heap.size, 0, rfl, by omega, fun j u hu => by rw [(Whole.new w 3 #[.int .i64 1, .int .i64 2]).cell]; simpa [ints] using hu⟩⟩
  go_enter Try.func9, Try.ntmps9
  go_wp2_with fail
  refine (Split_any ⟨#[1, 2, 3]⟩ _ 2 _ _ [1, 2] _ hseen (by omega) (by simp) (by decide)).mono ?_
  rintro e w1 ⟨A, c, he, hsee, hB⟩
  rw [awake_split] at he hsee
  subst he
  obtain ⟨b, off, rfl, _, hc⟩ := ints_at (k := 1) hsee (by decide)
  have hc' : w1.cell? ⟨b, off + 1, none⟩ = some (.int .u64 515) := hc
  have HB : Hid (Below w.heap.size w w1) := Lib.hid (((Below.refl _ _).alloc (Nat.le_refl _) _).trans (hB.mono (by simp)))
  clear hc hsee hB hseen
  go_wp2
  go_ret
  exact ⟨rfl, HB.out⟩

set_option maxHeartbeats 1000000 in
theorem OctetsSplits_walk (s : ByteArray) (A : Option Addr) (n c : Nat) (ws : List Int) (w : World) (_hs : s.size ≤ maxLen) (hin : InInts .i64 w A n ws) :
    Calls Try.prog 3 #[.string s, .slice A n c] w fun e w' => e = .returned (.bool true) ∧ Below w.heap.size w w' := by
  obtain ⟨h, _⟩ := hin
  by_cases h1 : 200 < s.size
  · have g1 : (200 : Int) < (s.size : Int) := by omega
    go_enter Try.func3, Try.ntmps3
    go_wp2_with fail
    refine (awake_any _).mono ?_
    rintro e w1 ⟨rfl, hB1⟩
    go_wp2_with fail
    refine (awake_any _).mono ?_
    rintro e w2 ⟨rfl, hB2⟩
    go_wp2_with fail
    go_ret
    exact ⟨rfl, hB1.trans (hB2.mono hB1.size)⟩
  by_cases h2 : 40 < n
  · have g1 : ¬ (200 : Int) < (s.size : Int) := by omega
    have g2 : (40 : Int) < (n : Int) := by omega
    go_enter Try.func3, Try.ntmps3
    go_wp2_with fail
    refine (awake_any _).mono ?_
    rintro e w1 ⟨rfl, hB1⟩
    go_wp2_with fail
    refine (awake_any _).mono ?_
    rintro e w2 ⟨rfl, hB2⟩
    go_wp2_with fail
    go_ret
    exact ⟨rfl, hB1.trans (hB2.mono hB1.size)⟩
  have g1 : ¬ (200 : Int) < (s.size : Int) := by omega
  have g2 : ¬ (40 : Int) < (n : Int) := by omega
  go_enter Try.func3, Try.ntmps3
  go_wp2_with fail
  refine (awake_any _).mono ?_
  rintro e w1 ⟨rfl, hB1⟩
  have k1 := h.below hB1
  go_wp2_with fail
  refine (Split_any s A n c w.heap.size ws _ k1 (by omega) hB1.size (by omega)).mono ?_
  rintro e w2 ⟨A2, c2, rfl, hs2, hB2⟩
  have k2 := k1.below (hB2.mono hB1.size)
  go_wp2_with fail
  refine (RefSplit_any s A n c w.heap.size ws _ k2 (by omega) (Nat.le_trans hB1.size hB2.size)).mono ?_
  rintro e w3 ⟨A3, c3, rfl, hs3, hB3⟩
  have k3 := hs2.below hB3
  have hBB := hB1.trans ((hB2.mono hB1.size).trans (hB3.mono (Nat.le_trans hB1.size hB2.size)))
  have hlen : (splitR s ws).1.length ≤ 1073741824 := by have := splitR_len s ws; have hl : ws.length = n := by { simpa [ints] using h.len }; omega
  generalize splitR s ws = R at *
  obtain ⟨vs, rest, code⟩ := R
  have HBB := Lib.hid hBB
  clear hB1 hB2 hB3 k1 k2 hs2 h
  go_wp2_with fail
  refine (Same_yes A2 A3 _ _ _ _ _ vs _ k3 hs3 hlen).mono ?_
  rintro e w4 ⟨rfl, m, rfl⟩
  go_wp2_with fail
  go_ret
  exact ⟨rfl, below_drewN HBB.out m⟩
end Go.Proofs.Ytjdiajnhndelhaa
