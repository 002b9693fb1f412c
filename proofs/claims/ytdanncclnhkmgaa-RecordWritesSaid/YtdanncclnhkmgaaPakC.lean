/- pointer and cmp.Or. No statement of the seat is proved here. -/
import Derived.Test.YtdanncclnhkmgaaPakB
import Derived.Test.YtdanncclnhkmgaaOctD
import Derived.Test.YtdanncclnhkmgaaFrame
namespace Go.Proofs.Ytdanncclnhkmgaa
open Go.RowKit

/-- the pointer with which r begins -/
def ptrL : List UInt8 → Option (Nat × List UInt8)
  | c :: d :: q => if 192 ≤ c.toNat then some ((c.toNat - 192) * 256 + d.toNat, q) else none
  | _ => none
theorem split_two (c d : UInt8) (q : List UInt8) : splitR (mk (c :: d :: q)) [2] = ([((c.toNat * 256 + d.toNat : Nat) : Int)], mk q, 0) := by
  have h1 : ¬ (((mk (c :: d :: q)).size : Int) < 2) := by rw [mk_size]; simp; omega
  have e1 : (mk (c :: d :: q)).extract 2 (mk (c :: d :: q)).size = mk q := by rw [mk_extract, mk_size, List.take_length]; rfl
  have e2 : numOf ((mk (c :: d :: q)).extract 0 2) = c.toNat * 256 + d.toNat := by rw [mk_extract, mk_num]; simp [num]
  refine splitR_some (by decide) ?_
  rw [splitF, if_neg h1]
  show Option.map _ (splitF ((mk (c :: d :: q)).extract 2 (mk (c :: d :: q)).size) []) = _
  rw [e1]
  show some ((numOf ((mk (c :: d :: q)).extract 0 2) : Int) :: [], mk q) = _
  rw [e2]
theorem split_less {r : List UInt8} (h : r.length < 2) : splitR (mk r) [2] = ([], empty, 2) := by
  refine splitR_none (by decide) ?_
  rw [splitF, if_pos (by rw [mk_size]; omega)]

set_option maxHeartbeats 1000000 in
theorem pointer_some (S : ByteArray) (r q : List UInt8) (t : Nat) (w : World) (hS : S = mk r) (hs : r.length ≤ 1073741824) (h : ptrL r = some (t, q)) :
    Calls Try.prog 82 #[.string S] w fun e w' => e = .returned (.tuple #[.int .i64 (t : Nat), .string (mk q), .bool true]) ∧ Below w.heap.size w w' := by
  match r, h with
  | c :: d :: q', h =>
    have h' : (if 192 ≤ c.toNat then some ((c.toNat - 192) * 256 + d.toNat, q') else none) = some (t, q) := h
    clear h
    by_cases hc : 192 ≤ c.toNat
    · rw [if_pos hc] at h'
      injection h' with h
      injection h with h1 h2
      subst h2
      have hcl := c.toNat_lt
      have hdl := d.toNat_lt
      have HSP := Lib.hid (split_two c d q')
      obtain ⟨N, hN⟩ : ∃ N, N = c.toNat * 256 + d.toNat := ⟨_, rfl⟩
      have hN1 : 49152 ≤ N := by omega
      have hN2 : N < 65536 := by omega
      have hN3 : N - 49152 = t := by omega
      rw [← hN] at HSP
      have HT := Lib.hid hN3
      have hsz : S.size ≤ 1073741824 := by rw [hS, mk_size]; exact hs
      have HS := Lib.hid hS
      clear hN h1 hS hcl hdl hc hN3
      go_enter Try.func82, Try.ntmps82
      have F1 := Whole.new w 3 #[.int .i64 2]
      have FB : Below w.heap.size w (w.alloc (.cells #[.int .i64 2] 3)) := (Below.refl _ _).alloc (Nat.le_refl _) _
      go_wp2_with fail
      refine (Split_any S _ 1 1 (w.heap.size + 1) [2] _ (sees_one F1) (by decide) (by simp) hsz).mono ?_
      rintro e w1 ⟨A, cc, he, hsee, hB1⟩
      rw [HS.out, HSP.out] at he hsee
      subst he
      obtain ⟨b2, off2, rfl, _, hc2⟩ := hsee.addr (Nat.zero_lt_one)
      have hc0 : w1.cell? ⟨b2, off2, none⟩ = some (.int .u64 (N : Nat)) := hc2 0 _ rfl
      have HB2 := Lib.hid (FB.trans (hB1.mono FB.size))
      have g1 : decide ((N : Int) < 49152) = false := by rw [decide_eq_false_iff_not]; omega
      have g2 : (N : Int) - 49152 = (t : Int) := by have := HT.out; omega
      have g3 : wrap64 (IntKind.u64.wrap ((N : Int) - 49152)) = (t : Int) := by
        rw [g2, IntKind.wrap_u64]
        unfold wrap64
        omega
      have G3 := Lib.hid g3
      clear F1 FB hB1 hsee hc2 g2 g3 hN1 hN2
      go_wp2_with fail
      go_ret3
      exact ⟨by rw [G3.out]; rfl, HB2.out⟩
    · rw [if_neg hc] at h'; cases h'

set_option maxHeartbeats 1000000 in
theorem pointer_none (S : ByteArray) (r : List UInt8) (w : World) (hS : S = mk r) (hs : r.length ≤ 1073741824) (h : ptrL r = none) :
    Calls Try.prog 82 #[.string S] w fun e w' => e = .returned (.tuple #[.int .i64 0, .string (mk []), .bool false]) ∧ Below w.heap.size w w' := by
  have hsz : S.size ≤ 1073741824 := by rw [hS, mk_size]; exact hs
  have hcase : splitR (mk r) [2] = ([], empty, 2) ∨ ∃ c d q, r = c :: d :: q ∧ c.toNat < 192 := by
    match r, h with
    | [], _ => exact .inl (split_less (by simp))
    | [c], _ => exact .inl (split_less (by simp))
    | c :: d :: q, h =>
      have h' : (if 192 ≤ c.toNat then some ((c.toNat - 192) * 256 + d.toNat, q) else none) = none := h
      by_cases hc : 192 ≤ c.toNat
      · rw [if_pos hc] at h'; cases h'
      · exact .inr ⟨c, d, q, rfl, by omega⟩
  have HS := Lib.hid hS
  clear hS
  rcases hcase with hsp | ⟨c, d, q, rfl, hc⟩
  · have HSP := Lib.hid hsp
    clear hsp
    go_enter Try.func82, Try.ntmps82
    have F1 := Whole.new w 3 #[.int .i64 2]
    have FB : Below w.heap.size w (w.alloc (.cells #[.int .i64 2] 3)) := (Below.refl _ _).alloc (Nat.le_refl _) _
    go_wp2_with fail
    refine (Split_any S _ 1 1 (w.heap.size + 1) [2] _ (sees_one F1) (by decide) (by simp) hsz).mono ?_
    rintro e w1 ⟨A, cc, he, hsee, hB1⟩
    rw [HS.out, HSP.out] at he
    subst he
    have HB2 := Lib.hid (FB.trans (hB1.mono FB.size))
    clear F1 FB hB1 hsee
    go_wp2_with fail
    go_ret3
    exact ⟨rfl, HB2.out⟩
  · have hdl := d.toNat_lt
    have HSP := Lib.hid (split_two c d q)
    obtain ⟨N, hN⟩ : ∃ N, N = c.toNat * 256 + d.toNat := ⟨_, rfl⟩
    have hN1 : N < 49152 := by omega
    rw [← hN] at HSP
    clear hN hdl hc
    go_enter Try.func82, Try.ntmps82
    have F1 := Whole.new w 3 #[.int .i64 2]
    have FB : Below w.heap.size w (w.alloc (.cells #[.int .i64 2] 3)) := (Below.refl _ _).alloc (Nat.le_refl _) _
    go_wp2_with fail
    refine (Split_any S _ 1 1 (w.heap.size + 1) [2] _ (sees_one F1) (by decide) (by simp) hsz).mono ?_
    rintro e w1 ⟨A, cc, he, hsee, hB1⟩
    rw [HS.out, HSP.out] at he hsee
    subst he
    obtain ⟨b2, off2, rfl, _, hc2⟩ := hsee.addr (Nat.zero_lt_one)
    have hc0 : w1.cell? ⟨b2, off2, none⟩ = some (.int .u64 (N : Nat)) := hc2 0 _ rfl
    have HB2 := Lib.hid (FB.trans (hB1.mono FB.size))
    have g1 : (N : Int) < 49152 := by omega
    clear F1 FB hB1 hsee hc2 hN1
    go_wp2_with fail
    go_ret3
    exact ⟨rfl, HB2.out⟩

set_option maxHeartbeats 1000000 in
theorem Or_any (A : Option Addr) (cA B : Nat) (x y : Int) (w : World) (h : Sees w B A 2 (ints .i64 [x, y])) :
    Calls Try.prog 36 #[.slice A 2 cA] w fun e w' => e = .returned (.int .i64 (if x = 0 then y else x)) ∧ w = w' := by
  obtain ⟨b, off, rfl, _, hc⟩ := h.addr (Nat.zero_lt_two)
  have c0 : w.cell? ⟨b, off, none⟩ = some (.int .i64 x) := hc 0 _ rfl
  have c1 : w.cell? ⟨b, off + 1, none⟩ = some (.int .i64 y) := hc 1 _ rfl
  clear hc h
  by_cases hx : x = 0
  · subst hx
    rw [if_pos rfl]
    by_cases hy : y = 0
    · subst hy
      go_enter Try.func36, Try.ntmps36
      go_wp2_with fail
      refine wp_loop_rounds 4 ?_
      rw [rounds_succ]
      go_wp2_with fail
      rw [rounds_succ]
      go_wp2_with fail
      rw [rounds_succ]
      go_wp2_with fail
      go_ret
      exact ⟨rfl, rfl⟩
    · have gy : (y == 0) = false := by rw [beq_eq_false_iff_ne]; exact hy
      go_enter Try.func36, Try.ntmps36
      go_wp2_with fail
      refine wp_loop_rounds 4 ?_
      rw [rounds_succ]
      go_wp2_with fail
      rw [rounds_succ]
      go_wp2_with fail
      go_ret
      exact ⟨rfl, rfl⟩
  · have gx : (x == 0) = false := by rw [beq_eq_false_iff_ne]; exact hx
    rw [if_neg hx]
    go_enter Try.func36, Try.ntmps36
    go_wp2_with fail
    refine wp_loop_rounds 4 ?_
    rw [rounds_succ]
    go_wp2_with fail
    go_ret
    exact ⟨rfl, rfl⟩
end Go.Proofs.Ytdanncclnhkmgaa
