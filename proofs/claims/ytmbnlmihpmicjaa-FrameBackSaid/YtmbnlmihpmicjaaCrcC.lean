/- More, Sum, Parts of package crc, More and Sum of its reference. No statement of the seat is proved here. -/
import Derived.Test.YtmbnlmihpmicjaaCrcB
namespace Go.Proofs.Ytmbnlmihpmicjaa
open Go.RowKit

theorem flip_inv (x : Nat) (hx : x < 4294967296) : bits BinOp.xor IntKind.u32 IntKind.u32.max (x : Int) = ((inv x : Nat) : Int) := by
  rw [show IntKind.u32.max = ((4294967295 : Nat) : Int) from by decide, u32_xor_nat _ _ (by decide) hx, inv_xor hx, Nat.xor_comm]

theorem ref_minus (x : Nat) (hx : x < 4294967296) : IntKind.u32.wrap (4294967295 - (x : Int)) = ((inv x : Nat) : Int) := by
  rw [IntKind.wrap_u32]; unfold inv; omega

theorem bit_test (z c j : Nat) (hc : c < 256) : ((z : Int) % 2 != ((c : Int) % 4294967296 / 2 ^ j).tmod 2) = !decide (z % 2 = c / 2 ^ j % 2) := by
  have e1 : (c : Int) % 4294967296 = (c : Int) := by omega
  have e2 : (c : Int) / 2 ^ j = ((c / 2 ^ j : Nat) : Int) := by
    rw [Int.natCast_ediv, Int.natCast_pow]; rfl
  rw [e1, e2]
  generalize c / 2 ^ j = q
  rw [Int.tmod_eq_emod_of_nonneg (Int.natCast_nonneg q)]
  rw [Bool.eq_iff_iff]
  simp
  omega

set_option maxHeartbeats 1000000 in
theorem RefMore_any (x : Nat) (s : ByteArray) (w : World) (hx : x < 4294967296) (hs : s.size ≤ 1073741824) :
    Calls Try.prog 25 #[.int .u32 x, .string s] w fun e w' => e = .returned (.int .u32 (moreOf x s.data.toList : Nat)) ∧ w = w' := by
  have hv := inv_lt x
  have hfl := ref_minus x hx
  obtain ⟨v, hve⟩ : ∃ v, v = inv x := ⟨_, rfl⟩
  rw [← hve] at hv hfl
  replace hve := Lib.hid hve
  go_enter Try.func25, Try.ntmps25
  go_wp2_with fail
  go_loop [5, 6] (fun r i => ∃ k y : Nat, k ≤ s.size ∧ y < 4294967296 ∧ i = .int .i64 k ∧ r = .int .u32 y ∧ y = fed v (s.data.toList.take k)) (fun _ i => s.size - (intOf i).toNat)
  case atStart => exact ⟨0, v, Nat.zero_le _, hv, rfl, rfl, rfl⟩
  case round =>
    obtain ⟨k, y, hk, hy, rfl, rfl, he⟩ := hrel
    replace he := Lib.hid he
    by_cases hlt : k < s.size
    · have hi : (k : Int) < (s.size : Int) := by omega
      go_wp2_with fail
      go_loop [5, 7] (fun r i => ∃ j z : Nat, j ≤ 8 ∧ z < 4294967296 ∧ i = .int .i64 j ∧ r = .int .u32 z ∧ z ^^^ (s[k].toNat / 2 ^ j) = steps j (y ^^^ s[k].toNat)) (fun _ i => 8 - (intOf i).toNat)
      case atStart => exact ⟨0, y, by omega, hy, rfl, rfl, by simp [steps]⟩
      case round =>
        obtain ⟨j, z, hj, hz, rfl, rfl, hst⟩ := hrel
        replace hst := Lib.hid hst
        by_cases hj8 : j < 8
        · have hbt := bit_test z s[k].toNat j s[k].toNat_lt
          have hnext := Lib.hid (ref_more hst.out)
          have hlt2 := refStep_lt (s[k].toNat / 2 ^ j) hz
          by_cases hsame : z % 2 = s[k].toNat / 2 ^ j % 2
          · rw [decide_eq_true hsame] at hbt
            have hr : refStep z (s[k].toNat / 2 ^ j) = z / 2 := by unfold refStep; rw [if_pos hsame]
            replace hsame := Lib.hid hsame
            replace hr := Lib.hid hr
            go_wp2_with fail
            go_round
            case rel => exact ⟨j + 1, _, by omega, hlt2, by go_num, by rw [hr.out]; go_num, hnext.out⟩
            case measure => simp [intOf]; omega
          · rw [decide_eq_false hsame] at hbt
            have hr : refStep z (s[k].toNat / 2 ^ j) = z / 2 ^^^ 3988292384 := by unfold refStep; rw [if_neg hsame]
            have hp := Lib.hid (half_poly z hz)
            replace hsame := Lib.hid hsame
            replace hr := Lib.hid hr
            go_wp2_with fail
            go_round
            case rel => exact ⟨j + 1, _, by omega, hlt2, by go_num, by rw [hr.out, hp.out], hnext.out⟩
            case measure => simp [intOf]; omega
        · obtain rfl : j = 8 := by omega
          have hz8 := Lib.hid (ref_last s[k].toNat_lt hst.out)
          go_wp2_with fail
          go_round
          case rel => exact ⟨k + 1, z, by omega, hz, by go_num, rfl, by rw [fold_take s k hlt, fed_snoc, ← he.out, hz8.out]⟩
          case measure => simp [intOf]; omega
    · obtain rfl : k = s.size := by omega
      have hfd := ref_minus y hy
      go_wp2_with fail
      go_ret
      exact ⟨ret_int (by rw [he.out, List.take_of_length_le (by simp), hve.out]; rfl), rfl⟩

theorem RefSum_any (s : ByteArray) (w : World) (hs : s.size ≤ 1073741824) :
    Calls Try.prog 20 #[.string s] w fun e w' => e = .returned (.int .u32 (sumOf s.data.toList : Nat)) ∧ w = w' := by
  go_enter Try.func20, Try.ntmps20
  go_wp2_with fail
  refine (RefMore_any 0 s _ (by decide) hs).mono ?_
  rintro e w1 ⟨rfl, rfl⟩
  go_wp2_with fail
  go_ret
  exact ⟨rfl, rfl⟩

def flat (l : List ByteArray) : List UInt8 := l.flatMap fun s => s.data.toList
theorem flat_take (l : List ByteArray) (k : Nat) (h : k < l.length) : flat (l.take (k + 1)) = flat (l.take k) ++ (l.getD k ByteArray.empty).data.toList := by
  unfold flat
  rw [List.take_succ_eq_append_getElem h, List.flatMap_append]
  simp [List.getD, h]

theorem string_at {w : World} {B : Nat} {A : Option Addr} {n : Nat} {zs : List ByteArray} (h : Sees w B A n (texts zs)) {k : Nat} (hk : k < n) :
    ∃ b off, A = some ⟨b, off, none⟩ ∧ b < B ∧ w.cell? ⟨b, off + k, none⟩ = some (.string (zs.getD k ByteArray.empty)) := by
  obtain ⟨b, off, e, hb, hc⟩ := h.addr (by omega)
  have hl : k < zs.length := by have := h.len; simp [texts] at this; omega
  exact ⟨b, off, e, hb, hc k _ (by simp [texts, List.getD, hl])⟩

set_option maxHeartbeats 400000 in
theorem Parts_any (A : Option Addr) (n c B : Nat) (zs : List ByteArray) (w : World) (h : Sees w B A n (texts zs)) (hn : n ≤ 1073741824) (hB : B ≤ w.heap.size) (hz : ∀ k, (zs.getD k ByteArray.empty).size ≤ 1073741824) :
    Calls Try.prog 24 #[.slice A n c] w fun e w' => e = .returned (.int .u32 (sumOf (flat zs) : Nat)) ∧ Below w.heap.size w w' := by
  obtain ⟨hz0, hi⟩ := zero_of_info ctable_info
  have hi2 : (Try.prog.info? 62).map (·.size) = some (cellsTo 256).size := by rw [cellsTo_size]; exact hi
  replace hi := Lib.hid hi
  replace hi2 := Lib.hid hi2
  have hsg : IntKind.u32.signed = false := rfl
  have hzz := Lib.hid hz
  clear hz
  go_enter Try.func24, Try.ntmps24
  go_wp2_with fail
  refine (newTable_any _).mono ?_
  rintro e w1 ⟨rfl, hB1⟩
  go_wp2_with (refine wpList_store_row rfl 62 (.tmp 3) (.tmp 7) rfl w1.heap.size (cellsTo 256) rfl rfl 62 (cellsTo 1) (Whole.new w1 _ _) hi2.out (by rw [cellsTo_size, cellsTo_size]) (cellsTo_one _) ?_)
  rw [World.setRow_alloc_new]
  have hg := Whole.new w1 62 (cellsTo 256)
  have hB2 := hB1.alloc hB1.size (.cells (cellsTo 256) 62)
  generalize w1.alloc (.cells (cellsTo 256) 62) = w2 at hg hB2 ⊢
  have h2 := h.below (hB2.mono hB)
  clear hz0
  go_loopw [4, 10] (fun r i wr => ∃ k y : Nat, k ≤ n ∧ y < 4294967296 ∧ i = .int .i64 k ∧ r = .int .u32 y ∧ y = fed 4294967295 (flat (zs.take k)) ∧ ∃ m, wr = w2.drewN m) (fun _ i _ => n - (intOf i).toNat)
  case atStart => exact ⟨0, 4294967295, Nat.zero_le _, by decide, rfl, rfl, rfl, 0, rfl⟩
  case round =>
    obtain ⟨k, y, hk, hy, rfl, rfl, he, m, rfl⟩ := hrel
    replace he := Lib.hid he
    by_cases hlt : k < n
    · obtain ⟨b, off, rfl, _, hc⟩ := string_at h2 hlt
      have hi : (k : Int) < (n : Int) := by omega
      have hkz : k < zs.length := by have := h2.len; simp [texts] at this; omega
      have hzk := hzz.out k
      have hft := Lib.hid (flat_take zs k hkz)
      obtain ⟨s, hs⟩ : ∃ s, s = zs.getD k ByteArray.empty := ⟨_, rfl⟩
      rw [← hs] at hzk hc
      replace hs := Lib.hid hs
      go_wp2_with fail
      refine (feed_any _ y s _ _ (hg.drewN m) hy hzk).mono ?_
      rintro e w3 ⟨rfl, m2, rfl⟩
      go_wp2_with fail
      go_roundw
      case rel => exact ⟨k + 1, _, by omega, fed_lt _ _ hy, by go_num, rfl, by rw [hft.out, fed_append, he.out, hs.out], _, rfl⟩
      case measure => simp [intOf]; omega
    · obtain rfl : k = n := by omega
      have hfl := flip_inv y hy
      go_wp2_with fail
      go_ret
      refine ⟨ret_int ?_, below_drewN hB2 m⟩
      have hl : zs.length ≤ k := by have := h.len; simp [texts] at this; omega
      rw [he.out, List.take_of_length_le hl]
      rfl
end Go.Proofs.Ytmbnlmihpmicjaa
