/- The table's making and its use: newTable, feed, More, Sum of package crc. No statement of the seat is proved here. -/
import Derived.Test.YtmbnlmihpmicjaaCrcA
import Derived.Laws.CopyOwn
namespace Go.Proofs.Ytmbnlmihpmicjaa
open Go.RowKit

theorem fold_take (s : ByteArray) (k : Nat) (h : k < s.size) : s.data.toList.take (k + 1) = s.data.toList.take k ++ [s[k]] := by
  rw [List.take_succ_eq_append_getElem (by simpa using h)]; rfl
theorem byte_xor (x : Nat) (c : UInt8) : bits .xor .u8 ((x : Int) % 256) (c.toNat : Int) = (((x % 256) ^^^ c.toNat : Nat) : Int) :=
  u8_xor_nat (x % 256) c.toNat (by omega) c.toNat_lt
theorem high_xor (x y : Nat) (hx : x < 4294967296) (hy : y < 4294967296) : bits .xor .u32 ((x : Int) / 256) (y : Int) = ((x / 256 ^^^ y : Nat) : Int) :=
  u32_xor_nat (x / 256) y (by omega) hy

set_option maxHeartbeats 400000 in
theorem feed_any (g r : Nat) (s : ByteArray) (t : TypeId) (w : World) (hg : Whole w g t (cellsTo 256)) (hr : r < 4294967296) (hs : s.size ≤ 1073741824) :
    Calls Try.prog 32 #[.pointer (some ⟨g, 0, none⟩), .int .u32 r, .string s] w fun e w' => e = .returned (.int .u32 (fed r s.data.toList : Nat)) ∧ ∃ n, w' = w.drewN n := by
  go_enter Try.func32, Try.ntmps32
  go_wp2
  go_loopw [1, 10] (fun v i wr => ∃ k x : Nat, k ≤ s.size ∧ x < 4294967296 ∧ i = .int .i64 k ∧ v = .int .u32 x ∧ x = fed r (s.data.toList.take k) ∧ ∃ n, wr = w.drewN n) (fun _ i _ => s.size - (intOf i).toNat)
  case atStart => exact ⟨0, r, Nat.zero_le _, hr, rfl, rfl, rfl, 0, rfl⟩
  case round =>
    obtain ⟨k, x, hk, hx, rfl, rfl, he, n, rfl⟩ := hrel
    replace he := Lib.hid he
    by_cases hlt : k < s.size
    · have hq := xor_byte (Nat.mod_lt x (show 0 < 256 by decide)) s[k].toNat_lt
      have hc := table_at hg _ hq
      have hxor := byte_xor x s[k]
      have hl := eight_lt (Nat.lt_of_lt_of_le hq (show 256 ≤ 4294967296 by decide))
      obtain ⟨q, hqe⟩ : ∃ q, q = (x % 256) ^^^ s[k].toNat := ⟨_, rfl⟩
      rw [← hqe] at hq hc hxor hl
      have hy := Lib.hid (high_xor x (eight q) hx hl)
      replace hqe := Lib.hid hqe
      have hi : (k : Int) < (s.size : Int) := by omega
      go_wp2_with fail
      go_quiet (fail)
      go_wp2_with fail
      go_roundw
      case rel =>
        refine ⟨k + 1, eight (x ^^^ s[k].toNat), by omega, eight_lt (xor_lt hx (byte_lt _)), by go_num, ?_, by rw [fold_take s k hlt, fed_snoc, he.out], _, rfl⟩
        rw [hy.out, hqe.out, byte_step x _ s[k].toNat_lt]
      case measure => simp [intOf]; omega
    · obtain rfl : k = s.size := by omega
      go_wp2_with fail
      go_ret
      exact ⟨ret_int (by rw [he.out, List.take_of_length_le (by simp)]), _, rfl⟩

/-- the two blocks of newTable: the answer's, still of zeros, and the table's, made up to entry m -/
structure Making (w0 w : World) (m : Nat) : Prop where
  out : Whole w w0.heap.size 62 (cellsTo 1)
  tab : Whole w (w0.heap.size + 1) 62 (cellsTo m)
  bel : Below w0.heap.size w0 w
theorem Making.put {w0 w : World} {m : Nat} (h : Making w0 w m) (hm : m < 256) : Making w0 (w.setCell ⟨w0.heap.size + 1, m, none⟩ (.int .u32 (eight m : Nat))) (m + 1) :=
  ⟨h.out.far (by simp) _, by rw [← cellsTo_put m hm]; exact h.tab.put _ _, h.bel.setCell (by simp) _⟩
theorem Making.at {w0 w : World} {m j : Nat} (h : Making w0 w m) (hj : j < m) (hm : m ≤ 256) : w.cell? ⟨w0.heap.size + 1, j, none⟩ = some (.int .u32 (eight j : Nat)) := by
  rw [h.tab.cell, cellsTo_get _ j (by omega)]
  simp [entry, hj]

theorem Making.rest {w0 w : World} {m : Nat} (h : Making w0 w m) (hm : m < 256) : w.cell? ⟨w0.heap.size + 1, m, none⟩ = some (.int .u32 0) := by
  rw [h.tab.cell, cellsTo_get _ m hm]
  simp [entry]
theorem entry_xor (b e l : Nat) (k : Nat) (hb : b = 2 ^ k) (he : e = eight b) (hl : l < b) (hk : k < 8) : bits .xor .u32 (e : Int) (eight l : Nat) = ((eight (b + l) : Nat) : Int) := by
  subst hb he
  have h8 : 2 ^ k ≤ 2 ^ 7 := Nat.pow_le_pow_right (by decide) (by omega)
  rw [u32_xor_nat _ _ (eight_lt (by omega)) (eight_lt (by omega)), entry_join k l hl]

set_option maxHeartbeats 1000000 in
set_option maxRecDepth 20000 in
theorem newTable_any (w : World) :
    Calls Try.prog 31 #[] w fun e w' => e = .returned (.agg (cellsTo 256)) ∧ Below w.heap.size w w' := by
  obtain ⟨hz, hi⟩ := zero_of_info ctable_info
  replace hi := Lib.hid hi
  go_enter Try.func31, Try.ntmps31
  go_wp2_with fail
  have hst : Making w ((w.alloc (Obj.cells (cellsTo 1) 62)).alloc (Obj.cells (cellsTo 1) 62)) 1 := by
    refine ⟨(Whole.new w _ _).alloc _, ?_, ((Below.refl _ _).alloc (Nat.le_refl _) _).alloc (by simp) _⟩
    have h1 := Whole.new (w.alloc (Obj.cells (cellsTo 1) 62)) 62 (cellsTo 1)
    simp only [World.size_alloc] at h1
    exact h1
  generalize ((w.alloc (Obj.cells (cellsTo 1) 62)).alloc (Obj.cells (cellsTo 1) 62)) = w1 at hst ⊢
  clear hz
  go_loopw [2] (fun v wr => ∃ k b : Nat, k ≤ 8 ∧ 1 ≤ b ∧ b ≤ 256 ∧ v = .int .i64 b ∧ b = 2 ^ k ∧ Making w wr b) (fun v _ => 256 - (intOf v).toNat)
  case atStart => exact ⟨0, 1, by omega, by omega, by omega, rfl, rfl, hst⟩
  case round =>
    obtain ⟨k, b, hk, hb1, hb2, rfl, hb, hst1⟩ := hrel
    replace hb := Lib.hid hb
    by_cases hlt : b < 256
    · have hk8 : k < 8 := by
        rcases Nat.lt_or_ge k 8 with h | h
        · exact h
        · have h8 := Nat.pow_le_pow_right (n := 2) (by decide) h
          rw [← hb.out] at h8
          omega
      have hb3 : b ≤ 128 := by
        have h8 := Nat.pow_le_pow_right (n := 2) (by decide) (show k ≤ 7 by omega)
        rw [← hb.out] at h8
        exact h8
      have hconv : IntKind.u32.wrap (b : Int) = b := wraps_u32 _ (by omega) (by omega)
      go_wp2_with fail
      refine (afterByte_any b (by omega) _).mono ?_
      rintro e w2 ⟨rfl, rfl⟩
      obtain ⟨en, hen⟩ : ∃ en, en = eight b := ⟨_, rfl⟩
      rw [← hen]
      have hel : en < 4294967296 := by rw [hen]; exact eight_lt (by omega)
      replace hen := Lib.hid hen
      clear hconv
      go_wp2_with fail
      go_loopw [13] (fun v wr' => ∃ l : Nat, l ≤ b ∧ v = .int .i64 l ∧ Making w wr' (b + l)) (fun v _ => b - (intOf v).toNat)
      case atStart => exact ⟨0, by omega, rfl, hst1⟩
      case round =>
        obtain ⟨l, hl, rfl, hst2⟩ := hrel
        by_cases hll : l < b
        · have hc := hst2.at (show l < b + l by omega) (by omega)
          have hc2 := hst2.tab.frozen (b + l)
          have hc3 := hst2.rest (by omega)
          have hy := entry_xor b en l k hb.out hen.out hll hk8
          have hput := hst2.put (by omega)
          go_wp2_with fail
          go_roundw
          case rel => exact ⟨l + 1, by omega, by go_num, hput⟩
          case measure => simp [intOf]; omega
        · obtain rfl : l = b := by omega
          have hw2 : IntKind.i64.wrap ((l : Int) * 2) = ((l * 2 : Nat) : Int) := by rw [IntKind.wrap_i64]; omega
          have hdbl : Making w wr (l * 2) := by rw [Nat.mul_two]; exact hst2
          go_wp2_with fail
          go_roundw
          case rel => exact ⟨k + 1, l * 2, by omega, by omega, by omega, by go_num, by rw [Nat.pow_succ, ← hb.out], hdbl⟩
          case measure => simp [intOf]; omega
    · obtain rfl : b = 256 := by omega
      have hrow := setRow_heap wr w.heap.size _ (cellsTo 256) _ (0, 0) hst1.out
      have hbel := below_setRow hst1.bel (Nat.le_refl _) (cellsTo 256)
      have hi2 : (Try.prog.info? 62).map (·.size) = some (cellsTo 256).size := by rw [cellsTo_size]; exact hi.out
      replace hi2 := Lib.hid hi2
      replace hrow := Lib.hid hrow
      go_wp2_with (first
        | refine wpList_load_row rfl 62 (.tmp 1) rfl (w.heap.size + 1) rfl 62 (cellsTo 256) (0, 0) _ hst1.tab Try.underlying62 rfl hi2.out ?_
        | refine wpList_store_row rfl 62 (.tmp 0) (.tmp 26) rfl w.heap.size (cellsTo 256) rfl rfl 62 (cellsTo 1) hst1.out hi2.out (by rw [cellsTo_size, cellsTo_size]) (cellsTo_one _) ?_)
      refine bodyPost_ret (v := .agg (cellsTo 256)) ?_ rfl ⟨rfl, hbel⟩
      exact results_cell_row rfl _ _ w.heap.size 62 (cellsTo 256) (0, 0) _ rfl hrow.out Try.underlying62 rfl hi2.out
end Go.Proofs.Ytmbnlmihpmicjaa
