/- The reader: 'take' hands over the first bytes and keeps the others, or panics with the shortage; 'integer' and 'piece' by it. -/
import Derived.Test.YtdanncclnhkmgaaOctA
import Derived.Test.YtdanncclnhkmgaaOctMath
import Derived.Lib.ConvBytes
import Derived.Lib.EndianBits
namespace Go.Proofs.Ytdanncclnhkmgaa
open Go.RowKit

theorem or8 (v c : Nat) (hv : v < 256 ^ 7) (hc : c < 256) : bits BinOp.or IntKind.u64 (IntKind.u64.wrap ((v : Int) * 256)) (IntKind.u64.wrap (c : Int)) = (v : Int) * 256 + c := by
  have e1 : IntKind.u64.wrap ((v : Int) * 256) = (v : Int) * 256 := wraps_u64 _ (by omega) (by omega)
  have e2 : IntKind.u64.wrap (c : Int) = c := wraps_u64 _ (by omega) (by omega)
  rw [e1, e2]
  have h := u64_or8 (c : Int) ((v : Int) * 256) (by omega) (by omega) (by omega) (by omega) (by omega)
  rw [show bits BinOp.or IntKind.u64 ((v : Int) * 256) (c : Int) = bits BinOp.or IntKind.u64 (c : Int) ((v : Int) * 256) from by simp [bits, Nat.or_comm]]
  rw [h]
  omega

/-- what a reader panics with -/
def short : List PanicEntry := [{ v := .iface 121 (.agg #[]), recovered := false }]

set_option maxHeartbeats 400000 in
theorem take_ok (g : Nat) (s : ByteArray) (n : Int) (w : World) (hg : Whole w g 123 #[.string s]) (h0 : 0 ≤ n) (h1 : n ≤ (s.size : Int)) (h2 : s.size ≤ 1073741824) :
    Calls Try.prog 106 #[.pointer (some ⟨g, 0, none⟩), .int .u64 n] w fun e w' =>
      e = .returned (.string (s.extract 0 n.toNat)) ∧ w.setCell ⟨g, 0, none⟩ (.string (s.extract n.toNat s.size)) = w' := by
  obtain ⟨n, rfl⟩ := Int.eq_ofNat_of_zero_le h0
  have hc : w.cell? ⟨g, 0, none⟩ = some (.string s) := by simpa using hg.cell 0
  have hf := hg.frozen 0
  go_enter Try.func106, Try.ntmps106
  go_wp2_with fail
  go_ret
  exact ⟨rfl, rfl⟩

set_option maxHeartbeats 400000 in
theorem take_short (g : Nat) (s : ByteArray) (n : Int) (w : World) (hg : Whole w g 123 #[.string s]) (h1 : (s.size : Int) < n) (h2 : s.size ≤ 1073741824) :
    Calls Try.prog 106 #[.pointer (some ⟨g, 0, none⟩), .int .u64 n] w fun e w' => e = .panicked short ∧ w = w' := by
  obtain ⟨n, rfl⟩ := Int.eq_ofNat_of_zero_le (show 0 ≤ n by omega)
  have hc : w.cell? ⟨g, 0, none⟩ = some (.string s) := by simpa using hg.cell 0
  go_enter Try.func106, Try.ntmps106
  go_wp2_with fail
  exact ⟨rfl, rfl, rfl⟩

set_option maxHeartbeats 400000 in
theorem integer_short (g : Nat) (s : ByteArray) (n : Int) (w : World) (hg : Whole w g 123 #[.string s]) (h0 : 0 ≤ n) (h1 : (s.size : Int) < n) (h2 : s.size ≤ 1073741824) (h3 : n ≤ 8) :
    Calls Try.prog 85 #[.pointer (some ⟨g, 0, none⟩), .int .i64 n] w fun e w' => e = .panicked short ∧ w = w' := by
  go_enter Try.func85, Try.ntmps85
  go_wp2_with (go_at_call 106; refine (take_short g s _ _ hg (by omega) h2).mono ?_; rintro e w' ⟨rfl, rfl⟩)
  exact ⟨rfl, rfl, rfl⟩

set_option maxHeartbeats 400000 in
theorem integer_ok (g : Nat) (s : ByteArray) (n : Int) (w : World) (hg : Whole w g 123 #[.string s]) (h0 : 0 < n) (h1 : n ≤ (s.size : Int)) (h2 : s.size ≤ 1073741824) (h3 : n ≤ 8) :
    Calls Try.prog 85 #[.pointer (some ⟨g, 0, none⟩), .int .i64 n] w fun e w' =>
      e = .returned (.int .u64 (numOf (s.extract 0 n.toNat))) ∧ w.grownBy w' (some g) ∧ Whole w' g 123 #[.string (s.extract n.toNat s.size)] := by
  have hconv := fun W S => Lib.run_convert_string_bytes (P := Try.prog) W 9 61 5 S Try.underlying9 Try.underlying61 Try.underlying5
  obtain ⟨n, rfl⟩ := Int.eq_ofNat_of_zero_le (show 0 ≤ n by omega)
  rw [Int.toNat_natCast]
  have h1' : n ≤ s.size := by omega
  have h3' : n ≤ 8 := by omega
  go_enter Try.func85, Try.ntmps85
  go_wp2_with (go_at_call 106; refine (take_ok g s _ _ hg (by omega) (by omega) h2).mono ?_; rw [Int.toNat_natCast]; rintro e w' ⟨rfl, rfl⟩)
  obtain ⟨W1, hW1⟩ : ∃ W1, W1 = Lib.bytesWorld (w.setCell ⟨g, 0, none⟩ (.string (s.extract n s.size))) 5 (s.extract 0 n) := ⟨_, rfl⟩
  rw [← hW1]
  have hsz : (s.extract 0 n).size = n := by simp; omega
  obtain ⟨l, hl⟩ : ∃ l, l = (s.extract 0 n).data.toList := ⟨_, rfl⟩
  have hln : l.length = n := by rw [hl, Array.length_toList]; exact hsz
  have hcell : ∀ k, k < n → W1.cell? ⟨w.heap.size, k, none⟩ = some (.int .u8 (l.getD k 0).toNat) := by
    intro k hk
    have := Lib.bytesWorld_cell (w.setCell ⟨g, 0, none⟩ (.string (s.extract n s.size))) 5 (s.extract 0 n) k (by omega)
    rw [hW1, hl, ← this]
    simp [World.setCell]
  have hgb : w.grownBy W1 (some g) := by
    rw [hW1]
    refine ⟨rfl, rfl, rfl, by simp [Lib.bytesWorld_size, World.setCell], fun k hk hne => ?_⟩
    rw [Lib.bytesWorld_at_old _ _ _ _ (by simpa [World.setCell] using hk), Below.heap_setCell _ _ _ _ (by simpa using hne)]
  have hwh : Whole W1 g 123 #[.string (s.extract n s.size)] := by
    rw [hW1]
    unfold Whole
    rw [Lib.bytesWorld_at_old _ _ _ _ (by have := hg.lt; simpa [World.setCell] using this)]
    exact (hg.put 0 _).trans (by simp)
  have HS := Lib.hid hsz
  have HL := Lib.hid hl
  have HN := Lib.hid hln
  have HC := Lib.hid hcell
  clear hW1 hsz hl hcell hln hconv
  go_loop [5, 14] (fun v i => ∃ k : Nat, k ≤ n ∧ i = .int .i64 k ∧ v = .int .u64 (num (l.take k))) (fun _ i => n - (intOf i).toNat)
  case atStart => exact ⟨0, Nat.zero_le _, rfl, rfl⟩
  case round =>
    obtain ⟨k, hk, rfl, rfl⟩ := hrel
    by_cases hlt : k < n
    · have hc := HC.out k hlt
      go_wp2_with fail
      go_round
      case rel =>
        refine ⟨k + 1, by omega, by go_num, ?_⟩
        have hkl : k < l.length := by have := HN.out; omega
        have e1 : l.take (k + 1) = l.take k ++ [l[k]] := List.take_succ_eq_append_getElem hkl
        have e2 : l[k]?.getD 0 = l[k] := by simp [hkl]
        have b1 := num_lt (l.take k)
        have b2 : 256 ^ (l.take k).length ≤ 256 ^ 7 := Nat.pow_le_pow_right (by omega) (by simp; omega)
        rw [e1, num_snoc, e2, or8 _ _ (by omega) l[k].toNat_lt]
        simp
      case measure => simp [intOf]; omega
    · obtain rfl : k = n := by omega
      go_wp2_with fail
      go_ret
      refine ⟨?_, hgb, hwh⟩
      exact ret_int (by unfold numOf; rw [← HL.out, List.take_of_length_le (by have := HN.out; omega)])

set_option maxHeartbeats 400000 in
theorem piece_ok (g : Nat) (s : ByteArray) (n : Int) (w : World) (hg : Whole w g 123 #[.string s]) (h0 : 0 < n) (h1 : n ≤ (s.size : Int)) (h2 : s.size ≤ 1073741824) (h3 : n ≤ 8)
    (h4 : numOf (s.extract 0 n.toNat) ≤ s.size - n.toNat) :
    Calls Try.prog 88 #[.pointer (some ⟨g, 0, none⟩), .int .i64 n] w fun e w' =>
      e = .returned (.string ((s.extract n.toNat s.size).extract 0 (numOf (s.extract 0 n.toNat)))) ∧ w.grownBy w' (some g) ∧
        Whole w' g 123 #[.string ((s.extract n.toNat s.size).extract (numOf (s.extract 0 n.toNat)) (s.size - n.toNat))] := by
  have hsz : (s.extract n.toNat s.size).size = s.size - n.toNat := by simp
  go_enter Try.func88, Try.ntmps88
  go_wp2_with fail
  refine (integer_ok g s n w hg h0 h1 h2 h3).mono ?_
  rintro e w1 ⟨rfl, hgb, hw1⟩
  go_wp2_with fail
  refine (take_ok g _ _ w1 hw1 (by omega) (by rw [hsz]; omega) (by rw [hsz]; omega)).mono ?_
  rw [Int.toNat_natCast]
  rintro e w2 ⟨rfl, rfl⟩
  go_wp2_with fail
  go_ret
  exact ⟨rfl, grown_setCell hgb _, hw1.put1 _⟩

/-- bytes are missing in the number, or behind it -/
theorem piece_short (g : Nat) (s : ByteArray) (n : Int) (w : World) (hg : Whole w g 123 #[.string s]) (h0 : 0 < n) (h2 : s.size ≤ 1073741824) (h3 : n ≤ 8)
    (h4 : (s.size : Int) < n ∨ s.size - n.toNat < numOf (s.extract 0 n.toNat)) :
    Calls Try.prog 88 #[.pointer (some ⟨g, 0, none⟩), .int .i64 n] w fun e w' => e = .panicked short ∧ w.grownBy w' (some g) := by
  by_cases h1 : (s.size : Int) < n
  · go_enter Try.func88, Try.ntmps88
    go_wp2_with fail
    refine (integer_short g s n w hg (by omega) h1 h2 h3).mono ?_
    rintro e w1 ⟨rfl, rfl⟩
    exact ⟨rfl, rfl, World.grownBy.refl w _⟩
  · have h5 : s.size - n.toNat < numOf (s.extract 0 n.toNat) := by omega
    have hsz : (s.extract n.toNat s.size).size = s.size - n.toNat := by simp
    go_enter Try.func88, Try.ntmps88
    go_wp2_with fail
    refine (integer_ok g s n w hg h0 (by omega) h2 h3).mono ?_
    rintro e w1 ⟨rfl, hgb, hw1⟩
    go_wp2_with fail
    refine (take_short g _ _ w1 hw1 (by rw [hsz]; omega) (by rw [hsz]; omega)).mono ?_
    rintro e w2 ⟨rfl, rfl⟩
    exact ⟨rfl, rfl, hgb⟩
end Go.Proofs.Ytdanncclnhkmgaa
