/- The reference of layer 1: each of its functions returns what the plain mathematics says. -/
import Derived.Test.YtdanncclnhkmgaaOctA
import Derived.Test.YtdanncclnhkmgaaOctMath
import Derived.Lib.EndianBits
import Derived.Laws.IdiomStrings
namespace Go.Proofs.Ytdanncclnhkmgaa
open Go.RowKit

theorem up8 (v c : Nat) (hv : v < 256 ^ 7) (hc : c < 256) : IntKind.u64.wrap (IntKind.u64.wrap ((v : Int) * 256) + IntKind.u64.wrap (c : Int)) = (v : Int) * 256 + c := by
  have e1 : IntKind.u64.wrap ((v : Int) * 256) = (v : Int) * 256 := wraps_u64 _ (by omega) (by omega)
  have e2 : IntKind.u64.wrap (c : Int) = c := wraps_u64 _ (by omega) (by omega)
  rw [e1, e2]
  exact wraps_u64 _ (by omega) (by omega)

set_option maxHeartbeats 400000 in
theorem Number_any (s : ByteArray) (w : World) (hs : s.size ≤ 8) :
    Calls Try.prog 117 #[.string s] w fun e w' => e = .returned (.int .u64 (numOf s)) ∧ w = w' := by
  go_enter Try.func117, Try.ntmps117
  go_wp2_with fail
  go_loop [3, 4] (fun v i => ∃ k : Nat, k ≤ s.size ∧ i = .int .i64 k ∧ v = .int .u64 (num (s.data.toList.take k))) (fun _ i => s.size - (intOf i).toNat)
  case atStart => exact ⟨0, Nat.zero_le _, rfl, rfl⟩
  case round =>
    obtain ⟨k, hk, rfl, rfl⟩ := hrel
    by_cases hlt : k < s.size
    · go_wp2_with fail
      go_round
      case rel =>
        refine ⟨k + 1, by omega, by go_num, ?_⟩
        have hkl : k < s.data.toList.length := by simpa using hlt
        have e1 : s.data.toList.take (k + 1) = s.data.toList.take k ++ [s[k]] := List.take_succ_eq_append_getElem hkl
        have b1 := num_lt (s.data.toList.take k)
        have b2 : 256 ^ (s.data.toList.take k).length ≤ 256 ^ 7 := Nat.pow_le_pow_right (by omega) (by simp; omega)
        rw [e1, num_snoc, up8 _ _ (by omega) s[k].toNat_lt]
        simp
      case measure => simp [intOf]; omega
    · obtain rfl : k = s.size := by omega
      go_wp2_with fail
      go_ret
      exact ⟨ret_int (by unfold numOf; rw [List.take_of_length_le (by simp)]), rfl⟩

theorem wrap_div (q : Nat) (h : q < 2 ^ 64) : IntKind.u64.wrap ((q : Int) / 256) = ((q / 256 : Nat) : Int) := by
  rw [wraps_u64 _ (by omega) (by omega)]
  omega

theorem one_byte (q : Nat) (W : World) :
    (convert 61 9 (.slice (some ⟨W.heap.size, 0, none⟩) 1 1)).run Try.prog (W.alloc (.cells #[.int .u8 ((q : Int) % 256)] 5)) =
      .ok (.string ⟨#[UInt8.ofNat q]⟩) (W.alloc (.cells #[.int .u8 ((q : Int) % 256)] 5)) := by
  refine run_convert_bytes_back _ _ _ 5 ⟨W.heap.size, 0, none⟩ 1 [UInt8.ofNat q] Try.underlying61 Try.underlying5 Try.underlying9 (fun j hj => ?_)
  have hj0 : j = 0 := by simpa using hj
  subst hj0
  rw [show (⟨W.heap.size, 0, none⟩ : Addr).add 0 = ⟨W.heap.size, 0, none⟩ from rfl, (Whole.new W 5 #[_]).cell1]
  simp only [List.getElem_cons_zero, UInt8.toNat_ofNat']
  congr 2

set_option maxHeartbeats 400000 in
theorem RefBytes_any (v n : Nat) (w : World) (hn : n ≤ 8) (hv : v < 2 ^ 64) :
    Calls Try.prog 49 #[.int .u64 v, .int .i64 n] w fun e w' => e = .returned (.string ⟨(be v n).toArray⟩) ∧ Below w.heap.size w w' := by
  have HV := Lib.hid hv
  clear hv
  go_enter Try.func49, Try.ntmps49
  go_wp2_with fail
  go_loopw [0, 5, 6] (fun u s i wr => ∃ k q S, k ≤ n ∧ i = .int .i64 (k : Nat) ∧ u = .int .u64 (q : Nat) ∧ s = .string S ∧ q = v / 256 ^ k ∧ S = ⟨(be v k).toArray⟩ ∧ Below w.heap.size w wr) (fun _ _ i _ => n - (intOf i).toNat)
  case atStart => exact ⟨0, v, ⟨#[]⟩, Nat.zero_le _, rfl, rfl, rfl, by simp, rfl, Below.refl _ _⟩
  case round =>
    obtain ⟨k, q, S, hk, rfl, rfl, rfl, hq, hS, hB⟩ := hrel
    have HQ := Lib.hid hq
    have HS := Lib.hid hS
    have HB := Lib.hid (wrap_div q (Nat.lt_of_le_of_lt (by rw [hq]; exact Nat.div_le_self _ _) HV.out))
    have hSz : S.size ≤ 8 := by rw [hS]; show (be v k).toArray.size ≤ 8; simp [be_length]; omega
    clear hq hS
    have hcv := one_byte q
    by_cases hlt : k < n
    · go_wp2_with fail
      go_roundw
      case rel => exact ⟨k + 1, q / 256, ⟨#[UInt8.ofNat q]⟩ ++ S, by omega, by go_num, congrArg (Value.int .u64) HB.out, rfl, by rw [HQ.out, Nat.div_div_eq_div_mul]; rfl, by rw [HS.out, HQ.out]; rfl, hB.alloc hB.size _⟩
      case measure => simp [intOf]; omega
    · obtain rfl : k = n := by omega
      go_wp2_with fail
      go_ret
      exact ⟨by rw [HS.out]; rfl, hB⟩

def RefAt (s : ByteArray) (ws : List Int) (w : World) (k : Nat) (t : ByteArray) (v : Value) (wr : World) : Prop :=
  ∃ acc, Done s ws acc t (ws.drop k) ∧ acc.length = k ∧ t.size ≤ s.size ∧ wr.ownsRow w.heap.size 72 1 v acc.length (ints .u64 acc) ∧ Below w.heap.size w wr

end Go.Proofs.Ytdanncclnhkmgaa
