/- The reference of layer 1: each of its functions returns what the plain mathematics says. -/
import Derived.Test.YtjdiajnhndelhaaOctA
import Derived.Test.YtjdiajnhndelhaaOctMath
import Derived.Lib.EndianBits
import Derived.Laws.IdiomStrings
namespace Go.Proofs.Ytjdiajnhndelhaa
open Go.RowKit

theorem up8 (v c : Nat) (hv : v < 256 ^ 7) (hc : c < 256) : IntKind.u64.wrap (IntKind.u64.wrap ((v : Int) * 256) + IntKind.u64.wrap (c : Int)) = (v : Int) * 256 + c := by
  have e1 : IntKind.u64.wrap ((v : Int) * 256) = (v : Int) * 256 := wraps_u64 _ (by omega) (by omega)
  have e2 : IntKind.u64.wrap (c : Int) = c := wraps_u64 _ (by omega) (by omega)
  rw [e1, e2]
  exact wraps_u64 _ (by omega) (by omega)

set_option maxHeartbeats 400000 in
theorem Number_any (s : ByteArray) (w : World) (hs : s.size ≤ 8) :
    Calls Try.prog 26 #[.string s] w fun e w' => e = .returned (.int .u64 (numOf s)) ∧ w = w' := by
  go_enter Try.func26, Try.ntmps26
  go_wp2_with fail
  go_loop [3, 4] (fun v i => ∃ k : Nat, k ≤ s.size ∧ i = .int .i64 k ∧ v = .int .u64 (num (s.data.toList.take k))) (fun _ i => s.size - (intOf i).toNat)
  case atStart => exact ⟨0, Nat.zero_le _, rfl, rfl⟩
  case round =>
    obtain ⟨k, hk, rfl, rfl⟩ := hrel
    by_cases hlt : k < s.size
    · go_wp2_with fail
      go_round
      case rel =>
        refine ⟨k + 1, by omega, by go_num, ?_⟩
        have hkl : k < s.data.toList.length := by simpa using hlt
        have e1 : s.data.toList.take (k + 1) = s.data.toList.take k ++ [s[k]] := List.take_succ_eq_append_getElem hkl
        have b1 := num_lt (s.data.toList.take k)
        have b2 : 256 ^ (s.data.toList.take k).length ≤ 256 ^ 7 := Nat.pow_le_pow_right (by omega) (by simp; omega)
        rw [e1, num_snoc, up8 _ _ (by omega) s[k].toNat_lt]
        simp
      case measure => simp [intOf]; omega
    · obtain rfl : k = s.size := by omega
      go_wp2_with fail
      go_ret
      exact ⟨ret_int (by unfold numOf; rw [List.take_of_length_le (by simp)]), rfl⟩

theorem wrap_div (q : Nat) (h : q < 2 ^ 64) : IntKind.u64.wrap ((q : Int) / 256) = ((q / 256 : Nat) : Int) := by
  rw [wraps_u64 _ (by omega) (by omega)]
  omega

theorem one_byte (q : Nat) (W : World) :
    (convert 52 9 (.slice (some ⟨W.heap.size, 0, none⟩) 1 1)).run Try.prog (W.alloc (.cells #[.int .u8 ((q : Int) % 256)] 5)) =
      .ok (.string ⟨#[UInt8.ofNat q]⟩) (W.alloc (.cells #[.int .u8 ((q : Int) % 256)] 5)) := by
  refine run_convert_bytes_back _ _ _ 5 ⟨W.heap.size, 0, none⟩ 1 [UInt8.ofNat q] Try.underlying52 Try.underlying5 Try.underlying9 (fun j hj => ?_)
  have hj0 : j = 0 := by simpa using hj
  subst hj0
  rw [show (⟨W.heap.size, 0, none⟩ : Addr).add 0 = ⟨W.heap.size, 0, none⟩ from rfl, (Whole.new W 5 #[_]).cell1]
  simp only [List.getElem_cons_zero, UInt8.toNat_ofNat']
  congr 2

set_option maxHeartbeats 400000 in
theorem Bytes_any (v n : Nat) (w : World) (hn : n ≤ 8) (hv : v < 2 ^ 64) :
    Calls Try.prog 29 #[.int .u64 v, .int .i64 n] w fun e w' => e = .returned (.string ⟨(be v n).toArray⟩) ∧ Below w.heap.size w w' := by
  have HV := Lib.hid hv
  clear hv
  go_enter Try.func29, Try.ntmps29
  go_wp2_with fail
  go_loopw [0, 5, 6] (fun u s i wr => ∃ k q S, k ≤ n ∧ i = .int .i64 (k : Nat) ∧ u = .int .u64 (q : Nat) ∧ s = .string S ∧ q = v / 256 ^ k ∧ S = ⟨(be v k).toArray⟩ ∧ Below w.heap.size w wr) (fun _ _ i _ => n - (intOf i).toNat)
  case atStart => exact ⟨0, v, ⟨#[]⟩, Nat.zero_le _, rfl, rfl, rfl, by simp, rfl, Below.refl _ _⟩
  case round =>
    obtain ⟨k, q, S, hk, rfl, rfl, rfl, hq, hS, hB⟩ := hrel
    have HQ := Lib.hid hq
    have HS := Lib.hid hS
    have HB := Lib.hid (wrap_div q (Nat.lt_of_le_of_lt (by rw [hq]; exact Nat.div_le_self _ _) HV.out))
    have hSz : S.size ≤ 8 := by rw [hS]; show (be v k).toArray.size ≤ 8; simp [be_length]; omega
    clear hq hS
    have hcv := one_byte q
    by_cases hlt : k < n
    · go_wp2_with fail
      go_roundw
      case rel => exact ⟨k + 1, q / 256, ⟨#[UInt8.ofNat q]⟩ ++ S, by omega, by go_num, congrArg (Value.int .u64) HB.out, rfl, by rw [HQ.out, Nat.div_div_eq_div_mul]; rfl, by rw [HS.out, HQ.out]; rfl, hB.alloc hB.size _⟩
      case measure => simp [intOf]; omega
    · obtain rfl : k = n := by omega
      go_wp2_with fail
      go_ret
      exact ⟨by rw [HS.out]; rfl, hB⟩

def RefAt (s : ByteArray) (ws : List Int) (w : World) (k : Nat) (t : ByteArray) (v : Value) (wr : World) : Prop :=
  ∃ acc, Done s ws acc t (ws.drop k) ∧ acc.length = k ∧ t.size ≤ s.size ∧ wr.ownsRow w.heap.size 43 1 v acc.length (ints .u64 acc) ∧ Below w.heap.size w wr

set_option maxHeartbeats 1000000 in
theorem RefSplit_any (s : ByteArray) (A : Option Addr) (n c B : Nat) (ws : List Int) (w : World) (h : Sees w B A n (ints .i64 ws)) (hn : n ≤ 1073741824) (hB : B ≤ w.heap.size) :
    Calls Try.prog 11 #[.string s, .slice A n c] w (SplitLeaves s ws w) := by
  have HL : Hid (ws.length = n) := Lib.hid (show ws.length = n by simpa [ints] using h.len)
  go_enter Try.func11, Try.ntmps11
  go_wp2_with fail
  go_loop [7] (fun i => ∃ k : Nat, k ≤ n ∧ i = .int .i64 k ∧ (ws.take k).all wB = true) (fun i => n - (intOf i).toNat)
  case atStart => exact ⟨0, Nat.zero_le _, rfl, rfl⟩
  case round =>
    obtain ⟨k, hk, rfl, hr⟩ := hrel
    have Hr := Lib.hid hr
    clear hr
    by_cases hlt : k < n
    · have hkw : k < ws.length := by have := HL.out; omega
      obtain ⟨b, off, rfl, hbB, hc⟩ := ints_at h hlt
      rw [show ws.getD k 0 = ws[k] from by simp [List.getD, hkw]] at hc
      cases hw : wB ws[k]
      · have hbad : Hid (ws.all wB = false) := Lib.hid (by rw [List.all_eq_false]; exact ⟨ws[k], List.getElem_mem hkw, by simp [hw]⟩)
        go_wp2_with (go_at_call 25; refine (Width_any _ _).mono ?_; rintro e w' ⟨rfl, rfl⟩)
        go_ret3
        refine ⟨none, 0, ?_, ?_, Below.refl _ _⟩
        · rw [splitR_bad hbad.out]; rfl
        · rw [splitR_bad hbad.out]; exact Sees.nil _ _ _
      · go_wp2_with (go_at_call 25; refine (Width_any _ _).mono ?_; rintro e w' ⟨rfl, rfl⟩)
        go_round
        case rel =>
          refine ⟨k + 1, by omega, by go_num, ?_⟩
          rw [List.take_succ_eq_append_getElem hkw, List.all_append, Hr.out]
          simp [hw]
        case measure => simp [intOf]; omega
    · have HG : Hid (ws.all wB = true) := Lib.hid (by have := Hr.out; rwa [List.take_of_length_le (by have := HL.out; omega)] at this)
      clear Hr
      go_wp2_with fail
      go_loopw [0, 8, 9] (fun b v i wr => ∃ k t, k ≤ n ∧ i = .int .i64 (k : Nat) ∧ b = .string t ∧ RefAt s ws w k t v wr) (fun _ _ i _ => n - (intOf i).toNat)
      case atStart => exact ⟨0, s, Nat.zero_le _, rfl, rfl, [], Done.start s ws, rfl, Nat.le_refl _, World.ownsRow_nil _ _ _ _, Below.refl _ _⟩
      case round =>
        obtain ⟨k, t, hk, rfl, rfl, acc, hd, hacc, ht, hown, GB⟩ := hrel
        by_cases hlt : k < n
        · have hkw : k < ws.length := by have := HL.out; omega
          have hwb : wB ws[k] = true := List.all_eq_true.1 HG.out _ (List.getElem_mem hkw)
          obtain ⟨hw0, hw8⟩ : 0 < ws[k] ∧ ws[k] ≤ 8 := by have := wB_cases hwb; omega
          obtain ⟨b, off, rfl, hbB, hc⟩ := ints_at (h.below (GB.mono hB)) hlt
          rw [show ws.getD k 0 = ws[k] from by simp [List.getD, hkw]] at hc
          have HD : Hid (Done s ws acc t (ws[k] :: ws.drop (k + 1))) := Lib.hid (by rw [drop_at hkw] at hd; exact hd)
          have HA := Lib.hid hacc
          obtain ⟨x, hx⟩ : ∃ x, x = ws[k] := ⟨_, rfl⟩
          rw [← hx] at hw0 hw8 hc HD
          clear hwb hd hacc hx
          by_cases hsh : (t.size : Int) < x
          · have HR := Lib.hid (splitR_none HG.out (HD.out.fails hsh))
            go_wp2_with fail
            go_ret3
            exact ⟨none, 0, by rw [HR.out]; rfl, by rw [HR.out]; exact Sees.nil _ _ _, GB⟩
          · have hle : x ≤ (t.size : Int) := by omega
            have hle' : x.toNat ≤ t.size := by omega
            clear hsh
            obtain ⟨i0, hi0, hz0, hz1, hz2⟩ := info_parts u64_info
            have hb63 : acc.length + 1 ≤ maxLen := by have := HA.out; unfold maxLen; omega
            have hb47 : (acc.length + 1) * 8 ≤ 140737488355328 := by have := HA.out; omega
            have H63 := Lib.hid hb63
            have H47 := Lib.hid hb47
            clear hb63 hb47 hkw
            have HZ : Hid (w.heap.size ≤ (wr.alloc (.cells #[.int .u64 (numOf (t.extract 0 x.toNat))] 43)).heap.size) := Lib.hid (by have := GB.size; simp; omega)
            have HC2 : Hid (∀ w2, (wr.alloc (.cells #[.int .u64 (numOf (t.extract 0 x.toNat))] 43)).grownBy w2 u8.ownBlock → w2.cell? ⟨b, off + k, none⟩ = some (.int .i64 x)) :=
              Lib.hid fun w2 hg => ((Below.grown (GB.alloc GB.size _) hg (by have := GB.size; simp; omega) (fun j hj => (hown.lt j hj).1)).cell (p := ⟨b, off + k, none⟩) (by show b < w.heap.size; omega)).trans ((GB.cell (p := ⟨b, off + k, none⟩) (by show b < w.heap.size; omega)).symm.trans hc)
            go_wp2_with (first
              | (go_at_call 26; refine (Number_any _ _ (by simp; omega)).mono ?_; rintro e w' ⟨rfl, rfl⟩)
              | (at_builtin; refine wpList_append_own _ rfl _ _ 24 rfl w.heap.size 43 i0 (.int .u64 0) 1 8 Try.underlying24 hi0 hz0 hz1 hz2 rfl (by decide) _ _ _ rfl (hown.alloc _) ⟨wr.heap.size, 0, none⟩ 1 1 [.int .u64 (numOf (t.extract 0 x.toNat))] rfl rfl (news1 _ _ _) (one1 _ rfl) H63.out H47.out HZ.out ?_; intro v2 w2 hown2 hgrow _; have hc2 := HC2.out w2 hgrow))
            have HB2 := Lib.hid (((GB.alloc GB.size _).grown hgrow (by have := GB.size; simp; omega) (fun j hj => (hown.lt j hj).1)))
            have hown3 : w2.ownsRow w.heap.size 43 1 v2 (acc ++ [(numOf (t.extract 0 x.toNat) : Int)]).length (ints .u64 (acc ++ [(numOf (t.extract 0 x.toNat) : Int)])) := by simpa [ints] using hown2
            have HO := Lib.hid hown3
            clear hown2 hown3 hgrow hown GB hc hc2
            go_roundw
            case rel => exact ⟨k + 1, t.extract x.toNat t.size, by omega, by go_num, rfl, _, HD.out.step hle, by have := HA.out; simp; omega, by simp; omega, HO.out, HB2.out⟩
            case measure => simp [intOf]; omega
        · obtain rfl : k = n := by omega
          have hnil : ws.drop k = [] := List.drop_of_length_le (by have := HL.out; omega)
          have HR : Hid (splitR s ws = (acc, t, 0)) := Lib.hid (splitR_some HG.out (by rw [hnil] at hd; exact hd.ends))
          obtain ⟨A', c', rfl, hsee⟩ := Sees.own hown
          clear hnil hd hacc
          go_wp2_with fail
          go_ret3
          exact ⟨A', c', by rw [HR.out]; rfl, by rw [HR.out]; exact hsee, GB⟩
end Go.Proofs.Ytjdiajnhndelhaa
