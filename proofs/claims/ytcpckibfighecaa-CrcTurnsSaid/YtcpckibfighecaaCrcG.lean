/- The law CrcTurns, walked. -/
import Derived.Test.YtcpckibfighecaaCrcE
import Derived.Deep.AppendLies
import Derived.Deep.AppendSrc
import Derived.Deep.RegionLaw
import Derived.Deep.RegionHeld3
namespace Go.Proofs.Ytcpckibfighecaa
open Go.RowKit

def bytesV (l : List UInt8) : List Value := l.map fun b => .int .u8 (b.toNat : Nat)
theorem str_of_own {w : World} {base n : Nat} {v : Value} {l : List UInt8} (h : w.ownsRow base 5 1 v n (bytesV l)) :
    (convert 31 9 v).run Try.prog w = .ok (.string ⟨l.toArray⟩) w := by
  have hl : l.length = n := by have := h.1; simpa [bytesV] using this
  rcases h.2 with ⟨rfl, h0⟩ | ⟨g, cap, cur, rfl, _, _, _⟩
  · have : l = [] := List.eq_nil_of_length_eq_zero (by omega)
    subst this
    rw [run_convert_bytes_string w 31 9 5 none 0 0 Try.underlying31 Try.underlying5 Try.underlying9]
    rfl
  · subst hl
    refine run_convert_bytes_back w _ _ 5 ⟨g, 0, none⟩ cap l Try.underlying31 Try.underlying5 Try.underlying9 (fun j hj => ?_)
    exact h.cells (g := g) rfl j _ (by simp [bytesV, hj])
theorem u8_info : (Try.prog.info? 5).map (fun i => (i.zero, i.size, i.bytes)) = some (some (.int .u8 0), 1, 1) := by kernel_rfl
theorem three_bytes (a b c : UInt8) : bits .xor .u8 (bits .xor .u8 (a.toNat : Int) (b.toNat : Int)) (c.toNat : Int) = ((a ^^^ b ^^^ c).toNat : Nat) := by
  rw [u8_xor_nat _ _ a.toNat_lt b.toNat_lt, ← UInt8.toNat_xor, u8_xor_nat _ _ (UInt8.toNat_lt _) c.toNat_lt, ← UInt8.toNat_xor]
theorem three_words (a b c : Nat) (ha : a < 4294967296) (hb : b < 4294967296) (hc : c < 4294967296) : bits .xor .u32 (bits .xor .u32 (a : Int) (b : Int)) (c : Int) = ((a ^^^ b ^^^ c : Nat) : Int) := by
  rw [u32_xor_nat _ _ ha hb, u32_xor_nat _ _ (xor_lt ha hb) hc]
theorem three_take (a b c : ByteArray) (k : Nat) (ha : k < a.size) (hb : k < b.size) (hc : k < c.size) :
    (xorL (xorL a.data.toList b.data.toList) c.data.toList).take (k + 1) = (xorL (xorL a.data.toList b.data.toList) c.data.toList).take k ++ [a[k] ^^^ b[k] ^^^ c[k]] := by
  have hl : k < (xorL (xorL a.data.toList b.data.toList) c.data.toList).length := by
    unfold xorL
    simp only [List.length_zipWith, Array.length_toList]
    have e1 : a.data.size = a.size := rfl
    have e2 : b.data.size = b.size := rfl
    have e3 : c.data.size = c.size := rfl
    omega
  rw [List.take_succ_eq_append_getElem hl]
  congr 2
  have e : ∀ (l m : List UInt8) (h1 : k < l.length) (h2 : k < m.length) (h3 : k < (xorL l m).length), (xorL l m)[k] = l[k] ^^^ m[k] := fun l m h1 h2 h3 => List.getElem_zipWith ..
  have hab : k < (xorL a.data.toList b.data.toList).length := by
    unfold xorL
    rw [List.length_zipWith, Array.length_toList, Array.length_toList]
    exact Nat.lt_min.2 ⟨ha, hb⟩
  rw [e _ _ hab (by simpa using hc), e _ _ (by simpa using ha) (by simpa using hb)]
  rfl

set_option maxHeartbeats 2000000 in
theorem CrcTurns_walk (a b c : ByteArray) (w : World) (_ha : a.size ≤ maxLen) (_hb : b.size ≤ maxLen) (_hc : c.size ≤ maxLen) :
    Calls Try.prog 7 #[.string a, .string b, .string c] w fun e w' => e = .returned (.bool true) ∧ Below w.heap.size w w' := by
  by_cases h0 : a.size = b.size
  case neg =>
    have g1 : ((a.size : Int) != (b.size : Int)) = true := by rw [bne_iff_ne]; omega
    replace h0 := Lib.hid h0
    go_enter Try.func7, Try.ntmps7
    go_wp2_with fail
    refine (awake_any _).mono ?_
    rintro e w1 ⟨rfl, hB1⟩
    go_wp2_with fail
    refine (awake_any _).mono ?_
    rintro e w2 ⟨rfl, hB2⟩
    go_wp2_with fail
    go_ret
    exact ⟨rfl, hB1.trans (hB2.mono hB1.size)⟩
  have g1 : ((a.size : Int) != (b.size : Int)) = false := by rw [h0]; simp
  by_cases h1 : b.size = c.size
  case neg =>
    have g2 : ((b.size : Int) != (c.size : Int)) = true := by rw [bne_iff_ne]; omega
    replace h0 := Lib.hid h0
    replace h1 := Lib.hid h1
    go_enter Try.func7, Try.ntmps7
    go_wp2_with fail
    refine (awake_any _).mono ?_
    rintro e w1 ⟨rfl, hB1⟩
    go_wp2_with fail
    refine (awake_any _).mono ?_
    rintro e w2 ⟨rfl, hB2⟩
    go_wp2_with fail
    go_ret
    exact ⟨rfl, hB1.trans (hB2.mono hB1.size)⟩
  have g2 : ((b.size : Int) != (c.size : Int)) = false := by rw [h1]; simp
  by_cases h2 : 500 < a.size
  · have g3 : (500 : Int) < (a.size : Int) := by omega
    replace h0 := Lib.hid h0
    replace h1 := Lib.hid h1
    go_enter Try.func7, Try.ntmps7
    go_wp2_with fail
    refine (awake_any _).mono ?_
    rintro e w1 ⟨rfl, hB1⟩
    go_wp2_with fail
    refine (awake_any _).mono ?_
    rintro e w2 ⟨rfl, hB2⟩
    go_wp2_with fail
    go_ret
    exact ⟨rfl, hB1.trans (hB2.mono hB1.size)⟩
  have g3 : ¬ (500 : Int) < (a.size : Int) := by omega
  have hsa : a.size ≤ 1073741824 := by omega
  have hsb : b.size ≤ 1073741824 := by omega
  have hsc : c.size ≤ 1073741824 := by omega
  replace h0 := Lib.hid h0
  replace h1 := Lib.hid h1
  obtain ⟨i0, hi0, hz0, hz1, hz2⟩ := info_parts u8_info
  replace hi0 := Lib.hid hi0
  replace hz0 := Lib.hid hz0
  replace hz1 := Lib.hid hz1
  replace hz2 := Lib.hid hz2
  go_enter Try.func7, Try.ntmps7
  go_wp2_with fail
  refine (awake_any _).mono ?_
  rintro e w1 ⟨rfl, hB1⟩
  go_wp2_with fail
  go_loopw [7, 8] (fun v i wr => ∃ k : Nat, k ≤ a.size ∧ i = .int .i64 k ∧ wr.ownsRow w.heap.size 5 1 v k (bytesV ((xorL (xorL a.data.toList b.data.toList) c.data.toList).take k)) ∧ Below w.heap.size w wr) (fun _ i _ => a.size - (intOf i).toNat)
  case atStart => exact ⟨0, Nat.zero_le _, rfl, World.ownsRow_nil _ _ _ _, hB1⟩
  case round =>
    obtain ⟨k, hk, rfl, hown, hB⟩ := hrel
    by_cases hlt : k < a.size
    · have hkb : k < b.size := by have := h0.out; omega
      have hkc : k < c.size := by have := h1.out; omega
      have hbit := three_bytes a[k] b[k] c[k]
      have htk := Lib.hid (three_take a b c k hlt hkb hkc)
      generalize a[k] ^^^ b[k] ^^^ c[k] = C at hbit htk
      have j1 : (k : Int) < (a.size : Int) := by omega
      have j2 : (k : Int) < (b.size : Int) := by omega
      have j3 : (k : Int) < (c.size : Int) := by omega
      have h63 : k + 1 ≤ maxLen := by unfold maxLen; omega
      have h47 : (k + 1) * 1 ≤ 140737488355328 := by omega
      go_wp2_with fail
      refine wp_region_noPanic ?_
      go_region_law (refine step_append_lies _ (by rfl) _ _ _ (by rfl) w.heap.size 5 i0 (.int .u8 0) 1 1 Try.underlying31 hi0.out hz0.out hz1.out hz2.out rfl (by omega) _ k _ (by rfl) (World.ownsRow.alloc (w := wr.drew) hown _) ⟨wr.heap.size, 0, none⟩ 1 1 [.int .u8 (C.toNat : Nat)] (by rfl) (by rfl) (World.news_of_block (cs := #[.int .u8 (C.toNat : Nat)]) (t := 5) (fr := (0, 0)) (heap_alloc_new wr.drew _)) (by simp [Value.oneCell']) (by omega) h63 h47 (by have := hB.size; simp; omega) (wr.heap.size + 1) (by simp) ?_; intro gg cap w2 hown2 hgrow hat hlt2)
      all_goals
        refine NoPanic.normal ?_
        have hown3 : w2.ownsRow w.heap.size 5 1 (.slice (some ⟨gg, 0, none⟩) (k + 1) cap) (k + 1) (bytesV ((xorL (xorL a.data.toList b.data.toList) c.data.toList).take (k + 1))) := by
          rw [htk.out]
          simpa [bytesV] using hown2
        have HO := Lib.hid hown3
        have hBd : Below w.heap.size w wr.drew := ⟨hB.os, hB.tape, hB.output, hB.size, hB.block⟩
        have HB2 := Lib.hid ((hBd.alloc hB.size (.cells #[.int .u8 (C.toNat : Nat)] 5)).grown hgrow (by have := hB.size; simp; omega) (fun j hj => (hown.lt j hj).1))
        clear hat hlt2 hown2 hown3 hgrow hown hBd hB
        go_wp2_with fail
        go_roundw
        case rel => exact ⟨k + 1, by omega, by go_num, HO.out, HB2.out⟩
        case measure => simp [intOf]; omega
    · obtain rfl : k = a.size := by omega
      have hfull : (xorL (xorL a.data.toList b.data.toList) c.data.toList).take a.size = xorL (xorL a.data.toList b.data.toList) c.data.toList := by
        apply List.take_of_length_le
        unfold xorL
        simp only [List.length_zipWith, Array.length_toList]
        exact Nat.le_trans (Nat.min_le_left _ _) (Nat.min_le_left _ _)
      rw [hfull] at hown
      have hst := str_of_own hown
      have hsum := sum_xor3 a.data.toList b.data.toList c.data.toList (by simpa using h0.out) (by simpa using h1.out)
      have hLl : (⟨(xorL (xorL a.data.toList b.data.toList) c.data.toList).toArray⟩ : ByteArray).size ≤ 1073741824 := by
        have := hown.1
        simp [bytesV] at this
        simp [ByteArray.size]
        omega
      have hw3 := three_words _ _ _ (sumOf_lt a.data.toList) (sumOf_lt b.data.toList) (sumOf_lt c.data.toList)
      rw [← hsum] at hw3
      generalize xorL (xorL a.data.toList b.data.toList) c.data.toList = L at hst hLl hw3
      clear hfull hsum hown
      go_wp2_with fail
      refine (Sum_any ⟨L.toArray⟩ _ hLl).mono ?_
      rintro e w3 ⟨rfl, hB4⟩
      have hB5 := hB.trans (hB4.mono hB.size)
      clear hst
      go_wp2_with fail
      refine (Sum_any a _ hsa).mono ?_
      rintro e w4 ⟨rfl, hB6⟩
      have hB7 := hB5.trans (hB6.mono hB5.size)
      go_wp2_with fail
      refine (Sum_any b _ hsb).mono ?_
      rintro e w5 ⟨rfl, hB8⟩
      have hB9 := hB7.trans (hB8.mono hB7.size)
      go_wp2_with fail
      refine (Sum_any c _ hsc).mono ?_
      rintro e w6 ⟨rfl, hB10⟩
      have hB11 := hB9.trans (hB10.mono hB9.size)
      go_wp2_with fail
      go_ret
      exact ⟨ret_bool (by simp), hB11⟩
end Go.Proofs.Ytcpckibfighecaa
