/- Scan of the reference; awake; the laws FrameMakes and FrameScans, walked: whatever the bytes, they return true and write nothing that was there. -/
import Derived.Test.YtmbnlmihpmicjaaFrmD
namespace Go.Proofs.Ytmbnlmihpmicjaa
open Go.RowKit

set_option maxHeartbeats 1000000 in
theorem RefScan_any (S : ByteArray) (l : List UInt8) (w : World) (hS : S = mk l) (hl : l.length ≤ 1073741824) :
    Calls Try.prog 15 #[.string S] w (ScanLeaves l w) := by
  have hz : S.size = l.length := by rw [hS, mk_size]
  have HZ := Lib.hid hz
  have HS := Lib.hid hS
  have hz2 : S.size ≤ 1073741824 := by omega
  clear hz hS
  go_enter Try.func15, Try.ntmps15
  go_wp2_with fail
  go_loopw [4, 5] (fun v i wr => ∃ e : Nat, e ≤ S.size ∧ i = .int .i64 e ∧ ScanAt l w e v wr) (fun _ i _ => S.size - (intOf i).toNat)
  case atStart => exact ⟨0, Nat.zero_le _, rfl, [], Scans.start l, World.ownsRow_nil _ _ _ _, Below.refl _ _⟩
  case round =>
    obtain ⟨e, he, rfl, acc, hsc, hown, GB⟩ := hrel
    by_cases hlt : e < S.size
    · have HX : Hid (S.extract e S.size = mk (l.drop e)) := Lib.hid (by rw [HS.out, mk_extract, mk_size, List.take_length])
      have HSC := Lib.hid hsc
      rcases firstL_code (l.drop e) with ⟨h0, h1, h2⟩ | h0
      · have HD := Lib.hid (hsc.step h0)
        obtain ⟨x, k, hxk⟩ : ∃ x k, firstL (l.drop e) = (x, k, 0) := ⟨(firstL (l.drop e)).1, (firstL (l.drop e)).2.1, by rw [← h0]⟩
        rw [hxk] at HD h1 h2
        have h2' : k ≤ l.length - e := by simpa using h2
        have hk : e + k ≤ S.size := by rw [HZ.out]; have := HZ.out; omega
        have hk8 : 8 ≤ k := h1
        have HXK := Lib.hid hxk
        obtain ⟨i0, hi0, hz0, hz1, hz2'⟩ := info_parts text_info
        have hal : 8 * acc.length ≤ e := hsc.2.1
        have H63 : Hid (acc.length + 1 ≤ maxLen) := Lib.hid (by unfold maxLen; omega)
        have H47 : Hid ((acc.length + 1) * 16 ≤ 140737488355328) := Lib.hid (by omega)
        have HO := Lib.hid hown
        obtain ⟨P, hP⟩ : ∃ P, P = mk x := ⟨_, rfl⟩
        have HP := Lib.hid hP
        clear hsc hown hxk h0 h1 h2 h2' hP
        go_wp2_with (first
          | (go_at_call 13; refine (RefFirst_any (S.extract e S.size) (l.drop e) _ HX.out (by rw [List.length_drop]; omega)).mono ?_; unfold RefFirstSays; rw [HXK.out, ← HP.out]; rintro e w1 ⟨rfl, hB1⟩)
          | (at_builtin; refine wpList_append_own _ rfl _ _ 31 rfl w.heap.size 9 i0 (.string ⟨#[]⟩) 1 16 Try.underlying31 hi0 hz0 hz1 hz2' rfl (by decide) _ _ _ rfl ((own_below HO.out hB1).alloc _) ⟨w1.heap.size, 0, none⟩ 1 1 [.string P] rfl rfl (news1 _ _ _) (one1 _ rfl) H63.out H47.out (by have := GB.size; have := hB1.size; simp; omega) ?_; intro v2 w2 hown2 hgrow _))
        have hown3 : w2.ownsRow w.heap.size 9 1 v2 (acc ++ [x]).length (texts ((acc ++ [x]).map mk)) := by rw [HP.out] at hown2; simpa [texts] using hown2
        have HO3 := Lib.hid hown3
        have HB2 := Lib.hid (((GB.trans (hB1.mono GB.size)).alloc (Nat.le_trans GB.size hB1.size) _).grown hgrow (by have := GB.size; have := hB1.size; simp; omega) (fun j hj => (HO.out.lt j hj).1))
        clear hown2 hown3 hgrow hB1
        go_roundw
        case rel => exact ⟨e + k, by omega, by go_num, _, HD.out, HO3.out, HB2.out⟩
        case measure => simp [intOf]; omega
      · have h0' : (firstL (l.drop e)).2.2 ≠ 0 := by rcases h0 with h0 | h0 <;> rw [h0] <;> decide
        have HR := Lib.hid (hsc.ends h0')
        obtain ⟨A', c', rfl, hsee⟩ := Sees.own hown
        obtain ⟨q, hq, hq0⟩ : ∃ q : Int, firstL (l.drop e) = ([], 0, q) ∧ (q != 0) = true := by
          rcases h0 with h0 | h0
          · exact ⟨2, h0, rfl⟩
          · exact ⟨7, h0, rfl⟩
        have HQ := Lib.hid hq
        have HO := Lib.hid hown
        clear hsc hown hsee h0 h0' hq
        go_wp2_with (go_at_call 13; refine (RefFirst_any (S.extract e S.size) (l.drop e) _ HX.out (by rw [List.length_drop]; omega)).mono ?_; unfold RefFirstSays; rw [HQ.out]; rintro e w1 ⟨rfl, hB1⟩)
        go_ret2
        obtain ⟨A2, c2, e2, hs2⟩ := Sees.own (own_below HO.out hB1)
        injection e2 with e3 e4 e5
        subst e3
        subst e5
        refine ⟨A', c', by rw [HR.out]; rfl, ?_, GB.trans (hB1.mono GB.size)⟩
        rw [HR.out]; exact hs2
    · obtain rfl : e = S.size := by omega
      have HR := Lib.hid (hsc.out (by rw [HZ.out]; exact Nat.le_refl _))
      obtain ⟨A', c', rfl, hsee⟩ := Sees.own hown
      clear hsc hown
      go_wp2_with fail
      go_ret2
      refine ⟨A', c', by rw [HR.out]; rfl, ?_, GB⟩
      rw [HR.out]; exact hsee

theorem awake_any (w : World) :
    Calls Try.prog 8 #[] w fun e w' => e = .returned (.bool true) ∧ Below w.heap.size w w' := by
  obtain ⟨F, hF⟩ : ∃ F, F = mk (frameL [97, 98, 99]) := ⟨_, rfl⟩
  have hz : F.size = 11 := by rw [hF, mk_size, frameL_len]; rfl
  have hzi : (F.size : Int) = 11 := by omega
  replace hF := Lib.hid hF
  clear hz
  go_enter Try.func8, Try.ntmps8
  go_wp2_with fail
  refine (Frame_any [97, 98, 99] _ (by decide)).mono ?_
  rw [← hF.out]
  rintro e w1 ⟨rfl, hB1⟩
  go_wp2_with fail
  refine (Size_any _ _ (by decide)).mono ?_
  rintro e w' ⟨rfl, rfl⟩
  go_wp2_with fail
  go_ret
  exact ⟨rfl, hB1⟩

set_option maxHeartbeats 400000 in
theorem FrameMakes_walk (s : ByteArray) (w : World) (_hs : s.size ≤ maxLen) :
    Calls Try.prog 3 #[.string s] w fun e w' => e = .returned (.bool true) ∧ Below w.heap.size w w' := by
  by_cases h1 : 2000 < s.size
  · have g1 : (2000 : Int) < (s.size : Int) := by omega
    go_enter Try.func3, Try.ntmps3
    go_wp2_with fail
    refine (awake_any _).mono ?_
    rintro e w1 ⟨rfl, hB1⟩
    go_wp2_with fail
    refine (awake_any _).mono ?_
    rintro e w2 ⟨rfl, hB2⟩
    go_wp2_with fail
    go_ret
    exact ⟨rfl, hB1.trans (hB2.mono hB1.size)⟩
  have g1 : ¬ (2000 : Int) < (s.size : Int) := by omega
  obtain ⟨x, hx⟩ := mk_of s
  have hxl : x.length = s.size := by rw [hx, mk_size]
  obtain ⟨F, hF⟩ : ∃ F, F = mk (frameL x) := ⟨_, rfl⟩
  have hFz : F.size = 8 + s.size := by rw [hF, mk_size, frameL_len, hxl]
  have hFi : (F.size : Int) = 8 + (s.size : Int) := by omega
  have hq : ((8 + (s.size : Int)) == (F.size : Int)) = true := by rw [beq_iff_eq]; omega
  replace hF := Lib.hid hF
  have HX := Lib.hid hx
  have HXL := Lib.hid hxl
  clear hx hxl hFz hFi
  have hcall : ∀ W, Calls Try.prog 9 #[.string s] W fun e w' => e = .returned (.tuple #[.string F, .int .i64 0]) ∧ Below W.heap.size W w' := by
    intro W; rw [HX.out, hF.out]; exact Frame_any x W (by rw [HXL.out]; omega)
  replace hcall := Lib.hid hcall
  go_enter Try.func3, Try.ntmps3
  go_wp2_with fail
  refine (awake_any _).mono ?_
  rintro e w1 ⟨rfl, hB1⟩
  go_wp2_with fail
  refine (hcall.out _).mono ?_
  rintro e w2 ⟨rfl, hB2⟩
  have hBB := hB1.trans (hB2.mono hB1.size)
  go_wp2_with fail
  refine (RefFrame_any s x _ HX.out (by rw [HXL.out]; omega)).mono ?_
  rw [← hF.out]
  rintro e w3 ⟨rfl, hB3⟩
  have hBB3 := hBB.trans (hB3.mono hBB.size)
  go_wp2_with fail
  refine (Size_any s _ (by omega)).mono ?_
  rintro e w' ⟨rfl, rfl⟩
  go_wp2_with fail
  go_ret
  exact ⟨rfl, hBB3⟩
end Go.Proofs.Ytmbnlmihpmicjaa
