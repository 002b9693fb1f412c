/- DiskPrefix walked. No statement of the seat is proved here. -/
import Derived.Test.YtebbhamdpongmaaDkL
namespace Go.Proofs.Ytebbhamdpongmaa
open Go.RowKit Go.Maps Go.Sort

set_option maxRecDepth 20000 in
set_option maxHeartbeats 4000000 in
theorem DiskPrefix_walk (a b c : ByteArray) (w : World) (ha : a.size ≤ 140737488351232) (hb : b.size ≤ 140737488351232) (_hc : c.size ≤ 140737488351232) :
    Calls Try.prog 5 #[.string a, .string b, .string c] w fun e w' => e = .returned (.bool true) ∧ Below w.heap.size w w' := by
  have ha1 : (a.size : Int) ≤ 140737488351232 := by omega
  have hb1 : (b.size : Int) ≤ 140737488351232 := by omega
  clear ha hb _hc
  by_cases hbig : (2000 : Int) < (a.size : Int) + (b.size : Int)
  · go_enter Try.func5, Try.ntmps5
    go_wp2_with fail
    refine (awake_any w).mono ?_
    rintro e w1 ⟨rfl, hB1⟩
    have HB1 := Lib.hid hB1
    clear hB1
    go_wp2_with fail
    refine (awake_any w1).mono ?_
    rintro e w2 ⟨rfl, hB2⟩
    have HB2 := Lib.hid (HB1.out.trans (hB2.mono HB1.out.size))
    clear hB2
    go_wp2
    go_ret
    exact ⟨rfl, HB2.out⟩
  · have hsmall : (a.size : Int) + (b.size : Int) ≤ 2000 := by omega
    clear hbig ha1 hb1
    go_enter Try.func5, Try.ntmps5
    go_wp2_with fail
    refine (awake_any w).mono ?_
    rintro e w1 ⟨rfl, hB1⟩
    have HB1 := Lib.hid hB1
    clear hB1
    go_wp2_with fail
    go_loopw [7] (fun i wr => ∃ k : Nat, k ≤ 3 ∧ i = .int .i64 k ∧ Below w.heap.size w wr) (fun i _ => 3 - (intOf i).toNat)
    case atStart => exact ⟨0, by omega, rfl, HB1.out⟩
    case round =>
      obtain ⟨k, hk, rfl, hB⟩ := hrel
      have HB := Lib.hid hB
      clear hB
      have hcs : k = 0 ∨ k = 1 ∨ k = 2 ∨ k = 3 := by omega
      rcases hcs with rfl | rfl | rfl | rfl

      · go_wp2_with fail
        refine (live_New 2000 wr (by decide)).mono ?_
        rintro e w2 ⟨d, rfl, hL2, hB2⟩
        have HL2 := Lib.hid hL2
        have HB2 := Lib.hid (HB.out.trans (hB2.mono HB.out.size))
        have HBB := Lib.hid HB.out.size
        clear hL2 hB2
        go_wp2_with fail
        have h1 := live_Append HL2.out (by omega) (by omega) ⟨#[120]⟩ a (by omega) (by decide)
        rw [show appendS (St.new 2000) (⟨#[120]⟩ : ByteArray).data.toList a.data.toList = _ from pr_1 2000 a.data.toList (by rw [size_len]; omega)] at h1
        have H1 := Lib.hid h1
        clear h1
        refine Calls.mono H1.out ?_
        rintro e w3 ⟨rfl, hL3, hK3⟩
        have HL3 := Lib.hid hL3
        have HB3 := Lib.hid (HB2.out.trans ((hK3.below HL2.out.base).mono HBB.out))
        clear hL3 hK3
        go_wp2_with fail
        refine (show Calls _ _ _ _ _ from live_Sync HL3.out ⟨#[120]⟩).mono ?_
        rw [show syncS (pr1 2000 a.data.toList) (⟨#[120]⟩ : ByteArray).data.toList = _ from pr_2 2000 a.data.toList]
        rintro e w4 ⟨rfl, hL4, hK4⟩
        have HL4 := Lib.hid hL4
        have HB4 := Lib.hid (HB3.out.trans ((hK4.below HL3.out.base).mono HBB.out))
        clear hL4 hK4
        go_wp2_with fail
        refine (live_SyncDir HL4.out (by omega)).mono ?_
        rw [pr_3]
        rintro e w5 ⟨rfl, hL5, hK5⟩
        have HL5 := Lib.hid hL5
        have HB5 := Lib.hid (HB4.out.trans ((hK5.below HL4.out.base).mono HBB.out))
        clear hL5 hK5
        go_wp2_with fail
        refine (live_Append HL5.out (by omega) (by omega) ⟨#[120]⟩ b (by omega) (by decide)).mono ?_
        rw [show appendS (pr3 2000 a.data.toList) (⟨#[120]⟩ : ByteArray).data.toList b.data.toList = _ from pr_4 2000 a.data.toList b.data.toList (by rw [size_len, size_len]; omega)]
        rintro e w6 ⟨rfl, hL6, hK6⟩
        have HL6 := Lib.hid hL6
        have HB6 := Lib.hid (HB5.out.trans ((hK6.below HL5.out.base).mono HBB.out))
        clear hL6 hK6
        go_wp2_with fail
        refine (live_Restart HL6.out (by omega) (by omega) c).mono ?_
        rw [pr_5]
        rintro e w7 ⟨rfl, hL7, hK7⟩
        have HL7 := Lib.hid hL7
        have HB7 := Lib.hid (HB6.out.trans ((hK7.below HL6.out.base).mono HBB.out))
        clear hL7 hK7
        go_wp2_with fail
        have hrd := live_Read HL7.out ⟨#[120]⟩
        rw [show readS (pr5 2000 a.data.toList b.data.toList c.data.toList) (⟨#[120]⟩ : ByteArray).data.toList = _ from pr_6 _ _ _ _] at hrd
        obtain ⟨sv, hsv, q1, q2, q3, q4, q5⟩ := pr_read a b c
        rw [hsv] at hrd
        refine hrd.mono ?_
        rintro e w8 ⟨rfl, hB8⟩
        have HB8 := Lib.hid (HB7.out.trans (hB8.mono HB7.out.size))
        have n1 : a.size ≤ sv.size := by omega
        have n2 : sv.size ≤ a.size + b.size := by omega
        clear hB8 hrd hsv q1
        clear q4 q5
        go_wp2_with fail
        go_roundw
        case rel => exact ⟨1, by omega, rfl, HB8.out⟩
        case measure => decide

      · go_wp2_with fail
        refine (live_New 2000 wr (by decide)).mono ?_
        rintro e w2 ⟨d, rfl, hL2, hB2⟩
        have HL2 := Lib.hid hL2
        have HB2 := Lib.hid (HB.out.trans (hB2.mono HB.out.size))
        have HBB := Lib.hid HB.out.size
        clear hL2 hB2
        go_wp2_with fail
        have h1 := live_Append HL2.out (by omega) (by omega) ⟨#[120]⟩ a (by omega) (by decide)
        rw [show appendS (St.new 2000) (⟨#[120]⟩ : ByteArray).data.toList a.data.toList = _ from pr_1 2000 a.data.toList (by rw [size_len]; omega)] at h1
        have H1 := Lib.hid h1
        clear h1
        refine Calls.mono H1.out ?_
        rintro e w3 ⟨rfl, hL3, hK3⟩
        have HL3 := Lib.hid hL3
        have HB3 := Lib.hid (HB2.out.trans ((hK3.below HL2.out.base).mono HBB.out))
        clear hL3 hK3
        go_wp2_with fail
        refine (show Calls _ _ _ _ _ from live_Sync HL3.out ⟨#[120]⟩).mono ?_
        rw [show syncS (pr1 2000 a.data.toList) (⟨#[120]⟩ : ByteArray).data.toList = _ from pr_2 2000 a.data.toList]
        rintro e w4 ⟨rfl, hL4, hK4⟩
        have HL4 := Lib.hid hL4
        have HB4 := Lib.hid (HB3.out.trans ((hK4.below HL3.out.base).mono HBB.out))
        clear hL4 hK4
        go_wp2_with fail
        refine (live_SyncDir HL4.out (by omega)).mono ?_
        rw [pr_3]
        rintro e w5 ⟨rfl, hL5, hK5⟩
        have HL5 := Lib.hid hL5
        have HB5 := Lib.hid (HB4.out.trans ((hK5.below HL4.out.base).mono HBB.out))
        clear hL5 hK5
        go_wp2_with fail
        refine (live_Append HL5.out (by omega) (by omega) ⟨#[120]⟩ b (by omega) (by decide)).mono ?_
        rw [show appendS (pr3 2000 a.data.toList) (⟨#[120]⟩ : ByteArray).data.toList b.data.toList = _ from pr_4 2000 a.data.toList b.data.toList (by rw [size_len, size_len]; omega)]
        rintro e w6 ⟨rfl, hL6, hK6⟩
        have HL6 := Lib.hid hL6
        have HB6 := Lib.hid (HB5.out.trans ((hK6.below HL5.out.base).mono HBB.out))
        clear hL6 hK6
        go_wp2_with fail
        refine (live_Restart HL6.out (by omega) (by omega) (⟨#[]⟩ : ByteArray)).mono ?_
        rw [pr_5]
        rintro e w7 ⟨rfl, hL7, hK7⟩
        have HL7 := Lib.hid hL7
        have HB7 := Lib.hid (HB6.out.trans ((hK7.below HL6.out.base).mono HBB.out))
        clear hL7 hK7
        go_wp2_with fail
        have hrd := live_Read HL7.out ⟨#[120]⟩
        rw [show readS (pr5 2000 a.data.toList b.data.toList (⟨#[]⟩ : ByteArray).data.toList) (⟨#[120]⟩ : ByteArray).data.toList = _ from pr_6 _ _ _ _] at hrd
        obtain ⟨sv, hsv, q1, q2, q3, q4, q5⟩ := pr_read a b (⟨#[]⟩ : ByteArray)
        rw [hsv] at hrd
        refine hrd.mono ?_
        rintro e w8 ⟨rfl, hB8⟩
        have HB8 := Lib.hid (HB7.out.trans (hB8.mono HB7.out.size))
        have n1 : a.size ≤ sv.size := by omega
        have n2 : sv.size ≤ a.size + b.size := by omega
        clear hB8 hrd hsv q1
        have e4 : sv.toList = a.toList := by rw [q4 rfl]
        clear q4 q5
        go_wp2_with fail
        go_roundw
        case rel => exact ⟨2, by omega, rfl, HB8.out⟩
        case measure => decide

      · go_wp2_with fail
        refine (live_New 2000 wr (by decide)).mono ?_
        rintro e w2 ⟨d, rfl, hL2, hB2⟩
        have HL2 := Lib.hid hL2
        have HB2 := Lib.hid (HB.out.trans (hB2.mono HB.out.size))
        have HBB := Lib.hid HB.out.size
        clear hL2 hB2
        go_wp2_with fail
        have h1 := live_Append HL2.out (by omega) (by omega) ⟨#[120]⟩ a (by omega) (by decide)
        rw [show appendS (St.new 2000) (⟨#[120]⟩ : ByteArray).data.toList a.data.toList = _ from pr_1 2000 a.data.toList (by rw [size_len]; omega)] at h1
        have H1 := Lib.hid h1
        clear h1
        refine Calls.mono H1.out ?_
        rintro e w3 ⟨rfl, hL3, hK3⟩
        have HL3 := Lib.hid hL3
        have HB3 := Lib.hid (HB2.out.trans ((hK3.below HL2.out.base).mono HBB.out))
        clear hL3 hK3
        go_wp2_with fail
        refine (show Calls _ _ _ _ _ from live_Sync HL3.out ⟨#[120]⟩).mono ?_
        rw [show syncS (pr1 2000 a.data.toList) (⟨#[120]⟩ : ByteArray).data.toList = _ from pr_2 2000 a.data.toList]
        rintro e w4 ⟨rfl, hL4, hK4⟩
        have HL4 := Lib.hid hL4
        have HB4 := Lib.hid (HB3.out.trans ((hK4.below HL3.out.base).mono HBB.out))
        clear hL4 hK4
        go_wp2_with fail
        refine (live_SyncDir HL4.out (by omega)).mono ?_
        rw [pr_3]
        rintro e w5 ⟨rfl, hL5, hK5⟩
        have HL5 := Lib.hid hL5
        have HB5 := Lib.hid (HB4.out.trans ((hK5.below HL4.out.base).mono HBB.out))
        clear hL5 hK5
        go_wp2_with fail
        refine (live_Append HL5.out (by omega) (by omega) ⟨#[120]⟩ b (by omega) (by decide)).mono ?_
        rw [show appendS (pr3 2000 a.data.toList) (⟨#[120]⟩ : ByteArray).data.toList b.data.toList = _ from pr_4 2000 a.data.toList b.data.toList (by rw [size_len, size_len]; omega)]
        rintro e w6 ⟨rfl, hL6, hK6⟩
        have HL6 := Lib.hid hL6
        have HB6 := Lib.hid (HB5.out.trans ((hK6.below HL5.out.base).mono HBB.out))
        clear hL6 hK6
        go_wp2_with fail
        refine (live_Restart HL6.out (by omega) (by omega) (⟨#[0, 255]⟩ : ByteArray)).mono ?_
        rw [pr_5]
        rintro e w7 ⟨rfl, hL7, hK7⟩
        have HL7 := Lib.hid hL7
        have HB7 := Lib.hid (HB6.out.trans ((hK7.below HL6.out.base).mono HBB.out))
        clear hL7 hK7
        go_wp2_with fail
        have hrd := live_Read HL7.out ⟨#[120]⟩
        rw [show readS (pr5 2000 a.data.toList b.data.toList (⟨#[0, 255]⟩ : ByteArray).data.toList) (⟨#[120]⟩ : ByteArray).data.toList = _ from pr_6 _ _ _ _] at hrd
        obtain ⟨sv, hsv, q1, q2, q3, q4, q5⟩ := pr_read a b (⟨#[0, 255]⟩ : ByteArray)
        rw [hsv] at hrd
        refine hrd.mono ?_
        rintro e w8 ⟨rfl, hB8⟩
        have HB8 := Lib.hid (HB7.out.trans (hB8.mono HB7.out.size))
        have n1 : a.size ≤ sv.size := by omega
        have n2 : sv.size ≤ a.size + b.size := by omega
        clear hB8 hrd hsv q1
        clear q4
        by_cases h255 : (b.size : Int) < 255
        · have e5 : sv.toList = (a ++ b).toList := by rw [q5 rfl (by omega)]
          clear q5
          go_wp2_with fail
          go_roundw
          case rel => exact ⟨3, by omega, rfl, HB8.out⟩
          case measure => decide
        · have h255' : decide ((b.size : Int) < 255) = false := by simpa using h255
          clear q5 h255
          go_wp2_with fail
          go_roundw
          case rel => exact ⟨3, by omega, rfl, HB8.out⟩
          case measure => decide

      · go_wp2
        go_ret
        exact ⟨rfl, HB.out⟩
end Go.Proofs.Ytebbhamdpongmaa
