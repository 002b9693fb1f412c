/- DiskRenames walked. No statement of the seat is proved here. -/
import Derived.Test.YtebbhamdpongmaaDkN
namespace Go.Proofs.Ytebbhamdpongmaa
open Go.RowKit Go.Maps Go.Sort

set_option maxHeartbeats 2000000 in
theorem DiskRenames_walk (a b c : ByteArray) (s : Bool) (w : World) (ha : a.size ≤ 140737488351232) (hb : b.size ≤ 140737488351232) :
    Calls Try.prog 6 #[.agg #[.string a, .string b, .string c, .bool s]] w fun e w' => e = .returned (.bool true) ∧ Below w.heap.size w w' := by
  have ha1 : (a.size : Int) ≤ 140737488351232 := by omega
  have hb1 : (b.size : Int) ≤ 140737488351232 := by omega
  clear ha hb
  go_enter Try.func6, Try.ntmps6
  go_wp2_with fail
  go_quiet (fail)
  have HB0 : Hid (Below w.heap.size w ((w.alloc (.cells #[.string a, .string b, .string c, .bool s] 54)).drewN nq)) := Lib.hid (below_drewN ((Below.refl _ _).alloc (Nat.le_refl _) _) _)
  revert HB0
  generalize (w.alloc (.cells #[.string a, .string b, .string c, .bool s] 54)).drewN nq = w0
  intro HB0
  go_wp2_with fail
  refine (awake_any w0).mono ?_
  rintro e w1 ⟨rfl, hB1⟩
  have HB1 := Lib.hid (HB0.out.trans (hB1.mono HB0.out.size))
  clear hB1
  by_cases hbig : (2000 : Int) < (a.size : Int) + (b.size : Int)
  · go_wp2_with fail
    refine (awake_any w1).mono ?_
    rintro e w2 ⟨rfl, hB2⟩
    have HB2 := Lib.hid (HB1.out.trans (hB2.mono HB1.out.size))
    clear hB2
    go_wp2
    go_ret
    exact ⟨rfl, HB2.out⟩
  have hsmall : (a.size : Int) + (b.size : Int) ≤ 2000 := by omega
  clear hbig ha1 hb1
  go_wp2_with fail
  refine (live_New 4000 w1 (by decide)).mono ?_
  rintro e w2 ⟨d, rfl, hL2, hB2⟩
  have HL2 := Lib.hid hL2
  have HB2 := Lib.hid (HB1.out.trans (hB2.mono HB1.out.size))
  have HBB := Lib.hid HB1.out.size
  clear hL2 hB2
  go_wp2_with fail
  refine (show Calls _ _ _ _ _ from live_Append HL2.out (by omega) (by omega) ⟨#[120]⟩ a (by omega) (by decide)).mono ?_
  rw [show appendS (St.new 4000) (⟨#[120]⟩ : ByteArray).data.toList a.data.toList = _ from pr_1 4000 a.data.toList (by rw [size_len]; omega)]
  rintro e w3 ⟨rfl, hL, hK⟩
  have HL3 := Lib.hid hL
  have HB3 := Lib.hid (HB2.out.trans ((hK.below HL2.out.base).mono HBB.out))
  clear hL hK
  go_wp2_with fail
  refine (show Calls _ _ _ _ _ from live_Sync HL3.out ⟨#[120]⟩).mono ?_
  rw [show syncS (pr1 4000 a.data.toList) (⟨#[120]⟩ : ByteArray).data.toList = _ from pr_2 4000 a.data.toList]
  rintro e w4 ⟨rfl, hL, hK⟩
  have HL4 := Lib.hid hL
  have HB4 := Lib.hid (HB3.out.trans ((hK.below HL3.out.base).mono HBB.out))
  clear hL hK
  go_wp2_with fail
  refine (show Calls _ _ _ _ _ from live_SyncDir HL4.out (by omega)).mono ?_
  rw [pr_3]
  rintro e w5 ⟨rfl, hL, hK⟩
  have HL5 := Lib.hid hL
  have HB5 := Lib.hid (HB4.out.trans ((hK.below HL4.out.base).mono HBB.out))
  clear hL hK
  go_wp2_with fail
  refine (show Calls _ _ _ _ _ from live_Append HL5.out (by omega) (by omega) ⟨#[121]⟩ b (by omega) (by decide)).mono ?_
  rw [show appendS (pr3 4000 a.data.toList) (⟨#[121]⟩ : ByteArray).data.toList b.data.toList = _ from rn_4 4000 a.data.toList b.data.toList (by rw [size_len, size_len]; omega)]
  rintro e w6 ⟨rfl, hL, hK⟩
  have HL6 := Lib.hid hL
  have HB6 := Lib.hid (HB5.out.trans ((hK.below HL5.out.base).mono HBB.out))
  clear hL hK
  go_wp2_with fail
  refine (show Calls _ _ _ _ _ from live_Sync HL6.out ⟨#[121]⟩).mono ?_
  rw [show syncS (rn4 4000 a.data.toList b.data.toList) (⟨#[121]⟩ : ByteArray).data.toList = _ from rn_5 4000 a.data.toList b.data.toList]
  rintro e w7 ⟨rfl, hL, hK⟩
  have HL7 := Lib.hid hL
  have HB7 := Lib.hid (HB6.out.trans ((hK.below HL6.out.base).mono HBB.out))
  clear hL hK
  go_wp2_with fail
  refine (show Calls _ _ _ _ _ from live_Rename HL7.out (by omega) ⟨#[121]⟩ ⟨#[120]⟩).mono ?_
  rw [show renameS (rn5 4000 a.data.toList b.data.toList) (⟨#[121]⟩ : ByteArray).data.toList (⟨#[120]⟩ : ByteArray).data.toList = _ from rn_6 4000 a.data.toList b.data.toList]
  rintro e w8 ⟨rfl, hL, hK⟩
  have HL8 := Lib.hid hL
  have HB8 := Lib.hid (HB7.out.trans ((hK.below HL7.out.base).mono HBB.out))
  clear hL hK
  cases s
  · go_wp2_with fail
    refine (live_Restart HL8.out (by omega) (by omega) c).mono ?_
    rintro e w10 ⟨rfl, hL, hK⟩
    have HL10 := Lib.hid hL
    have HB10 := Lib.hid (HB8.out.trans ((hK.below HL8.out.base).mono HBB.out))
    clear hL hK
    go_wp2_with fail
    have hrd := live_Read HL10.out ⟨#[120]⟩
    rcases rn_free 4000 a.data.toList b.data.toList c.data.toList with hrn | hrn
    · rw [show readS (restartS (rn6 4000 a.data.toList b.data.toList) c.data.toList) (⟨#[120]⟩ : ByteArray).data.toList = (b.data.toList, 0) from hrn] at hrd
      rw [show (⟨b.data.toList.toArray⟩ : ByteArray) = b from rfl] at hrd
      refine hrd.mono ?_
      rintro e w11 ⟨rfl, hB11⟩
      have HB11 := Lib.hid (HB10.out.trans (hB11.mono HB10.out.size))
      clear hB11 hrd
      go_wp2
      all_goals
        go_ret
        exact ⟨rfl, HB11.out⟩
    · rw [show readS (restartS (rn6 4000 a.data.toList b.data.toList) c.data.toList) (⟨#[120]⟩ : ByteArray).data.toList = (a.data.toList, 0) from hrn] at hrd
      rw [show (⟨a.data.toList.toArray⟩ : ByteArray) = a from rfl] at hrd
      refine hrd.mono ?_
      rintro e w11 ⟨rfl, hB11⟩
      have HB11 := Lib.hid (HB10.out.trans (hB11.mono HB10.out.size))
      clear hB11 hrd
      go_wp2
      all_goals
        go_ret
        exact ⟨rfl, HB11.out⟩
  · go_wp2_with fail
    refine (show Calls _ _ _ _ _ from live_SyncDir HL8.out (by omega)).mono ?_
    rw [rn_7]
    rintro e w9 ⟨rfl, hL, hK⟩
    have HL9 := Lib.hid hL
    have HB9 := Lib.hid (HB8.out.trans ((hK.below HL8.out.base).mono HBB.out))
    clear hL hK
    go_wp2_with fail
    refine (live_Restart HL9.out (by omega) (by omega) c).mono ?_
    rintro e w10 ⟨rfl, hL, hK⟩
    have HL10 := Lib.hid hL
    have HB10 := Lib.hid (HB9.out.trans ((hK.below HL9.out.base).mono HBB.out))
    clear hL hK
    go_wp2_with fail
    have hrd := live_Read HL10.out ⟨#[120]⟩
    rw [show readS (restartS (rn7 4000 a.data.toList b.data.toList) c.data.toList) (⟨#[120]⟩ : ByteArray).data.toList = (b.data.toList, 0) from rn_sync 4000 a.data.toList b.data.toList c.data.toList] at hrd
    rw [show (⟨b.data.toList.toArray⟩ : ByteArray) = b from rfl] at hrd
    refine hrd.mono ?_
    rintro e w11 ⟨rfl, hB11⟩
    have HB11 := Lib.hid (HB10.out.trans (hB11.mono HB10.out.size))
    clear hB11 hrd
    go_wp2
    all_goals
      go_ret
      exact ⟨rfl, HB11.out⟩
end Go.Proofs.Ytebbhamdpongmaa
