/- awake; DiskBreaks walked. No statement of the seat is proved here. -/
import Derived.Test.YteeomlboifleoaaDst
namespace Go.Proofs.Yteeomlboifleoaa
open Go.RowKit Go.Maps Go.Sort

theorem awake_any (w : World) : Calls Try.prog 8 #[] w fun e w' => e = .returned (.bool true) ∧ Below w.heap.size w w' := by
  go_enter Try.func8, Try.ntmps8
  go_wp2_with fail
  refine (live_New 9 w (by decide)).mono ?_
  rintro e w1 ⟨d, rfl, hL, hB⟩
  have HL := Lib.hid hL
  have HB := Lib.hid hB
  clear hL hB
  go_wp2_with fail
  have h0 : appendS (St.new 9) (⟨#[97]⟩ : ByteArray).data.toList (⟨#[120, 121]⟩ : ByteArray).data.toList = (⟨9, [([120, 121], 0)], [([97], 0)], [], [⟨[], [97], some 0⟩], 0, false⟩, 0) := by rfl
  have h1 := live_Append HL.out (by omega) (by omega) ⟨#[97]⟩ ⟨#[120, 121]⟩ (by decide) (by decide)
  rw [h0] at h1
  refine h1.mono ?_
  rintro e w2 ⟨rfl, hL2, hK2⟩
  have HL2 := Lib.hid hL2
  have HB2 := Lib.hid (HB.out.trans (hK2.below HL.out.base))
  clear hL2 hK2 h0 h1
  go_wp2_with fail
  refine (live_Used HL2.out (by decide) (by decide)).mono ?_
  rintro e w3 ⟨rfl, hB3⟩
  have HL3 := Lib.hid (HL2.out.same hB3)
  have HB3 := Lib.hid (HB2.out.trans (hB3.mono HL2.out.base))
  clear hB3
  go_wp2_with fail
  refine (live_Quota HL3.out).mono ?_
  rintro e w4 ⟨rfl, rfl⟩
  go_wp2
  go_ret
  exact ⟨rfl, HB3.out⟩
end Go.Proofs.Yteeomlboifleoaa
