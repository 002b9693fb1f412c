/- RdR: texts RdaR, RdaT of our own, joined. No statement of the seat is proved here. -/
import Derived.Test.YtkgihfoknpimfaaGreatRdQ
import Derived.Test.YtkgihfoknpimfaaGreatRdG
namespace Go.Proofs.YtkgihfoknpimfaaGreat
open Go.RowKit

set_option maxHeartbeats 2000000 in
set_option maxRecDepth 20000 in
theorem RefSoa_no (S : ByteArray) (D : List UInt8) (w : World) (hS : S = mk D) (hD : D.length ≤ 65535) (hr : rightR 6 D = false) :
    Calls Tryz.prog 97 #[.string S] w fun e w' => e = .returned (.tuple #[.agg zeroS, .bool false]) ∧ Below w.heap.size w w' := by
  have HS := Lib.hid hS
  have HR := Lib.hid hr
  clear hS hr
  go_enter Tryz.func97, Tryz.ntmps97
  go_wp2_with fail
  refine (RefDRight_any S D 6 _ HS.out hD).mono ?_
  rw [HR.out]
  rintro e w1 ⟨rfl, hB⟩
  have hw0 := Whole.new w soT zeroS
  unfold zeroS at hw0
  have hB0 : Below w.heap.size w (w.alloc (.cells zeroS soT)) := (Below.refl _ _).alloc (Nat.le_refl _) _
  have hw := hw0.below hB (Whole.lt hw0)
  have HB := Lib.hid (hB0.trans (hB.mono hB0.size))
  obtain ⟨c0, c1, c2, c3, c4, c5, c6⟩ := soa_facts hw
  obtain ⟨f0, f1, f2, f3, f4, f5, f6⟩ := soa_frozen hw
  have HW := Lib.hid hw
  clear hB hw0 hB0 hw
  go_wp2_with fail
  exact retS2 rfl rfl rfl rfl (seven_put HW.out _ _ _ _ _ _ _) ⟨rfl, seven_below HB.out (Nat.le_refl _) _ _ _ _ _ _ _⟩

theorem u32_row : (Tryz.prog.info? 81).map (fun i => (i.zero, i.size, i.bytes)) = some (some (.int .u32 0), 1, 4) := by kernel_rfl
def numsV (q : List (List UInt8)) (k : Nat) : List Value := ints .u32 (natsV ((q.map num).take k))

set_option maxHeartbeats 2000000 in
set_option maxRecDepth 20000 in
theorem RefSoa_yes (S : ByteArray) (D m r a b c d e : List UInt8) (w : World) (hS : S = mk D) (hD : D.length ≤ 65535) (h7 : Soa7 D m r a b c d e) :
    Calls Tryz.prog 97 #[.string S] w fun en w' => en = .returned (.tuple #[.agg (agg7 m r (num a) (num b) (num c) (num d) (num e)), .bool true]) ∧ Below w.heap.size w w' := by
  obtain ⟨hr, _, hst⟩ := h7.is
  have hout : outR (steps D D.length (kindsR 6) 0) = [m, r, a, b, c, d, e] := by rw [hst]; rfl
  have hok : okS D D.length (kindsR 6) 0 = true := by unfold okS; rw [hst]; simp
  obtain ⟨q, hq⟩ : ∃ q, q = [a, b, c, d, e] := ⟨_, rfl⟩
  have hq4 : ∀ x ∈ q, x.length = 4 := by
    rw [hq]
    obtain ⟨l0, l1, l2, l3, l4⟩ := h7.four
    intro x hx
    simp at hx
    rcases hx with rfl | rfl | rfl | rfl | rfl <;> assumption
  have hq5 : q.length = 5 := by rw [hq]; rfl
  have hall : [m, r, a, b, c, d, e] = m :: r :: q := by rw [hq]
  rw [hall] at hout
  have HS := Lib.hid hS
  have HR := Lib.hid hr
  have HOUT := Lib.hid hout
  have HOK := Lib.hid hok
  have HQ := Lib.hid hq
  have HQ4 := Lib.hid hq4
  clear hS hr hst hout hok hq hq4 hall
  go_enter Tryz.func97, Tryz.ntmps97
  go_wp2_with fail
  refine (RefDRight_any S D 6 _ HS.out hD).mono ?_
  rw [HR.out]
  rintro en w1 ⟨rfl, hB⟩
  have hw0 := Whole.new w soT zeroS
  unfold zeroS at hw0
  have hB0 : Below w.heap.size w (w.alloc (.cells zeroS soT)) := (Below.refl _ _).alloc (Nat.le_refl _) _
  have HW1 := Lib.hid (hw0.below hB (Whole.lt hw0))
  have HB1 := Lib.hid (hB0.trans (hB.mono hB0.size))
  clear hB hw0 hB0
  go_wp2_with fail
  refine (RefDRead_any S D 6 _ HS.out (by omega)).mono ?_
  rintro en w2 ⟨A, n, c', rfl, hsee, hB⟩
  rw [HOUT.out] at hsee
  rw [HOK.out]
  have hln : n = 7 := by have := hsee.len; simp [textL, texts] at this; omega
  subst hln
  have HSE := Lib.hid hsee
  have HW2 := Lib.hid (HW1.out.below hB HW1.out.lt)
  have HB2 := Lib.hid (HB1.out.trans (hB.mono HB1.out.size))
  clear hsee hB
  go_wp2_with fail
  go_loopw [6, 7] (fun v i wr => ∃ k : Nat, k ≤ 5 ∧ i = .int .i64 (2 + k : Nat) ∧ wr.ownsRow w2.heap.size 81 1 v k (numsV q k) ∧ Below w2.heap.size w2 wr) (fun _ i _ => 7 - (intOf i).toNat)
  case atStart => exact ⟨0, Nat.zero_le _, rfl, World.ownsRow_nil _ _ _ _, Below.refl _ _⟩
  case round =>
    obtain ⟨k, hk, rfl, hown, hB⟩ := hrel
    obtain ⟨A1, cA, rfl, hsee⟩ := Sees.own hown
    have HO := Lib.hid hown
    have HB := Lib.hid hB
    by_cases hk5 : k < 5
    · have gk : ((2 + k : Nat) : Int) < 7 := by omega
      have hkl : k < q.length := by omega
      obtain ⟨x, hx⟩ : ∃ x, x = q[k] := ⟨_, rfl⟩
      have hx4 : x.length = 4 := by rw [hx]; exact HQ4.out _ (List.getElem_mem hkl)
      obtain ⟨b2, off, rfl, hb2, hc⟩ := textL_at (HSE.out.below hB) (show 2 + k < 7 by omega) (show 2 + k < (m :: r :: q).length by simp; omega)
      have hg : (m :: r :: q)[2 + k]'(by simp; omega) = x := by rw [hx]; simp [show 2 + k = k + 1 + 1 by omega]
      rw [hg] at hc
      have hnx : num x < 4294967296 := by have := num_lt x; rw [hx4] at this; omega
      obtain ⟨y, hy⟩ : ∃ y, y = num x := ⟨_, rfl⟩
      have hn : numOf (mk x) = y := by rw [mk_num, hy]
      rw [← hy] at hnx
      have HSN := Lib.hid (show numsV q (k + 1) = numsV q k ++ [.int .u32 (y : Nat)] by unfold numsV natsV ints; rw [List.take_succ_eq_append_getElem (by rw [List.length_map]; exact hkl), List.map_append, List.map_append, List.getElem_map, ← hx, ← hy]; rfl)
      obtain ⟨i0, hi0, hz0, hz1, hz2⟩ := info_parts u32_row
      have H63 : Hid (k + 1 ≤ maxLen) := Lib.hid (by unfold maxLen; omega)
      have H47 : Hid ((k + 1) * 4 ≤ 140737488355328) := Lib.hid (by omega)
      have HN := Lib.hid hn
      have hms : (mk x).size = 4 := by rw [mk_size, hx4]
      clear hown hB hsee hx hg hy hn
      go_wp2_with fail
      refine (Number_any (mk x) _ (by omega)).mono ?_
      rw [HN.out]
      rintro en w3 ⟨rfl, rfl⟩
      go_wp2_with (at_builtin; refine wpList_append_own _ rfl _ _ 135 rfl w2.heap.size 81 i0 (.int .u32 0) 1 4 Tryz.underlying135 hi0 hz0 hz1 hz2 rfl (by decide) _ _ _ rfl (HO.out.alloc _) ⟨wr.heap.size, 0, none⟩ 1 1 [.int .u32 (y : Nat)] rfl rfl (news1 _ _ _) (one1 _ rfl) H63.out H47.out (by have := HB.out.size; simp; omega) ?_)
      intro v2 w4 hown2 hgrow _
      have HB4 := Lib.hid ((HB.out.alloc HB.out.size (.cells #[.int .u32 (y : Nat)] 81)).grown hgrow (by have := HB.out.size; simp; omega) (fun j hj => (HO.out.lt j hj).1))
      have HO4 := Lib.hid (show w4.ownsRow w2.heap.size 81 1 v2 (k + 1) (numsV q (k + 1)) by rw [HSN.out]; exact hown2)
      clear hown2 hgrow
      go_wp2_with fail
      go_roundw
      case rel => exact ⟨k + 1, by omega, (by congr 1), HO4.out, HB4.out⟩
      case measure => simp [intOf]; omega
    · obtain rfl : k = 5 := by omega
      have hq5' : numsV q 5 = [.int .u32 (num a : Nat), .int .u32 (num b : Nat), .int .u32 (num c : Nat), .int .u32 (num d : Nat), .int .u32 (num e : Nat)] := by rw [HQ.out]; rfl
      rw [hq5'] at hsee
      obtain ⟨b4, off4, hA4, hb4, hc4⟩ := hsee.addr (by omega)
      subst hA4
      have v0 : wr.cell? ⟨b4, off4, none⟩ = some (.int .u32 (num a : Nat)) := hc4 0 _ rfl
      have v1 : wr.cell? ⟨b4, off4 + 1, none⟩ = some (.int .u32 (num b : Nat)) := hc4 1 _ rfl
      have v2 : wr.cell? ⟨b4, off4 + 2, none⟩ = some (.int .u32 (num c : Nat)) := hc4 2 _ rfl
      have v3 : wr.cell? ⟨b4, off4 + 3, none⟩ = some (.int .u32 (num d : Nat)) := hc4 3 _ rfl
      have v4 : wr.cell? ⟨b4, off4 + 4, none⟩ = some (.int .u32 (num e : Nat)) := hc4 4 _ rfl
      obtain ⟨b5, off5, hA5, hb5, hc5⟩ := (HSE.out.below HB.out).addr (by omega)
      subst hA5
      have x4 : wr.cell? ⟨b5, off5, none⟩ = some (.string (mk m)) := hc5 0 _ rfl
      have y4 : wr.cell? ⟨b5, off5 + 1, none⟩ = some (.string (mk r)) := hc5 1 _ rfl
      have HW4 := Lib.hid (HW2.out.below HB.out HW2.out.lt)
      have HB4 := Lib.hid (HB2.out.trans (HB.out.mono HB2.out.size))
      clear hown hB hsee hq5' hc4 hc5
      go_wp2_with fail
      go_still_tail 22, (by kernel_rfl)
      change wpList _ _ _ _ _ wr.drew
      have HW5 := Lib.hid HW4.out.drew
      have HB5 := Lib.hid HB4.out.drew
      generalize wr.drew = w5 at HW5 HB5 ⊢
      obtain ⟨c0', c1', c2', c3', c4', c5', c6'⟩ := soa_facts HW5.out
      obtain ⟨f0, f1, f2, f3, f4, f5, f6⟩ := soa_frozen HW5.out
      go_wp2_with fail
      exact retS2 rfl rfl rfl rfl (seven_put HW5.out _ _ _ _ _ _ _) ⟨rfl, seven_below HB5.out (Nat.le_refl _) _ _ _ _ _ _ _⟩

/-! ### Data -/
end Go.Proofs.YtkgihfoknpimfaaGreat
namespace Go.Proofs.YtkgihfoknpimfaaGreat
open Go.RowKit

end Go.Proofs.YtkgihfoknpimfaaGreat
