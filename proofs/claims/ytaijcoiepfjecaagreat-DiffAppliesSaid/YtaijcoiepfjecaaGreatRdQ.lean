/- RdQ: texts RdaQ of our own, joined. No statement of the seat is proved here. -/
import Derived.Test.YtaijcoiepfjecaaGreatRdO
namespace Go.Proofs.YtaijcoiepfjecaaGreat
open Go.RowKit

theorem join5 {n0 n1 n2 n3 n4 : Nat} (h : n0 < 4294967296 ∧ n1 < 4294967296 ∧ n2 < 4294967296 ∧ n3 < 4294967296 ∧ n4 < 4294967296) :
    joinR [(n0 : Int), (n1 : Int), (n2 : Int), (n3 : Int), (n4 : Int)] [4, 4, 4, 4, 4] = (mk (be n0 4 ++ be n1 4 ++ be n2 4 ++ be n3 4 ++ be n4 4), 0) := by
  have hf : ∀ n : Nat, n < 4294967296 → fitB n 4 = true := fun n hn => by unfold fitB; rw [decide_eq_true_eq]; exact hn
  obtain ⟨h0, h1, h2, h3, h4⟩ := h
  refine joinR_some (by decide) rfl ?_
  have e4 : ((4 : Int)).toNat = 4 := rfl
  simp only [joinF, Int.toNat_natCast, e4, hf _ h0, hf _ h1, hf _ h2, hf _ h3, hf _ h4, if_true, Option.map_some, List.append_nil, List.append_assoc]
theorem u64_row : (Tryz.prog.info? 93).map (fun i => (i.zero, i.size, i.bytes)) = some (some (.int .u64 0), 1, 8) := by kernel_rfl
def natsV (ns : List Nat) : List Int := ns.map (fun n : Nat => (n : Int))

set_option maxHeartbeats 2000000 in
set_option maxRecDepth 20000 in
theorem Data_yes (m r : List UInt8) (n0 n1 n2 n3 n4 : Nat) (w : World) (hm : m.length ≤ 2000) (hr : r.length ≤ 2000) (h1 : (nameL m).isSome = true) (h2 : (nameL r).isSome = true) (hn : n0 < 4294967296 ∧ n1 < 4294967296 ∧ n2 < 4294967296 ∧ n3 < 4294967296 ∧ n4 < 4294967296) :
    Calls Tryz.prog 43 #[.agg (agg7 m r n0 n1 n2 n3 n4)] w fun en w' => en = .returned (.tuple #[.string (mk (m ++ r ++ be n0 4 ++ be n1 4 ++ be n2 4 ++ be n3 4 ++ be n4 4)), .int .i64 0]) ∧ Below w.heap.size w w' := by
  unfold agg7
  have HM := Lib.hid h1
  have HR := Lib.hid h2
  clear h1 h2
  have hw0 := Whole.new w soT #[.string (mk m), .string (mk r), .int .u32 (n0 : Nat), .int .u32 (n1 : Nat), .int .u32 (n2 : Nat), .int .u32 (n3 : Nat), .int .u32 (n4 : Nat)]
  have hB0 : Below w.heap.size w (w.alloc (.cells #[.string (mk m), .string (mk r), .int .u32 (n0 : Nat), .int .u32 (n1 : Nat), .int .u32 (n2 : Nat), .int .u32 (n3 : Nat), .int .u32 (n4 : Nat)] soT)) := (Below.refl _ _).alloc (Nat.le_refl _) _
  have HW0 := Lib.hid hw0
  have HB0 := Lib.hid hB0
  clear hw0 hB0
  go_enter Tryz.func43, Tryz.ntmps43
  go_wp2_with fail
  refine (Right_any (mk m) m _ rfl (by omega)).mono ?_
  rw [HM.out]
  rintro en w1 ⟨rfl, hB1⟩
  have HW1 := Lib.hid (HW0.out.below hB1 HW0.out.lt)
  have HB1 := Lib.hid (HB0.out.trans (hB1.mono HB0.out.size))
  obtain ⟨c0, c1, c2, c3, c4, c5, c6⟩ := soa_facts HW1.out
  clear hB1
  go_wp2_with fail
  refine (Right_any (mk r) r _ rfl (by omega)).mono ?_
  rw [HR.out]
  rintro en w2 ⟨rfl, hB2⟩
  have HW2 := Lib.hid (HW1.out.below hB2 HW1.out.lt)
  have HB2 := Lib.hid (HB1.out.trans (hB2.mono HB1.out.size))
  clear hB2 c0 c1 c2 c3 c4 c5 c6
  obtain ⟨c0, c1, c2, c3, c4, c5, c6⟩ := soa_facts HW2.out
  obtain ⟨ns, hns⟩ : ∃ ns, ns = [n0, n1, n2, n3, n4] := ⟨_, rfl⟩
  have hlen : ns.length = 5 := by rw [hns]; rfl
  have hlt : ∀ k (hk : k < ns.length), ns[k] < 4294967296 := by
    have hall : ∀ x ∈ ns, x < 4294967296 := by
      rw [hns]
      intro x hx
      obtain ⟨h0, h1, h2, h3, h4⟩ := hn
      simp at hx
      rcases hx with h | h | h | h | h <;> omega
    exact fun k hk => hall _ (List.getElem_mem hk)
  have hWN := Whole.new w2 49 #[.int .u32 (n0 : Nat), .int .u32 (n1 : Nat), .int .u32 (n2 : Nat), .int .u32 (n3 : Nat), .int .u32 (n4 : Nat)]
  have hcells : (#[.int .u32 (n0 : Nat), .int .u32 (n1 : Nat), .int .u32 (n2 : Nat), .int .u32 (n3 : Nat), .int .u32 (n4 : Nat)] : Array Value) = (ns.map fun n => Value.int .u32 (n : Nat)).toArray := by rw [hns]; rfl
  rw [hcells] at hWN
  have hBN := (Below.refl w2.heap.size w2).alloc (Nat.le_refl _) (.cells (ns.map fun n => Value.int .u32 (n : Nat)).toArray 49)
  have HWN := Lib.hid hWN
  have HW3 := Lib.hid (HW2.out.below hBN HW2.out.lt)
  have HB3 := Lib.hid (HB2.out.trans (hBN.mono HB2.out.size))
  have HLT := Lib.hid hlt
  have HNS := Lib.hid hns
  have HCE := Lib.hid hcells
  clear hWN hBN hlt hns hcells
  go_wp2_with fail
  rw [HCE.out]
  revert HWN HW3 HB3
  generalize w2.alloc (.cells (ns.map fun n => Value.int .u32 (n : Nat)).toArray 49) = W
  generalize w2.heap.size = gN at *
  intro HWN HW3 HB3
  go_loopw [4, 31] (fun v i wr => ∃ k : Nat, k ≤ 5 ∧ i = .int .i64 (k : Nat) ∧ wr.ownsRow W.heap.size 93 1 v k (ints .u64 (natsV (ns.take k))) ∧ Below W.heap.size W wr) (fun _ i _ => 5 - (intOf i).toNat)
  case atStart => exact ⟨0, Nat.zero_le _, rfl, World.ownsRow_nil _ _ _ _, Below.refl _ _⟩
  case round =>
    obtain ⟨k, hk, rfl, hown, hB⟩ := hrel
    obtain ⟨A, cA, rfl, hsee⟩ := Sees.own hown
    have HO := Lib.hid hown
    have HB := Lib.hid hB
    by_cases hk5 : k < 5
    · have gk : (k : Int) < 5 := by omega
      have hkl : k < ns.length := by omega
      obtain ⟨x, hx⟩ : ∃ x, x = ns[k] := ⟨_, rfl⟩
      have hx32 : x < 4294967296 := by rw [hx]; exact HLT.out k hkl
      have hc : wr.cell? ⟨gN, k, none⟩ = some (.int .u32 (x : Nat)) := by
        rw [hB.cell (p := ⟨gN, k, none⟩) HWN.out.lt, HWN.out.cell, hx]
        simp [hkl]
      have HSN := Lib.hid (show ints .u64 (natsV (ns.take (k + 1))) = ints .u64 (natsV (ns.take k)) ++ [.int .u64 (x : Nat)] by unfold natsV ints; rw [List.take_succ_eq_append_getElem hkl, List.map_append, List.map_append, hx]; rfl)
      obtain ⟨i0, hi0, hz0, hz1, hz2⟩ := info_parts u64_row
      have H63 : Hid (k + 1 ≤ maxLen) := Lib.hid (by unfold maxLen; omega)
      have H47 : Hid ((k + 1) * 8 ≤ 140737488355328) := Lib.hid (by omega)
      have hwx : IntKind.u64.wrap (x : Int) = (x : Int) := by rw [IntKind.wrap_u64]; omega
      clear hown hB hsee hx
      go_wp2_with (at_builtin; refine wpList_append_own _ rfl _ _ 91 rfl W.heap.size 93 i0 (.int .u64 0) 1 8 Tryz.underlying91 hi0 hz0 hz1 hz2 rfl (by decide) _ _ _ rfl (HO.out.alloc _) ⟨wr.heap.size, 0, none⟩ 1 1 [.int .u64 (x : Nat)] rfl rfl (news1 _ _ _) (one1 _ rfl) H63.out H47.out (by have := HB.out.size; simp; omega) ?_)
      intro v2 w4 hown2 hgrow _
      have HB4 := Lib.hid ((HB.out.alloc HB.out.size (.cells #[.int .u64 (x : Nat)] 93)).grown hgrow (by have := HB.out.size; simp; omega) (fun j hj => (HO.out.lt j hj).1))
      have HO4 := Lib.hid (show w4.ownsRow W.heap.size 93 1 v2 (k + 1) (ints .u64 (natsV (ns.take (k + 1)))) by rw [HSN.out]; exact hown2)
      clear hown2 hgrow
      go_wp2_with fail
      go_roundw
      case rel => exact ⟨k + 1, by omega, by go_num, HO4.out, HB4.out⟩
      case measure => simp [intOf]; omega
    · obtain rfl : k = 5 := by omega
      have hfull : natsV (ns.take 5) = [(n0 : Int), (n1 : Int), (n2 : Int), (n3 : Int), (n4 : Int)] := by rw [HNS.out]; rfl
      rw [hfull] at hsee
      have HSE := Lib.hid hsee
      have HW4 := Lib.hid (HW3.out.below HB.out HW3.out.lt)
      have HB4 := Lib.hid (HB3.out.trans (HB.out.mono HB3.out.size))
      have HJ := Lib.hid (join5 hn)
      clear hown hB hsee hfull
      go_wp2_with fail
      refine (widths_any _).mono ?_
      rintro en w5 ⟨g5, rfl, hs5, hB5⟩
      have HSE5 := Lib.hid (HSE.out.below hB5)
      have HW5 := Lib.hid (HW4.out.below hB5 HW4.out.lt)
      have HB5 := Lib.hid (HB4.out.trans (hB5.mono HB4.out.size))
      have hsz := hB5.size
      have HS5 := Lib.hid hs5
      clear hB5 hs5
      go_wp2_with fail
      refine (Join_any _ _ 5 5 _ _ _ _ _ _ _ HSE5.out HS5.out hsz (Nat.le_refl _) (by omega) (by omega) ?_).mono ?_
      · obtain ⟨h0, h1, h2, h3, h4⟩ := hn
        intro z hz
        simp at hz
        rcases hz with rfl | rfl | rfl | rfl | rfl <;> omega
      unfold JoinLeaves
      rw [HJ.out]
      obtain ⟨N, hN⟩ : ∃ N, N = mk (be n0 4 ++ be n1 4 ++ be n2 4 ++ be n3 4 ++ be n4 4) := ⟨_, rfl⟩
      rw [← hN]
      have hbl : ∀ n, (be n 4).length = 4 := fun n => be_length n 4
      have hz2 : N.size = 20 := by rw [hN, mk_size]; simp [hbl]
      have HNN := Lib.hid hN
      clear hN hbl
      rintro en w6 ⟨rfl, hB6⟩
      have HW6 := Lib.hid (HW5.out.below hB6 HW5.out.lt)
      have HB6 := Lib.hid (HB5.out.trans (hB6.mono HB5.out.size))
      clear hB6 c0 c1 c2 c3 c4 c5 c6
      obtain ⟨c0, c1, _, _, _, _, _⟩ := soa_facts HW6.out
      have hz1 : (mk m).size + (mk r).size ≤ 4000 := by rw [mk_size, mk_size]; omega
      have HRES := Lib.hid (show mk m ++ mk r ++ N = mk (m ++ r ++ be n0 4 ++ be n1 4 ++ be n2 4 ++ be n3 4 ++ be n4 4) by rw [HNN.out, mk_append, mk_append]; simp)
      go_wp2_with fail
      go_ret2
      exact ⟨by rw [← HRES.out]; rfl, HB6.out⟩

set_option maxHeartbeats 2000000 in
set_option maxRecDepth 20000 in
theorem Data_no (M R : ByteArray) (m r : List UInt8) (n0 n1 n2 n3 n4 : Int) (w : World) (hM : M = mk m) (hR : R = mk r) (hm : m.length ≤ 2000) (hr : r.length ≤ 2000) (h1 : (nameL m).isSome = false ∨ ((nameL m).isSome = true ∧ (nameL r).isSome = false)) :
    Calls Tryz.prog 43 #[.agg #[.string M, .string R, .int .u32 n0, .int .u32 n1, .int .u32 n2, .int .u32 n3, .int .u32 n4]] w fun en w' => en = .returned (.tuple #[.string (mk []), .int .i64 2]) ∧ Below w.heap.size w w' := by
  have hw0 := Whole.new w soT #[.string M, .string R, .int .u32 n0, .int .u32 n1, .int .u32 n2, .int .u32 n3, .int .u32 n4]
  have hB0 : Below w.heap.size w (w.alloc (.cells #[.string M, .string R, .int .u32 n0, .int .u32 n1, .int .u32 n2, .int .u32 n3, .int .u32 n4] soT)) := (Below.refl _ _).alloc (Nat.le_refl _) _
  have HW0 := Lib.hid hw0
  have HB0 := Lib.hid hB0
  have HM := Lib.hid hM
  have HR := Lib.hid hR
  clear hw0 hB0 hM hR
  rcases h1 with h1 | ⟨h1, h2⟩
  · have H1 := Lib.hid h1
    clear h1
    go_enter Tryz.func43, Tryz.ntmps43
    go_wp2_with fail
    refine (Right_any M m _ HM.out (by omega)).mono ?_
    rw [H1.out]
    rintro en w1 ⟨rfl, hB1⟩
    have HB1 := Lib.hid (HB0.out.trans (hB1.mono HB0.out.size))
    clear hB1
    go_wp2_with fail
    go_ret2
    exact ⟨rfl, HB1.out⟩
  · have H1 := Lib.hid h1
    have H2 := Lib.hid h2
    clear h1 h2
    go_enter Tryz.func43, Tryz.ntmps43
    go_wp2_with fail
    refine (Right_any M m _ HM.out (by omega)).mono ?_
    rw [H1.out]
    rintro en w1 ⟨rfl, hB1⟩
    have HW1 := Lib.hid (HW0.out.below hB1 HW0.out.lt)
    have HB1 := Lib.hid (HB0.out.trans (hB1.mono HB0.out.size))
    obtain ⟨c0, c1, _, _, _, _, _⟩ := soa_facts HW1.out
    clear hB1
    go_wp2_with fail
    refine (Right_any R r _ HR.out (by omega)).mono ?_
    rw [H2.out]
    rintro en w2 ⟨rfl, hB2⟩
    have HB2 := Lib.hid (HB1.out.trans (hB2.mono HB1.out.size))
    clear hB2
    go_wp2_with fail
    go_ret2
    exact ⟨rfl, HB2.out⟩
end Go.Proofs.YtaijcoiepfjecaaGreat
