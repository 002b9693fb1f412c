/- Parts of the proofs of the statements of image. No statement of the seat is proved here. -/
import Derived.Test.YtnbapaimpoobkaaGreatDoorEntC
import Derived.Test.YtnbapaimpoobkaaGreatDoorEntF
import Derived.Test.YtnbapaimpoobkaaGreatDoorZonD
import Derived.Test.YtnbapaimpoobkaaGreatDoorOcJ
import Derived.Shelf.Strings.BuilderK
import Derived.Shelf.Strings.BuilderF
import Derived.Shelf.Strings.OnBuilder
import Derived.Shelf.Strings.SplitShaped
import Derived.Shelf.Strconv.Itoa3
import Derived.Shelf.Strconv.ErrVar
import Derived.Shelf.Strconv.Atoi
import Derived.Shelf.Small.Strs
import Derived.Test.YtnbapaimpoobkaaGreatDoorProg
namespace Go.Proofs.YtnbapaimpoobkaaGreatDoor
open Go.RowKit Go.Op

def headI (g : Nat) (nn : List UInt8) : List UInt8 := be g 8 ++ (be nn.length 2 ++ nn)
def imgB (g : Nat) (nn : List UInt8) (D : List Rrd) : List UInt8 := headI g nn ++ rowE ((D.map Rrd.toRec).map ownE)
theorem headI_len (g : Nat) (nn : List UInt8) : (headI g nn).length = 10 + nn.length := by unfold headI; simp [be_length]; omega
theorem join_gen {g : Nat} (hg : g < 18446744073709551616) : joinR [(g : Int)] [8] = (mk (be g 8), 0) := by
  refine joinR_some (by decide) rfl ?_
  have e8 : ((8 : Int)).toNat = 8 := rfl
  have a1 : fitB ((g : Int)).toNat 8 = true := by unfold fitB; rw [decide_eq_true_eq]; omega
  simp only [joinF, e8]
  rw [if_pos a1]
  simp
theorem piece_two (x : List UInt8) (hx : x.length < 65536) : pieceR (mk x) 2 = (mk (be x.length 2 ++ x), 0) := by
  have hf : fitB x.length 2 = true := by simp [fitB]; omega
  have e2 : ((2 : Int)).toNat = 2 := rfl
  rw [pieceR, if_pos (by decide), mk_size, e2, if_pos hf, ← mk_append]
  rfl
theorem sees_one_u {W : World} {g ty : Nat} {x : Int} (h : Whole W g ty #[.int .u64 x]) : Sees W (g + 1) (some ⟨g, 0, none⟩) 1 (ints .u64 [x]) := sees_whole h
theorem sees_one_i {W : World} {g ty : Nat} {x : Int} (h : Whole W g ty #[.int .i64 x]) : Sees W (g + 1) (some ⟨g, 0, none⟩) 1 (ints .i64 [x]) := sees_whole h

section
variable {B b : Nat} {w w' : World} {v v' : Value} {l : List UInt8}
set_option maxHeartbeats 2000000 in
set_option maxRecDepth 20000 in
theorem imgHead_any (h : Bd B w b v l) (g : Nat) (N : ByteArray) (nn : List UInt8) (hN : N = mk nn) (hg : g < 18446744073709551616) (hn : nn.length ≤ 60000) (hlen : l.length + 70000 ≤ 1000000000) (hBw : B ≤ w.heap.size) :
    Calls Tryz.prog 38 #[.pointer (some ⟨b, 0, none⟩), .int .u64 (g : Nat), .string N] w fun e w' => e = .returned (.tuple #[]) ∧ ∃ v', Bd B w' b v' (l ++ headI g nn) ∧ Kp b b v v' w w' := by
  have HJ := Lib.hid (join_gen hg)
  have HP := Lib.hid (show pieceR N 2 = (mk (be nn.length 2 ++ nn), 0) by rw [hN]; exact piece_two nn (by omega))
  have hNz : N.size ≤ 1073741824 := by rw [hN, mk_size]; omega
  have HU := Lib.hid (show U64s [(g : Int)] from by intro z hz; simp at hz; omega)
  have hw1 := (Whole.new w 23 #[.int .u64 (g : Nat)]).alloc (.cells #[.int .i64 8] 3)
  have hw2 := Whole.new (w.alloc (.cells #[.int .u64 (g : Nat)] 23)) 3 #[.int .i64 8]
  rw [World.size_alloc] at hw2
  have HS1 := Lib.hid (sees_one_u hw1)
  have HS2 := Lib.hid (sees_one_i hw2)
  have HB0 := Lib.hid (show Below w.heap.size w ((w.alloc (.cells #[.int .u64 (g : Nat)] 23)).alloc (.cells #[.int .i64 8] 3)) from ((Below.refl _ _).alloc (Nat.le_refl _) _).alloc (by rw [World.size_alloc]; omega) _)
  have HZ := Lib.hid (show ((w.alloc (.cells #[.int .u64 (g : Nat)] 23)).alloc (.cells #[.int .i64 8] 3)).heap.size = w.heap.size + 1 + 1 by rw [World.size_alloc, World.size_alloc])
  have HH := Lib.hid h
  clear h hw1 hw2 hN hg
  go_enter Tryz.func38, Tryz.ntmps38
  go_wp2_with fail
  refine (Join_any _ _ 1 1 1 1 _ _ [(g : Int)] [8] _ HS1.out HS2.out (by rw [HZ.out]; omega) (by rw [HZ.out]; omega) (by decide) (by decide) HU.out).mono ?_
  rintro e w1 ⟨he, hB1⟩
  rw [HJ.out] at he
  subst he
  have HB1 := Lib.hid (HB0.out.trans (hB1.mono HB0.out.size))
  clear hB1
  go_wp2_with fail
  refine (Piece_any N 2 _ hNz).mono ?_
  rw [HP.out]
  rintro e w2 ⟨rfl, hB2⟩
  have HB2 := Lib.hid (HB1.out.trans (hB2.mono HB1.out.size))
  have HP2 := Lib.hid (HH.out.same HB2.out)
  clear hB2
  go_wp2_with fail
  refine (writeB_any HP2.out _ (by rw [mk_size, be_length]; omega) (Nat.le_trans hBw HB2.out.size)).mono ?_
  rintro e w3 ⟨rfl, v3, h3, k3⟩
  have H3 := Lib.hid h3
  have K3 := Lib.hid ((Kp.of_below HB2.out).trans k3)
  have HS3 := Lib.hid (Nat.le_trans (Nat.le_trans hBw HB2.out.size) k3.size)
  clear h3 k3
  go_wp2_with fail
  refine (writeB_any H3.out _ (by rw [mk_size]; simp [be_length, mk]; omega) HS3.out).mono ?_
  rintro e w4 ⟨rfl, v4, h4, k4⟩
  have H4 := Lib.hid (show Bd B w4 b v4 (l ++ headI g nn) by unfold headI; rw [← List.append_assoc]; exact h4)
  have K4 := Lib.hid (K3.out.trans k4)
  clear h4 k4
  go_wp2_with fail
  go_end0
  exact ⟨rfl, v4, H4.out, K4.out⟩

set_option maxHeartbeats 2000000 in
set_option maxRecDepth 20000 in
theorem imgRec_any (h : Bd B w b v l) (x : Rrd) (hok : okR x.toRec = true) (hlen : l.length + 100000 ≤ 1000000000) (hBw : B ≤ w.heap.size) :
    Calls Tryz.prog 39 #[.pointer (some ⟨b, 0, none⟩), .agg #[.string x.s, .int .i64 x.t, .int .i64 x.c, .int .i64 x.l, .string x.d]] w fun e w' => e = .returned (.tuple #[]) ∧ ∃ v', Bd B w' b v' (l ++ (be (ownE x.toRec).length 4 ++ ownE x.toRec)) ∧ Kp b b v v' w w' := by
  have hdl := ok_data hok
  have hol := own_len hok
  have hnl : x.toRec.n.length ≤ 1073741824 := by obtain ⟨⟨L, h1⟩, _⟩ := ok_parts hok; have := (nameL_is h1).2.2; omega
  have HP := Lib.hid (show pieceR (mk (ownE x.toRec)) 4 = (mk (be (ownE x.toRec).length 4 ++ ownE x.toRec), 0) from piece_rowE _ (by omega))
  have hMz : (mk (ownE x.toRec)).size ≤ 1073741824 := by rw [mk_size]; omega
  have hMl : (ownE x.toRec).length ≤ 66000 := by omega
  have hHX := Whole.new w rrT (rrA x.s x.d x.t x.c x.l)
  obtain ⟨d0, d1, d2, d3, d4⟩ := rr_facts hHX
  have HB0 := Lib.hid (show Below w.heap.size w (w.alloc (.cells #[.string x.s, .int .i64 x.t, .int .i64 x.c, .int .i64 x.l, .string x.d] rrT)) from (Below.refl _ _).alloc (Nat.le_refl _) _)
  have HOW := Lib.hid (fun (W : World) => (Own_yes x.s x.d x.toRec W (rrd_name x) (rrd_data x) hnl hok :
    Calls Tryz.prog 89 #[.agg #[.string x.s, .int .i64 x.t, .int .i64 x.c, .int .i64 x.l, .string x.d]] W fun e w' => e = .returned (.tuple #[.string (mk (ownE x.toRec)), .int .i64 0]) ∧ Below W.heap.size W w'))
  have HH := Lib.hid h
  clear h hHX hok hol hdl hnl
  unfold rrA at *
  go_enter Tryz.func39, Tryz.ntmps39
  go_wp2_with fail
  refine (HOW.out _).mono ?_
  rintro e w1 ⟨rfl, hB1⟩
  have HB1 := Lib.hid (HB0.out.trans (hB1.mono HB0.out.size))
  clear hB1 d0 d1 d2 d3 d4
  go_wp2_with fail
  refine (Piece_any _ 4 _ hMz).mono ?_
  rw [HP.out]
  rintro e w2 ⟨rfl, hB2⟩
  have HB2 := Lib.hid (HB1.out.trans (hB2.mono HB1.out.size))
  have HP2 := Lib.hid (HH.out.same HB2.out)
  clear hB2
  go_wp2_with fail
  refine (writeB_any HP2.out _ (by rw [mk_size, List.length_append, be_length]; omega) (Nat.le_trans hBw HB2.out.size)).mono ?_
  rintro e w3 ⟨rfl, v3, h3, k3⟩
  have H3 := Lib.hid h3
  have K3 := Lib.hid ((Kp.of_below HB2.out).trans k3)
  clear h3 k3
  go_wp2_with fail
  go_end0
  exact ⟨rfl, v3, H3.out, K3.out⟩
end

def accI (g : Nat) (nn : List UInt8) (D : List Rrd) (k : Nat) : List UInt8 := headI g nn ++ rowE (((D.take k).map Rrd.toRec).map ownE)
theorem accI_zero (g : Nat) (nn : List UInt8) (D : List Rrd) : accI g nn D 0 = headI g nn := by unfold accI; simp [rowE]
theorem accI_succ {g : Nat} {nn : List UInt8} {D : List Rrd} {k : Nat} {x : Rrd} (h : D[k]? = some x) : accI g nn D (k + 1) = accI g nn D k ++ (be (ownE x.toRec).length 4 ++ ownE x.toRec) := by
  unfold accI
  rw [List.take_add_one, h]
  simp only [Option.toList_some, List.map_append, List.map_cons, List.map_nil, rowE_append, rowE, List.append_nil, List.append_assoc]
theorem accI_all (g : Nat) (nn : List UInt8) (D : List Rrd) : accI g nn D D.length = imgB g nn D := by unfold accI imgB; rw [List.take_length]
set_option maxHeartbeats 8000000 in
set_option maxRecDepth 20000 in
theorem IBytes_any (g : Nat) (N : ByteArray) (nn : List UInt8) (D : List Rrd) (z : Value) (w : World) (hz : ZoneAt w w.heap.size N D z) (hN : N = mk nn) (hg : g < 18446744073709551616) (hn : nn.length ≤ 60000) (hD : D.length ≤ 100) (hok : OkL D) :
    Calls Tryz.prog 13 #[.int .u64 (g : Nat), z] w fun e w' => e = .returned (.string (mk (imgB g nn D))) ∧ Below w.heap.size w w' := by
  obtain ⟨m, hm⟩ : ∃ m, m = D.length := ⟨_, rfl⟩
  have HZA := Lib.hid hz
  have HAC := Lib.hid (fun k x => accI_succ (g := g) (nn := nn) (D := D) (k := k) (x := x))
  have HALL := Lib.hid (accI_all g nn D)
  have HOKL := Lib.hid hok
  have HN := Lib.hid hN
  obtain ⟨A, c, s, rfl, _, _, _⟩ := hz
  obtain ⟨W0, hW0⟩ : ∃ W0, W0 = w.alloc (.cells #[.string N, .slice A D.length c, .string s.s, .int .i64 s.t, .int .i64 s.c, .int .i64 s.l, .string s.d] zoT) := ⟨_, rfl⟩
  have hs0 : W0.heap.size = w.heap.size + 1 := by rw [hW0, World.size_alloc]
  have HB0 := Lib.hid (show Below w.heap.size w W0 by rw [hW0]; exact (Below.refl _ _).alloc (Nat.le_refl _) _)
  have HX0 := Lib.hid (show Whole W0 w.heap.size zoT #[.string N, .slice A D.length c, .string s.s, .int .i64 s.t, .int .i64 s.c, .int .i64 s.l, .string s.d] by rw [hW0]; exact Whole.new w zoT _)
  have HBD := Lib.hid (show Bd (w.heap.size + 1) (W0.alloc (.cells #[.pointer none, .slice none 0 0] bdT)) (w.heap.size + 1) (.slice none 0 0) [] by have := Bd.new W0; rw [hs0] at this; exact this)
  have HW1 := Lib.hid (HX0.out.alloc (.cells #[.pointer none, .slice none 0 0] bdT))
  have HB1 := Lib.hid (HB0.out.alloc HB0.out.size (.cells #[.pointer none, .slice none 0 0] bdT))
  have HS1 := Lib.hid (show w.heap.size + 1 ≤ (W0.alloc (.cells #[.pointer none, .slice none 0 0] bdT)).heap.size by rw [World.size_alloc, hs0]; omega)
  have HW0 := Lib.hid hW0
  have HM := Lib.hid hm
  clear hW0 hs0 hok hN
  obtain ⟨d0, d1, d2, d3, d4, d5, d6⟩ := zo_facts HX0.out
  obtain ⟨c0, c1, c2, c3, c4, c5, c6⟩ := zo_facts HW1.out
  rw [← hm] at hD
  clear hm
  go_enter Tryz.func13, Tryz.ntmps13
  go_wp2_with fail
  rw [← HW0.out]
  go_wp2_with fail
  refine (Apex_any N D _ _ (HZA.out.later HB1.out)).mono ?_
  rintro e w2 ⟨rfl, hB2⟩
  have HB2 := Lib.hid (HB1.out.trans (hB2.mono HB1.out.size))
  have HD2 := Lib.hid (HBD.out.same hB2)
  have HS2 := Lib.hid (Nat.le_trans HS1.out hB2.size)
  have hW2 := HW1.out.below hB2 HW1.out.lt
  have HW2 := Lib.hid hW2
  clear c0 c1 c2 c3 c4 c5 c6 d0 d1 d2 d3 d4 d5 d6 hB2
  obtain ⟨c0, c1, c2, c3, c4, c5, c6⟩ := zo_facts hW2
  clear hW2
  go_wp2_with fail
  refine (imgHead_any HD2.out g N nn HN.out hg hn (by simp) HS2.out).mono ?_
  rintro e w3 ⟨rfl, v3, hd3, hk3⟩
  have hBb := HD2.out.below hk3 HS2.out
  have HB3 := Lib.hid (HB2.out.trans (hBb.mono (Nat.le_succ _)))
  have hW3 := HW2.out.below hBb (Nat.lt_succ_self _)
  have HD3 := Lib.hid (show Bd (w.heap.size + 1) w3 (w.heap.size + 1) v3 (accI g nn D 0) by rw [accI_zero]; simpa using hd3)
  have HS3 := Lib.hid (Nat.le_trans HS2.out hk3.size)
  clear c0 c1 c2 c3 c4 c5 c6 hBb hd3 hk3
  obtain ⟨c0, c1, c2, c3, c4, c5, c6⟩ := zo_facts hW3
  clear hW3
  go_wp2_with fail
  refine (All_any N D _ _ (HZA.out.later HB3.out) (by rw [← HM.out]; omega)).mono ?_
  rintro e w4 ⟨u, rfl, hown, hB4⟩
  have HB4 := Lib.hid (HB3.out.trans (hB4.mono HB3.out.size))
  have HD4 := Lib.hid (HD3.out.same hB4)
  have HS4 := Lib.hid (Nat.le_trans HS3.out hB4.size)
  obtain ⟨R, hRR⟩ : ∃ R, R = w3.heap.size := ⟨_, rfl⟩
  rw [← hRR, ← HM.out] at hown
  obtain ⟨A4, k4, rfl, hs4⟩ := SeesR.own hown
  have HO4 := Lib.hid hown
  clear hown hB4 hs4 hRR c0 c1 c2 c3 c4 c5 c6
  go_wp2_with fail
  obtain ⟨B, hBB⟩ : ∃ B, B = w.heap.size + 1 := ⟨_, rfl⟩
  rw [← hBB] at HD4 HS4 ⊢
  have HBB := Lib.hid hBB
  have HHL := Lib.hid (show (accI g nn D 0).length ≤ 70000 by rw [accI_zero, headI_len]; omega)
  clear hBB
  go_loopw [15] (fun i wr => ∃ (k : Nat) (v : Value), k ≤ m ∧ i = .int .i64 (k : Nat) ∧ Bd B wr B v (accI g nn D k) ∧ (accI g nn D k).length ≤ 70000 + k * 66000 ∧ wr.ownsRow R 27 5 (.slice A4 m k4) m (rcells D) ∧ Below w.heap.size w wr ∧ B ≤ wr.heap.size) (fun i _ => m - (intOf i).toNat)
  case atStart => exact ⟨0, _, Nat.zero_le _, rfl, HD4.out, by have := HHL.out; omega, HO4.out, HB4.out, HS4.out⟩
  case round =>
    obtain ⟨k, v, hk, rfl, hbd, hlen, hO, hB, hBs⟩ := hrel
    have HD := Lib.hid hbd
    have HO := Lib.hid hO
    have HB := Lib.hid hB
    have HBs := Lib.hid hBs
    obtain ⟨A5, k5, e5, hs5⟩ := SeesR.own hO
    injection e5 with e51 e52 e53
    subst e51 e53
    have HS5 := Lib.hid hs5
    clear hbd hO hB hBs hs5
    by_cases hkN : k < m
    · have g1 : (k : Int) < (m : Int) := by omega
      have g0 : (0 : Int) ≤ (k : Int) := by omega
      obtain ⟨b, off, x, rfl, hb, hxk, hx5⟩ := HS5.out.at hkN
      have HXK := Lib.hid hxk
      obtain ⟨x0, x1, x2, x3, x4⟩ := hx5
      have hokx := HOKL.out x (List.mem_of_getElem? hxk)
      have hHX := Whole.new wr rrT (rrA x.s x.d x.t x.c x.l)
      obtain ⟨d0, d1, d2, d3, d4⟩ := rr_facts hHX
      have HB1' := Lib.hid (HB.out.alloc HB.out.size (.cells #[.string x.s, .int .i64 x.t, .int .i64 x.c, .int .i64 x.l, .string x.d] rrT))
      have HO1' := Lib.hid (HO.out.alloc (.cells #[.string x.s, .int .i64 x.t, .int .i64 x.c, .int .i64 x.l, .string x.d] rrT))
      have HD1' := Lib.hid (HD.out.same ((Below.refl wr.heap.size wr).alloc (Nat.le_refl _) (.cells #[.string x.s, .int .i64 x.t, .int .i64 x.c, .int .i64 x.l, .string x.d] rrT)))
      have HBs1 := Lib.hid (show B ≤ (wr.alloc (.cells #[.string x.s, .int .i64 x.t, .int .i64 x.c, .int .i64 x.l, .string x.d] rrT)).heap.size from Nat.le_trans HBs.out ((Below.refl wr.heap.size wr).alloc (Nat.le_refl _) _).size)
      have HAC2 := Lib.hid (HAC.out k x hxk)
      have HOX := Lib.hid hokx
      have hol := own_len hokx.1
      have hdd := ok_data hokx.1
      have HL2 := Lib.hid (show (accI g nn D (k + 1)).length ≤ 70000 + (k + 1) * 66000 by rw [HAC2.out]; simp only [List.length_append, be_length]; omega)
      have hl3 : (accI g nn D k).length + 100000 ≤ 1000000000 := by omega
      clear hHX hxk hokx hol hdd hlen
      unfold rrA at *
      go_wp2_with fail
      refine (imgRec_any HD1'.out x HOX.out.1 hl3 HBs1.out).mono ?_
      rintro e w6 ⟨rfl, v6, hd6, hk6⟩
      have HO6 := Lib.hid (hk6.rowB HD1'.out HO1'.out (by decide) (by decide))
      have HB6 := Lib.hid (HB1'.out.trans ((HD1'.out.below hk6 HBs1.out).mono (by rw [HBB.out]; exact Nat.le_succ _)))
      have HBs6 := Lib.hid (Nat.le_trans HBs1.out hk6.size)
      rw [← HAC2.out] at hd6
      have HD6 := Lib.hid hd6
      clear hd6 hk6 x0 x1 x2 x3 x4 d0 d1 d2 d3 d4
      go_wp2_with fail
      go_roundw
      case rel => exact ⟨k + 1, v6, by omega, by go_num, HD6.out, HL2.out, HO6.out, HB6.out, HBs6.out⟩
      case measure => simp [intOf]; omega
    · obtain rfl : k = m := by omega
      have HE := Lib.hid (show accI g nn D k = imgB g nn D by rw [HM.out]; exact HALL.out)
      go_wp2_with fail
      refine (stringB_any HD.out).mono ?_
      rw [HE.out]
      rintro e w5 ⟨rfl, hd5, hk5⟩
      have HB5 := Lib.hid (HB.out.trans ((HD.out.below hk5 HBs.out).mono (by rw [HBB.out]; exact Nat.le_succ _)))
      clear hd5 hk5
      go_wp2_with fail
      go_ret
      exact ⟨rfl, HB5.out⟩
end Go.Proofs.YtnbapaimpoobkaaGreatDoor
namespace Go.Proofs.YtnbapaimpoobkaaGreatDoor
open Go.Shelf
def stringL_ren : Go.Shelf.Ren := ⟨fun | 169 => 40 | n => n, fun | 70 => 63 | 9 => 9 | 0 => 0 | 72 => 66 | 37 => 64 | 127 => 115 | 3 => 3 | 5 => 5 | n => n, fun | n => n⟩
theorem stringL : Go.Proofs.Lays.n169 Tryz.prog stringL_ren := {
  mixed := by kernel_rfl
  f169 := Tryz.func40.trans (congrArg some (by kernel_rfl))
  t0 := Tryz.underlying0
  a0 := Tryz.isAgg0
  z0 := Tryz.sizeOf0
  v0 := Tryz.zeroValue0
  t3 := Tryz.underlying3
  a3 := Tryz.isAgg3
  z3 := Tryz.sizeOf3
  v3 := Tryz.zeroValue3
  t9 := Tryz.underlying9
  a9 := Tryz.isAgg9
  z9 := Tryz.sizeOf9
  v9 := Tryz.zeroValue9
  t37 := Tryz.underlying64
  a37 := Tryz.isAgg64
  z37 := Tryz.sizeOf64
  v37 := Tryz.zeroValue64
  t70 := Tryz.underlying63
  a70 := Tryz.isAgg63
  z70 := Tryz.sizeOf63
  v70 := Tryz.zeroValue63
  t72 := Tryz.underlying66
  a72 := Tryz.isAgg66
  z72 := Tryz.sizeOf66
  v72 := Tryz.zeroValue66
  t127 := Tryz.underlying115
  a127 := Tryz.isAgg115
  z127 := Tryz.sizeOf115
  v127 := Tryz.zeroValue115 }
def joinL_ren : Go.Shelf.Ren := ⟨fun | 156 => 92 | 165 => 139 | 166 => 88 | 169 => 40 | 240 => 134 | 241 => 183 | 276 => 175 | 277 => 210 | n => n, fun | 31 => 37 | 9 => 9 | 3 => 3 | 4 => 4 | 0 => 0 | 20 => 20 | 72 => 66 | 76 => 112 | 70 => 63 | 37 => 64 | 75 => 111 | 127 => 115 | 164 => 177 | 5 => 5 | 80 => 48 | n => n, fun | n => n⟩
theorem joinL : Go.Proofs.Lays.n156 Tryz.prog joinL_ren := {
  mixed := by kernel_rfl
  f156 := Tryz.func92.trans (congrArg some (by kernel_rfl))
  f165 := Tryz.func139.trans (congrArg some (by kernel_rfl))
  f166 := Tryz.func88.trans (congrArg some (by kernel_rfl))
  f169 := Tryz.func40.trans (congrArg some (by kernel_rfl))
  f240 := Tryz.func134.trans (congrArg some (by kernel_rfl))
  f241 := Tryz.func183.trans (congrArg some (by kernel_rfl))
  f276 := Tryz.func175.trans (congrArg some (by kernel_rfl))
  f277 := Tryz.func210.trans (congrArg some (by kernel_rfl))
  t0 := Tryz.underlying0
  a0 := Tryz.isAgg0
  z0 := Tryz.sizeOf0
  v0 := Tryz.zeroValue0
  t3 := Tryz.underlying3
  a3 := Tryz.isAgg3
  z3 := Tryz.sizeOf3
  v3 := Tryz.zeroValue3
  t4 := Tryz.underlying4
  a4 := Tryz.isAgg4
  z4 := Tryz.sizeOf4
  v4 := Tryz.zeroValue4
  t9 := Tryz.underlying9
  a9 := Tryz.isAgg9
  z9 := Tryz.sizeOf9
  v9 := Tryz.zeroValue9
  t20 := Tryz.underlying20
  a20 := Tryz.isAgg20
  z20 := Tryz.sizeOf20
  v20 := Tryz.zeroValue20
  t31 := Tryz.underlying37
  a31 := Tryz.isAgg37
  z31 := Tryz.sizeOf37
  v31 := Tryz.zeroValue37
  t37 := Tryz.underlying64
  a37 := Tryz.isAgg64
  z37 := Tryz.sizeOf64
  v37 := Tryz.zeroValue64
  t70 := Tryz.underlying63
  a70 := Tryz.isAgg63
  z70 := Tryz.sizeOf63
  v70 := Tryz.zeroValue63
  t72 := Tryz.underlying66
  a72 := Tryz.isAgg66
  z72 := Tryz.sizeOf66
  v72 := Tryz.zeroValue66
  t75 := Tryz.underlying111
  a75 := Tryz.isAgg111
  z75 := Tryz.sizeOf111
  v75 := Tryz.zeroValue111
  t76 := Tryz.underlying112
  a76 := Tryz.isAgg112
  z76 := Tryz.sizeOf112
  v76 := Tryz.zeroValue112
  t127 := Tryz.underlying115
  a127 := Tryz.isAgg115
  z127 := Tryz.sizeOf115
  v127 := Tryz.zeroValue115
  t164 := Tryz.underlying177
  a164 := Tryz.isAgg177
  z164 := Tryz.sizeOf177
  v164 := Tryz.zeroValue177 }
def itoaL_ren : Go.Shelf.Ren := ⟨fun | 171 => 94 | 243 => 143 | 246 => 184 | 283 => 211 | 284 => 212 | 285 => 213 | 286 => 214 | 129 => 174 | 317 => 233 | 318 => 234 | 319 => 235 | 320 => 236 | 337 => 246 | 338 => 247 | n => n, fun | 3 => 3 | 9 => 9 | 2 => 2 | 4 => 4 | 171 => 209 | 0 => 0 | 53 => 23 | 37 => 64 | 5 => 5 | 173 => 211 | 212 => 228 | 51 => 229 | 20 => 20 | 213 => 230 | 46 => 157 | 232 => 249 | 233 => 250 | n => n, fun | 17 => 2 | 18 => 7 | 19 => 8 | n => n⟩
theorem itoaL : Go.Proofs.LaysM.n171 Tryz.prog itoaL_ren := {
  mixed := by kernel_rfl
  f129 := Tryz.func174.trans (congrArg some (by kernel_rfl))
  f171 := Tryz.func94.trans (congrArg some (by kernel_rfl))
  f243 := Tryz.func143.trans (congrArg some (by kernel_rfl))
  f246 := Tryz.func184.trans (congrArg some (by kernel_rfl))
  f283 := Tryz.func211.trans (congrArg some (by kernel_rfl))
  f284 := Tryz.func212.trans (congrArg some (by kernel_rfl))
  f285 := Tryz.func213.trans (congrArg some (by kernel_rfl))
  f286 := Tryz.func214.trans (congrArg some (by kernel_rfl))
  f317 := Tryz.func233.trans (congrArg some (by kernel_rfl))
  f318 := Tryz.func234.trans (congrArg some (by kernel_rfl))
  f319 := Tryz.func235.trans (congrArg some (by kernel_rfl))
  f320 := Tryz.func236.trans (congrArg some (by kernel_rfl))
  f337 := Tryz.func246.trans (congrArg some (by kernel_rfl))
  f338 := Tryz.func247.trans (congrArg some (by kernel_rfl))
  t0 := Tryz.underlying0
  a0 := Tryz.isAgg0
  z0 := Tryz.sizeOf0
  v0 := Tryz.zeroValue0
  t2 := Tryz.underlying2
  a2 := Tryz.isAgg2
  z2 := Tryz.sizeOf2
  v2 := Tryz.zeroValue2
  t3 := Tryz.underlying3
  a3 := Tryz.isAgg3
  z3 := Tryz.sizeOf3
  v3 := Tryz.zeroValue3
  t4 := Tryz.underlying4
  a4 := Tryz.isAgg4
  z4 := Tryz.sizeOf4
  v4 := Tryz.zeroValue4
  t5 := Tryz.underlying5
  a5 := Tryz.isAgg5
  z5 := Tryz.sizeOf5
  v5 := Tryz.zeroValue5
  t9 := Tryz.underlying9
  a9 := Tryz.isAgg9
  z9 := Tryz.sizeOf9
  v9 := Tryz.zeroValue9
  t20 := Tryz.underlying20
  a20 := Tryz.isAgg20
  z20 := Tryz.sizeOf20
  v20 := Tryz.zeroValue20
  t37 := Tryz.underlying64
  a37 := Tryz.isAgg64
  z37 := Tryz.sizeOf64
  v37 := Tryz.zeroValue64
  t46 := Tryz.underlying157
  a46 := Tryz.isAgg157
  z46 := Tryz.sizeOf157
  v46 := Tryz.zeroValue157
  t51 := Tryz.underlying229
  a51 := Tryz.isAgg229
  z51 := Tryz.sizeOf229
  v51 := Tryz.zeroValue229
  t53 := Tryz.underlying23
  a53 := Tryz.isAgg23
  z53 := Tryz.sizeOf23
  v53 := Tryz.zeroValue23
  t171 := Tryz.underlying209
  a171 := Tryz.isAgg209
  z171 := Tryz.sizeOf209
  v171 := Tryz.zeroValue209
  t173 := Tryz.underlying211
  a173 := Tryz.isAgg211
  z173 := Tryz.sizeOf211
  v173 := Tryz.zeroValue211
  t212 := Tryz.underlying228
  a212 := Tryz.isAgg228
  z212 := Tryz.sizeOf228
  v212 := Tryz.zeroValue228
  t213 := Tryz.underlying230
  a213 := Tryz.isAgg230
  z213 := Tryz.sizeOf230
  t232 := Tryz.underlying249
  a232 := Tryz.isAgg249
  z232 := Tryz.sizeOf249
  v232 := Tryz.zeroValue249
  t233 := Tryz.underlying250
  a233 := Tryz.isAgg250
  z233 := Tryz.sizeOf250
  v233 := Tryz.zeroValue250
  g17 := by kernel_rfl
  g18 := by kernel_rfl
  g19 := by kernel_rfl
  i0 := by kernel_rfl
  i2 := by kernel_rfl
  i3 := by kernel_rfl
  i4 := by kernel_rfl
  i5 := by kernel_rfl
  i9 := by kernel_rfl
  i20 := by kernel_rfl
  i37 := by kernel_rfl
  i46 := by kernel_rfl
  i51 := by kernel_rfl
  i53 := by kernel_rfl
  i171 := by kernel_rfl
  i173 := by kernel_rfl
  i212 := by kernel_rfl
  i232 := by kernel_rfl
  i233 := by kernel_rfl
  m17 := by kernel_rfl
  m18 := by kernel_rfl
  m19 := by kernel_rfl }
def writeL_ren : Go.Shelf.Ren := ⟨fun | 167 => 142 | 156 => 92 | 165 => 139 | 166 => 88 | 169 => 40 | 240 => 134 | 241 => 183 | 276 => 175 | 277 => 210 | n => n, fun | 31 => 37 | 9 => 9 | 3 => 3 | 4 => 4 | 0 => 0 | 20 => 20 | 72 => 66 | 76 => 112 | 70 => 63 | 37 => 64 | 75 => 111 | 127 => 115 | 164 => 177 | 5 => 5 | 80 => 48 | n => n, fun | n => n⟩
theorem writeL : Go.Proofs.Lays.n167 Tryz.prog writeL_ren := {
  mixed := by kernel_rfl
  f167 := Tryz.func142.trans (congrArg some (by kernel_rfl))
  f240 := Tryz.func134.trans (congrArg some (by kernel_rfl))
  f276 := Tryz.func175.trans (congrArg some (by kernel_rfl))
  t0 := Tryz.underlying0
  a0 := Tryz.isAgg0
  z0 := Tryz.sizeOf0
  v0 := Tryz.zeroValue0
  t4 := Tryz.underlying4
  a4 := Tryz.isAgg4
  z4 := Tryz.sizeOf4
  v4 := Tryz.zeroValue4
  t5 := Tryz.underlying5
  a5 := Tryz.isAgg5
  z5 := Tryz.sizeOf5
  v5 := Tryz.zeroValue5
  t9 := Tryz.underlying9
  a9 := Tryz.isAgg9
  z9 := Tryz.sizeOf9
  v9 := Tryz.zeroValue9
  t20 := Tryz.underlying20
  a20 := Tryz.isAgg20
  z20 := Tryz.sizeOf20
  v20 := Tryz.zeroValue20
  t37 := Tryz.underlying64
  a37 := Tryz.isAgg64
  z37 := Tryz.sizeOf64
  v37 := Tryz.zeroValue64
  t70 := Tryz.underlying63
  a70 := Tryz.isAgg63
  z70 := Tryz.sizeOf63
  v70 := Tryz.zeroValue63
  t72 := Tryz.underlying66
  a72 := Tryz.isAgg66
  z72 := Tryz.sizeOf66
  v72 := Tryz.zeroValue66
  t75 := Tryz.underlying111
  a75 := Tryz.isAgg111
  z75 := Tryz.sizeOf111
  v75 := Tryz.zeroValue111
  t164 := Tryz.underlying177
  a164 := Tryz.isAgg177
  z164 := Tryz.sizeOf177
  v164 := Tryz.zeroValue177 }
end Go.Proofs.YtnbapaimpoobkaaGreatDoor
