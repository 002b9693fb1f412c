/- Parts of the proofs of the statements of image. No statement of the seat is proved here. -/
import Derived.Test.YtmpginmdaeclaaaGreatDoorZoE
import Derived.Test.YtmpginmdaeclaaaGreatDoorEnC
import Derived.Test.YtmpginmdaeclaaaGreatDoorReE
import Derived.Test.YtmpginmdaeclaaaGreatDoorRdG
import Derived.Test.YtmpginmdaeclaaaGreatDoorRdJ
import Derived.Test.YtmpginmdaeclaaaGreatDoorReI
import Derived.Deep.RegionWith
import Derived.Test.YtmpginmdaeclaaaGreatDoorOcA
import Derived.BigQuiet
import Derived.Test.YtmpginmdaeclaaaGreatDoorZoC
import Derived.Test.YtmpginmdaeclaaaGreatDoorOcJ
set_option maxHeartbeats 32000000
set_option maxRecDepth 20000
namespace Go.Proofs.YtmpginmdaeclaaaGreatDoor
open Go.RowKit Go.Op
set_option linter.unusedVariables false
theorem sees_far {w w' : World} {B r n : Nat} {A : Option Addr} {xs : List Rrd} (h : SeesR w B A n xs) (hB : B <= w.heap.size) (hne : 0 < n -> ∀ ad, A = some ad -> ad.block ≠ r) (hg : w.grownBy w' (some r)) : SeesR w' B A n xs := by
  refine ⟨h.1, fun hn => ?_⟩
  obtain ⟨b, off, e, hb, hc⟩ := h.2 hn
  refine ⟨b, off, e, hb, fun j x hx => ?_⟩
  have k : b ≠ r := hne hn ⟨b, off, none⟩ e
  obtain ⟨c0, c1, c2, c3, c4⟩ := hc j x hx
  have far : ∀ o, w'.cell? ⟨b, o, none⟩ = w.cell? ⟨b, o, none⟩ := fun o => hg.cell_far ⟨b, o, none⟩ (Nat.lt_of_lt_of_le hb hB) (fun e => k (by cases e; rfl))
  exact ⟨(far _).trans c0, (far _).trans c1, (far _).trans c2, (far _).trans c3, (far _).trans c4⟩
theorem OkX.some {x : Rrd} (h : OkX x) : x.s ≠ ⟨#[]⟩ := by
  intro e
  have h1 := h.nm
  have h2 := name_len x
  rw [e] at h2
  have h3 : nmX x = [] := List.length_eq_zero_iff.1 h2
  rw [h3, nameL_nil] at h1
  cases h1
theorem sees_apart {w : World} {B r n : Nat} {A : Option Addr} {D : List Rrd} (h : SeesR w B A n D) (hw : Whole w r zoT zeroZ) (ok : OkL D) : 0 < n -> ∀ ad, A = some ad -> ad.block ≠ r := by
  intro hn ad e c
  obtain ⟨b, off, x, e2, hb, hx, c0, _⟩ := h.at hn
  rw [e] at e2
  cases e2
  subst c
  have hok := (ok.at hx).some
  rw [hw.cell] at c0
  unfold zeroZ at c0
  rcases (show off + 0 * 5 = 0 \/ off + 0 * 5 = 1 \/ off + 0 * 5 = 2 \/ off + 0 * 5 = 3 \/ off + 0 * 5 = 4 \/ off + 0 * 5 = 5 \/ off + 0 * 5 = 6 \/ 7 <= off + 0 * 5 by omega) with q | q | q | q | q | q | q | q
  all_goals first
    | (rw [q] at c0; simp at c0; exact hok c0.symm)
    | (rw [q] at c0; simp at c0)
    | (rw [Array.getElem?_eq_none (by simpa using q)] at c0; cases c0)
theorem zone_far {w w' : World} {r : Nat} {N : ByteArray} {D : List Rrd} {v : Value} (h : ZoneAt w w.heap.size N D v) (hw : Whole w r zoT zeroZ) (ok : OkL D) (hg : w.grownBy w' (some r)) : ZoneAt w' w'.heap.size N D v := by
  obtain ⟨A, c, s, e, hs, hc, ht⟩ := h
  exact ⟨A, c, s, e, (sees_far hs (Nat.le_refl _) (sees_apart hs hw ok) hg).more hg.size, hc, ht⟩
theorem sev_grown (w : World) (r : Nat) (a0 a1 a2 a3 a4 a5 a6 : Value) : w.grownBy (((((((w.setCell ⟨r, 0, none⟩ a0).setCell ⟨r, 1, none⟩ a1).setCell ⟨r, 2, none⟩ a2).setCell ⟨r, 3, none⟩ a3).setCell ⟨r, 4, none⟩ a4).setCell ⟨r, 5, none⟩ a5).setCell ⟨r, 6, none⟩ a6) (some r) :=
  grown_trans (grown_trans (grown_trans (grown_trans (grown_trans (grown_trans (gset _ ⟨r, 0, none⟩ a0) (gset _ ⟨r, 1, none⟩ a1)) (gset _ ⟨r, 2, none⟩ a2)) (gset _ ⟨r, 3, none⟩ a3)) (gset _ ⟨r, 4, none⟩ a4)) (gset _ ⟨r, 5, none⟩ a5)) (gset _ ⟨r, 6, none⟩ a6)
end Go.Proofs.YtmpginmdaeclaaaGreatDoor
namespace Go.Proofs.YtmpginmdaeclaaaGreatDoor
open Go.RowKit Go.Op
def headI (g : Nat) (nn : List UInt8) : List UInt8 := be g 8 ++ (be nn.length 2 ++ nn)
def imgB (g : Nat) (nn : List UInt8) (D : List Rrd) : List UInt8 := headI g nn ++ rowE ((D.map Rrd.toRec).map ownE)
theorem headI_len (g : Nat) (nn : List UInt8) : (headI g nn).length = 10 + nn.length := by unfold headI; simp [be_length]; omega
theorem join_gen {g : Nat} (hg : g < 18446744073709551616) : joinR [(g : Int)] [8] = (mk (be g 8), 0) := by
  refine joinR_some (by decide) rfl ?_
  have e8 : ((8 : Int)).toNat = 8 := rfl
  have a1 : fitB ((g : Int)).toNat 8 = true := by unfold fitB; rw [decide_eq_true_eq]; omega
  simp only [joinF, e8]
  rw [if_pos a1]
  simp
theorem piece_two (x : List UInt8) (hx : x.length < 65536) : pieceR (mk x) 2 = (mk (be x.length 2 ++ x), 0) := by
  have hf : fitB x.length 2 = true := by simp [fitB]; omega
  have e2 : ((2 : Int)).toNat = 2 := rfl
  rw [pieceR, if_pos (by decide), mk_size, e2, if_pos hf, <-mk_append]
  rfl
theorem sees_one_u {W : World} {g ty : Nat} {x : Int} (h : Whole W g ty #[.int .u64 x]) : Sees W (g + 1) (some ⟨g, 0, none⟩) 1 (ints .u64 [x]) := sees_whole h
theorem sees_one_i {W : World} {g ty : Nat} {x : Int} (h : Whole W g ty #[.int .i64 x]) : Sees W (g + 1) (some ⟨g, 0, none⟩) 1 (ints .i64 [x]) := sees_whole h
section
variable {B b : Nat} {w w' : World} {v v' : Value} {l : List UInt8}
theorem imgHead_any (h : Bd B w b v l) (g : Nat) (N : ByteArray) (nn : List UInt8) (hN : N = mk nn) (hg : g < 18446744073709551616) (hn : nn.length <= 60000) (hlen : l.length + 70000 <= 1000000000) (hBw : B <= w.heap.size) :
    Calls Tryz.prog 85 #[.pointer (some ⟨b, 0, none⟩), .int .u64 (g : Nat), .string N] w fun e w' => e = .returned (.tuple #[]) /\ ∃ v', Bd B w' b v' (l ++ headI g nn) /\ Kp b b v v' w w' := by
  have HJ := Ha (join_gen hg)
  have HP := Ha (show pieceR N 2 = (mk (be nn.length 2 ++ nn), 0) by rw [hN]; exact piece_two nn (by omega))
  have hNz : N.size <= 1073741824 := by rw [hN, mk_size]; omega
  have HU := Ha (show U64s [(g : Int)] from by intro z hz; simp at hz; omega)
  have hw1 := (Whole.new w 44 #[.int .u64 (g : Nat)]).alloc (.cells #[.int .i64 8] 3)
  have hw2 := Whole.new (w.alloc (.cells #[.int .u64 (g : Nat)] 44)) 3 #[.int .i64 8]
  rw [World.size_alloc] at hw2
  have HS1 := Ha (sees_one_u hw1)
  have HS2 := Ha (sees_one_i hw2)
  have HB0 := Ha (show Below w.heap.size w ((w.alloc (.cells #[.int .u64 (g : Nat)] 44)).alloc (.cells #[.int .i64 8] 3)) from ((Below.refl _ _).alloc (Nat.le_refl _) _).alloc (by rw [World.size_alloc]; omega) _)
  have HZ := Ha (show ((w.alloc (.cells #[.int .u64 (g : Nat)] 44)).alloc (.cells #[.int .i64 8] 3)).heap.size = w.heap.size + 1 + 1 by rw [World.size_alloc, World.size_alloc])
  have HH := Ha h
  clear h hw1 hw2 hN hg
  go_enter Tryz.func85, Tryz.ntmps85
  go_wp2_with fail
  refine (Join_any _ _ 1 1 1 1 _ _ [(g : Int)] [8] _ HS1.out HS2.out (by rw [HZ.out]; omega) (by rw [HZ.out]; omega) (by decide) (by decide) HU.out).mono ?_
  rintro e w1 ⟨he, hB1⟩
  rw [HJ.out] at he
  subst he
  have HB1 := thB HB0 hB1
  clear hB1
  go_wp2_with fail
  refine (Piece_any N 2 _ hNz).mono ?_
  rw [HP.out]
  rintro e w2 ⟨rfl, hB2⟩
  have HB2 := thB HB1 hB2
  have HP2 := Ha (HH.out.same HB2.out)
  clear hB2
  go_wp2_with fail
  refine (writeB_any HP2.out _ (by rw [mk_size, be_length]; omega) (Nat.le_trans hBw HB2.out.size)).mono ?_
  rintro e w3 ⟨rfl, v3, h3, k3⟩
  have H3 := Ha h3
  have K3 := Ha ((Kp.of_below HB2.out).trans k3)
  have HS3 := Ha (Nat.le_trans (Nat.le_trans hBw HB2.out.size) k3.size)
  clear h3 k3
  go_wp2_with fail
  refine (writeB_any H3.out _ (by rw [mk_size]; simp [be_length, mk]; omega) HS3.out).mono ?_
  rintro e w4 ⟨rfl, v4, h4, k4⟩
  have H4 := Ha (show Bd B w4 b v4 (l ++ headI g nn) by unfold headI; rw [<-List.append_assoc]; exact h4)
  have K4 := Ha (K3.out.trans k4)
  clear h4 k4
  go_wp2_with fail
  go_end0
  exact ⟨rfl, v4, H4.out, K4.out⟩
theorem imgRec_any (h : Bd B w b v l) (x : Rrd) (hok : okR x.toRec = true) (hlen : l.length + 100000 <= 1000000000) (hBw : B <= w.heap.size) :
    Calls Tryz.prog 87 #[.pointer (some ⟨b, 0, none⟩), .agg #[.string x.s, .int .i64 x.t, .int .i64 x.c, .int .i64 x.l, .string x.d]] w fun e w' => e = .returned (.tuple #[]) /\ ∃ v', Bd B w' b v' (l ++ (be (ownE x.toRec).length 4 ++ ownE x.toRec)) /\ Kp b b v v' w w' := by
  have hdl := ok_data hok
  have hol := own_len hok
  have hnl : x.toRec.n.length <= 1073741824 := by obtain ⟨⟨L, h1⟩, _⟩ := ok_parts hok; have := (nameL_is h1).2.2; omega
  have HP := Ha (show pieceR (mk (ownE x.toRec)) 4 = (mk (be (ownE x.toRec).length 4 ++ ownE x.toRec), 0) from piece_rowE _ (by omega))
  have hMz : (mk (ownE x.toRec)).size <= 1073741824 := by rw [mk_size]; omega
  have hMl : (ownE x.toRec).length <= 66000 := by omega
  have hHX := Whole.new w rrT (rrA x.s x.d x.t x.c x.l)
  obtain ⟨d0, d1, d2, d3, d4⟩ := rr_facts hHX
  have HB0 := Ha (show Below w.heap.size w (w.alloc (.cells #[.string x.s, .int .i64 x.t, .int .i64 x.c, .int .i64 x.l, .string x.d] rrT)) from (Below.refl _ _).alloc (Nat.le_refl _) _)
  have HOW := Ha (fun (W : World) => (Own_yes x.s x.d x.toRec W (rrd_name x) (rrd_data x) hnl hok :
    Calls Tryz.prog 150 #[.agg #[.string x.s, .int .i64 x.t, .int .i64 x.c, .int .i64 x.l, .string x.d]] W fun e w' => e = .returned (.tuple #[.string (mk (ownE x.toRec)), .int .i64 0]) /\ Below W.heap.size W w'))
  have HH := Ha h
  clear h hHX hok hol hdl hnl
  unfold rrA at *
  go_enter Tryz.func87, Tryz.ntmps87
  go_wp2_with fail
  refine (HOW.out _).mono ?_
  rintro e w1 ⟨rfl, hB1⟩
  have HB1 := thB HB0 hB1
  clear hB1 d0 d1 d2 d3 d4
  go_wp2_with fail
  refine (Piece_any _ 4 _ hMz).mono ?_
  rw [HP.out]
  rintro e w2 ⟨rfl, hB2⟩
  have HB2 := thB HB1 hB2
  have HP2 := Ha (HH.out.same HB2.out)
  clear hB2
  go_wp2_with fail
  refine (writeB_any HP2.out _ (by rw [mk_size, List.length_append, be_length]; omega) (Nat.le_trans hBw HB2.out.size)).mono ?_
  rintro e w3 ⟨rfl, v3, h3, k3⟩
  have H3 := Ha h3
  have K3 := Ha ((Kp.of_below HB2.out).trans k3)
  clear h3 k3
  go_wp2_with fail
  go_end0
  exact ⟨rfl, v3, H3.out, K3.out⟩
end
def accI (g : Nat) (nn : List UInt8) (D : List Rrd) (k : Nat) : List UInt8 := headI g nn ++ rowE (((D.take k).map Rrd.toRec).map ownE)
theorem accI_zero (g : Nat) (nn : List UInt8) (D : List Rrd) : accI g nn D 0 = headI g nn := by unfold accI; simp [rowE]
theorem accI_succ {g : Nat} {nn : List UInt8} {D : List Rrd} {k : Nat} {x : Rrd} (h : D[k]? = some x) : accI g nn D (k + 1) = accI g nn D k ++ (be (ownE x.toRec).length 4 ++ ownE x.toRec) := by
  unfold accI
  rw [List.take_add_one, h]
  simp only [Option.toList_some, List.map_append, List.map_cons, List.map_nil, rowE_append, rowE, List.append_nil, List.append_assoc]
theorem accI_all (g : Nat) (nn : List UInt8) (D : List Rrd) : accI g nn D D.length = imgB g nn D := by unfold accI imgB; rw [List.take_length]
theorem IBytes_any (g : Nat) (N : ByteArray) (nn : List UInt8) (D : List Rrd) (z : Value) (w : World) (hz : ZoneAt w w.heap.size N D z) (hN : N = mk nn) (hg : g < 18446744073709551616) (hn : nn.length <= 60000) (hD : D.length <= 100) (hok : OkL D) :
    Calls Tryz.prog 32 #[.int .u64 (g : Nat), z] w fun e w' => e = .returned (.string (mk (imgB g nn D))) /\ Below w.heap.size w w' := by
  obtain ⟨m, hm⟩ : ∃ m, m = D.length := ⟨_, rfl⟩
  have HZA := Ha hz
  have HAC := Ha (fun k x => accI_succ (g := g) (nn := nn) (D := D) (k := k) (x := x))
  have HALL := Ha (accI_all g nn D)
  have HOKL := Ha hok
  have HN := Ha hN
  obtain ⟨A, c, s, rfl, _, _, _⟩ := hz
  obtain ⟨W0, hW0⟩ : ∃ W0, W0 = w.alloc (.cells #[.string N, .slice A D.length c, .string s.s, .int .i64 s.t, .int .i64 s.c, .int .i64 s.l, .string s.d] zoT) := ⟨_, rfl⟩
  have hs0 : W0.heap.size = w.heap.size + 1 := by rw [hW0, World.size_alloc]
  have HB0 := Ha (show Below w.heap.size w W0 by rw [hW0]; exact (Below.refl _ _).alloc (Nat.le_refl _) _)
  have HX0 := Ha (show Whole W0 w.heap.size zoT #[.string N, .slice A D.length c, .string s.s, .int .i64 s.t, .int .i64 s.c, .int .i64 s.l, .string s.d] by rw [hW0]; exact Whole.new w zoT _)
  have HBD := Ha (show Bd (w.heap.size + 1) (W0.alloc (.cells #[.pointer none, .slice none 0 0] bdT)) (w.heap.size + 1) (.slice none 0 0) [] by have := Bd.new W0; rw [hs0] at this; exact this)
  have HW1 := Ha (HX0.out.alloc (.cells #[.pointer none, .slice none 0 0] bdT))
  have HB1 := Ha (HB0.out.alloc HB0.out.size (.cells #[.pointer none, .slice none 0 0] bdT))
  have HS1 := Ha (show w.heap.size + 1 <= (W0.alloc (.cells #[.pointer none, .slice none 0 0] bdT)).heap.size by rw [World.size_alloc, hs0]; omega)
  have HW0 := Ha hW0
  have HM := Ha hm
  clear hW0 hs0 hok hN
  obtain ⟨d0, d1, d2, d3, d4, d5, d6⟩ := zo_facts HX0.out
  obtain ⟨c0, c1, c2, c3, c4, c5, c6⟩ := zo_facts HW1.out
  rw [<-hm] at hD
  clear hm
  go_enter Tryz.func32, Tryz.ntmps32
  go_wp2_with fail
  rw [<-HW0.out]
  go_wp2_with fail
  refine (Apex_any N D _ _ (HZA.out.later HB1.out)).mono ?_
  rintro e w2 ⟨rfl, hB2⟩
  have HB2 := thB HB1 hB2
  have HD2 := Ha (HBD.out.same hB2)
  have HS2 := Ha (Nat.le_trans HS1.out hB2.size)
  have hW2 := HW1.out.below hB2 HW1.out.lt
  have HW2 := Ha hW2
  clear c0 c1 c2 c3 c4 c5 c6 d0 d1 d2 d3 d4 d5 d6 hB2
  obtain ⟨c0, c1, c2, c3, c4, c5, c6⟩ := zo_facts hW2
  clear hW2
  go_wp2_with fail
  refine (imgHead_any HD2.out g N nn HN.out hg hn (by simp) HS2.out).mono ?_
  rintro e w3 ⟨rfl, v3, hd3, hk3⟩
  have hBb := HD2.out.below hk3 HS2.out
  have HB3 := Ha (HB2.out.trans (hBb.mono (Nat.le_succ _)))
  have hW3 := HW2.out.below hBb (Nat.lt_succ_self _)
  have HD3 := Ha (show Bd (w.heap.size + 1) w3 (w.heap.size + 1) v3 (accI g nn D 0) by rw [accI_zero]; simpa using hd3)
  have HS3 := Ha (Nat.le_trans HS2.out hk3.size)
  clear c0 c1 c2 c3 c4 c5 c6 hBb hd3 hk3
  obtain ⟨c0, c1, c2, c3, c4, c5, c6⟩ := zo_facts hW3
  clear hW3
  go_wp2_with fail
  refine (All_any N D _ _ (HZA.out.later HB3.out) (by rw [<-HM.out]; omega)).mono ?_
  rintro e w4 ⟨u, rfl, hown, hB4⟩
  have HB4 := thB HB3 hB4
  have HD4 := Ha (HD3.out.same hB4)
  have HS4 := Ha (Nat.le_trans HS3.out hB4.size)
  obtain ⟨R, hRR⟩ : ∃ R, R = w3.heap.size := ⟨_, rfl⟩
  rw [<-hRR, <-HM.out] at hown
  obtain ⟨A4, k4, rfl, hs4⟩ := SeesR.own hown
  have HO4 := Ha hown
  clear hown hB4 hs4 hRR c0 c1 c2 c3 c4 c5 c6
  go_wp2_with fail
  obtain ⟨B, hBB⟩ : ∃ B, B = w.heap.size + 1 := ⟨_, rfl⟩
  rw [<-hBB] at HD4 HS4 ⊢
  have HBB := Ha hBB
  have HHL := Ha (show (accI g nn D 0).length <= 70000 by rw [accI_zero, headI_len]; omega)
  clear hBB
  go_loopw [15] (fun i wr => ∃ (k : Nat) (v : Value), k <= m /\ i = .int .i64 (k : Nat) /\ Bd B wr B v (accI g nn D k) /\ (accI g nn D k).length <= 70000 + k * 66000 /\ wr.ownsRow R 46 5 (.slice A4 m k4) m (rcells D) /\ Below w.heap.size w wr /\ B <= wr.heap.size) (fun i _ => m - (intOf i).toNat)
  case atStart => exact ⟨0, _, Nat.zero_le _, rfl, HD4.out, by have := HHL.out; omega, HO4.out, HB4.out, HS4.out⟩
  case round =>
    obtain ⟨k, v, hk, rfl, hbd, hlen, hO, hB, hBs⟩ := hrel
    have HD := Ha hbd
    have HO := Ha hO
    have HB := Ha hB
    have HBs := Ha hBs
    obtain ⟨A5, k5, e5, hs5⟩ := SeesR.own hO
    injection e5 with e51 e52 e53
    subst e51 e53
    have HS5 := Ha hs5
    clear hbd hO hB hBs hs5
    by_cases hkN : k < m
    · have g1 : (k : Int) < (m : Int) := by omega
      have g0 : (0 : Int) <= (k : Int) := by omega
      obtain ⟨b, off, x, rfl, hb, hxk, hx5⟩ := HS5.out.at hkN
      have HXK := Ha hxk
      obtain ⟨x0, x1, x2, x3, x4⟩ := hx5
      have hokx := HOKL.out x (List.mem_of_getElem? hxk)
      have hHX := Whole.new wr rrT (rrA x.s x.d x.t x.c x.l)
      obtain ⟨d0, d1, d2, d3, d4⟩ := rr_facts hHX
      have HB1' := Ha (HB.out.alloc HB.out.size (.cells #[.string x.s, .int .i64 x.t, .int .i64 x.c, .int .i64 x.l, .string x.d] rrT))
      have HO1' := Ha (HO.out.alloc (.cells #[.string x.s, .int .i64 x.t, .int .i64 x.c, .int .i64 x.l, .string x.d] rrT))
      have HD1' := Ha (HD.out.same ((Below.refl wr.heap.size wr).alloc (Nat.le_refl _) (.cells #[.string x.s, .int .i64 x.t, .int .i64 x.c, .int .i64 x.l, .string x.d] rrT)))
      have HBs1 := Ha (show B <= (wr.alloc (.cells #[.string x.s, .int .i64 x.t, .int .i64 x.c, .int .i64 x.l, .string x.d] rrT)).heap.size from Nat.le_trans HBs.out ((Below.refl wr.heap.size wr).alloc (Nat.le_refl _) _).size)
      have HAC2 := Ha (HAC.out k x hxk)
      have HOX := Ha hokx
      have hol := own_len hokx.1
      have hdd := ok_data hokx.1
      have HL2 := Ha (show (accI g nn D (k + 1)).length <= 70000 + (k + 1) * 66000 by rw [HAC2.out]; simp only [List.length_append, be_length]; omega)
      have hl3 : (accI g nn D k).length + 100000 <= 1000000000 := by omega
      clear hHX hxk hokx hol hdd hlen; unfold rrA at *
      go_wp2_with fail
      refine (imgRec_any HD1'.out x HOX.out.1 hl3 HBs1.out).mono ?_
      rintro e w6 ⟨rfl, v6, hd6, hk6⟩; have HO6 := Ha (hk6.rowB HD1'.out HO1'.out (by decide) (by decide))
      have HB6 := Ha (HB1'.out.trans ((HD1'.out.below hk6 HBs1.out).mono (by rw [HBB.out]; exact Nat.le_succ _)))
      have HBs6 := Ha (Nat.le_trans HBs1.out hk6.size)
      rw [<-HAC2.out] at hd6
      have HD6 := Ha hd6
      clear hd6 hk6 x0 x1 x2 x3 x4 d0 d1 d2 d3 d4; go_wp2_with fail
      go_roundw
      case rel => exact ⟨k + 1, v6, by omega, by go_num, HD6.out, HL2.out, HO6.out, HB6.out, HBs6.out⟩
      case measure => simp [intOf]; omega
    · obtain rfl : k = m := by omega
      have HE := Ha (show accI g nn D k = imgB g nn D by rw [HM.out]; exact HALL.out)
      go_wp2_with fail
      refine (stringB_any HD.out).mono ?_
      rw [HE.out]
      rintro e w5 ⟨rfl, hd5, hk5⟩; have HB5 := Ha (HB.out.trans ((HD.out.below hk5 HBs.out).mono (by rw [HBB.out]; exact Nat.le_succ _)))
      clear hd5 hk5; go_wp2_with fail
      go_ret
      exact ⟨rfl, HB5.out⟩
end Go.Proofs.YtmpginmdaeclaaaGreatDoor
