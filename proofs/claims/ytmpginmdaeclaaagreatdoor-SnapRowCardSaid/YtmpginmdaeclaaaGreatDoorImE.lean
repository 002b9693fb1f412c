/- Parts of the proofs of the statements of image. No statement of the seat is proved here. -/
import Derived.Test.YtmpginmdaeclaaaGreatDoorEnC
import Derived.Test.YtmpginmdaeclaaaGreatDoorImC
import Derived.Test.YtmpginmdaeclaaaGreatDoorZoC
import Derived.Test.YtmpginmdaeclaaaGreatDoorOcD
import Derived.StillTailTactics
import Derived.Shelf.RegionOpenPlain
set_option maxHeartbeats 32000000
set_option maxRecDepth 20000
namespace Go.Proofs.YtmpginmdaeclaaaGreatDoor
open Go.RowKit Go.Op
def ofI (s : ByteArray) : Option (Nat × ByteArray × List Rec) :=
  if s.size < 8 then none else
    if (cutR (s.extract 8 s.size) 2).2.2 = 0 then (recsE (cutR (s.extract 8 s.size) 2).2.1).map fun l => (numOf (s.extract 0 8), (cutR (s.extract 8 s.size) 2).1, l) else none
theorem splitI_no {s : ByteArray} (h : s.size < 8) : splitR s [8] = ([], empty, 2) := by
  refine splitR_none (by decide) ?_
  rw [splitF, if_pos (by omega)]
theorem splitI_yes {s : ByteArray} (h : 8 <= s.size) : splitR s [8] = ([(numOf (s.extract 0 8) : Int)], s.extract 8 s.size, 0) := by
  refine splitR_some (by decide) ?_
  have e8 : ((8 : Int)).toNat = 8 := rfl
  rw [splitF, if_neg (by omega), splitF, e8]
  rfl
def OfOut (S : ByteArray) (e : Ending) (w' : World) : Prop :=
  match ofI S with
  | none => e = .returned (.tuple #[.int .u64 0, .agg zeroZ, .int .i64 2])
  | some (g, N, l) => ∃ nn, N = mk nn /\
      ((codeZ nn (l.map ofRec) = 2 /\ e = .returned (.tuple #[.int .u64 0, .agg zeroZ, .int .i64 2])) \/ (codeZ nn (l.map ofRec) = 9 /\ e = .returned (.tuple #[.int .u64 0, .agg zeroZ, .int .i64 9])) \/
      (codeZ nn (l.map ofRec) = 0 /\ ∃ v, e = .returned (.tuple #[.int .u64 (g : Nat), v, .int .i64 0]) /\ ZoneAt w' w'.heap.size N (ofC (l.map ofRec)) v))
theorem OfOut.none {S : ByteArray} {w' : World} (h : ofI S = none) : OfOut S (.returned (.tuple #[.int .u64 0, .agg zeroZ, .int .i64 2])) w' := by unfold OfOut; rw [h]
theorem ofI_short {S : ByteArray} (h : S.size < 8) : ofI S = none := by unfold ofI; rw [if_pos h]
theorem ofI_cut {S : ByteArray} (h : ¬ S.size < 8) (h2 : ¬ (cutR (S.extract 8 S.size) 2).2.2 = 0) : ofI S = none := by unfold ofI; rw [if_neg h, if_neg h2]
theorem ofI_recs {S : ByteArray} (h : ¬ S.size < 8) (h2 : (cutR (S.extract 8 S.size) 2).2.2 = 0) : ofI S = (recsE (cutR (S.extract 8 S.size) 2).2.1).map fun l => (numOf (S.extract 0 8), (cutR (S.extract 8 S.size) 2).1, l) := by unfold ofI; rw [if_neg h, if_pos h2]
theorem retI {fn : Func} {R : Ending -> World -> Prop} {a : Act} {w : World} {p q u r : Nat} {a0 a1 a2 a3 a4 a5 a6 x y : Value} (hf : fn.results = #[.tmp q, .cell p zoT, .tmp u]) (hd : a.defers = []) (hq : a.tmps.getD q undef = y) (hp : a.tmps.getD p undef = .pointer (some ⟨r, 0, none⟩)) (hx : a.tmps.getD u undef = x)
    (h : Whole w r zoT #[a0, a1, a2, a3, a4, a5, a6]) (hR : R (.returned (.tuple #[y, .agg #[a0, a1, a2, a3, a4, a5, a6], x])) w) : bodyPost Tryz.prog fn R .ret a w := by
  refine bodyPost_ret ?_ hd hR
  have hp' : a.tmps[p]?.getD undef = .pointer (some ⟨r, 0, none⟩) := by simpa using hp
  have hq' : a.tmps[q]?.getD undef = y := by simpa using hq
  have hx' : a.tmps[u]?.getD undef = x := by simpa using hx
  simp [results, hf, hp', hq', hx', asAddr, run_loadVar_row w r zoT _ _ (0, 0) _ h Tryz.underlying48 rfl zo_size, Result.andThen]
theorem IOf_low (S : ByteArray) (w : World) (hS : S.size <= 800000) (hlo : ∀ g N l, ofI S = some (g, N, l) -> LowL (l.map ofRec) /\ l.length <= 60000) : Calls Tryz.prog 66 #[.string S] w fun e w' => OfOut S e w' /\ Below w.heap.size w w' := by
  have HLO := Ha hlo
  clear hlo
  have hw0 := Whole.new w zoT zeroZ
  have hw1 := hw0.alloc (.cells #[.int .i64 8] 3)
  have hw2 := Whole.new (w.alloc (.cells zeroZ zoT)) 3 #[.int .i64 8]
  have HSE := Ha (sees_one_i hw2)
  have HB0 := Ha (show Below w.heap.size w (w.alloc (.cells zeroZ zoT)) from (Below.refl _ _).alloc (Nat.le_refl _) _)
  have HB1 := Ha (HB0.out.alloc HB0.out.size (.cells #[.int .i64 8] 3))
  have HW1 := Ha hw1
  have HZZ := Ha (show zeroZ = #[.string ⟨#[]⟩, .slice none 0 0, .string ⟨#[]⟩, .int .i64 0, .int .i64 0, .int .i64 0, .string ⟨#[]⟩] from rfl)
  clear hw0 hw1 hw2
  go_enter Tryz.func66, Tryz.ntmps66
  have HSI := Ha (show Sees ((w.alloc (.cells #[.string ⟨#[]⟩, .slice none 0 0, .string ⟨#[]⟩, .int .i64 0, .int .i64 0, .int .i64 0, .string ⟨#[]⟩] zoT)).alloc (.cells #[.int .i64 8] 3)) (w.heap.size + 1 + 1) (some ⟨w.heap.size + 1, 0, none⟩) 1 (ints .i64 [8]) by have := HSE.out; rw [HZZ.out, World.size_alloc] at this; exact this)
  have HBI := Ha (show Below w.heap.size w ((w.alloc (.cells #[.string ⟨#[]⟩, .slice none 0 0, .string ⟨#[]⟩, .int .i64 0, .int .i64 0, .int .i64 0, .string ⟨#[]⟩] zoT)).alloc (.cells #[.int .i64 8] 3)) by have := HB1.out; rw [HZZ.out] at this; exact this)
  have HWI := Ha (show Whole ((w.alloc (.cells #[.string ⟨#[]⟩, .slice none 0 0, .string ⟨#[]⟩, .int .i64 0, .int .i64 0, .int .i64 0, .string ⟨#[]⟩] zoT)).alloc (.cells #[.int .i64 8] 3)) w.heap.size zoT #[.string ⟨#[]⟩, .slice none 0 0, .string ⟨#[]⟩, .int .i64 0, .int .i64 0, .int .i64 0, .string ⟨#[]⟩] by have := HW1.out; rw [HZZ.out] at this; exact this)
  clear HSE HB0 HB1 HW1
  go_wp2_with fail
  refine (Split_any S _ 1 1 _ [8] _ HSI.out (by decide) (by rw [World.size_alloc, World.size_alloc]; omega) (by omega)).mono ?_
  rintro e w1 ⟨A1, c1, rfl, hs1, hB1⟩
  have HS1 := Ha hs1
  have hW1 := HWI.out.below hB1 HWI.out.lt
  have HW1 := Ha hW1
  have HB1 := thB HBI hB1
  clear hs1 hB1
  by_cases h8 : S.size < 8
  · have HF := Ha (ofI_short h8)
    have HSP := Ha (splitI_no h8)
    rw [HSP.out]
    have f0 := zo_frozen hW1
    obtain ⟨f0, f1, f2, f3, f4, f5, f6⟩ := f0
    have HP := Ha (sevZ_put hW1 (.string ⟨#[]⟩) (.slice none 0 0) (.string ⟨#[]⟩) (.int .i64 0) (.int .i64 0) (.int .i64 0) (.string ⟨#[]⟩))
    have HBP := Ha (sevZ_below HB1.out (Nat.le_refl _) (.string ⟨#[]⟩) (.slice none 0 0) (.string ⟨#[]⟩) (.int .i64 0) (.int .i64 0) (.int .i64 0) (.string ⟨#[]⟩))
    obtain ⟨c0, c1', c2, c3, c4, c5, c6⟩ := zo_facts hW1
    clear hW1; go_wp2_with fail
    refine retI rfl rfl rfl rfl rfl HP.out ?_
    exact ⟨.none HF.out, HBP.out⟩
  · have HSP := Ha (splitI_yes (by omega : 8 <= S.size))
    obtain ⟨gn, hgn⟩ : ∃ gn, gn = numOf (S.extract 0 8) := ⟨_, rfl⟩
    obtain ⟨R, hR⟩ : ∃ R, R = S.extract 8 S.size := ⟨_, rfl⟩
    have hRz : R.size <= 800000 := by rw [hR]; simp; omega
    have HFC := Ha (fun h => ofI_cut (S := S) h8 h)
    have HFR := Ha (fun h => ofI_recs (S := S) h8 h)
    rw [<-hR] at HFC HFR HSP
    rw [<-hgn] at HFR HSP
    rw [HSP.out] at HS1 ⊢
    have HGN := Ha (show gn < 18446744073709551616 by
      rw [hgn]
      have h0 := num_lt (S.extract 0 8).data.toList
      have h2 : (S.extract 0 8).data.toList.length <= 8 := (by simp; omega)
      have h3 : 256 ^ (S.extract 0 8).data.toList.length <= 256 ^ 8 := Nat.pow_le_pow_right (by decide) h2
      unfold numOf
      omega)
    clear hgn hR hW1 h8; go_wp2_with fail
    refine (Cut_any R 2 _ (by omega)).mono ?_
    have hcs := cutR_size R 2
    have hcc := cutR_code R 2 (by decide)
    obtain ⟨N, T, kk, hC⟩ : ∃ N T kk, cutR R 2 = (N, T, kk) := ⟨_, _, _, rfl⟩
    rw [hC] at hcs hcc HFC HFR ⊢
    simp only at hcs hcc HFC HFR ⊢
    rintro e w2 ⟨rfl, hB2⟩; have hW2 := HW1.out.below hB2 HW1.out.lt
    have HW2 := Ha hW2
    have HB2 := thB HB1 hB2
    have HS2 := Ha ((HS1.out.below hB2).more hB2.size)
    have HCC := Ha hC
    clear hB2 hW2 hC HS1
    rcases hcc with hk | ⟨hk, _⟩
    · have HF := Ha (HFC.out (by omega))
      subst hk; have f0 := zo_frozen HW2.out
      obtain ⟨f0, f1, f2, f3, f4, f5, f6⟩ := f0
      have HP := Ha (sevZ_put HW2.out (.string ⟨#[]⟩) (.slice none 0 0) (.string ⟨#[]⟩) (.int .i64 0) (.int .i64 0) (.int .i64 0) (.string ⟨#[]⟩))
      have HBP := Ha (sevZ_below HB2.out (Nat.le_refl _) (.string ⟨#[]⟩) (.slice none 0 0) (.string ⟨#[]⟩) (.int .i64 0) (.int .i64 0) (.int .i64 0) (.string ⟨#[]⟩))
      obtain ⟨k0, k1, k2, k3, k4, k5, k6⟩ := zo_facts HW2.out
      go_wp2_with fail
      refine retI rfl rfl rfl rfl rfl HP.out ?_
      exact ⟨.none HF.out, HBP.out⟩
    · have HFR2 := Ha (HFR.out hk)
      subst hk; have hT4 : T.size <= 800000 := by omega
      clear HFC HFR hcs; go_wp2_with fail
      refine (Records_any T _ (by omega)).mono ?_
      rintro e w3 ⟨A3, n3, c3, rfl, hs3, hcap3, hB3⟩; have HW3 := Ha (HW2.out.below hB3 HW2.out.lt)
      have HB3 := thB HB2 hB3
      have HS3 := Ha ((HS2.out.below hB3).more hB3.size)
      have HR3 := Ha hs3
      clear hB3 hs3 hcap3 HS2
      cases hre : recsE T with
      | none =>
        have HF := Ha (show ofI S = none by rw [HFR2.out, hre]; rfl)
        have HEE := Ha (show errE none = .int .i64 2 from rfl)
        rw [HEE.out]
        clear hre; have f0 := zo_frozen HW3.out
        obtain ⟨f0, f1, f2, f3, f4, f5, f6⟩ := f0
        have HP := Ha (sevZ_put HW3.out (.string ⟨#[]⟩) (.slice none 0 0) (.string ⟨#[]⟩) (.int .i64 0) (.int .i64 0) (.int .i64 0) (.string ⟨#[]⟩))
        have HBP := Ha (sevZ_below HB3.out (Nat.le_refl _) (.string ⟨#[]⟩) (.slice none 0 0) (.string ⟨#[]⟩) (.int .i64 0) (.int .i64 0) (.int .i64 0) (.string ⟨#[]⟩))
        obtain ⟨k0, k1, k2, k3, k4, k5, k6⟩ := zo_facts HW3.out
        go_wp2_with fail
        refine retI rfl rfl rfl rfl rfl HP.out ?_
        exact ⟨.none HF.out, HBP.out⟩
      | some l =>
        have HF := Ha (show ofI S = some (gn, N, l) by rw [HFR2.out, hre]; rfl)
        have HEE := Ha (show errE (some l) = .int .i64 0 from rfl)
        rw [HEE.out]
        have hR3 : SeesR w3 w3.heap.size A3 n3 (l.map ofRec) := by have := HR3.out; rw [hre] at this; exact this
        obtain ⟨hlow, hlen⟩ := HLO.out _ _ _ HF.out
        have hn3 : n3 <= 60000 := by rw [<-hR3.1, List.length_map]; omega
        have HR4 := Ha hR3
        have HLOW := Ha hlow
        obtain ⟨nn, hN⟩ := mk_of N
        have HN := Ha hN
        have hNz : N.size <= 281474976710656 := by
          have h2 := cutR_size R 2
          rw [HCC.out] at h2
          have := h2.1
          simp only at this
          omega
        clear hre hR3 hlow hlen hN HFR2 HR3; go_wp2_with fail
        refine (sclone_any N _ hNz).mono ?_
        rintro e w4 ⟨rfl, hB4⟩; have HW4 := Ha (HW3.out.below hB4 HW3.out.lt)
        have HB4 := thB HB3 hB4
        have HS4 := Ha ((HS3.out.below hB4).more hB4.size)
        have HR5 := Ha ((HR4.out.keep hB4).more hB4.size)
        clear hB4 HS3 HR4; go_wp2_with fail
        refine (ZNew_any A3 n3 c3 N nn (l.map ofRec) _ HN.out HR5.out hn3 HLOW.out).mono ?_
        rintro e w5 ⟨hno, hB5⟩; have HW5 := Ha (HW4.out.below hB5 HW4.out.lt)
        have HB5 := thB HB4 hB5
        have HS5 := Ha ((HS4.out.below hB5).more hB5.size)
        clear hB5 HS4 HR5
        rcases hno with ⟨hcode, rfl⟩ | ⟨hcode, rfl⟩ | ⟨hcode, v, rfl, hzv⟩
        · have HX := Ha (show ∀ w', OfOut S (.returned (.tuple #[.int .u64 0, .agg zeroZ, .int .i64 2])) w' from fun w' => by unfold OfOut; rw [HF.out]; exact ⟨nn, HN.out, .inl ⟨hcode, rfl⟩⟩)
          rw [HZZ.out] at HX
          clear hcode; have HW6 := Ha (HW5.out.alloc (.cells #[.string ⟨#[]⟩, .slice none 0 0, .string ⟨#[]⟩, .int .i64 0, .int .i64 0, .int .i64 0, .string ⟨#[]⟩] zoT))
          have HB6 := Ha (HB5.out.alloc HB5.out.size (.cells #[.string ⟨#[]⟩, .slice none 0 0, .string ⟨#[]⟩, .int .i64 0, .int .i64 0, .int .i64 0, .string ⟨#[]⟩] zoT))
          obtain ⟨f0, f1, f2, f3, f4, f5, f6⟩ := zo_frozen HW6.out
          obtain ⟨k0, k1, k2, k3, k4, k5, k6⟩ := zo_facts HW6.out
          rw [HZZ.out]
          go_wp2_with fail
          refine retI rfl rfl rfl rfl rfl (sevZ_put HW6.out _ _ _ _ _ _ _) ?_
          exact ⟨HX.out _, sevZ_below HB6.out (Nat.le_refl _) _ _ _ _ _ _ _⟩
        · have HX := Ha (show ∀ w', OfOut S (.returned (.tuple #[.int .u64 0, .agg zeroZ, .int .i64 9])) w' from fun w' => by unfold OfOut; rw [HF.out]; exact ⟨nn, HN.out, .inr (.inl ⟨hcode, rfl⟩)⟩)
          rw [HZZ.out] at HX
          clear hcode; have HW6 := Ha (HW5.out.alloc (.cells #[.string ⟨#[]⟩, .slice none 0 0, .string ⟨#[]⟩, .int .i64 0, .int .i64 0, .int .i64 0, .string ⟨#[]⟩] zoT))
          have HB6 := Ha (HB5.out.alloc HB5.out.size (.cells #[.string ⟨#[]⟩, .slice none 0 0, .string ⟨#[]⟩, .int .i64 0, .int .i64 0, .int .i64 0, .string ⟨#[]⟩] zoT))
          obtain ⟨f0, f1, f2, f3, f4, f5, f6⟩ := zo_frozen HW6.out
          obtain ⟨k0, k1, k2, k3, k4, k5, k6⟩ := zo_facts HW6.out
          rw [HZZ.out]
          go_wp2_with fail
          refine retI rfl rfl rfl rfl rfl (sevZ_put HW6.out _ _ _ _ _ _ _) ?_
          exact ⟨HX.out _, sevZ_below HB6.out (Nat.le_refl _) _ _ _ _ _ _ _⟩
        · obtain ⟨D, hD⟩ : ∃ D, D = ofC (l.map ofRec) := ⟨_, rfl⟩
          have hokD : OkL D := by rw [hD]; exact (HLOW.out.ok (codeZ_zero hcode).2.1).ofC
          rw [<-hD] at hzv
          have HX := Ha (show ∀ w' v, ZoneAt w' w'.heap.size N D v -> OfOut S (.returned (.tuple #[.int .u64 (gn : Nat), v, .int .i64 0])) w' from fun w' v h => by unfold OfOut; rw [HF.out]; exact ⟨nn, HN.out, .inr (.inr ⟨hcode, v, rfl, by rw [<-hD]; exact h⟩)⟩)
          have HOKD := Ha hokD
          have HZV := Ha hzv
          obtain ⟨A, c, s, rfl, _, _, _⟩ := hzv
          obtain ⟨gg, goff, rfl, hgb, hgc⟩ := HS5.out.addr (by simp)
          have hg0 := hgc 0 _ rfl
          clear hcode hD hokD hgc; obtain ⟨W, hW⟩ : ∃ W, W = w5.alloc (.cells #[.string N, .slice A D.length c, .string s.s, .int .i64 s.t, .int .i64 s.c, .int .i64 s.l, .string s.d] zoT) := ⟨_, rfl⟩
          obtain ⟨gz, hgz⟩ : ∃ g, g = w5.heap.size := ⟨_, rfl⟩
          have hb6 : Below w5.heap.size w5 W := by rw [hW]; exact (Below.refl _ _).alloc (Nat.le_refl _) _
          have hg1 : W.cell? ⟨gg, goff + 0, none⟩ = some (.int .u64 (gn : Nat)) := (hb6.cell hgb).trans hg0
          have HZ6 := Ha (show Whole W gz zoT #[.string N, .slice A D.length c, .string s.s, .int .i64 s.t, .int .i64 s.c, .int .i64 s.l, .string s.d] by rw [hW, hgz]; exact Whole.new _ _ _)
          have HZV6 := Ha (HZV.out.later hb6)
          have HW6 := Ha (HW5.out.below hb6 HW5.out.lt)
          have HB6 := thB HB5 hb6
          have HWW := Ha hW
          have HGZ := Ha hgz
          rw [Nat.add_zero] at hg1
          clear hW hgz hb6 hg0 hgb; obtain ⟨z0, z1, z2, z3, z4, z5, z6⟩ := zo_facts HZ6.out
          go_wp2_with fail
          rw [<-HWW.out, <-HGZ.out]
          refine wp_region_still_tail 5 (by kernel_rfl) (by kernel_rfl) ?_
          simp only [List.take_succ_cons, List.take_zero, List.drop_succ_cons, List.drop_zero]
          repeat still_step
          refine wpStill_nil ?_
          change wpList _ _ _ _ _ W.drew
          have HW7 := Ha HW6.out.drew
          have HB7 := Ha HB6.out.drew
          have HZV7 := Ha (HZV6.out.later (show Below W.heap.size W W.drew from (Below.refl _ _).drew))
          generalize W.drew = w7 at HW7 HB7 HZV7 ⊢
          obtain ⟨f0, f1, f2, f3, f4, f5, f6⟩ := zo_frozen HW7.out
          obtain ⟨k0, k1, k2, k3, k4, k5, k6⟩ := zo_facts HW7.out
          clear z0 z1 z2 z3 z4 z5 z6 hg1; go_wp2_with fail
          refine retI rfl rfl rfl rfl rfl (sevZ_put HW7.out _ _ _ _ _ _ _) ?_
          exact ⟨HX.out _ _ (zone_far HZV7.out (by unfold zeroZ; exact HW7.out) HOKD.out (sev_grown _ _ _ _ _ _ _ _ _)), sevZ_below HB7.out (Nat.le_refl _) _ _ _ _ _ _ _⟩
end Go.Proofs.YtmpginmdaeclaaaGreatDoor
namespace Go.Proofs.YtmpginmdaeclaaaGreatDoor
open Go.RowKit Go.Op
theorem back_recs (xs : List Rrd) : (xs.map Rrd.toRec).map ofRec = xs := by
  induction xs with
  | nil => rfl
  | cons x xs ih =>
    rw [List.map_cons, List.map_cons, ih]
    have h : ofRec x.toRec = x := by
      obtain ⟨s, t, c, l, d⟩ := x
      show (⟨mk s.data.toList, t, c, l, mk d.data.toList⟩ : Rrd) = _
      rw [mk_toList, mk_toList]
    rw [h]
theorem cut_two (x r : List UInt8) (hx : x.length < 65536) : cutR (mk (be x.length 2 ++ x ++ r)) 2 = (mk x, mk r, 0) := by
  have hlt : x.length < 256 ^ 2 := by omega
  have hbl := be_length x.length 2
  have e4 : ((2 : Int)).toNat = 2 := rfl
  have e1 : (be x.length 2 ++ x ++ r).take 2 = be x.length 2 := by rw [List.append_assoc, List.take_left' hbl]
  have e2 : (be x.length 2 ++ x ++ r).drop 2 = x ++ r := by rw [List.append_assoc, List.drop_left' hbl]
  have hlen : (be x.length 2 ++ x ++ r).length = 2 + x.length + r.length := by simp [hbl]; omega
  have hn : numOf ((mk (be x.length 2 ++ x ++ r)).extract 0 2) = x.length := by rw [mk_extract, mk_num, List.drop_zero, e1, num_be_eq _ _ hlt]
  rw [cutR, if_pos (by decide), e4, hn, mk_size, hlen, if_neg (by omega), mk_extract, mk_extract, mk_extract]
  have h1 : (be x.length 2 ++ x ++ r).take (2 + x.length + r.length) = be x.length 2 ++ x ++ r := List.take_of_length_le (by omega)
  rw [h1, e2, List.drop_zero, List.take_left' rfl]
  have h2 : (x ++ r).take (2 + x.length + r.length - 2) = x ++ r := List.take_of_length_le (by simp; omega)
  rw [h2, List.drop_left' rfl]
theorem head_img (g : Nat) (nn R : List UInt8) : (mk (headI g nn ++ R)).extract 0 8 = mk (be g 8) /\ (mk (headI g nn ++ R)).extract 8 (mk (headI g nn ++ R)).size = mk (be nn.length 2 ++ nn ++ R) := by
  unfold headI
  refine ⟨?_, ?_⟩
  · rw [mk_extract]; exact congrArg mk (seg_app (a := []) (c := be nn.length 2 ++ nn ++ R) (by simp) (by simp) (by simp [be_length]))
  · rw [mk_extract]; exact congrArg mk (seg_app (a := be g 8) (b := be nn.length 2 ++ nn ++ R) (c := []) (by simp) (by simp [be_length]) (by rw [mk_size]; simp [be_length]))
theorem ofI_head (g : Nat) (nn R : List UInt8) (hg : g < 18446744073709551616) (hn : nn.length < 65536) : ofI (mk (headI g nn ++ R)) = (recsE (mk R)).map fun l => (g, mk nn, l) := by
  obtain ⟨h1, h2⟩ := head_img g nn R
  have hs : ¬ (mk (headI g nn ++ R)).size < 8 := by rw [mk_size, List.length_append, headI_len]; omega
  unfold ofI
  rw [if_neg hs, h1, h2, cut_two nn R hn, mk_num, num_be_eq _ _ (by omega)]
  rfl
theorem ofI_img {g : Nat} {nn : List UInt8} {D : List Rrd} (hg : g < 18446744073709551616) (hn : nn.length < 65536) (h : ∀ x ∈ D, okR x.toRec = true) : ofI (mk (imgB g nn D)) = some (g, mk nn, D.map Rrd.toRec) := by
  have ha : (D.map Rrd.toRec).all okR = true := by
    rw [List.all_eq_true]
    intro r hr
    obtain ⟨x, hx, rfl⟩ := List.mem_map.1 hr
    exact h x hx
  have hr : recsE (mk (rowE ((D.map Rrd.toRec).map ownE))) = some (D.map Rrd.toRec) := by
    unfold recsE; rw [rowE_piecesR _ (own_lt ha fun r hr => ok_data (List.all_eq_true.1 ha r hr))]
    simp only [if_true]
    exact recs_own _ ha
  unfold imgB
  rw [ofI_head g nn _ hg hn, hr]
  rfl
theorem imgB_len {g : Nat} {nn : List UInt8} {D : List Rrd} (h : ∀ x ∈ D, okR x.toRec = true) (hd : ∀ x ∈ D, x.d.size <= 2000) : 10 <= (imgB g nn D).length /\ (imgB g nn D).length <= 10 + nn.length + D.length * 2269 := by
  have h1 := rowE_len 2265 ((D.map Rrd.toRec).map ownE) (fun y hy => by
    obtain ⟨r, hr, rfl⟩ := List.mem_map.1 hy
    obtain ⟨x, hx, rfl⟩ := List.mem_map.1 hr
    have h2 := own_len (h x hx)
    have h3 := hd x hx
    rw [rrd_data x, mk_size] at h3
    omega)
  have h2 : ((D.map Rrd.toRec).map ownE).length = D.length := by simp
  rw [h2] at h1
  unfold imgB
  rw [List.length_append, headI_len]
  omega
theorem ofC_self' {l : List Rrd} (h : SetL cX l) : ofC l = l := by
  have hs : Srt cX l := by
    refine List.Pairwise.imp ?_ h
    intro a b e
    have := cX_flip a b
    omega
  have hl : ∀ l : List Rrd, SetL cX l -> lastX l = l := by
    intro l
    induction l with
    | nil => intro _; rfl
    | cons x l ih =>
      intro h
      cases l with
      | nil => rfl
      | cons y l =>
        obtain ⟨h1, h2⟩ := List.pairwise_cons.1 h
        have e := h1 y (by simp)
        rw [lastX, if_neg (by omega), ih h2]
  rw [<-lastX_of hs (StS.refl l), hl l h]
theorem few_small {xs : List Rrd} (h : fewL xs = true) : ∀ x ∈ xs, x.s.size <= 600 /\ x.d.size <= 2000 := by
  unfold fewL at h
  rw [Bool.and_eq_true, decide_eq_true_eq, List.all_eq_true] at h
  intro x hx
  have := h.2 x hx
  unfold lowR at this
  rw [Bool.and_eq_true, decide_eq_true_eq, decide_eq_true_eq] at this
  exact ⟨this.2, this.1⟩
theorem codeZ_again {nn : List UInt8} {D : List Rrd} (h1 : (nameL nn).isSome = true) (h2 : OkL D) (h3 : SetL cX D) (h4 : isZ nn D = true) : codeZ nn D = 0 := by
  unfold codeZ; rw [h1, h2.all, ofC_self' h3, h4]; rfl
theorem name_short {nn : List UInt8} (h : (nameL nn).isSome = true) : nn.length <= 255 := by
  cases hn : nameL nn with
  | none => rw [hn] at h; cases h
  | some L => exact (nameL_is hn).2.2
end Go.Proofs.YtmpginmdaeclaaaGreatDoor
