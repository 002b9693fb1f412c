/- The reference's Records and Of. No statement of the seat is proved here. -/
import Derived.Test.YtglihcalfdofoaaEntB
import Derived.Test.YtglihcalfdofoaaEntE
import Derived.StillTailTactics
namespace Go.Proofs.Ytglihcalfdofoaa
open Go.RowKit Go.Op

set_option maxHeartbeats 4000000 in
set_option maxRecDepth 20000 in
theorem RefRecords_any (S : ByteArray) (w : World) (hS : S.size ≤ 3000) : Calls Try.prog 15 #[.string S] w (RecsLeaves S (.bool (recsE S).isSome) w) := by
  obtain ⟨ps, z, hps⟩ : ∃ ps z, piecesR S 4 = (ps, z) := ⟨_, _, rfl⟩
  have hlen := piecesR_len S 4
  have hsz := piecesR_size S 4
  rw [hps] at hlen hsz
  simp only at hlen hsz
  have HPS := Lib.hid hps
  have HSZ := Lib.hid hsz
  clear hps hsz
  by_cases hz : z = 0
  · subst hz
    have HRE := Lib.hid (show recsE S = recsP ps by unfold recsE; rw [HPS.out]; rfl)
    go_enter Try.func15, Try.ntmps15
    go_wp2_with fail
    refine (RefPieces_any S 4 _ (by omega)).mono ?_
    unfold PiecesLeaves
    rw [HPS.out]
    rintro e w1 ⟨A1, c1, rfl, hsee, hB1⟩
    have HSE := Lib.hid hsee
    have HB1 := Lib.hid hB1
    clear hsee hB1
    go_wp2_with fail
    go_loopw [6, 7] (fun v i wr => ∃ k : Nat, k ≤ ps.length ∧ i = .int .i64 (k : Nat) ∧ RecsAt ps w1 k v wr) (fun _ i _ => ps.length - (intOf i).toNat)
    case atStart => exact ⟨0, Nat.zero_le _, rfl, ⟨[], rfl, Recs.start ps, own_nil _ _ _ _, Below.refl _ _⟩⟩
    case round =>
      obtain ⟨k, hk, rfl, ⟨acc, hacc, hre, hO, hB2⟩⟩ := hrel
      have HO := Lib.hid hO
      have HB := Lib.hid (HB1.out.trans (hB2.mono HB1.out.size))
      have HB2 := Lib.hid hB2
      have HR := Lib.hid hre
      have HA := Lib.hid hacc
      obtain ⟨A, c, rfl, hs0, hcap⟩ := own_cap hO
      have HS0 := Lib.hid hs0
      have HCAP := Lib.hid hcap
      clear hO hB2 hre hs0 hcap hacc
      by_cases hkn : k < ps.length
      · have g1 : (k : Int) < (ps.length : Int) := by omega
        obtain ⟨b, off, rfl, hb, hc⟩ := texts_at (HSE.out.below HB2.out) hkn
        obtain ⟨P, hP⟩ : ∃ P, P = ps[k] := ⟨_, rfl⟩
        have hg : ps.getD k ByteArray.empty = P := by rw [hP]; simp [List.getD, hkn]
        have hpk : ps[k]? = some P := by rw [hP]; exact List.getElem?_eq_getElem hkn
        rw [hg] at hc
        have hbw : b < wr.heap.size := Nat.lt_of_lt_of_le hb HB2.out.size
        have g0 : (0 : Int) ≤ (k : Int) := by omega
        obtain ⟨M, hM⟩ : ∃ M, M = P.data.toList := ⟨_, rfl⟩
        have hPM : P = mk M := by rw [hM]; exact (mk_toList P).symm
        have hPz : P.size = M.length := by rw [hPM, mk_size]
        have hMl : M.length ≤ 3000 := by have := HSZ.out P (List.mem_of_getElem? hpk); omega
        have HPK := Lib.hid hpk
        have HM := Lib.hid hM
        have HPM := Lib.hid hPM
        clear hg hpk hP hM hPM
        go_wp2_with fail
        refine (RefRRead_one P M _ HPM.out hMl).mono ?_
        rintro e w3 ⟨N, D, t, c9, l, x, z, rfl, hone, hB3⟩
        have HB3 := Lib.hid (HB.out.trans (hB3.mono HB.out.size))
        have HO4 := Lib.hid ((own_below HO.out hB3).alloc (.cells #[.string N, .int .i64 t, .int .i64 c9, .int .i64 l, .string D] rrT))
        have HB24 := Lib.hid ((HB2.out.trans (hB3.mono HB2.out.size)).alloc (Nat.le_trans HB2.out.size hB3.size) (.cells #[.string N, .int .i64 t, .int .i64 c9, .int .i64 l, .string D] rrT))
        have HBE := Lib.hid (HB3.out.alloc HB3.out.size (.cells #[.string N, .int .i64 t, .int .i64 c9, .int .i64 l, .string D] rrT))
        have hw4 := Whole.new w3 rrT (rrA N D t c9 l)
        have hc5 := (hB3.cell hbw).trans hc
        have hc6 := (((Below.refl w3.heap.size w3).alloc (Nat.le_refl _) (.cells #[.string N, .int .i64 t, .int .i64 c9, .int .i64 l, .string D] rrT)).cell (p := ⟨b, off + k, none⟩) (Nat.lt_of_lt_of_le hbw hB3.size)).trans hc5
        obtain ⟨d0, d1, d2, d3, d4⟩ := rr_facts hw4
        clear hB3 hw4 hc hc5
        cases ho : oneE M with
        | none =>
          rw [ho] at hone
          have HN := Lib.hid (show recsE S = none by rw [HRE.out]; exact HR.out.fails HPK.out (by rw [← HM.out]; exact ho))
          by_cases hz : z = 0
          · have gz : ((z : Int) != 0) = false := by rw [bne_eq_false_iff_eq]; exact hz
            have gx : ((x : Int) != (P.size : Int)) = true := by
              rw [bne_iff_ne]
              rcases hone with h | h
              · exact absurd hz h
              · intro e; exact h (by rw [e, hPz])
            clear ho hz hone hPz
            go_wp2_with fail
            go_ret2
            exact (show Value.bool (recsE S).isSome = .bool false by rw [HN.out]; rfl) ▸ recs_nil HN.out HBE.out
          · have gz : ((z : Int) != 0) = true := by rw [bne_iff_ne]; exact hz
            clear ho hz hone hPz
            go_wp2_with fail
            go_ret2
            exact (show Value.bool (recsE S).isSome = .bool false by rw [HN.out]; rfl) ▸ recs_nil HN.out HBE.out
        | some r =>
          rw [ho] at hone
          obtain ⟨⟨hN, hD, ht, hc9, hl⟩, hx, hz⟩ := hone
          subst hN hD ht hc9 hl hz
          have gx : ((x : Int) != (P.size : Int)) = false := by rw [bne_eq_false_iff_eq, hx, hPz]
          have HLE := Lib.hid (show k + 1 ≤ 1073741824 by omega)
          have HST := Lib.hid (HR.out.step HPK.out (by rw [← HM.out]; exact ho))
          have HO5 := Lib.hid (HO4.out.alloc (.cells #[.string (mk r.n), .int .i64 r.t, .int .i64 r.c, .int .i64 r.l, .string (mk r.d)] rrT))
          have HB25 := Lib.hid (HB24.out.alloc HB24.out.size (.cells #[.string (mk r.n), .int .i64 r.t, .int .i64 r.c, .int .i64 r.l, .string (mk r.d)] rrT))
          have HA5 := Lib.hid HB25.out.size
          clear ho hx hPz
          go_wp2_with (at_builtin; (refine wpList_append_R rfl _ _ rfl w1.heap.size _ _ (acc.map ofRec) rfl HO5.out (w3.heap.size + 1 + 1) _ _ _ _ rfl (one_two w3 _ r) HLE.out HA5.out ?_); intro v6 w6 ho hg)
          have HO6 := Lib.hid (show w6.ownsRow w1.heap.size 44 5 v6 (k + 1) (rcells ((acc ++ [r]).map ofRec)) by rw [List.map_append]; exact ho)
          have HB26 := Lib.hid (HB25.out.grown hg HA5.out (own_block_ge HO5.out))
          clear ho hg
          go_wp2_with fail
          go_roundw
          case rel => exact ⟨k + 1, by omega, by go_num, ⟨acc ++ [r], by rw [List.length_append, HA.out]; rfl, HST.out, HO6.out, HB26.out⟩⟩
          case measure => simp [intOf]; omega
      · obtain rfl : k = ps.length := by omega
        have HN := Lib.hid (show recsE S = some acc by rw [HRE.out]; exact HR.out.ends)
        go_wp2_with fail
        go_ret2
        exact ⟨A, ps.length, c, by rw [HN.out]; rfl, by rw [HN.out]; exact HS0.out, HCAP.out.less HB1.out.size, HB.out⟩
  · have HN := Lib.hid (show recsE S = none by unfold recsE; rw [HPS.out]; simp only; rw [if_neg hz])
    have hz2 : ps = [] ∧ z = 2 := by
      rcases pieces_code S with h | h
      · rw [HPS.out] at h; exact absurd h hz
      · rw [HPS.out] at h; simpa using h
    obtain ⟨rfl, rfl⟩ := hz2
    go_enter Try.func15, Try.ntmps15
    go_wp2_with fail
    refine (RefPieces_any S 4 _ (by omega)).mono ?_
    unfold PiecesLeaves
    rw [HPS.out]
    rintro e w1 ⟨A1, c1, rfl, hsee, hB1⟩
    have HB1 := Lib.hid hB1
    clear hsee hB1 hz
    go_wp2_with fail
    go_ret2
    exact (show Value.bool (recsE S).isSome = .bool false by rw [HN.out]; rfl) ▸ recs_nil HN.out HB1.out

theorem Number_still (T : ByteArray) (n : Nat) (w : World) (hs : T.size ≤ 8) (hn : numOf T = n) :
    Calls Try.prog 29 #[.string T] w fun e w' => e = .returned (.int .u64 (n : Nat)) ∧ w' = w :=
  (Number_is T n w hs hn).mono fun _ _ ⟨h1, h2⟩ => ⟨h1, h2.symm⟩
set_option maxHeartbeats 8000000 in
set_option maxRecDepth 20000 in
theorem RefOf_any (S : ByteArray) (w : World) (hS : S.size ≤ 3000) : Calls Try.prog 13 #[.string S] w (OfLeaves S (.bool (ofE S).isSome) w) := by
  have HB0 := Lib.hid (show Below w.heap.size w (w.alloc (.cells #[.int .u32 0, .int .u32 0, .slice none 0 0, .slice none 0 0] enT)) from (Below.refl _ _).alloc (Nat.le_refl _) _)
  have HW0 := Lib.hid (Whole.new w enT #[.int .u32 0, .int .u32 0, .slice none 0 0, .slice none 0 0])
  by_cases h12 : S.size < 12
  · have HN := Lib.hid (show ofE S = none by unfold ofE; rw [if_pos h12])
    have g12 : (S.size : Int) < 12 := by omega
    go_enter Try.func13, Try.ntmps13
    go_wp2_with fail
    refine retE (R := OfLeaves S (.bool (ofE S).isSome) w) rfl rfl rfl rfl HW0.out ?_
    exact (show Value.bool (ofE S).isSome = .bool false by rw [HN.out]; rfl) ▸ of_nil HN.out HB0.out
  · have g12 : ¬ ((S.size : Int) < 12) := by omega
    have g0 : (12 : Int) ≤ (S.size : Int) := by omega
    have g8 : (8 : Int) ≤ (S.size : Int) := by omega
    have g4 : (4 : Int) ≤ (S.size : Int) := by omega
    obtain ⟨m, hm⟩ : ∃ m, m = numOf (S.extract 8 12) := ⟨_, rfl⟩
    obtain ⟨ff, hff⟩ : ∃ m, m = numOf (S.extract 0 4) := ⟨_, rfl⟩
    obtain ⟨tt, htt⟩ : ∃ m, m = numOf (S.extract 4 8) := ⟨_, rfl⟩
    have lm : m < 4294967296 := by rw [hm]; exact num4_lt S 8
    have lf : ff < 4294967296 := by rw [hff]; exact num4_lt S 0
    have lt : tt < 4294967296 := by rw [htt]; exact num4_lt S 4
    obtain ⟨T, hT⟩ : ∃ T, T = S.extract 12 S.size := ⟨_, rfl⟩
    have hTz : T.size ≤ 3000 := by rw [hT]; simp; omega
    have hof : ofE S = match recsE T with | none => none | some l => if l.length < m then none else some ⟨ff, tt, l.take m, l.drop m⟩ := by
      unfold ofE
      rw [if_neg h12, hm, hff, htt, hT]
      rfl
    have HOF := Lib.hid hof
    have HM := Lib.hid (show (S.extract 8 12).size ≤ 8 ∧ numOf (S.extract 8 12) = m from ⟨by simp; omega, hm.symm⟩)
    have HFF := Lib.hid (show (S.extract 0 4).size ≤ 8 ∧ numOf (S.extract 0 4) = ff from ⟨by simp; omega, hff.symm⟩)
    have HTT := Lib.hid (show (S.extract 4 8).size ≤ 8 ∧ numOf (S.extract 4 8) = tt from ⟨by simp; omega, htt.symm⟩)
    have HT := Lib.hid hT
    clear hof hm hff htt hT
    go_enter Try.func13, Try.ntmps13
    go_wp2_with fail
    rw [← HT.out]
    refine (RefRecords_any T _ hTz).mono ?_
    rintro e w3 ⟨A3, n3, c3v, rfl, hs3, hcap, hB3⟩
    have HB3 := Lib.hid (HB0.out.trans (hB3.mono HB0.out.size))
    have HW3 := Lib.hid (HW0.out.below hB3 HW0.out.lt)
    have HS3 := Lib.hid hs3
    have HCAP := Lib.hid hcap
    clear hB3 hs3 hcap
    obtain ⟨⟨c0, c1, c2', c3⟩, f0, f1, f2, f3⟩ := four_facts HW3.out
    go_wp2_with fail
    refine (Number_is (S.extract 8 12) m _ HM.out.1 HM.out.2).mono ?_
    rintro e w' ⟨rfl, rfl⟩
    cases hre : recsE T with
    | none =>
      have HN := Lib.hid (show ofE S = none by rw [HOF.out, hre])
      have he : (none : Option (List Rec)).isSome = false := rfl
      rw [he]
      clear hre he
      go_wp2_with fail
      refine retE (R := OfLeaves S (.bool (ofE S).isSome) w) rfl rfl rfl rfl (four_put HW3.out _ _ _ _) ?_
      exact (show Value.bool (ofE S).isSome = .bool false by rw [HN.out]; rfl) ▸ of_nil HN.out (four_below HB3.out (Nat.le_refl _) _ _ _ _)
    | some l =>
      have he : (some l).isSome = true := rfl
      rw [he]
      have hs3 := HS3.out
      rw [hre] at hs3
      have hs3' : SeesR w3 w3.heap.size A3 n3 (l.map ofRec) := hs3
      have hn3 : l.length = n3 := by have := hs3'.1; simpa using this
      have un := HCAP.out.1.1
      have un2 := HCAP.out.1.2.1
      have u1 : IntKind.u64.wrap (n3 : Int) = (n3 : Int) := by rw [IntKind.wrap_u64]; omega
      by_cases hlm : l.length < m
      · have HN := Lib.hid (show ofE S = none by rw [HOF.out, hre]; simp only; rw [if_pos hlm])
        have g1 : (n3 : Int) < (m : Int) := by omega
        clear hre he hs3 hs3' hn3 un un2
        go_wp2_with fail
        refine retE (R := OfLeaves S (.bool (ofE S).isSome) w) rfl rfl rfl rfl (four_put HW3.out _ _ _ _) ?_
        exact (show Value.bool (ofE S).isSome = .bool false by rw [HN.out]; rfl) ▸ of_nil HN.out (four_below HB3.out (Nat.le_refl _) _ _ _ _)
      · have HY := Lib.hid (show ofE S = some ⟨ff, tt, l.take m, l.drop m⟩ by rw [HOF.out, hre]; simp only; rw [if_neg hlm])
        have g1 : ¬ ((n3 : Int) < (m : Int)) := by omega
        have g2 : (m : Int) ≤ (n3 : Int) := by omega
        have g3 : (m : Int) ≤ (c3v : Int) := by omega
        have g6 : (0 : Int) ≤ (m : Int) := by omega
        have g5 : (n3 : Int) ≤ (c3v : Int) := by omega
        have u3 : IntKind.u32.wrap (ff : Int) = (ff : Int) := by rw [IntKind.wrap_u32]; omega
        have u4 : IntKind.u32.wrap (tt : Int) = (tt : Int) := by rw [IntKind.wrap_u32]; omega
        have HS4 := Lib.hid hs3'
        have HN3 := Lib.hid hn3
        have HER := Lib.hid (show Value.bool (ofE S).isSome = .bool true by rw [HY.out]; rfl)
        have hown := HCAP.out.2
        clear hre he hs3 hs3' hn3 un un2 HOF hlm
        rcases hown with ⟨rfl, rfl⟩ | ⟨g, rfl, hg⟩
        · obtain rfl : n3 = 0 := by omega
          obtain rfl : m = 0 := by omega
          have hl0 : l = [] := List.eq_nil_of_length_eq_zero HN3.out
          have HL := Lib.hid hl0
          clear hl0
          go_wp2_with fail
          refine wp_region_still_tail 15 (by kernel_rfl) (by kernel_rfl) ?_
          simp only [List.take_succ_cons, List.take_zero, List.drop_succ_cons, List.drop_zero]
          repeat still_step
          still_call (Number_still (S.extract 0 4) ff _ HFF.out.1 HFF.out.2)
          repeat still_step
          still_call (Number_still (S.extract 4 8) tt _ HTT.out.1 HTT.out.2)
          repeat still_step
          refine wpStill_nil ?_
          change wpList _ _ _ _ _ w3.drew
          have HW4 := Lib.hid HW3.out.drew
          have HB4 := Lib.hid HB3.out.drew
          have HS5 := Lib.hid (show SeesR w3.drew w3.drew.heap.size none 0 (l.map ofRec) from HS4.out.keep (Below.refl w3.heap.size w3).drew)
          generalize w3.drew = w4 at HW4 HB4 HS5 ⊢
          clear c0 c1 c2' c3 f0 f1 f2 f3
          obtain ⟨⟨c0, c1, c2', c3⟩, f0, f1, f2, f3⟩ := four_facts HW4.out
          go_wp2_with fail
          refine retE (R := OfLeaves S (.bool (ofE S).isSome) w) rfl rfl rfl rfl (four_put HW4.out _ _ _ _) ?_
          rw [HER.out]
          rw [HL.out] at HY
          exact of_some HY.out ⟨rfl, fun h => absurd h (by omega)⟩ ⟨rfl, fun h => absurd h (by omega)⟩ (four_below HB4.out (Nat.le_refl _) _ _ _ _)
        · have hgn : g ≠ w.heap.size := Nat.ne_of_gt (Nat.lt_of_lt_of_le HW0.out.lt hg)
          have hgb : ∀ b off, some (⟨g, 0, none⟩ : Addr) = some ⟨b, off, none⟩ → b ≠ w.heap.size := fun b off e => by injection e with e; injection e with e; rw [← e]; exact hgn
          have hgb2 : ∀ b off, some (⟨g, m * 5, none⟩ : Addr) = some ⟨b, off, none⟩ → b ≠ w.heap.size := fun b off e => by injection e with e; injection e with e; rw [← e]; exact hgn
          have HT1 := Lib.hid (show (l.map ofRec).take m = (l.take m).map ofRec from List.map_take.symm)
          have HT2 := Lib.hid (show (l.map ofRec).drop m = (l.drop m).map ofRec from List.map_drop.symm)
          have HLE := Lib.hid (show m ≤ n3 by omega)
          by_cases hmc : c3v = m
          · obtain rfl : n3 = m := by omega
            subst hmc
            go_wp2_with fail
            refine wp_region_still_tail 15 (by kernel_rfl) (by kernel_rfl) ?_
            simp only [List.take_succ_cons, List.take_zero, List.drop_succ_cons, List.drop_zero]
            repeat still_step
            still_call (Number_still (S.extract 0 4) ff _ HFF.out.1 HFF.out.2)
            repeat still_step
            still_call (Number_still (S.extract 4 8) tt _ HTT.out.1 HTT.out.2)
            repeat still_step
            refine wpStill_nil ?_
            change wpList _ _ _ _ _ w3.drew
            have HW4 := Lib.hid HW3.out.drew
            have HB4 := Lib.hid HB3.out.drew
            have HS5 := Lib.hid (show SeesR w3.drew w3.drew.heap.size (some ⟨g, 0, none⟩) c3v (l.map ofRec) from HS4.out.keep (Below.refl w3.heap.size w3).drew)
            generalize w3.drew = w4 at HW4 HB4 HS5 ⊢
            clear c0 c1 c2' c3 f0 f1 f2 f3
            obtain ⟨⟨c0, c1, c2', c3⟩, f0, f1, f2, f3⟩ := four_facts HW4.out
            go_wp2_with fail
            refine retE (R := OfLeaves S (.bool (ofE S).isSome) w) rfl rfl rfl rfl (four_put HW4.out _ _ _ _) ?_
            rw [HER.out]
            exact of_some HY.out (sees_four' (by rw [← HT1.out]; exact sees_take HS5.out HLE.out) hgb _ _ _ _) ⟨by rw [List.length_map, List.length_drop, HN3.out]; omega, fun h => absurd h (by omega)⟩ (four_below HB4.out (Nat.le_refl _) _ _ _ _)
          · have hne : ¬ ((c3v : Int) = (m : Int)) := by omega
            have hpos : 0 < c3v - m := by omega
            go_wp2_with fail
            refine wp_region_still_tail 15 (by kernel_rfl) (by kernel_rfl) ?_
            simp only [List.take_succ_cons, List.take_zero, List.drop_succ_cons, List.drop_zero]
            repeat still_step
            still_call (Number_still (S.extract 0 4) ff _ HFF.out.1 HFF.out.2)
            repeat still_step
            still_call (Number_still (S.extract 4 8) tt _ HTT.out.1 HTT.out.2)
            repeat still_step
            refine wpStill_nil ?_
            change wpList _ _ _ _ _ w3.drew
            have HW4 := Lib.hid HW3.out.drew
            have HB4 := Lib.hid HB3.out.drew
            have HS5 := Lib.hid (show SeesR w3.drew w3.drew.heap.size (some ⟨g, 0, none⟩) n3 (l.map ofRec) from HS4.out.keep (Below.refl w3.heap.size w3).drew)
            generalize w3.drew = w4 at HW4 HB4 HS5 ⊢
            clear c0 c1 c2' c3 f0 f1 f2 f3
            obtain ⟨⟨c0, c1, c2', c3⟩, f0, f1, f2, f3⟩ := four_facts HW4.out
            go_wp2_with fail
            refine retE (R := OfLeaves S (.bool (ofE S).isSome) w) rfl rfl rfl rfl (four_put HW4.out _ _ _ _) ?_
            rw [HER.out]
            exact of_some HY.out (sees_four' (by rw [← HT1.out]; exact sees_take HS5.out HLE.out) hgb _ _ _ _) (sees_four' (by rw [← HT2.out]; exact sees_drop HS5.out HLE.out) hgb2 _ _ _ _) (four_below HB4.out (Nat.le_refl _) _ _ _ _)
end Go.Proofs.Ytglihcalfdofoaa
