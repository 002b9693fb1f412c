/- Parts of the proofs of the statements of image. No statement of the seat is proved here. -/
import Derived.Test.YtnbapaimpoobkaaGreatDoorEntB
import Derived.Test.YtnbapaimpoobkaaGreatDoorEntC
import Derived.StillTailTactics
import Derived.Test.YtnbapaimpoobkaaGreatDoorImgE
import Derived.Test.YtnbapaimpoobkaaGreatDoorImgK
import Derived.Shelf.RegionOpenPlain
import Derived.Test.YtnbapaimpoobkaaGreatDoorZonD
import Derived.Test.YtnbapaimpoobkaaGreatDoorImgL
import Derived.Deep.RegionHeld3
namespace Go.Proofs.YtnbapaimpoobkaaGreatDoor
open Go.RowKit Go.Op

set_option maxHeartbeats 4000000 in
set_option maxRecDepth 20000 in
theorem RefRecords_any (S : ByteArray) (w : World) (hS : S.size ≤ 4000) : Calls Tryz.prog 49 #[.string S] w (RecsLeaves S (.bool (recsE S).isSome) w) := by
  obtain ⟨ps, z, hps⟩ : ∃ ps z, piecesR S 4 = (ps, z) := ⟨_, _, rfl⟩
  have hlen := piecesR_len S 4
  have hsz := piecesR_size S 4
  rw [hps] at hlen hsz
  simp only at hlen hsz
  have HPS := Lib.hid hps
  have HSZ := Lib.hid hsz
  clear hps hsz
  by_cases hz : z = 0
  · subst hz
    have HRE := Lib.hid (show recsE S = recsP ps by unfold recsE; rw [HPS.out]; rfl)
    go_enter Tryz.func49, Tryz.ntmps49
    go_wp2_with fail
    refine (RefPieces_any S 4 _ (by omega)).mono ?_
    unfold PiecesLeaves
    rw [HPS.out]
    rintro e w1 ⟨A1, c1, rfl, hsee, hB1⟩
    have HSE := Lib.hid hsee
    have HB1 := Lib.hid hB1
    clear hsee hB1
    go_wp2_with fail
    go_loopw [6, 7] (fun v i wr => ∃ k : Nat, k ≤ ps.length ∧ i = .int .i64 (k : Nat) ∧ RecsAt ps w1 k v wr) (fun _ i _ => ps.length - (intOf i).toNat)
    case atStart => exact ⟨0, Nat.zero_le _, rfl, ⟨[], rfl, Recs.start ps, own_nil _ _ _ _, Below.refl _ _⟩⟩
    case round =>
      obtain ⟨k, hk, rfl, ⟨acc, hacc, hre, hO, hB2⟩⟩ := hrel
      have HO := Lib.hid hO
      have HB := Lib.hid (HB1.out.trans (hB2.mono HB1.out.size))
      have HB2 := Lib.hid hB2
      have HR := Lib.hid hre
      have HA := Lib.hid hacc
      obtain ⟨A, c, rfl, hs0, hcap⟩ := own_cap hO
      have HS0 := Lib.hid hs0
      have HCAP := Lib.hid hcap
      clear hO hB2 hre hs0 hcap hacc
      by_cases hkn : k < ps.length
      · have g1 : (k : Int) < (ps.length : Int) := by omega
        obtain ⟨b, off, rfl, hb, hc⟩ := texts_at (HSE.out.below HB2.out) hkn
        obtain ⟨P, hP⟩ : ∃ P, P = ps[k] := ⟨_, rfl⟩
        have hg : ps.getD k ByteArray.empty = P := by rw [hP]; simp [List.getD, hkn]
        have hpk : ps[k]? = some P := by rw [hP]; exact List.getElem?_eq_getElem hkn
        rw [hg] at hc
        have hbw : b < wr.heap.size := Nat.lt_of_lt_of_le hb HB2.out.size
        have g0 : (0 : Int) ≤ (k : Int) := by omega
        obtain ⟨M, hM⟩ : ∃ M, M = P.data.toList := ⟨_, rfl⟩
        have hPM : P = mk M := by rw [hM]; exact (mk_toList P).symm
        have hPz : P.size = M.length := by rw [hPM, mk_size]
        have hMl : M.length ≤ 4000 := by have := HSZ.out P (List.mem_of_getElem? hpk); omega
        have HPK := Lib.hid hpk
        have HM := Lib.hid hM
        have HPM := Lib.hid hPM
        clear hg hpk hP hM hPM
        go_wp2_with fail
        refine (RefRRead_one P M _ HPM.out hMl).mono ?_
        rintro e w3 ⟨N, D, t, c9, l, x, z, rfl, hone, hB3⟩
        have HB3 := Lib.hid (HB.out.trans (hB3.mono HB.out.size))
        have HO4 := Lib.hid ((own_below HO.out hB3).alloc (.cells #[.string N, .int .i64 t, .int .i64 c9, .int .i64 l, .string D] rrT))
        have HB24 := Lib.hid ((HB2.out.trans (hB3.mono HB2.out.size)).alloc (Nat.le_trans HB2.out.size hB3.size) (.cells #[.string N, .int .i64 t, .int .i64 c9, .int .i64 l, .string D] rrT))
        have HBE := Lib.hid (HB3.out.alloc HB3.out.size (.cells #[.string N, .int .i64 t, .int .i64 c9, .int .i64 l, .string D] rrT))
        have hw4 := Whole.new w3 rrT (rrA N D t c9 l)
        have hc5 := (hB3.cell hbw).trans hc
        have hc6 := (((Below.refl w3.heap.size w3).alloc (Nat.le_refl _) (.cells #[.string N, .int .i64 t, .int .i64 c9, .int .i64 l, .string D] rrT)).cell (p := ⟨b, off + k, none⟩) (Nat.lt_of_lt_of_le hbw hB3.size)).trans hc5
        obtain ⟨d0, d1, d2, d3, d4⟩ := rr_facts hw4
        clear hB3 hw4 hc hc5
        cases ho : oneE M with
        | none =>
          rw [ho] at hone
          have HN := Lib.hid (show recsE S = none by rw [HRE.out]; exact HR.out.fails HPK.out (by rw [← HM.out]; exact ho))
          by_cases hz : z = 0
          · have gz : ((z : Int) != 0) = false := by rw [bne_eq_false_iff_eq]; exact hz
            have gx : ((x : Int) != (P.size : Int)) = true := by
              rw [bne_iff_ne]
              rcases hone with h | h
              · exact absurd hz h
              · intro e; exact h (by rw [e, hPz])
            clear ho hz hone hPz
            go_wp2_with fail
            go_ret2
            exact (show Value.bool (recsE S).isSome = .bool false by rw [HN.out]; rfl) ▸ recs_nil HN.out HBE.out
          · have gz : ((z : Int) != 0) = true := by rw [bne_iff_ne]; exact hz
            clear ho hz hone hPz
            go_wp2_with fail
            go_ret2
            exact (show Value.bool (recsE S).isSome = .bool false by rw [HN.out]; rfl) ▸ recs_nil HN.out HBE.out
        | some r =>
          rw [ho] at hone
          obtain ⟨⟨hN, hD, ht, hc9, hl⟩, hx, hz⟩ := hone
          subst hN hD ht hc9 hl hz
          have gx : ((x : Int) != (P.size : Int)) = false := by rw [bne_eq_false_iff_eq, hx, hPz]
          have HLE := Lib.hid (show k + 1 ≤ 1073741824 by omega)
          have HST := Lib.hid (HR.out.step HPK.out (by rw [← HM.out]; exact ho))
          have HO5 := Lib.hid (HO4.out.alloc (.cells #[.string (mk r.n), .int .i64 r.t, .int .i64 r.c, .int .i64 r.l, .string (mk r.d)] rrT))
          have HB25 := Lib.hid (HB24.out.alloc HB24.out.size (.cells #[.string (mk r.n), .int .i64 r.t, .int .i64 r.c, .int .i64 r.l, .string (mk r.d)] rrT))
          have HA5 := Lib.hid HB25.out.size
          clear ho hx hPz
          go_wp2_with (at_builtin; (refine wpList_append_R rfl _ _ rfl w1.heap.size _ _ (acc.map ofRec) rfl HO5.out (w3.heap.size + 1 + 1) _ _ _ _ rfl (one_two w3 _ r) HLE.out HA5.out ?_); intro v6 w6 ho hg)
          have HO6 := Lib.hid (show w6.ownsRow w1.heap.size 27 5 v6 (k + 1) (rcells ((acc ++ [r]).map ofRec)) by rw [List.map_append]; exact ho)
          have HB26 := Lib.hid (HB25.out.grown hg HA5.out (own_block_ge HO5.out))
          clear ho hg
          go_wp2_with fail
          go_roundw
          case rel => exact ⟨k + 1, by omega, by go_num, ⟨acc ++ [r], by rw [List.length_append, HA.out]; rfl, HST.out, HO6.out, HB26.out⟩⟩
          case measure => simp [intOf]; omega
      · obtain rfl : k = ps.length := by omega
        have HN := Lib.hid (show recsE S = some acc by rw [HRE.out]; exact HR.out.ends)
        go_wp2_with fail
        go_ret2
        exact ⟨A, ps.length, c, by rw [HN.out]; rfl, by rw [HN.out]; exact HS0.out, HCAP.out.less HB1.out.size, HB.out⟩
  · have HN := Lib.hid (show recsE S = none by unfold recsE; rw [HPS.out]; simp only; rw [if_neg hz])
    have hz2 : ps = [] ∧ z = 2 := by
      rcases pieces_code S with h | h
      · rw [HPS.out] at h; exact absurd h hz
      · rw [HPS.out] at h; simpa using h
    obtain ⟨rfl, rfl⟩ := hz2
    go_enter Tryz.func49, Tryz.ntmps49
    go_wp2_with fail
    refine (RefPieces_any S 4 _ (by omega)).mono ?_
    unfold PiecesLeaves
    rw [HPS.out]
    rintro e w1 ⟨A1, c1, rfl, hsee, hB1⟩
    have HB1 := Lib.hid hB1
    clear hsee hB1 hz
    go_wp2_with fail
    go_ret2
    exact (show Value.bool (recsE S).isSome = .bool false by rw [HN.out]; rfl) ▸ recs_nil HN.out HB1.out

theorem Number_still (T : ByteArray) (n : Nat) (w : World) (hs : T.size ≤ 8) (hn : numOf T = n) :
    Calls Tryz.prog 50 #[.string T] w fun e w' => e = .returned (.int .u64 (n : Nat)) ∧ w' = w :=
  (Number_is T n w hs hn).mono fun _ _ ⟨h1, h2⟩ => ⟨h1, h2.symm⟩
end Go.Proofs.YtnbapaimpoobkaaGreatDoor
namespace Go.Proofs.YtnbapaimpoobkaaGreatDoor
open Go.RowKit Go.Op

/-- what the reference's Of leaves -/
def ROfOut (S : ByteArray) (e : Ending) (w' : World) : Prop :=
  match ofI S with
  | none => e = .returned (.tuple #[.int .u64 0, .agg #[.string ⟨#[]⟩, .slice none 0 0], .int .i64 2])
  | some (g, N, l) => ∀ nn, N = mk nn →
      ((codeZ nn (l.map ofRec) = 2 ∧ e = .returned (.tuple #[.int .u64 0, .agg #[.string ⟨#[]⟩, .slice none 0 0], .int .i64 2])) ∨ (codeZ nn (l.map ofRec) = 9 ∧ e = .returned (.tuple #[.int .u64 0, .agg #[.string ⟨#[]⟩, .slice none 0 0], .int .i64 9])) ∨
      (codeZ nn (l.map ofRec) = 0 ∧ ∃ v, e = .returned (.tuple #[.int .u64 (g : Nat), v, .int .i64 0]) ∧ ZRefAt w' w'.heap.size N (ofC (l.map ofRec)) v))
theorem ROfOut.none {S : ByteArray} {w' : World} (h : ofI S = none) : ROfOut S (.returned (.tuple #[.int .u64 0, .agg #[.string ⟨#[]⟩, .slice none 0 0], .int .i64 2])) w' := by unfold ROfOut; rw [h]
theorem retRI {fn : Func} {R : Ending → World → Prop} {a : Act} {w : World} {p q u r : Nat} {a0 a1 x y : Value} (hf : fn.results = #[.tmp q, .cell p rzT, .tmp u]) (hd : a.defers = []) (hq : a.tmps.getD q undef = y) (hp : a.tmps.getD p undef = .pointer (some ⟨r, 0, none⟩)) (hx : a.tmps.getD u undef = x)
    (h : Whole w r rzT #[a0, a1]) (hR : R (.returned (.tuple #[y, .agg #[a0, a1], x])) w) : bodyPost Tryz.prog fn R .ret a w := by
  refine bodyPost_ret ?_ hd hR
  have hp' : a.tmps[p]?.getD undef = .pointer (some ⟨r, 0, none⟩) := by simpa using hp
  have hq' : a.tmps[q]?.getD undef = y := by simpa using hq
  have hx' : a.tmps[u]?.getD undef = x := by simpa using hx
  simp [results, hf, hp', hq', hx', asAddr, run_loadVar_row w r rzT _ _ (0, 0) _ h Tryz.underlying34 rfl rz_size, Result.andThen]
theorem rz_frozen {w : World} {r t : Nat} {cs : Array Value} (h : Whole w r t cs) : w.frozen? ⟨r, 0, none⟩ = false ∧ w.frozen? ⟨r, 1, none⟩ = false := ⟨h.frozen 0, h.frozen 1⟩
theorem rz_cells {w : World} {r t : Nat} {a0 a1 : Value} (h : Whole w r t #[a0, a1]) : w.cell? ⟨r, 0, none⟩ = some a0 ∧ w.cell? ⟨r, 1, none⟩ = some a1 := ⟨(h.cell 0).trans rfl, (h.cell 1).trans rfl⟩
set_option maxHeartbeats 8000000 in
set_option maxRecDepth 20000 in
theorem RIOf_any (S : ByteArray) (w : World) (hS : S.size ≤ 4000) : Calls Tryz.prog 18 #[.string S] w fun e w' => ROfOut S e w' ∧ Below w.heap.size w w' := by
  have HB0 := Lib.hid (show Below w.heap.size w (w.alloc (.cells #[.string ⟨#[]⟩, .slice none 0 0] rzT)) from (Below.refl _ _).alloc (Nat.le_refl _) _)
  have HW0 := Lib.hid (Whole.new w rzT #[.string ⟨#[]⟩, .slice none 0 0])
  by_cases h8 : S.size < 8
  · have HF := Lib.hid (ofI_short h8)
    have g8 : (S.size : Int) < 8 := by omega
    clear h8
    go_enter Tryz.func18, Tryz.ntmps18
    go_wp2_with fail
    refine retRI (R := fun e w' => ROfOut S e w' ∧ Below w.heap.size w w') rfl rfl rfl rfl rfl HW0.out ?_
    exact ⟨.none HF.out, HB0.out⟩
  · have g8 : ¬ (S.size : Int) < 8 := by omega
    have g9 : (8 : Int) ≤ (S.size : Int) := by omega
    obtain ⟨gn, hgn⟩ : ∃ gn, gn = numOf (S.extract 0 8) := ⟨_, rfl⟩
    obtain ⟨R, hR⟩ : ∃ R, R = S.extract 8 S.size := ⟨_, rfl⟩
    have hRz : R.size ≤ 4000 := by rw [hR]; simp; omega
    have HFC := Lib.hid (fun h => ofI_cut (S := S) h8 h)
    have HFR := Lib.hid (fun h => ofI_recs (S := S) h8 h)
    have HNUM := Lib.hid (show (S.extract 0 8).size ≤ 8 ∧ numOf (S.extract 0 8) = gn from ⟨by simp; omega, hgn.symm⟩)
    rw [← hR] at HFC HFR
    rw [← hgn] at HFR
    have HRR := Lib.hid hR
    clear hgn hR h8
    go_enter Tryz.func18, Tryz.ntmps18
    go_wp2_with fail
    rw [← HRR.out]
    refine (RefCut_any R 2 _ (by omega)).mono ?_
    have hcs := cutR_size R 2
    have hcc := cutR_code R 2 (by decide)
    obtain ⟨N, T, kk, hC⟩ : ∃ N T kk, cutR R 2 = (N, T, kk) := ⟨_, _, _, rfl⟩
    rw [hC] at hcs hcc HFC HFR ⊢
    simp only at hcs hcc HFC HFR ⊢
    rintro e w2 ⟨rfl, m2, hw2⟩
    have hB2 : Below (w.alloc (.cells #[.string ⟨#[]⟩, .slice none 0 0] rzT)).heap.size (w.alloc (.cells #[.string ⟨#[]⟩, .slice none 0 0] rzT)) w2 := by rw [hw2]; exact below_drewN (Below.refl _ _) m2
    have HW2 := Lib.hid (HW0.out.below hB2 HW0.out.lt)
    have HB2 := Lib.hid (HB0.out.trans (hB2.mono HB0.out.size))
    clear hB2 hw2
    rcases hcc with hk | ⟨hk, _⟩
    · have HF := Lib.hid (HFC.out (by omega))
      subst hk
      obtain ⟨f0, f1⟩ := rz_frozen HW2.out
      obtain ⟨c0, c1⟩ := rz_cells HW2.out
      go_wp2_with fail
      refine retRI (R := fun e w' => ROfOut S e w' ∧ Below w.heap.size w w') rfl rfl rfl rfl rfl (twoR_put HW2.out _ _) ?_
      exact ⟨.none HF.out, twoR_below HB2.out (Nat.le_refl _) _ _⟩
    · have HFR2 := Lib.hid (HFR.out hk)
      subst hk
      have hT4 : T.size ≤ 4000 := by omega
      clear HFC HFR hcs
      go_wp2_with fail
      refine (RefRecords_any T _ hT4).mono ?_
      rintro e w3 ⟨A3, n3, c3, rfl, hs3, hcap3, hB3⟩
      have HW3 := Lib.hid (HW2.out.below hB3 HW2.out.lt)
      have HB3 := Lib.hid (HB2.out.trans (hB3.mono HB2.out.size))
      have HR3 := Lib.hid hs3
      clear hB3 hs3 hcap3
      cases hre : recsE T with
      | none =>
        have HF := Lib.hid (show ofI S = none by rw [HFR2.out, hre]; rfl)
        have he : (none : Option (List Rec)).isSome = false := rfl
        rw [he]
        clear hre he
        obtain ⟨f0, f1⟩ := rz_frozen HW3.out
        obtain ⟨c0, c1⟩ := rz_cells HW3.out
        go_wp2_with fail
        refine retRI (R := fun e w' => ROfOut S e w' ∧ Below w.heap.size w w') rfl rfl rfl rfl rfl (twoR_put HW3.out _ _) ?_
        exact ⟨.none HF.out, twoR_below HB3.out (Nat.le_refl _) _ _⟩
      | some l =>
        have HF := Lib.hid (show ofI S = some (gn, N, l) by rw [HFR2.out, hre]; rfl)
        have he : (some l).isSome = true := rfl
        rw [he]
        have hR3 : SeesR w3 w3.heap.size A3 n3 (l.map ofRec) := by have := HR3.out; rw [hre] at this; exact this
        obtain ⟨hlow, hlen⟩ := recs_low hT4 hre
        have hn3 : n3 ≤ 60000 := by rw [← hR3.1, List.length_map]; omega
        have HR4 := Lib.hid hR3
        have HLOW := Lib.hid hlow
        obtain ⟨nn, hN⟩ := mk_of N
        have HN := Lib.hid hN
        have HUQ := Lib.hid (show ∀ nn', N = mk nn' → nn' = nn from fun nn' h => by rw [hN] at h; have := congrArg (fun b : ByteArray => b.data.toList) h; simpa [mk] using this.symm)
        clear hre he hR3 hlow hlen hN HFR2 HR3
        go_wp2_with fail
        refine (RefNew_any A3 n3 c3 N nn (l.map ofRec) _ HN.out HR4.out hn3 HLOW.out).mono ?_
        rintro e w5 ⟨hno, hB5⟩
        have HW5 := Lib.hid (HW3.out.below hB5 HW3.out.lt)
        have HB5 := Lib.hid (HB3.out.trans (hB5.mono HB3.out.size))
        clear hB5 HR4
        rcases hno with ⟨hcode, rfl⟩ | ⟨hcode, rfl⟩ | ⟨hcode, v, rfl, hzv⟩
        · have HX := Lib.hid (show ∀ w', ROfOut S (.returned (.tuple #[.int .u64 0, .agg #[.string ⟨#[]⟩, .slice none 0 0], .int .i64 2])) w' from fun w' => by unfold ROfOut; rw [HF.out]; exact fun nn' h => by rw [HUQ.out nn' h]; exact .inl ⟨hcode, rfl⟩)
          clear hcode
          have HW6 := Lib.hid (HW5.out.alloc (.cells #[.string ⟨#[]⟩, .slice none 0 0] rzT))
          have HB6 := Lib.hid (HB5.out.alloc HB5.out.size (.cells #[.string ⟨#[]⟩, .slice none 0 0] rzT))
          obtain ⟨f0, f1⟩ := rz_frozen HW6.out
          obtain ⟨c0, c1⟩ := rz_cells HW6.out
          go_wp2_with fail
          refine retRI (R := fun e w' => ROfOut S e w' ∧ Below w.heap.size w w') rfl rfl rfl rfl rfl (twoR_put HW6.out _ _) ?_
          exact ⟨HX.out _, twoR_below HB6.out (Nat.le_refl _) _ _⟩
        · have HX := Lib.hid (show ∀ w', ROfOut S (.returned (.tuple #[.int .u64 0, .agg #[.string ⟨#[]⟩, .slice none 0 0], .int .i64 9])) w' from fun w' => by unfold ROfOut; rw [HF.out]; exact fun nn' h => by rw [HUQ.out nn' h]; exact .inr (.inl ⟨hcode, rfl⟩))
          clear hcode
          have HW6 := Lib.hid (HW5.out.alloc (.cells #[.string ⟨#[]⟩, .slice none 0 0] rzT))
          have HB6 := Lib.hid (HB5.out.alloc HB5.out.size (.cells #[.string ⟨#[]⟩, .slice none 0 0] rzT))
          obtain ⟨f0, f1⟩ := rz_frozen HW6.out
          obtain ⟨c0, c1⟩ := rz_cells HW6.out
          go_wp2_with fail
          refine retRI (R := fun e w' => ROfOut S e w' ∧ Below w.heap.size w w') rfl rfl rfl rfl rfl (twoR_put HW6.out _ _) ?_
          exact ⟨HX.out _, twoR_below HB6.out (Nat.le_refl _) _ _⟩
        · obtain ⟨D, hD⟩ : ∃ D, D = ofC (l.map ofRec) := ⟨_, rfl⟩
          have hokD : OkL D := by rw [hD]; exact (HLOW.out.ok (codeZ_zero hcode).2.1).ofC
          rw [← hD] at hzv
          have HX := Lib.hid (show ∀ w' v, ZRefAt w' w'.heap.size N D v → ROfOut S (.returned (.tuple #[.int .u64 (gn : Nat), v, .int .i64 0])) w' from fun w' v h => by unfold ROfOut; rw [HF.out]; exact fun nn' h' => by rw [HUQ.out nn' h']; exact .inr (.inr ⟨hcode, v, rfl, by rw [← hD]; exact h⟩))
          have HOKD := Lib.hid hokD
          have HZV := Lib.hid hzv
          obtain ⟨A, c, rfl, _, _⟩ := hzv
          clear hcode hD hokD
          obtain ⟨W, hW⟩ : ∃ W, W = w5.alloc (.cells #[.string N, .slice A D.length c] rzT) := ⟨_, rfl⟩
          obtain ⟨gz, hgz⟩ : ∃ g, g = w5.heap.size := ⟨_, rfl⟩
          have hb6 : Below w5.heap.size w5 W := by rw [hW]; exact (Below.refl _ _).alloc (Nat.le_refl _) _
          have HZ6 := Lib.hid (show Whole W gz rzT #[.string N, .slice A D.length c] by rw [hW, hgz]; exact Whole.new _ _ _)
          have HZV6 := Lib.hid (show ZRefAt W W.heap.size N D _ from by obtain ⟨A', c', e, h1, h2⟩ := HZV.out; exact ⟨A', c', e, (h1.keep hb6).more hb6.size, h2⟩)
          have HW6 := Lib.hid (HW5.out.below hb6 HW5.out.lt)
          have HB6 := Lib.hid (HB5.out.trans (hb6.mono HB5.out.size))
          have HWW := Lib.hid hW
          have HGZ := Lib.hid hgz
          clear hW hgz hb6
          obtain ⟨z0, z1⟩ := rz_cells HZ6.out
          go_wp2_with fail
          rw [← HWW.out, ← HGZ.out]
          refine wp_region_still_tail 5 (by kernel_rfl) (by kernel_rfl) ?_
          simp only [List.take_succ_cons, List.take_zero, List.drop_succ_cons, List.drop_zero]
          repeat still_step
          still_call (Number_still (S.extract 0 8) gn _ HNUM.out.1 HNUM.out.2)
          repeat still_step
          refine wpStill_nil ?_
          change wpList _ _ _ _ _ W.drew
          have HW7 := Lib.hid HW6.out.drew
          have HB7 := Lib.hid HB6.out.drew
          have hbd : Below W.heap.size W W.drew := (Below.refl _ _).drew
          have HZV7 := Lib.hid (show ZRefAt W.drew W.drew.heap.size N D _ from by obtain ⟨A', c', e, h1, h2⟩ := HZV6.out; exact ⟨A', c', e, (h1.keep hbd).more hbd.size, h2⟩)
          clear hbd
          generalize W.drew = w7 at HW7 HB7 HZV7 ⊢
          obtain ⟨f0, f1⟩ := rz_frozen HW7.out
          obtain ⟨k0, k1⟩ := rz_cells HW7.out
          clear z0 z1
          go_wp2_with fail
          refine retRI (R := fun e w' => ROfOut S e w' ∧ Below w.heap.size w w') rfl rfl rfl rfl rfl (twoR_put HW7.out _ _) ?_
          exact ⟨HX.out _ _ (rone_far HZV7.out HW7.out HOKD.out (grown_trans (gset _ ⟨_, 0, none⟩ _) (gset _ ⟨_, 1, none⟩ _))), twoR_below HB7.out (Nat.le_refl _) _ _⟩
end Go.Proofs.YtnbapaimpoobkaaGreatDoor
namespace Go.Proofs.YtnbapaimpoobkaaGreatDoor
open Go.RowKit Go.Op

theorem few_small {xs : List Rrd} (h : fewL xs = true) : ∀ x ∈ xs, x.s.size ≤ 600 ∧ x.d.size ≤ 2000 := by
  unfold fewL at h
  rw [Bool.and_eq_true, decide_eq_true_eq, List.all_eq_true] at h
  intro x hx
  have := h.2 x hx
  unfold lowR at this
  rw [Bool.and_eq_true, decide_eq_true_eq, decide_eq_true_eq] at this
  exact ⟨this.2, this.1⟩
theorem name_short {nn : List UInt8} (h : (nameL nn).isSome = true) : nn.length ≤ 255 := by
  cases hn : nameL nn with
  | none => rw [hn] at h; cases h
  | some L => exact (nameL_is hn).2.2
end Go.Proofs.YtnbapaimpoobkaaGreatDoor
namespace Go.Proofs.YtnbapaimpoobkaaGreatDoor
open Go.RowKit Go.Op
set_option linter.unusedVariables false

set_option maxHeartbeats 32000000 in
set_option maxRecDepth 20000 in
theorem ImageReads_walk (S : ByteArray) (w : World) (he : Env w) :
    Calls Tryz.prog 4 #[.string S] w fun e w' => e = .returned (.bool true) ∧ Below w.heap.size w w' := by
  have HE := Lib.hid he
  clear he
  by_cases h4 : S.size ≤ 4000
  · have g4 : ¬ ((S.size : Int) > 4000) := by omega
    go_enter Tryz.func4, Tryz.ntmps4
    go_wp2_with fail
    refine (iawake_any _ HE.out).mono ?_
    rintro e w1 ⟨rfl, hB⟩
    have HB1 := Lib.hid hB
    clear hB
    go_wp2_with fail
    refine (IOf_any S _ h4).mono ?_
    rintro e w3 ⟨h, hB⟩
    have HB3 := Lib.hid (HB1.out.trans (hB.mono HB1.out.size))
    clear hB
    unfold OfOut at h
    cases ho : ofI S with
    | none =>
      rw [ho] at h
      simp only at h
      subst h
      have HO := Lib.hid ho
      clear ho
      unfold zeroZ
      obtain ⟨W3, hW3⟩ : ∃ W, W = w3.alloc (.cells #[.string ⟨#[]⟩, .slice none 0 0, .string ⟨#[]⟩, .int .i64 0, .int .i64 0, .int .i64 0, .string ⟨#[]⟩] zoT) := ⟨_, rfl⟩
      obtain ⟨g3, hg3⟩ : ∃ g, g = w3.heap.size := ⟨_, rfl⟩
      have HB4 := Lib.hid (show Below w.heap.size w W3 by rw [hW3]; exact HB3.out.alloc HB3.out.size _)
      have HWW3 := Lib.hid hW3
      have HG3 := Lib.hid hg3
      clear hW3 hg3
      go_wp2_with fail
      rw [← HWW3.out, ← HG3.out]
      refine (RIOf_any S _ h4).mono ?_
      rintro e w4 ⟨h, hB⟩
      unfold ROfOut at h
      rw [HO.out] at h
      simp only at h
      subst h
      have HB5 := Lib.hid ((HB4.out.trans (hB.mono HB4.out.size)))
      have HB6 := Lib.hid (HB5.out.alloc HB5.out.size (.cells #[.string ⟨#[]⟩, .slice none 0 0] rzT))
      clear hB
      go_wp2_with fail
      obtain ⟨W5, hW5⟩ : ∃ W, W = w4.alloc (.cells #[.string ⟨#[]⟩, .slice none 0 0] rzT) := ⟨_, rfl⟩
      rw [← hW5] at HB6 ⊢
      clear hW5
      refine region_later (by kernel_rfl) ?_
      repeat (go_big_quiet_step (fail))
      refine wpQuiet_nil ?_
      rintro _ ⟨q2, rfl⟩
      obtain ⟨V, hB⟩ := q2
      simp only []
      have HBE := Lib.hid (HB6.out.trans (hB.mono HB6.out.size))
      clear hB
      go_wp2_with fail
      go_ret
      exact ⟨rfl, HBE.out⟩
    | some p =>
      obtain ⟨g, N, l⟩ := p
      rw [ho] at h
      simp only at h
      have HO := Lib.hid ho
      clear ho
      obtain ⟨nn, hnn, h⟩ := h
      have HNN := Lib.hid hnn
      clear hnn
      rcases h with ⟨hc, rfl⟩ | ⟨hc, rfl⟩ | ⟨hc, v, rfl, hz⟩
      · have HC := Lib.hid hc
        clear hc
        unfold zeroZ
        obtain ⟨W3, hW3⟩ : ∃ W, W = w3.alloc (.cells #[.string ⟨#[]⟩, .slice none 0 0, .string ⟨#[]⟩, .int .i64 0, .int .i64 0, .int .i64 0, .string ⟨#[]⟩] zoT) := ⟨_, rfl⟩
        obtain ⟨g3, hg3⟩ : ∃ g, g = w3.heap.size := ⟨_, rfl⟩
        have HB4 := Lib.hid (show Below w.heap.size w W3 by rw [hW3]; exact HB3.out.alloc HB3.out.size _)
        have HWW3 := Lib.hid hW3
        have HG3 := Lib.hid hg3
        clear hW3 hg3
        go_wp2_with fail
        rw [← HWW3.out, ← HG3.out]
        refine (RIOf_any S _ h4).mono ?_
        rintro e w4 ⟨h, hB⟩
        unfold ROfOut at h
        rw [HO.out] at h
        simp only at h
        replace h := h nn HNN.out
        have HB5 := Lib.hid ((HB4.out.trans (hB.mono HB4.out.size)))
        clear hB
        rcases h with ⟨h, rfl⟩ | ⟨h, _⟩ | ⟨h, _⟩
        · clear h
          have HB6 := Lib.hid (HB5.out.alloc HB5.out.size (.cells #[.string ⟨#[]⟩, .slice none 0 0] rzT))
          go_wp2_with fail
          obtain ⟨W5, hW5⟩ : ∃ W, W = w4.alloc (.cells #[.string ⟨#[]⟩, .slice none 0 0] rzT) := ⟨_, rfl⟩
          rw [← hW5] at HB6 ⊢
          clear hW5
          refine region_later (by kernel_rfl) ?_
          repeat (go_big_quiet_step (fail))
          refine wpQuiet_nil ?_
          rintro _ ⟨q2, rfl⟩
          obtain ⟨V, hB⟩ := q2
          simp only []
          have HBE := Lib.hid (HB6.out.trans (hB.mono HB6.out.size))
          clear hB
          go_wp2_with fail
          go_ret
          exact ⟨rfl, HBE.out⟩
        · rw [HC.out] at h; cases h
        · rw [HC.out] at h; cases h
      · have HC := Lib.hid hc
        clear hc
        unfold zeroZ
        obtain ⟨W3, hW3⟩ : ∃ W, W = w3.alloc (.cells #[.string ⟨#[]⟩, .slice none 0 0, .string ⟨#[]⟩, .int .i64 0, .int .i64 0, .int .i64 0, .string ⟨#[]⟩] zoT) := ⟨_, rfl⟩
        obtain ⟨g3, hg3⟩ : ∃ g, g = w3.heap.size := ⟨_, rfl⟩
        have HB4 := Lib.hid (show Below w.heap.size w W3 by rw [hW3]; exact HB3.out.alloc HB3.out.size _)
        have HWW3 := Lib.hid hW3
        have HG3 := Lib.hid hg3
        clear hW3 hg3
        go_wp2_with fail
        rw [← HWW3.out, ← HG3.out]
        refine (RIOf_any S _ h4).mono ?_
        rintro e w4 ⟨h, hB⟩
        unfold ROfOut at h
        rw [HO.out] at h
        simp only at h
        replace h := h nn HNN.out
        have HB5 := Lib.hid ((HB4.out.trans (hB.mono HB4.out.size)))
        clear hB
        rcases h with ⟨h, _⟩ | ⟨h, rfl⟩ | ⟨h, _⟩
        · rw [HC.out] at h; cases h
        · clear h
          have HB6 := Lib.hid (HB5.out.alloc HB5.out.size (.cells #[.string ⟨#[]⟩, .slice none 0 0] rzT))
          go_wp2_with fail
          obtain ⟨W5, hW5⟩ : ∃ W, W = w4.alloc (.cells #[.string ⟨#[]⟩, .slice none 0 0] rzT) := ⟨_, rfl⟩
          rw [← hW5] at HB6 ⊢
          clear hW5
          refine region_later (by kernel_rfl) ?_
          repeat (go_big_quiet_step (fail))
          refine wpQuiet_nil ?_
          rintro _ ⟨q2, rfl⟩
          obtain ⟨V, hB⟩ := q2
          simp only []
          have HBE := Lib.hid (HB6.out.trans (hB.mono HB6.out.size))
          clear hB
          go_wp2_with fail
          go_ret
          exact ⟨rfl, HBE.out⟩
        · rw [HC.out] at h; cases h
      · have HC := Lib.hid hc
        clear hc
        obtain ⟨D, hD⟩ : ∃ D, D = ofC (l.map ofRec) := ⟨_, rfl⟩
        have hDl : D.length ≤ 1000000 := by
          have h1 := (ofI_low h4 _ _ _ HO.out).2
          have h2 := ofC_len (l.map ofRec)
          rw [List.length_map] at h2
          rw [hD]; omega
        rw [← hD] at hz
        have HD := Lib.hid hD
        have HZ3 := Lib.hid hz
        obtain ⟨A3, c3, s3, rfl, _, _, _⟩ := hz
        clear hD
        obtain ⟨W3, hW3⟩ : ∃ W, W = w3.alloc (.cells #[.string N, .slice A3 D.length c3, .string s3.s, .int .i64 s3.t, .int .i64 s3.c, .int .i64 s3.l, .string s3.d] zoT) := ⟨_, rfl⟩
        obtain ⟨g3, hg3⟩ : ∃ g, g = w3.heap.size := ⟨_, rfl⟩
        have hb : Below w3.heap.size w3 W3 := by rw [hW3]; exact (Below.refl _ _).alloc (Nat.le_refl _) _
        have HV4 := Lib.hid (show Whole W3 g3 zoT #[.string N, .slice A3 D.length c3, .string s3.s, .int .i64 s3.t, .int .i64 s3.c, .int .i64 s3.l, .string s3.d] by rw [hW3, hg3]; exact Whole.new _ _ _)
        have HZ4 := Lib.hid (HZ3.out.later hb)
        have HB4 := Lib.hid (HB3.out.trans (hb.mono HB3.out.size))
        have HWW3 := Lib.hid hW3
        have HG3 := Lib.hid hg3
        clear hb hW3 hg3
        go_wp2_with fail
        rw [← HWW3.out, ← HG3.out]
        refine (RIOf_any S _ h4).mono ?_
        rintro e w4 ⟨h, hB⟩
        unfold ROfOut at h
        rw [HO.out] at h
        simp only at h
        replace h := h nn HNN.out
        rw [← HD.out] at h
        rcases h with ⟨h, _⟩ | ⟨h, _⟩ | ⟨_, v4, rfl, hz4⟩
        · rw [HC.out] at h; cases h
        · rw [HC.out] at h; cases h
        have HV5 := Lib.hid (HV4.out.below hB HV4.out.lt)
        have HZ5 := Lib.hid (HZ4.out.later hB)
        have HB5 := Lib.hid (HB4.out.trans (hB.mono HB4.out.size))
        obtain ⟨A4, c4, rfl, hr4, _⟩ := hz4
        have HR5 := Lib.hid hr4
        clear hB hr4
        obtain ⟨W5, hW5⟩ : ∃ W, W = w4.alloc (.cells #[.string N, .slice A4 D.length c4] rzT) := ⟨_, rfl⟩
        obtain ⟨g5, hg5⟩ : ∃ g, g = w4.heap.size := ⟨_, rfl⟩
        have hb : Below w4.heap.size w4 W5 := by rw [hW5]; exact (Below.refl _ _).alloc (Nat.le_refl _) _
        have HU6 := Lib.hid (show Whole W5 g5 rzT #[.string N, .slice A4 D.length c4] by rw [hW5, hg5]; exact Whole.new _ _ _)
        have HV6 := Lib.hid (HV5.out.below hb HV5.out.lt)
        have HZ6 := Lib.hid (HZ5.out.later hb)
        have HR6 := Lib.hid ((HR5.out.keep hb).more hb.size)
        have HB6 := Lib.hid (HB5.out.trans (hb.mono HB5.out.size))
        have HWW5 := Lib.hid hW5
        have HG5 := Lib.hid hg5
        clear hb hW5 hg5
        go_wp2_with fail
        rw [← HWW5.out, ← HG5.out]
        have HSMa := Lib.hid (show sameX D D = true from sameX_is.2 rfl)
        have hb1 : Below W5.heap.size W5 W5.drew := (Below.refl _ _).drew
        have ka0 : ∀ w' : World, Below W5.heap.size W5 w' → w'.cell? ⟨g3, 0, none⟩ = some (.string N) := fun w' h => (h.cell (HV6.out.lt)).trans ((HV6.out.cell 0).trans rfl)
        have ka1 : ∀ w' : World, Below W5.heap.size W5 w' → w'.cell? ⟨g3, 1, none⟩ = some (.slice A3 D.length c3) := fun w' h => (h.cell (HV6.out.lt)).trans ((HV6.out.cell 1).trans rfl)
        have ka2 : ∀ w' : World, Below W5.heap.size W5 w' → w'.cell? ⟨g3, 2, none⟩ = some (.string s3.s) := fun w' h => (h.cell (HV6.out.lt)).trans ((HV6.out.cell 2).trans rfl)
        have ka3 : ∀ w' : World, Below W5.heap.size W5 w' → w'.cell? ⟨g3, 3, none⟩ = some (.int .i64 s3.t) := fun w' h => (h.cell (HV6.out.lt)).trans ((HV6.out.cell 3).trans rfl)
        have ka4 : ∀ w' : World, Below W5.heap.size W5 w' → w'.cell? ⟨g3, 4, none⟩ = some (.int .i64 s3.c) := fun w' h => (h.cell (HV6.out.lt)).trans ((HV6.out.cell 4).trans rfl)
        have ka5 : ∀ w' : World, Below W5.heap.size W5 w' → w'.cell? ⟨g3, 5, none⟩ = some (.int .i64 s3.l) := fun w' h => (h.cell (HV6.out.lt)).trans ((HV6.out.cell 5).trans rfl)
        have ka6 : ∀ w' : World, Below W5.heap.size W5 w' → w'.cell? ⟨g3, 6, none⟩ = some (.string s3.d) := fun w' h => (h.cell (HV6.out.lt)).trans ((HV6.out.cell 6).trans rfl)
        have kx0 : ∀ w' : World, Below W5.heap.size W5 w' → w'.cell? ⟨g5, 0, none⟩ = some (.string N) := fun w' h => (h.cell (HU6.out.lt)).trans ((HU6.out.cell 0).trans rfl)
        have kx1 : ∀ w' : World, Below W5.heap.size W5 w' → w'.cell? ⟨g5, 1, none⟩ = some (.slice A4 D.length c4) := fun w' h => (h.cell (HU6.out.lt)).trans ((HU6.out.cell 1).trans rfl)
        go_region_held3 (fun w' => Below W5.heap.size W5 w') (go_keep) (first
          | (go_at_call 20; (refine (Same_any Q1 A4 D.length o1 D.length c4 D D _ hs1 ((HR6.out.keep hT1).more hT1.size) (by omega)).mono ?_; rw [HSMa.out]; rintro e u3 ⟨rfl, hB3⟩; have hT3 : Below W5.heap.size W5 u3 := hT1.trans (hB3.mono hT1.size)))
          | (go_at_call 21; (refine (All_any N D _ _ (HZ6.out.later hT0) hDl).mono ?_; rintro e u1 ⟨v1, rfl, ho1, hB1⟩; obtain ⟨Q1, o1, rfl, hs1, _⟩ := own_sees ho1; have hT1 : Below W5.heap.size W5 u1 := hT0.trans (hB1.mono hT0.size)))
          | (go_at_call 19; (refine (Apex_any N D _ _ (HZ6.out.later hb1)).mono ?_; rintro e u0 ⟨rfl, hB0⟩; have hT0 : Below W5.heap.size W5 u0 := hb1.trans (hB0.mono hb1.size))))
        all_goals (
          have HBE := Lib.hid (HB6.out.trans (hT3.mono HB6.out.size))
          go_wp2_with fail
          go_ret
          exact ⟨rfl, HBE.out⟩)
  · have g4 : ((S.size : Int) > 4000) := by omega
    go_enter Tryz.func4, Tryz.ntmps4
    go_wp2_with fail
    refine (iawake_any _ HE.out).mono ?_
    rintro e w1 ⟨rfl, hB⟩
    have HB1 := Lib.hid hB
    clear hB
    go_wp2_with fail
    refine (iawake_any _ (HE.out.beyond HB1.out)).mono ?_
    rintro e w2 ⟨rfl, hB⟩
    have HB2 := Lib.hid (HB1.out.trans (hB.mono HB1.out.size))
    clear hB
    go_wp2_with fail
    go_ret
    exact ⟨rfl, HB2.out⟩
end Go.Proofs.YtnbapaimpoobkaaGreatDoor
