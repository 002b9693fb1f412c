/- PackPlain: two packers side by side. No statement of the seat is proved here. -/
import Derived.Test.YtimakddeokgfcaaPakH
namespace Go.Proofs.Ytimakddeokgfcaa
open Go.RowKit

/-- the other packer stands while this one turns -/
theorem Pk.other {B B' bq mq cq bp mp cp : Nat} {W W' : World} {vq vp vp' : Value} {lq lp : List UInt8} {Kq Kp' : Kn} (hq : Pk B W bq mq vq lq Kq cq) (hp : Pk B' W bp mp vp lp Kp' cp) (hk : Kp bp mp vp vp' W W') (h1 : bq ≠ bp) (h2 : mq ≠ mp)
    (h3 : ∀ g, vp.ownBlock = some g → vq.ownBlock ≠ some g) : Pk B W' bq mq vq lq Kq cq ∧ ∀ g, vp'.ownBlock = some g → vq.ownBlock ≠ some g := by
  obtain ⟨p1, hp1, hb1⟩ := hq.blk
  obtain ⟨D1, n1, ⟨es1, cl1, hm1, r1⟩, hn1, hk1⟩ := hq.map
  obtain ⟨p2, hp2, hb2⟩ := hp.blk
  obtain ⟨D2, n2, ⟨es2, cl2, hm2, r2⟩, hn2, hk2⟩ := hp.map
  have hown : ∀ g, vp.ownBlock = some g → ∃ cs fr, W.heap[g]? = some (.cells cs 5 fr) := by
    intro g hg
    rcases hp.row.2 with ⟨rfl, _⟩ | ⟨g', cap, cur, fz, rfl, _, hh, _⟩
    · simp [Value.ownBlock] at hg
    · obtain rfl : g' = g := by simpa [Value.ownBlock] using hg
      exact ⟨cur, fz, hh⟩
  have e1 : W'.heap[bq]? = W.heap[bq]? := by
    refine hk.block bq hq.blt h1 ?_ ?_
    · rintro rfl
      rw [hb1] at hm2; cases hm2
    · exact Lib.ownBlock_neF hp.row hb1 (by decide)
  have e2 : W'.heap[mq]? = W.heap[mq]? := by
    refine hk.block mq hq.mlt ?_ h2 ?_
    · rintro rfl
      rw [hb2] at hm1; cases hm1
    · intro hg
      obtain ⟨cs, fr, hh⟩ := hown mq hg
      rw [hm1] at hh; cases hh
  refine ⟨⟨hq.hb, hq.hm, ⟨p1, hp1, e1.trans hb1⟩, ⟨hq.row.1, ?_⟩, ⟨D1, n1, ⟨es1, cl1, e2.trans hm1, r1⟩, hn1, hk1⟩, hq.nl⟩, ?_⟩
  · rcases hq.row.2 with h | ⟨g, cap, cur, fz, hv, hbg, hh, r⟩
    · exact .inl h
    · refine .inr ⟨g, cap, cur, fz, hv, hbg, ?_, r⟩
      have hgl : g < W.heap.size := (Array.getElem?_eq_some_iff.1 hh).1
      refine (hk.block g hgl ?_ ?_ ?_).trans hh
      · rintro rfl
        rw [hh] at hb2
        injection hb2 with hb2
        injection hb2 with _ hb2 _
        exact absurd hb2 (by decide)
      · rintro rfl
        rw [hh] at hm2; cases hm2
      · intro hg
        exact h3 g hg (by rw [hv]; rfl)
  · intro g hg hq'
    rcases hk.own g hg with h | h
    · exact h3 g h hq'
    · have := (hq.vlt g hq').2
      omega

theorem Pk.lower {B B' b m c : Nat} {W : World} {v : Value} {l : List UInt8} {K : Kn} (h : Pk B W b m v l K c) (hB : B' ≤ B) : Pk B' W b m v l K c := by
  refine ⟨Nat.le_trans hB h.hb, Nat.le_trans hB h.hm, h.blk, ⟨h.row.1, ?_⟩, h.map, h.nl⟩
  rcases h.row.2 with h1 | ⟨g, cap, cur, fz, hv, hbg, r⟩
  · exact .inl h1
  · exact .inr ⟨g, cap, cur, fz, hv, Nat.le_trans hB hbg, r⟩
def TwoAt (B0 : Nat) (w : World) (bp mp bq mq : Nat) (l : List UInt8) (K : Kn) (wr : World) : Prop :=
  ∃ vp vq, Pk B0 wr bp mp vp l K l.length ∧ Pk B0 wr bq mq vq l K l.length ∧ (∀ g, vp.ownBlock = some g → vq.ownBlock ≠ some g) ∧ Below w.heap.size w wr ∧ B0 ≤ wr.heap.size
theorem apart_sym {vp vq : Value} (h : ∀ g, vp.ownBlock = some g → vq.ownBlock ≠ some g) : ∀ g, vq.ownBlock = some g → vp.ownBlock ≠ some g := fun g h1 h2 => h g h2 h1

set_option maxHeartbeats 8000000 in
set_option maxRecDepth 20000 in
theorem PackPlain_walk (A : Option Addr) (n c : Nat) (xs : List Itm) (S : ByteArray) (w : World) (h : InItems w A n xs) (_hS : S.size ≤ maxLen) :
    Calls Try.prog 6 #[.slice A n c, .string S] w fun e w' => e = .returned (.bool true) ∧ Below w.heap.size w w' := by
  have HI := Lib.hid h
  obtain ⟨sn, hsn⟩ := mk_of S
  have HSN := Lib.hid hsn
  clear h hsn
  cases hf : fewB xs
  · have HF := Lib.hid hf
    clear hf
    go_enter Try.func6, Try.ntmps6
    go_wp2_with fail
    refine (awake_any _).mono ?_
    rintro e w1 ⟨rfl, hB1⟩
    go_wp2_with fail
    refine (few_any A n c _ xs _ (HI.out.keep hB1)).mono ?_
    rw [HF.out]
    rintro e w2 ⟨rfl, rfl⟩
    go_wp2_with fail
    refine (awake_any _).mono ?_
    rintro e w3 ⟨rfl, hB3⟩
    go_wp2_with fail
    go_ret
    exact ⟨rfl, hB1.trans (hB3.mono hB1.size)⟩
  · have HF := Lib.hid hf
    have hlen := HI.out.1
    obtain ⟨hxl, hxs⟩ := few_yes hf
    have HXS := Lib.hid hxs
    have HLEN := Lib.hid hlen
    have hn40 : n ≤ 40 := by omega
    clear hf hxs hxl hlen
    by_cases h20 : 20 < n
    · have g20 : (20 : Int) < (n : Int) := by omega
      go_enter Try.func6, Try.ntmps6
      go_wp2_with fail
      refine (awake_any _).mono ?_
      rintro e w1 ⟨rfl, hB1⟩
      go_wp2_with fail
      refine (few_any A n c _ xs _ (HI.out.keep hB1)).mono ?_
      rw [HF.out]
      rintro e w2 ⟨rfl, rfl⟩
      go_wp2_with fail
      refine (awake_any _).mono ?_
      rintro e w3 ⟨rfl, hB3⟩
      go_wp2_with fail
      go_ret
      exact ⟨rfl, hB1.trans (hB3.mono hB1.size)⟩
    · have g20 : decide ((20 : Int) < (n : Int)) = false := by rw [decide_eq_false_iff_not]; omega
      cases hN : nameL sn with
      | none =>
        have hno : (nameL sn).isSome = false := by rw [hN]; rfl
        clear hN
        go_enter Try.func6, Try.ntmps6
        go_wp2_with fail
        refine (awake_any _).mono ?_
        rintro e w1 ⟨rfl, hB1⟩
        go_wp2_with fail
        refine (few_any A n c _ xs _ (HI.out.keep hB1)).mono ?_
        rw [HF.out]
        rintro e w2 ⟨rfl, rfl⟩
        go_wp2_with fail
        refine (RefRight_any S sn _ HSN.out).mono ?_
        rw [hno]
        rintro e w2 ⟨rfl, hB2⟩
        go_wp2_with fail
        refine (awake_any _).mono ?_
        rintro e w3 ⟨rfl, hB3⟩
        go_wp2_with fail
        go_ret
        exact ⟨rfl, (hB1.trans (hB2.mono hB1.size)).trans (hB3.mono (Nat.le_trans hB1.size hB2.size))⟩
      | some L =>
        have hok : (nameL sn).isSome = true := by rw [hN]; rfl
        obtain ⟨he, hg, hl255⟩ := nameL_is hN
        have HN := Lib.hid hN
        have HE := Lib.hid he
        have HG := Lib.hid hg
        clear hN he hg
        go_enter Try.func6, Try.ntmps6
        go_wp2_with fail
        refine (awake_any _).mono ?_
        rintro e w1 ⟨rfl, hB1⟩
        go_wp2_with fail
        refine (few_any A n c _ xs _ (HI.out.keep hB1)).mono ?_
        rw [HF.out]
        rintro e w2 ⟨rfl, rfl⟩
        go_wp2_with fail
        refine (RefRight_any S sn _ HSN.out).mono ?_
        rw [hok]
        rintro e w2 ⟨rfl, hB2⟩
        have hB0 : w.heap.size ≤ w2.heap.size := Nat.le_trans hB1.size hB2.size
        have HB2 := Lib.hid (hB1.trans (hB2.mono hB1.size))
        clear hB1 hB2
        go_wp2_with fail
        refine (New_any _).mono ?_
        rintro e w3 ⟨bp, mp, rfl, hp, hB3⟩
        have HPP := Lib.hid hp
        have hsz3 : w2.heap.size ≤ w3.heap.size := hB3.size
        have HB3 := Lib.hid (HB2.out.trans (hB3.mono hB0))
        clear hp hB3
        go_wp2_with fail
        refine (New_any _).mono ?_
        rintro e w4 ⟨bq, mq, rfl, hq, hB4⟩
        have hbb : bq ≠ bp := by have := hq.hb; have := HPP.out.blt; omega
        have hmm : mq ≠ mp := by have := hq.hm; have := HPP.out.mlt; omega
        have HST := Lib.hid (show TwoAt w2.heap.size w bp mp bq mq (runI (xs.take 0)).1 (runI (xs.take 0)).2 w4 from
          ⟨_, _, HPP.out.same hB4, hq.lower hsz3, fun g hg => (by simp [Value.ownBlock] at hg), HB3.out.trans (hB4.mono (Nat.le_trans hB0 hsz3)), Nat.le_trans hsz3 hB4.size⟩)
        clear hq hB4
        go_wp2_with fail
        go_loopw [7] (fun i wr => ∃ k : Nat, k ≤ n ∧ i = .int .i64 k ∧ TwoAt w2.heap.size w bp mp bq mq (runI (xs.take k)).1 (runI (xs.take k)).2 wr) (fun i _ => n - (intOf i).toNat)
        case atStart => exact ⟨0, Nat.zero_le _, rfl, HST.out⟩
        case round =>
          obtain ⟨k, hk, rfl, vp, vq, hpk, hqk, hap, hB, hBr⟩ := hrel
          have hll : (runI (xs.take k)).1.length ≤ 680000 := by
            have h1 := runI_len (xs := xs.take k) (fun x hx => HXS.out x (List.mem_of_mem_take hx))
            have h2 : (xs.take k).length ≤ 40 := by have := HLEN.out; rw [List.length_take]; omega
            omega
          have HIV := Lib.hid (runI_inv (xs.take k))
          have HNX := Lib.hid (show ∀ x, xs[k]? = some x → runI (xs.take (k + 1)) = stepI (runI (xs.take k)) x from fun x hx => by rw [take_snoc hx, runI_snoc])
          obtain ⟨st, hst⟩ : ∃ st, st = runI (xs.take k) := ⟨_, rfl⟩
          rw [← hst] at hpk hqk hll HNX HIV
          obtain ⟨l, K⟩ := st
          simp only at hpk hqk hll
          have HP := Lib.hid hpk
          have HQ := Lib.hid hqk
          have HA := Lib.hid hap
          have HB := Lib.hid hB
          clear hst hpk hqk hap hB HST
          by_cases hkn : k < n
          · have g1 : (k : Int) < (n : Int) := by omega
            obtain ⟨b2, off2, x, rfl, hb2, hx, x0, x1, x2⟩ := (HI.out.keep HB.out).at hkn
            have hxsz := HXS.out x (List.mem_of_getElem? hx)
            have HST := Lib.hid (HNX.out x hx)
            clear hx
            obtain ⟨raw, s, may⟩ := x
            simp only at x0 x1 x2 hxsz
            cases raw with
            | true =>
              go_wp2_with fail
              refine (Raw_any HP.out s (by omega) hBr).mono ?_
              rintro e w5 ⟨rfl, v5, h5, k5⟩
              replace h5 := h5.more (c' := (l ++ s.data.toList).length) (by simp)
              have HP5 := Lib.hid h5
              have hoth := HQ.out.other HP.out k5 hbb hmm HA.out
              have HQ5 := Lib.hid hoth.1
              have HA5 := Lib.hid (apart_sym hoth.2)
              have hB5 : Below w2.heap.size wr w5 := k5.below HP.out hBr
              have HB5 := Lib.hid (HB.out.trans (hB5.mono hB0))
              have hBr5 : w2.heap.size ≤ w5.heap.size := Nat.le_trans hBr hB5.size
              have y0 := ((hB5.mono hB0).cell (p := ⟨b2, off2 + k * 3, none⟩) hb2).trans x0
              have y1 := ((hB5.mono hB0).cell (p := ⟨b2, off2 + k * 3 + 1, none⟩) hb2).trans x1
              have y2 := ((hB5.mono hB0).cell (p := ⟨b2, off2 + k * 3 + 2, none⟩) hb2).trans x2
              clear h5 k5 hoth hB5
              go_wp2_with fail
              refine (Raw_any HQ5.out s (by omega) hBr5).mono ?_
              rintro e w6 ⟨rfl, v6, h6, k6⟩
              replace h6 := h6.more (c' := (l ++ s.data.toList).length) (by simp)
              have HQ6 := Lib.hid h6
              have hoth := HP5.out.other HQ5.out k6 (Ne.symm hbb) (Ne.symm hmm) HA5.out
              have HP6 := Lib.hid hoth.1
              have HA6 := Lib.hid (apart_sym hoth.2)
              have hB6 : Below w2.heap.size w5 w6 := k6.below HQ5.out hBr5
              have HB6 := Lib.hid (HB5.out.trans (hB6.mono hB0))
              have hBr6 : w2.heap.size ≤ w6.heap.size := Nat.le_trans hBr5 hB6.size
              clear h6 k6 hoth hB6
              go_wp2_with fail
              go_roundw
              case rel =>
                refine ⟨k + 1, by omega, by go_num, ?_⟩
                unfold TwoAt
                rw [HST.out]
                exact ⟨_, _, HP6.out, HQ6.out, HA6.out, HB6.out, hBr6⟩
              case measure => simp [intOf]; omega
            | false =>
              have hsl : s.data.toList.length = s.size := rfl
              have hsm : s = mk s.data.toList := (mk_toList s).symm
              obtain ⟨sl, hslist⟩ : ∃ sl, sl = s.data.toList := ⟨_, rfl⟩
              rw [← hslist] at hsl hsm
              have HSM := Lib.hid hsm
              have hstep : stepI (l, K) ⟨false, s, may⟩ = match nameL sl with | some L => putL may L l K | none => (l, K) := by rw [hslist]; rfl
              clear hslist hsm
              cases hN2 : nameL sl with
              | none =>
                rw [hN2] at hstep
                have HST := Lib.hid (HST.out.trans hstep)
                have HN2 := Lib.hid hN2
                clear hN2 hstep
                go_wp2_with fail
                go_region_with (go_at_call 14; (refine (Name_no HP.out.drew s sl may HSM.out (by omega) HN2.out).mono ?_; rintro e w5 ⟨rfl, h5, k5⟩; have k5 := (Kp.refl _ _ _ _).drew.trans k5))
                all_goals (
                  have HP5 := Lib.hid h5
                  have hoth := HQ.out.other HP.out k5 hbb hmm HA.out
                  have HQ5 := Lib.hid hoth.1
                  have HA5 := Lib.hid (apart_sym hoth.2)
                  have hB5 : Below w2.heap.size wr w5 := k5.below HP.out hBr
                  have HB5 := Lib.hid (HB.out.trans (hB5.mono hB0))
                  have hBr5 : w2.heap.size ≤ w5.heap.size := Nat.le_trans hBr hB5.size
                  have y0 := ((hB5.mono hB0).cell (p := ⟨b2, off2 + k * 3, none⟩) hb2).trans x0
                  have y1 := ((hB5.mono hB0).cell (p := ⟨b2, off2 + k * 3 + 1, none⟩) hb2).trans x1
                  have y2 := ((hB5.mono hB0).cell (p := ⟨b2, off2 + k * 3 + 2, none⟩) hb2).trans x2
                  clear h5 k5 hoth hB5
                  go_wp2_with fail
                  go_region_with (go_at_call 14; (refine (Name_no HQ5.out.drew s sl may HSM.out (by omega) HN2.out).mono ?_; rintro e w6 ⟨rfl, h6, k6⟩; have k6 := (Kp.refl _ _ _ _).drew.trans k6))
                  all_goals (
                    have HQ6 := Lib.hid h6
                    have hoth := HP5.out.other HQ5.out k6 (Ne.symm hbb) (Ne.symm hmm) HA5.out
                    have HP6 := Lib.hid hoth.1
                    have HA6 := Lib.hid (apart_sym hoth.2)
                    have hB6 : Below w2.heap.size w5 w6 := k6.below HQ5.out hBr5
                    have HB6 := Lib.hid (HB5.out.trans (hB6.mono hB0))
                    have hBr6 : w2.heap.size ≤ w6.heap.size := Nat.le_trans hBr5 hB6.size
                    clear h6 k6 hoth hB6
                    go_wp2_with fail
                    go_roundw
                    case rel =>
                      refine ⟨k + 1, by omega, by go_num, ?_⟩
                      unfold TwoAt
                      rw [HST.out]
                      exact ⟨_, _, HP6.out, HQ6.out, HA6.out, HB6.out, hBr6⟩
                    case measure => simp [intOf]; omega))
              | some L2 =>
                rw [hN2] at hstep
                have HST := Lib.hid (HST.out.trans hstep)
                have HN2 := Lib.hid hN2
                clear hN2 hstep
                go_wp2_with fail
                go_region_with (go_at_call 14; (refine (Name_yes HP.out.drew s sl L2 may HSM.out HN2.out (by omega) hBr (fun r t h => (HIV.out r t h).2.1)).mono ?_; rintro e w5 ⟨rfl, v5, h5, k5⟩; have k5 := (Kp.refl _ _ _ _).drew.trans k5))
                all_goals (
                  have HP5 := Lib.hid h5
                  have hoth := HQ.out.other HP.out k5 hbb hmm HA.out
                  have HQ5 := Lib.hid hoth.1
                  have HA5 := Lib.hid (apart_sym hoth.2)
                  have hB5 : Below w2.heap.size wr w5 := k5.below HP.out hBr
                  have HB5 := Lib.hid (HB.out.trans (hB5.mono hB0))
                  have hBr5 : w2.heap.size ≤ w5.heap.size := Nat.le_trans hBr hB5.size
                  have y0 := ((hB5.mono hB0).cell (p := ⟨b2, off2 + k * 3, none⟩) hb2).trans x0
                  have y1 := ((hB5.mono hB0).cell (p := ⟨b2, off2 + k * 3 + 1, none⟩) hb2).trans x1
                  have y2 := ((hB5.mono hB0).cell (p := ⟨b2, off2 + k * 3 + 2, none⟩) hb2).trans x2
                  clear h5 k5 hoth hB5
                  go_wp2_with fail
                  go_region_with (go_at_call 14; (refine (Name_yes HQ5.out.drew s sl L2 may HSM.out HN2.out (by omega) hBr5 (fun r t h => (HIV.out r t h).2.1)).mono ?_; rintro e w6 ⟨rfl, v6, h6, k6⟩; have k6 := (Kp.refl _ _ _ _).drew.trans k6))
                  all_goals (
                    have HQ6 := Lib.hid h6
                    have hoth := HP5.out.other HQ5.out k6 (Ne.symm hbb) (Ne.symm hmm) HA5.out
                    have HP6 := Lib.hid hoth.1
                    have HA6 := Lib.hid (apart_sym hoth.2)
                    have hB6 : Below w2.heap.size w5 w6 := k6.below HQ5.out hBr5
                    have HB6 := Lib.hid (HB5.out.trans (hB6.mono hB0))
                    have hBr6 : w2.heap.size ≤ w6.heap.size := Nat.le_trans hBr5 hB6.size
                    clear h6 k6 hoth hB6
                    go_wp2_with fail
                    go_roundw
                    case rel =>
                      refine ⟨k + 1, by omega, by go_num, ?_⟩
                      unfold TwoAt
                      rw [HST.out]
                      exact ⟨_, _, HP6.out, HQ6.out, HA6.out, HB6.out, hBr6⟩
                    case measure => simp [intOf]; omega))
          · obtain rfl : k = n := by omega
            have hsll : (enc L).length ≤ 255 := by rw [← HE.out]; exact hl255
            obtain ⟨_, ⟨zq, hzq, hq1, hq2⟩, _⟩ := put_inv (may := true) HG.out hsll HIV.out
            simp only at hzq
            have hplain := put_plain L l K
            obtain ⟨LP, hLP⟩ : ∃ LP, LP = (putL false L l K).1 := ⟨_, rfl⟩
            obtain ⟨KP, hKP⟩ : ∃ KP, KP = (putL false L l K).2 := ⟨_, rfl⟩
            obtain ⟨LQ, hLQ⟩ : ∃ LQ, LQ = (putL true L l K).1 := ⟨_, rfl⟩
            obtain ⟨KQ, hKQ⟩ : ∃ KQ, KQ = (putL true L l K).2 := ⟨_, rfl⟩
            rw [← hLP] at hplain
            rw [← hLQ] at hzq
            have hlp : LP.length = l.length + (enc L).length := by rw [hplain, List.length_append]
            have hlq : LQ.length = l.length + zq.length := by rw [hzq, List.length_append]
            have HPL := Lib.hid hplain
            have HLP := Lib.hid hLP
            have HKP := Lib.hid hKP
            have HLQ := Lib.hid hLQ
            have HKQ := Lib.hid hKQ
            have hcut : (mk LP).extract l.length LP.length = S := by
              rw [hplain, mk_extract, List.length_append, List.take_of_length_le (by simp), List.drop_left, HSN.out, HE.out]
            have HCUT := Lib.hid hcut
            have hpz : (mk LP).size = LP.length := mk_size _
            have heq : (S.toList == S.toList) = true := by simp
            have heq2 : (((mk LP).extract l.length LP.length).toList == S.toList) = true := by rw [HCUT.out]; simp
            have i1 : ¬ ((LP.length : Int) < (l.length : Int)) := by omega
            have i2 : (LQ.length : Int) ≤ (LP.length : Int) := by omega
            have i3 : (l.length : Int) + 1 ≤ (LQ.length : Int) := by omega
            have i4 : (l.length : Int) ≤ (LP.length : Int) := by omega
            have i5 : l.length ≤ LP.length := by omega
            clear hplain hzq hLP hKP hLQ hKQ hcut hlp hlq hq1 hq2
            go_wp2_with fail
            refine (Len_any HP.out).mono ?_
            rintro e w5 ⟨rfl, rfl⟩
            go_wp2_with fail
            refine (Len_any HQ.out).mono ?_
            rintro e w5 ⟨rfl, rfl⟩
            go_wp2_with fail
            refine (Name_yes HP.out S sn L false HSN.out HN.out (by omega) hBr (fun r t h => (HIV.out r t h).2.1)).mono ?_
            rw [← HLP.out, ← HKP.out]
            rintro e w5 ⟨rfl, v5, h5, k5⟩
            have HP5 := Lib.hid h5
            have hoth := HQ.out.other HP.out k5 hbb hmm HA.out
            have HQ5 := Lib.hid hoth.1
            have HA5 := Lib.hid (apart_sym hoth.2)
            have hB5 : Below w2.heap.size wr w5 := k5.below HP.out hBr
            have HB5 := Lib.hid (HB.out.trans (hB5.mono hB0))
            have hBr5 : w2.heap.size ≤ w5.heap.size := Nat.le_trans hBr hB5.size
            clear h5 k5 hoth hB5
            go_wp2_with fail
            refine (Name_yes HQ5.out S sn L true HSN.out HN.out (by omega) hBr5 (fun r t h => (HIV.out r t h).2.1)).mono ?_
            rw [← HLQ.out, ← HKQ.out]
            rintro e w6 ⟨rfl, v6, h6, k6⟩
            have HQ6 := Lib.hid h6
            have hoth := HP5.out.other HQ5.out k6 (Ne.symm hbb) (Ne.symm hmm) HA5.out
            have HP6 := Lib.hid hoth.1
            have HA6 := Lib.hid (apart_sym hoth.2)
            have hB6 : Below w2.heap.size w5 w6 := k6.below HQ5.out hBr5
            have HB6 := Lib.hid (HB5.out.trans (hB6.mono hB0))
            have hBr6 : w2.heap.size ≤ w6.heap.size := Nat.le_trans hBr5 hB6.size
            clear h6 k6 hoth hB6
            go_wp2_with fail
            refine (Len_any HP6.out).mono ?_
            rintro e w7 ⟨rfl, rfl⟩
            go_wp2_with fail
            refine (Bytes_any HP6.out).mono ?_
            rintro e w8 ⟨rfl, h8, k8⟩
            have HP8 := Lib.hid h8
            have hoth := HQ6.out.other HP6.out k8 hbb hmm (apart_sym (apart_sym HA6.out))
            have HQ8 := Lib.hid hoth.1
            have HA8 := Lib.hid hoth.2
            have hB8 : Below w2.heap.size w6 w8 := k8.below HP6.out hBr6
            have HB8 := Lib.hid (HB6.out.trans (hB8.mono hB0))
            have hBr8 : w2.heap.size ≤ w8.heap.size := Nat.le_trans hBr6 hB8.size
            clear h8 k8 hoth hB8
            go_wp2_with fail
            refine (Len_any HP8.out).mono ?_
            rintro e w99 ⟨rfl, rfl⟩
            go_wp2_with fail
            refine (Bytes_any HP8.out).mono ?_
            rintro e w9 ⟨rfl, h9, k9⟩
            have HP9 := Lib.hid h9
            have hoth := HQ8.out.other HP8.out k9 hbb hmm (apart_sym (apart_sym HA8.out))
            have HQ9 := Lib.hid hoth.1
            have HA9 := Lib.hid hoth.2
            have hB9 : Below w2.heap.size w8 w9 := k9.below HP8.out hBr8
            have HB9 := Lib.hid (HB8.out.trans (hB9.mono hB0))
            have hBr9 : w2.heap.size ≤ w9.heap.size := Nat.le_trans hBr8 hB9.size
            clear h9 k9 hoth hB9
            go_wp2_with fail
            refine (Len_any HQ9.out).mono ?_
            rintro e w99 ⟨rfl, rfl⟩
            go_wp2_with fail
            refine (Len_any HP9.out).mono ?_
            rintro e w99 ⟨rfl, rfl⟩
            go_wp2_with fail
            refine (Len_any HQ9.out).mono ?_
            rintro e w99 ⟨rfl, rfl⟩
            go_wp2_with fail
            go_ret
            exact ⟨rfl, HB9.out⟩
end Go.Proofs.Ytimakddeokgfcaa
