/- PackBack. No statement of the seat is proved here. -/
import Derived.Test.YtimakddeokgfcaaPakH
import Derived.Deep.RegionLaw
namespace Go.Proofs.Ytimakddeokgfcaa
open Go.RowKit

/-- a row of another type stands while the packer turns -/
theorem Kp.rowT {B b m c : Nat} {w w' : World} {v v' : Value} {l : List UInt8} {K : Kn} {base e size n : Nat} {x : Value} {xs : List Value} (hk : Kp b m v v' w w') (hp : Pk B w b m v l K c) (ho : w.ownsRow base e size x n xs) (h1 : e ≠ pkT) (h2 : e ≠ 5) : w'.ownsRow base e size x n xs := by
  refine ⟨ho.1, ?_⟩
  rcases ho.2 with h3 | ⟨g, cap, cur, hx, hg, hh, r⟩
  · exact .inl h3
  · refine .inr ⟨g, cap, cur, hx, hg, ?_, r⟩
    have hgb : g ≠ b := by
      rintro rfl
      obtain ⟨p, _, hb⟩ := hp.blk
      rw [hh] at hb
      injection hb with hb
      injection hb with _ hb _
      exact absurd hb h1
    have hgm : g ≠ m := by
      rintro rfl
      obtain ⟨D, n', ⟨es, clock, hm, _⟩, _⟩ := hp.map
      rw [hh] at hm; cases hm
    exact (hk.block g (Array.getElem?_eq_some_iff.1 hh).1 hgb hgm (Lib.ownBlock_neF hp.row hh h2)).trans hh
/-- the packer stands while a row of another type turns -/
theorem Pk.rowT {B b m c : Nat} {w w' : World} {v : Value} {l : List UInt8} {K : Kn} {base e size n : Nat} {x : Value} {xs : List Value} (hp : Pk B w b m v l K c) (ho : w.ownsRow base e size x n xs) (hg : w.grownBy w' x.ownBlock) (h1 : e ≠ pkT) (h2 : e ≠ 5) : Pk B w' b m v l K c := by
  obtain ⟨p, hpp, hb⟩ := hp.blk
  obtain ⟨D, n', hm1, hm2, hm3⟩ := hp.map
  have hty : ∀ g, x.ownBlock = some g → ∃ cur, w.heap[g]? = some (.cells cur e (0, 0)) := by
    intro g hg
    rcases ho.2 with ⟨rfl, _⟩ | ⟨g', cap, cur, rfl, _, hh, _⟩
    · simp [Value.ownBlock] at hg
    · obtain rfl : g' = g := by simpa [Value.ownBlock] using hg
      exact ⟨cur, hh⟩
  have hgb : x.ownBlock ≠ some b := by
    intro hx
    obtain ⟨cur, hh⟩ := hty b hx
    rw [hh] at hb
    injection hb with hb
    injection hb with _ hb _
    exact h1 hb
  have hgm : x.ownBlock ≠ some m := by
    intro hx
    obtain ⟨cur, hh⟩ := hty m hx
    obtain ⟨es, clock, hm, _⟩ := hm1
    rw [hh] at hm; cases hm
  refine ⟨hp.hb, hp.hm, ⟨p, hpp, (hg.block b hp.blt (Ne.symm hgb)).trans hb⟩, hp.row.kept hg ?_, ⟨D, n', hm1.kept hg (Ne.symm hgm), hm2, hm3⟩, hp.nl⟩
  cases hv : v.ownBlock with
  | none => exact .inl rfl
  | some g =>
    refine .inr ?_
    intro hx
    obtain ⟨cur, hh⟩ := hty g hx.symm
    exact Lib.ownBlock_neF hp.row hh h2 hv

/-! ### what is read back -/
theorem fold_pre : ∀ (ys : List Itm) (st : PSt), InvK st.1 st.2 → ∃ z, (ys.foldl stepI st).1 = st.1 ++ z
  | [], st, _ => ⟨[], by simp⟩
  | x :: r, st, h => by
    obtain ⟨h1, z, hz, _⟩ := stepI_grows h x
    obtain ⟨z2, hz2⟩ := fold_pre r (stepI st x) h1
    exact ⟨z ++ z2, by rw [List.foldl_cons, hz2, hz, List.append_assoc]⟩
theorem runI_pre (xs : List Itm) (j : Nat) : ∃ z, (runI xs).1 = (runI (xs.take j)).1 ++ z := by
  have h : runI xs = (xs.drop j).foldl stepI (runI (xs.take j)) := by
    unfold runI
    rw [← List.foldl_append, List.take_append_drop]
  rw [h]
  exact fold_pre _ _ (runI_inv _)
theorem back_read {xs : List Itm} {k : Nat} {x : Itm} {L : List (List UInt8)} (hx : xs[k]? = some x) (hr : x.raw = false) (hN : nameL x.s.data.toList = some L) :
    readR (runI xs).1 [] (runI (xs.take k)).1.length (runI (xs.take k)).1.length none = some (enc L, (runI (xs.take (k + 1))).1.length) := by
  obtain ⟨z, hz⟩ := runI_pre xs (k + 1)
  have hst : runI (xs.take (k + 1)) = putL x.may L (runI (xs.take k)).1 (runI (xs.take k)).2 := by
    rw [take_snoc hx, runI_snoc]
    unfold stepI
    rw [if_neg (by rw [hr]; simp), hN]
  obtain ⟨he, hg, hl⟩ := nameL_is hN
  have h3 := (put_inv (may := x.may) hg (by rw [← he]; exact hl) (runI_inv (xs.take k))).2.2 z
  rw [hz, hst]
  exact h3
def ats (xs : List Itm) (k : Nat) : List Int := (List.range k).map fun j => ((runI (xs.take j)).1.length : Int)
theorem ats_succ (xs : List Itm) (k : Nat) : ats xs (k + 1) = ats xs k ++ [((runI (xs.take k)).1.length : Int)] := by simp [ats, List.range_succ]
theorem ats_len (xs : List Itm) (k : Nat) : (ats xs k).length = k := by simp [ats]
theorem ats_at (xs : List Itm) {k j : Nat} (h : j < k) : (ints .i64 (ats xs k))[j]? = some (.int .i64 ((runI (xs.take j)).1.length : Nat)) := by
  simp [ints, ats, h]
theorem int_info : (Try.prog.info? 3).map (fun i => (i.zero, i.size, i.bytes)) = some (some (.int .i64 0), 1, 8) := by kernel_rfl
theorem row_at {W : World} {base n : Nat} {v : Value} {zs : List Int} (h : W.ownsRow base 3 1 v n (ints .i64 zs)) : ∃ A c, v = .slice A n c ∧ Sees W W.heap.size A n (ints .i64 zs) := Sees.own h

def BackAt (B0 : Nat) (w : World) (b m : Nat) (xs : List Itm) (k : Nat) (atV : Value) (wr : World) : Prop :=
  ∃ v A c, atV = .slice A k c ∧ wr.ownsRow B0 3 1 atV k (ints .i64 (ats xs k)) ∧ Pk B0 wr b m v (runI (xs.take k)).1 (runI (xs.take k)).2 (runI (xs.take k)).1.length ∧ Below w.heap.size w wr ∧ B0 ≤ wr.heap.size

set_option maxHeartbeats 8000000 in
set_option maxRecDepth 20000 in
theorem PackBack_walk (A : Option Addr) (n c : Nat) (xs : List Itm) (w : World) (h : InItems w A n xs) :
    Calls Try.prog 5 #[.slice A n c] w fun e w' => e = .returned (.bool true) ∧ Below w.heap.size w w' := by
  have HI := Lib.hid h
  clear h
  cases hf : fewB xs
  · have HF := Lib.hid hf
    clear hf
    go_enter Try.func5, Try.ntmps5
    go_wp2_with fail
    refine (awake_any _).mono ?_
    rintro e w1 ⟨rfl, hB1⟩
    go_wp2_with fail
    refine (few_any A n c _ xs _ (HI.out.keep hB1)).mono ?_
    rw [HF.out]
    rintro e w2 ⟨rfl, rfl⟩
    go_wp2_with fail
    refine (awake_any _).mono ?_
    rintro e w3 ⟨rfl, hB3⟩
    go_wp2_with fail
    go_ret
    exact ⟨rfl, hB1.trans (hB3.mono hB1.size)⟩
  · have HF := Lib.hid hf
    have hlen := HI.out.1
    obtain ⟨hxl, hxs⟩ := few_yes hf
    have HXS := Lib.hid hxs
    have HLEN := Lib.hid hlen
    have hn40 : n ≤ 40 := by omega
    clear hf hxs hxl hlen
    go_enter Try.func5, Try.ntmps5
    go_wp2_with fail
    refine (awake_any _).mono ?_
    rintro e w1 ⟨rfl, hB1⟩
    go_wp2_with fail
    refine (few_any A n c _ xs _ (HI.out.keep hB1)).mono ?_
    rw [HF.out]
    rintro e w2 ⟨rfl, rfl⟩
    have HB1 := Lib.hid hB1
    clear hB1
    go_wp2_with fail
    refine (New_any _).mono ?_
    rintro e w2 ⟨b, m, rfl, hp, hB2⟩
    have hB0 : w.heap.size ≤ w1.heap.size := HB1.out.size
    have hsz2 : w1.heap.size ≤ w2.heap.size := hB2.size
    have HP := Lib.hid hp
    have HB2 := Lib.hid (HB1.out.trans (hB2.mono HB1.out.size))
    clear hp hB2
    go_wp2_with fail
    go_loopw [4, 5] (fun atV i wr => ∃ k : Nat, k ≤ n ∧ i = .int .i64 k ∧ BackAt w1.heap.size w b m xs k atV wr) (fun _ i _ => n - (intOf i).toNat)
    case atStart => exact ⟨0, Nat.zero_le _, rfl, _, none, 0, rfl, World.ownsRow_nil _ _ _ _, HP.out, HB2.out, hsz2⟩
    case round =>
      obtain ⟨k, hk, rfl, v, A3, c3, rfl, hrow, hpk, hB, hBr⟩ := hrel
      have hll : (runI (xs.take k)).1.length ≤ 680000 := by
        have h1 := runI_len (xs := xs.take k) (fun x hx => HXS.out x (List.mem_of_mem_take hx))
        have h2 : (xs.take k).length ≤ 40 := by have := HLEN.out; rw [List.length_take]; omega
        omega
      have HIV := Lib.hid (runI_inv (xs.take k))
      have HNX := Lib.hid (show ∀ x, xs[k]? = some x → runI (xs.take (k + 1)) = stepI (runI (xs.take k)) x from fun x hx => by rw [take_snoc hx, runI_snoc])
      have HAT := Lib.hid (ats_succ xs k)
      obtain ⟨st, hst⟩ : ∃ st, st = runI (xs.take k) := ⟨_, rfl⟩
      rw [← hst] at hpk hll HNX HIV HAT
      have HS := Lib.hid hst
      obtain ⟨l, K⟩ := st
      simp only at hpk hll HAT
      have HP := Lib.hid hpk
      have HB := Lib.hid hB
      have HRW := Lib.hid hrow
      clear hst hpk hB hrow
      by_cases hkn : k < n
      · have g1 : (k : Int) < (n : Int) := by omega
        obtain ⟨b2, off2, x, rfl, hb2, hx, x0, x1, x2⟩ := (HI.out.keep HB.out).at hkn
        have hxsz := HXS.out x (List.mem_of_getElem? hx)
        have HST := Lib.hid (HNX.out x hx)
        clear hx
        obtain ⟨i0, hi, hz0, hz1, hz2⟩ := info_parts int_info
        have H63 : Hid (k + 1 ≤ maxLen) := Lib.hid (by unfold maxLen; omega)
        have H47 : Hid ((k + 1) * 8 ≤ 140737488355328) := Lib.hid (by omega)
        obtain ⟨raw, s, may⟩ := x
        simp only at x0 x1 x2 hxsz
        cases raw with
        | true =>
          go_wp2_with fail
          refine (Len_any HP.out).mono ?_
          rintro e w3 ⟨rfl, rfl⟩
          go_wp2_with (at_builtin; refine wpList_append_own _ rfl _ _ 42 rfl w1.heap.size 3 i0 (.int .i64 0) 1 8 Try.underlying42 hi hz0 hz1 hz2 rfl (by decide) _ _ _ rfl (HRW.out.alloc _) ⟨wr.heap.size, 0, none⟩ 1 1 [.int .i64 (l.length : Nat)] rfl rfl (news1 _ _ _) (one1 _ rfl) H63.out H47.out (by simp; omega) ?_; intro v2 w4 hown2 hgrow _; have HPA := Lib.hid (show Pk w1.heap.size w4 b m v l K l.length from (HP.out.alloc (.cells #[.int .i64 (l.length : Nat)] 3)).rowT (HRW.out.alloc _) hgrow (by decide) (by decide)); have HBA := Lib.hid (show Below w1.heap.size wr w4 from (((Below.refl _ _).alloc hBr (.cells #[.int .i64 (l.length : Nat)] 3)).grown hgrow (by simp; omega) (fun z hz => (HRW.out.lt z hz).1))); have hown3 : w4.ownsRow w1.heap.size 3 1 v2 (k + 1) (ints .i64 (ats xs (k + 1))) := by { rw [HAT.out]; simpa [ints] using hown2 }; obtain ⟨A4, c4, rfl, _⟩ := Sees.own hown3; have HOW := Lib.hid hown3; have y0 := ((HBA.out.mono hB0).cell (p := ⟨b2, off2 + k * 3, none⟩) hb2).trans x0; have y1 := ((HBA.out.mono hB0).cell (p := ⟨b2, off2 + k * 3 + 1, none⟩) hb2).trans x1; have y2 := ((HBA.out.mono hB0).cell (p := ⟨b2, off2 + k * 3 + 2, none⟩) hb2).trans x2; clear hown2 hgrow hown3)
          have hBr4 : w1.heap.size ≤ w4.heap.size := Nat.le_trans hBr HBA.out.size
          refine (Raw_any HPA.out s (by omega) hBr4).mono ?_
          rintro e w5 ⟨rfl, v5, h5, k5⟩
          have HOW5 := Lib.hid (k5.rowT HPA.out HOW.out (by decide) (by decide))
          have HP5 := Lib.hid (h5.more (c' := (l ++ s.data.toList).length) (by simp))
          have HB5 := Lib.hid (HB.out.trans ((HBA.out.trans (k5.below HPA.out hBr4)).mono hB0))
          have hBr5 : w1.heap.size ≤ w5.heap.size := Nat.le_trans hBr4 k5.size
          clear h5 k5
          go_wp2_with fail
          go_roundw
          case rel =>
            refine ⟨k + 1, by omega, by go_num, ?_⟩
            unfold BackAt
            rw [HST.out]
            exact ⟨_, _, _, rfl, HOW5.out, HP5.out, HB5.out, hBr5⟩
          case measure => simp [intOf]; omega
        | false =>
          have hsl : s.data.toList.length = s.size := rfl
          have hsm : s = mk s.data.toList := (mk_toList s).symm
          obtain ⟨sl, hslist⟩ : ∃ sl, sl = s.data.toList := ⟨_, rfl⟩
          rw [← hslist] at hsl hsm
          have HSM := Lib.hid hsm
          have hstep : stepI (l, K) ⟨false, s, may⟩ = match nameL sl with | some L => putL may L l K | none => (l, K) := by rw [hslist]; rfl
          clear hslist hsm
          cases hN : nameL sl with
          | none =>
            rw [hN] at hstep
            have HST := Lib.hid (HST.out.trans hstep)
            have HN := Lib.hid hN
            clear hN hstep
            go_wp2_with fail
            refine (Len_any HP.out).mono ?_
            rintro e w3 ⟨rfl, rfl⟩
            go_wp2_with (at_builtin; refine wpList_append_own _ rfl _ _ 42 rfl w1.heap.size 3 i0 (.int .i64 0) 1 8 Try.underlying42 hi hz0 hz1 hz2 rfl (by decide) _ _ _ rfl (HRW.out.alloc _) ⟨wr.heap.size, 0, none⟩ 1 1 [.int .i64 (l.length : Nat)] rfl rfl (news1 _ _ _) (one1 _ rfl) H63.out H47.out (by simp; omega) ?_; intro v2 w4 hown2 hgrow _; have HPA := Lib.hid (show Pk w1.heap.size w4 b m v l K l.length from (HP.out.alloc (.cells #[.int .i64 (l.length : Nat)] 3)).rowT (HRW.out.alloc _) hgrow (by decide) (by decide)); have HBA := Lib.hid (show Below w1.heap.size wr w4 from (((Below.refl _ _).alloc hBr (.cells #[.int .i64 (l.length : Nat)] 3)).grown hgrow (by simp; omega) (fun z hz => (HRW.out.lt z hz).1))); have hown3 : w4.ownsRow w1.heap.size 3 1 v2 (k + 1) (ints .i64 (ats xs (k + 1))) := by { rw [HAT.out]; simpa [ints] using hown2 }; obtain ⟨A4, c4, rfl, _⟩ := Sees.own hown3; have HOW := Lib.hid hown3; have y0 := ((HBA.out.mono hB0).cell (p := ⟨b2, off2 + k * 3, none⟩) hb2).trans x0; have y1 := ((HBA.out.mono hB0).cell (p := ⟨b2, off2 + k * 3 + 1, none⟩) hb2).trans x1; have y2 := ((HBA.out.mono hB0).cell (p := ⟨b2, off2 + k * 3 + 2, none⟩) hb2).trans x2; clear hown2 hgrow hown3)
            have hBr4 : w1.heap.size ≤ w4.heap.size := Nat.le_trans hBr HBA.out.size
            go_region_with (go_at_call 14; (refine (Name_no HPA.out.drew s sl may HSM.out (by omega) HN.out).mono ?_; rintro e w5 ⟨rfl, h5, k5⟩; have k5 := (Kp.refl _ _ _ _).drew.trans k5))
            all_goals (
              have HOW5 := Lib.hid (k5.rowT HPA.out HOW.out (by decide) (by decide))
              have HP5 := Lib.hid h5
              have HB5 := Lib.hid (HB.out.trans ((HBA.out.trans (k5.below HPA.out hBr4)).mono hB0))
              have hBr5 : w1.heap.size ≤ w5.heap.size := Nat.le_trans hBr4 k5.size
              clear h5 k5
              go_wp2_with fail
              go_roundw
              case rel =>
                refine ⟨k + 1, by omega, by go_num, ?_⟩
                unfold BackAt
                rw [HST.out]
                exact ⟨_, _, _, rfl, HOW5.out, HP5.out, HB5.out, hBr5⟩
              case measure => simp [intOf]; omega)
          | some L =>
            rw [hN] at hstep
            have HST := Lib.hid (HST.out.trans hstep)
            have HN := Lib.hid hN
            clear hN hstep
            go_wp2_with fail
            refine (Len_any HP.out).mono ?_
            rintro e w3 ⟨rfl, rfl⟩
            go_wp2_with (at_builtin; refine wpList_append_own _ rfl _ _ 42 rfl w1.heap.size 3 i0 (.int .i64 0) 1 8 Try.underlying42 hi hz0 hz1 hz2 rfl (by decide) _ _ _ rfl (HRW.out.alloc _) ⟨wr.heap.size, 0, none⟩ 1 1 [.int .i64 (l.length : Nat)] rfl rfl (news1 _ _ _) (one1 _ rfl) H63.out H47.out (by simp; omega) ?_; intro v2 w4 hown2 hgrow _; have HPA := Lib.hid (show Pk w1.heap.size w4 b m v l K l.length from (HP.out.alloc (.cells #[.int .i64 (l.length : Nat)] 3)).rowT (HRW.out.alloc _) hgrow (by decide) (by decide)); have HBA := Lib.hid (show Below w1.heap.size wr w4 from (((Below.refl _ _).alloc hBr (.cells #[.int .i64 (l.length : Nat)] 3)).grown hgrow (by simp; omega) (fun z hz => (HRW.out.lt z hz).1))); have hown3 : w4.ownsRow w1.heap.size 3 1 v2 (k + 1) (ints .i64 (ats xs (k + 1))) := by { rw [HAT.out]; simpa [ints] using hown2 }; obtain ⟨A4, c4, rfl, _⟩ := Sees.own hown3; have HOW := Lib.hid hown3; have y0 := ((HBA.out.mono hB0).cell (p := ⟨b2, off2 + k * 3, none⟩) hb2).trans x0; have y1 := ((HBA.out.mono hB0).cell (p := ⟨b2, off2 + k * 3 + 1, none⟩) hb2).trans x1; have y2 := ((HBA.out.mono hB0).cell (p := ⟨b2, off2 + k * 3 + 2, none⟩) hb2).trans x2; clear hown2 hgrow hown3)
            have hBr4 : w1.heap.size ≤ w4.heap.size := Nat.le_trans hBr HBA.out.size
            go_region_with (go_at_call 14; (refine (Name_yes HPA.out.drew s sl L may HSM.out HN.out (by omega) hBr4 (fun r t h => (HIV.out r t h).2.1)).mono ?_; rintro e w5 ⟨rfl, v5, h5, k5⟩; have k5 := (Kp.refl _ _ _ _).drew.trans k5))
            all_goals (
              have HOW5 := Lib.hid (k5.rowT HPA.out HOW.out (by decide) (by decide))
              have HP5 := Lib.hid h5
              have HB5 := Lib.hid (HB.out.trans ((HBA.out.trans (k5.below HPA.out hBr4)).mono hB0))
              have hBr5 : w1.heap.size ≤ w5.heap.size := Nat.le_trans hBr4 k5.size
              clear h5 k5
              go_wp2_with fail
              go_roundw
              case rel =>
                refine ⟨k + 1, by omega, by go_num, ?_⟩
                unfold BackAt
                rw [HST.out]
                exact ⟨_, _, _, rfl, HOW5.out, HP5.out, HB5.out, hBr5⟩
              case measure => simp [intOf]; omega)
      · obtain rfl : k = n := by omega
        have hfull : xs.take k = xs := List.take_of_length_le (by rw [HLEN.out]; exact Nat.le_refl _)
        have HFULL := Lib.hid hfull
        have HS2 := Lib.hid (show runI xs = (l, K) from by rw [← hfull]; exact HS.out.symm)
        obtain ⟨i0, hi, hz0, hz1, hz2⟩ := info_parts int_info
        have H63 : Hid (k + 1 ≤ maxLen) := Lib.hid (by unfold maxLen; omega)
        have H47 : Hid ((k + 1) * 8 ≤ 140737488355328) := Lib.hid (by omega)
        clear hfull
        go_wp2_with fail
        refine (Len_any HP.out).mono ?_
        rintro e w3 ⟨rfl, rfl⟩
        go_wp2_with (at_builtin; refine wpList_append_own _ rfl _ _ 42 rfl w1.heap.size 3 i0 (.int .i64 0) 1 8 Try.underlying42 hi hz0 hz1 hz2 rfl (by decide) _ _ _ rfl (HRW.out.alloc _) ⟨wr.heap.size, 0, none⟩ 1 1 [.int .i64 (l.length : Nat)] rfl rfl (news1 _ _ _) (one1 _ rfl) H63.out H47.out (by simp; omega) ?_; intro v2 w4 hown2 hgrow _; have HPA := Lib.hid (show Pk w1.heap.size w4 b m v l K l.length from (HP.out.alloc (.cells #[.int .i64 (l.length : Nat)] 3)).rowT (HRW.out.alloc _) hgrow (by decide) (by decide)); have HBA := Lib.hid (show Below w1.heap.size wr w4 from (((Below.refl _ _).alloc hBr (.cells #[.int .i64 (l.length : Nat)] 3)).grown hgrow (by simp; omega) (fun z hz => (HRW.out.lt z hz).1))); have hown3 : w4.ownsRow w1.heap.size 3 1 v2 (k + 1) (ints .i64 (ats xs (k + 1))) := by { rw [HAT.out]; simpa [ints] using hown2 }; obtain ⟨A4, c4, rfl, _⟩ := Sees.own hown3; have HOW := Lib.hid hown3; clear hown2 hgrow hown3)
        have hBr4 : w1.heap.size ≤ w4.heap.size := Nat.le_trans hBr HBA.out.size
        refine (Bytes_any HPA.out).mono ?_
        rintro e w5 ⟨rfl, h5, k5⟩
        have HOW5 := Lib.hid (k5.rowT HPA.out HOW.out (by decide) (by decide))
        have HB5 := Lib.hid (HB.out.trans ((HBA.out.trans (k5.below HPA.out hBr4)).mono hB0))
        have hBw5 : w4.heap.size ≤ w5.heap.size := k5.size
        clear h5 k5
        go_wp2_with fail
        go_loopw [7] (fun i wq => ∃ j : Nat, j ≤ k ∧ i = .int .i64 j ∧ wq.ownsRow w1.heap.size 3 1 (.slice A4 (k + 1) c4) (k + 1) (ints .i64 (ats xs (k + 1))) ∧ Below w.heap.size w wq) (fun i _ => k - (intOf i).toNat)
        case atStart => exact ⟨0, Nat.zero_le _, rfl, HOW5.out, HB5.out⟩
        case round =>
          obtain ⟨j, hj, rfl, hrow, hBq⟩ := hrel
          obtain ⟨A6, c6, he6, hse⟩ := Sees.own hrow
          injection he6 with he6 _ he7
          subst he6 he7
          have HRQ := Lib.hid hrow
          have HBQ := Lib.hid hBq
          clear hrow hBq
          by_cases hjk : j < k
          · have g1 : (j : Int) < (k : Int) := by omega
            obtain ⟨b2, off2, x, rfl, hb2, hx, x0, x1, x2⟩ := (HI.out.keep HBQ.out).at hjk
            obtain ⟨b3, off3, rfl, hb3, hc3⟩ := hse.addr (by omega)
            have a0 := hc3 _ _ (ats_at xs (show j < k + 1 by omega))
            have a1 := hc3 _ _ (ats_at xs (show j + 1 < k + 1 by omega))
            obtain ⟨raw, s, may⟩ := x
            simp only at x0 x1 x2
            have hread : ∀ L, raw = false → nameL s.data.toList = some L → readR l [] (runI (xs.take j)).1.length (runI (xs.take j)).1.length none = some (enc L, (runI (xs.take (j + 1))).1.length) := by
              intro L hr hN
              have := back_read (xs := xs) (k := j) (x := ⟨raw, s, may⟩) hx hr hN
              rw [HS2.out] at this
              exact this
            have hle : (runI (xs.take j)).1.length ≤ l.length := by
              obtain ⟨z, hz⟩ := runI_pre xs j
              rw [HS2.out] at hz
              have := congrArg List.length hz
              simp at this
              omega
            obtain ⟨p0, hp0⟩ : ∃ p0, p0 = (runI (xs.take j)).1.length := ⟨_, rfl⟩
            obtain ⟨p1, hp1⟩ : ∃ p1, p1 = (runI (xs.take (j + 1))).1.length := ⟨_, rfl⟩
            rw [← hp0] at a0 hread hle
            rw [← hp1] at a1 hread
            have HRD := Lib.hid hread
            clear hread hx hp0 hp1 hc3 hse x2
            cases raw with
            | true =>
              go_wp2_with fail
              go_roundw
              case rel => exact ⟨j + 1, by omega, by go_num, HRQ.out, HBQ.out⟩
              case measure => simp [intOf]; omega
            | false =>
              have hsm : s = mk s.data.toList := (mk_toList s).symm
              obtain ⟨sl, hslist⟩ : ∃ sl, sl = s.data.toList := ⟨_, rfl⟩
              rw [← hslist] at hsm HRD
              have HSM := Lib.hid hsm
              clear hslist hsm
              cases hN : nameL sl with
              | none =>
                have hno : (nameL sl).isSome = false := by rw [hN]; rfl
                clear hN
                go_wp2_with fail
                refine (RefRight_any s sl _ HSM.out).mono ?_
                rw [hno]
                rintro e w6 ⟨rfl, hB6⟩
                have HRQ := Lib.hid (own_below HRQ.out hB6)
                have HBQ := Lib.hid (HBQ.out.trans (hB6.mono HBQ.out.size))
                clear hB6
                go_wp2_with fail
                go_roundw
                case rel => exact ⟨j + 1, by omega, by go_num, HRQ.out, HBQ.out⟩
                case measure => simp [intOf]; omega
              | some L =>
                have hok : (nameL sl).isSome = true := by rw [hN]; rfl
                have hR := HRD.out L rfl hN
                obtain ⟨he, hg, hl255⟩ := nameL_is hN
                have HRD2 := Lib.hid hR
                have HE := Lib.hid he
                clear hN hR he
                go_wp2_with fail
                refine (RefRight_any s sl _ HSM.out).mono ?_
                rw [hok]
                rintro e w6 ⟨rfl, hB6⟩
                have a0' := (hB6.cell (p := ⟨b3, off3 + j, none⟩) hb3).trans a0
                have a1' := (hB6.cell (p := ⟨b3, off3 + (j + 1), none⟩) hb3).trans a1
                have x1' := ((hB6.mono HBQ.out.size).cell (p := ⟨b2, off2 + j * 3 + 1, none⟩) hb2).trans x1
                have HRQ6 := Lib.hid (own_below HRQ.out hB6)
                have HBQ6 := Lib.hid (HBQ.out.trans (hB6.mono HBQ.out.size))
                have hsz6 := hB6.size
                clear hB6
                go_wp2_with fail
                refine (Read_in (mk l) l p0 _ rfl (by omega) hle).mono ?_
                rw [HRD2.out]
                unfold readV
                rintro e w7 ⟨rfl, hB7⟩
                have a1'' := (hB7.cell (p := ⟨b3, off3 + (j + 1), none⟩) (Nat.lt_of_lt_of_le hb3 hsz6)).trans a1'
                have x1'' := ((hB7.mono HBQ6.out.size).cell (p := ⟨b2, off2 + j * 3 + 1, none⟩) hb2).trans x1'
                have HRQ7 := Lib.hid (own_below HRQ6.out hB7)
                have HBQ7 := Lib.hid (HBQ6.out.trans (hB7.mono HBQ6.out.size))
                have heq : ((mk (enc L)).toList == s.toList) = true := by rw [HSM.out, mk_beq, HE.out]; simp
                have hj1 : (j : Int) + 1 < (k : Int) + 1 := by omega
                clear hB7
                go_wp2_with fail
                go_roundw
                case rel => exact ⟨j + 1, by omega, by go_num, HRQ7.out, HBQ7.out⟩
                case measure => simp [intOf]; omega
          · obtain rfl : j = k := by omega
            clear hse
            go_wp2_with fail
            go_ret
            exact ⟨rfl, HBQ.out⟩
end Go.Proofs.Ytimakddeokgfcaa
