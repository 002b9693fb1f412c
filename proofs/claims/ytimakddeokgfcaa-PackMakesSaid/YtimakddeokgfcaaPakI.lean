/- PackMakes. No statement of the seat is proved here. -/
import Derived.Test.YtimakddeokgfcaaPakH
import Derived.Test.YtimakddeokgfcaaPakF
namespace Go.Proofs.Ytimakddeokgfcaa
open Go.RowKit

theorem Pk.put {B b m c : Nat} {W : World} {v : Value} {l : List UInt8} {K : Kn} {g t : Nat} {cs : Array Value} (h : Pk B W b m v l K c) (hw : Whole W g t cs) (h1 : t ≠ pkT) (h2 : t ≠ 5) (i : Nat) (u : Value) : Pk B (W.setCell ⟨g, i, none⟩ u) b m v l K c := by
  have hg := gset W ⟨g, i, none⟩ u
  obtain ⟨p, hp, hb⟩ := h.blk
  obtain ⟨D, n, m1, m2, m3⟩ := h.map
  have hgb : g ≠ b := by
    rintro rfl
    rw [hw] at hb
    injection hb with hb
    injection hb with _ hb _
    exact absurd hb h1
  have hgm : g ≠ m := by
    rintro rfl
    obtain ⟨es, clock, hm, _⟩ := m1
    rw [hw] at hm; cases hm
  exact ⟨h.hb, h.hm, ⟨p, hp, (hg.block b h.blt (fun e => hgb (Option.some.inj e).symm)).trans hb⟩, h.row.kept hg (.inr (Lib.ownBlock_neF h.row hw h2)), ⟨D, n, m1.kept hg (fun e => hgm (Option.some.inj e).symm), m2, m3⟩, h.nl⟩
theorem RefPk.put {W : World} {l : List UInt8} {K : Kn} {x : Value} {g t : Nat} {cs : Array Value} (h : RefPk W l K x) (hw : Whole W g t cs) (h1 : t ≠ 72) (i : Nat) (u : Value) : RefPk (W.setCell ⟨g, i, none⟩ u) l K x := by
  obtain ⟨A, n, c', KL, e1, h2, h3, h4⟩ := h
  refine ⟨A, n, c', KL, e1, ⟨h2.1, fun hn => ?_⟩, h3, h4⟩
  obtain ⟨k, off, e, hlt, ⟨cs', fr, ht⟩, hc⟩ := h2.2 hn
  have hgk : k ≠ g := by
    rintro rfl
    rw [hw] at ht
    injection ht with ht
    injection ht with _ ht _
    exact absurd ht h1
  have hblk := Below.heap_setCell W ⟨g, i, none⟩ u k hgk
  refine ⟨k, off, e, by rw [size_put]; exact hlt, ⟨cs', fr, hblk.trans ht⟩, fun j y hy => ?_⟩
  have := hc j y hy
  simp only [World.cell?, hblk] at this ⊢
  exact this
/-- the message alone turns -/
theorem RefPk.msg {W : World} {l l' : List UInt8} {K : Kn} {A : Option Addr} {n c : Nat} (h : RefPk W l K (rpV l A n c)) (hl : l.length ≤ l'.length) : RefPk W l' K (rpV l' A n c) := by
  obtain ⟨A', n', c', KL, e1, h2, h3, h4⟩ := h
  injection e1 with e1
  injection e1 with e1
  injection e1 with _ e1
  injection e1 with e1
  injection e1 with a1 a2 a3
  subst a1 a2 a3
  exact ⟨A, n, c, KL, rfl, h2, h3, Nat.le_trans h4 hl⟩

theorem RefPk.shape {w : World} {l : List UInt8} {K : Kn} {v : Value} (h : RefPk w l K v) : ∃ A n c, v = .agg #[.string (mk l), .slice A n c] ∧ RefPk w l K (rpV l A n c) := by
  obtain ⟨A, n, c, KL, h1, h2⟩ := h
  exact ⟨A, n, c, h1, ⟨A, n, c, KL, rfl, h2⟩⟩
theorem RefName_at (w : World) (l : List UInt8) (K : Kn) (v : Value) (S : ByteArray) (sl : List UInt8) (L : List (List UInt8)) (may : Bool) (hr : RefPk w l K v) (hl : l.length ≤ 900000) (hS : S = mk sl) (hN : nameL sl = some L)
    (hK : ∀ r t, K r = some t → t < 16384) :
    Calls Try.prog 16 #[v, .string S, .bool may] w fun e w' => ∃ v', e = .returned v' ∧ RefPk w' (putL may L l K).1 (putL may L l K).2 v' ∧ Below w.heap.size w w' := by
  obtain ⟨A, n, c, KL, rfl, h2, rfl, h4⟩ := hr
  obtain ⟨he, hg, hlen⟩ := nameL_is hN
  exact RefName_in w l A n c KL S L may h2 h4 hl (by rw [hS, he]) hg (by rw [← he]; exact hlen) hK

def MakesAt (B0 : Nat) (w : World) (b m g : Nat) (xs : List Itm) (k : Nat) (wr : World) : Prop :=
  ∃ v A n c, Pk B0 wr b m v (runI (xs.take k)).1 (runI (xs.take k)).2 (runI (xs.take k)).1.length ∧ Whole wr g rpT #[.string (mk (runI (xs.take k)).1), .slice A n c] ∧ RefPk wr (runI (xs.take k)).1 (runI (xs.take k)).2 (rpV (runI (xs.take k)).1 A n c) ∧ Below w.heap.size w wr ∧ B0 ≤ wr.heap.size

set_option maxHeartbeats 4000000 in
set_option maxRecDepth 20000 in
theorem PackMakes_walk (A : Option Addr) (n c : Nat) (xs : List Itm) (w : World) (h : InItems w A n xs) :
    Calls Try.prog 4 #[.slice A n c] w fun e w' => e = .returned (.bool true) ∧ Below w.heap.size w w' := by
  have HI := Lib.hid h
  clear h
  cases hf : fewB xs
  · have HF := Lib.hid hf
    clear hf
    go_enter Try.func4, Try.ntmps4
    go_wp2_with fail
    refine (awake_any _).mono ?_
    rintro e w1 ⟨rfl, hB1⟩
    go_wp2_with fail
    refine (few_any A n c _ xs _ (HI.out.keep hB1)).mono ?_
    rw [HF.out]
    rintro e w2 ⟨rfl, rfl⟩
    go_wp2_with fail
    refine (awake_any _).mono ?_
    rintro e w3 ⟨rfl, hB3⟩
    go_wp2_with fail
    go_ret
    exact ⟨rfl, hB1.trans (hB3.mono hB1.size)⟩
  · have HF := Lib.hid hf
    have hlen := HI.out.1
    obtain ⟨hxl, hxs⟩ := few_yes hf
    have HXS := Lib.hid hxs
    have HLEN := Lib.hid hlen
    have hn40 : n ≤ 40 := by omega
    clear hf hxs hxl hlen
    go_enter Try.func4, Try.ntmps4
    go_wp2_with fail
    refine (awake_any _).mono ?_
    rintro e w1 ⟨rfl, hB1⟩
    go_wp2_with fail
    refine (few_any A n c _ xs _ (HI.out.keep hB1)).mono ?_
    rw [HF.out]
    rintro e w2 ⟨rfl, rfl⟩
    have HB1 := Lib.hid hB1
    clear hB1
    go_wp2_with fail
    refine (New_any _).mono ?_
    rintro e w2 ⟨b, m, rfl, hp, hB2⟩
    have hB0 : w.heap.size ≤ w1.heap.size := HB1.out.size
    have hsz2 : w1.heap.size ≤ w2.heap.size := hB2.size
    have hz := (Below.refl w2.heap.size w2).alloc (Nat.le_refl _) (.cells #[.string ⟨#[]⟩, .slice none 0 0] rpT)
    have HST := Lib.hid (show MakesAt w1.heap.size w b m w2.heap.size xs 0 (w2.alloc (.cells #[.string ⟨#[]⟩, .slice none 0 0] rpT)) from
      ⟨_, none, 0, 0, hp.same hz, Whole.new w2 rpT _, RefPk.zero _, (HB1.out.trans (hB2.mono HB1.out.size)).alloc (Nat.le_trans hB0 hsz2) _, by simp; omega⟩)
    clear hp hB2 hz
    go_wp2_with fail
    revert HST
    generalize w2.alloc (.cells #[.string ⟨#[]⟩, .slice none 0 0] rpT) = W
    generalize w2.heap.size = g at *
    intro HST
    go_loopw [5] (fun i wr => ∃ k : Nat, k ≤ n ∧ i = .int .i64 k ∧ MakesAt w1.heap.size w b m g xs k wr) (fun i _ => n - (intOf i).toNat)
    case atStart => exact ⟨0, Nat.zero_le _, rfl, HST.out⟩
    case round =>
      obtain ⟨k, hk, rfl, v, A', n', c', hpk, hw, hr, hB, hBr⟩ := hrel
      have hll : (runI (xs.take k)).1.length ≤ 680000 := by
        have h1 := runI_len (xs := xs.take k) (fun x hx => HXS.out x (List.mem_of_mem_take hx))
        have h2 : (xs.take k).length ≤ 40 := by have := HLEN.out; rw [List.length_take]; omega
        omega
      have hinv := runI_inv (xs.take k)
      have hnext : ∀ x, xs[k]? = some x → runI (xs.take (k + 1)) = stepI (runI (xs.take k)) x := fun x hx => by rw [take_snoc hx, runI_snoc]
      have HNX := Lib.hid hnext
      have HIV := Lib.hid hinv
      clear hnext hinv HST
      obtain ⟨st, hst⟩ : ∃ st, st = runI (xs.take k) := ⟨_, rfl⟩
      rw [← hst] at hpk hw hr hll HNX HIV
      have HS := Lib.hid hst
      obtain ⟨l, K⟩ := st
      simp only at hpk hw hr hll
      have HP := Lib.hid hpk
      have HW := Lib.hid hw
      have HR := Lib.hid hr
      have HB := Lib.hid hB
      obtain ⟨Y, hY⟩ : ∃ Y, Y = mk l := ⟨_, rfl⟩
      have HY := Lib.hid hY
      have hYz : Y.size = l.length := by rw [hY, mk_size]
      clear hst hpk hw hr hB hY
      by_cases hkn : k < n
      · have g1 : (k : Int) < (n : Int) := by omega
        obtain ⟨b2, off2, x, rfl, hb2, hx, x0, x1, x2⟩ := (HI.out.keep HB.out).at hkn
        have hxsz := HXS.out x (List.mem_of_getElem? hx)
        have HST := Lib.hid (HNX.out x hx)
        clear hx
        obtain ⟨raw, s, may⟩ := x
        simp only at x0 x1 x2 hxsz
        cases raw with
        | true =>
          go_wp2_with fail
          refine (Raw_any HP.out s (by omega) hBr).mono ?_
          rintro e w3 ⟨rfl, v3, h3, k3⟩
          have hB3 : Below w.heap.size wr w3 := (k3.below HP.out hBr).mono hB0
          have hW3 : Whole w3 g rpT #[.string Y, .slice A' n' c'] := by rw [HY.out]; exact k3.whole HW.out HP.out (by decide) (by decide)
          have hR3 := HR.out.kp HP.out k3
          have y0 := (hB3.cell (p := ⟨b2, off2 + k * 3, none⟩) hb2).trans x0
          have y1 := (hB3.cell (p := ⟨b2, off2 + k * 3 + 1, none⟩) hb2).trans x1
          have c0 := (hW3.cell 0).trans (show _ = some (Value.string Y) from rfl)
          have f0 := hW3.frozen 0
          have hPW := (h3.more (c' := (l ++ s.data.toList).length) (by simp)).put hW3 (by decide) (by decide) 0 (.string (Y ++ s))
          have hWW : Whole (w3.setCell ⟨g, 0, none⟩ (.string (Y ++ s))) g rpT #[.string (Y ++ s), .slice A' n' c'] := by simpa using hW3.put 0 (.string (Y ++ s))
          have hRW := (hR3.msg (l' := l ++ s.data.toList) (by simp)).put hW3 (by decide) 0 (.string (Y ++ s))
          have hBW : Below w.heap.size w (w3.setCell ⟨g, 0, none⟩ (.string (Y ++ s))) := (HB.out.trans hB3).setCell (p := ⟨g, 0, none⟩) (Nat.le_trans hB0 hsz2) _
          have hBrW : w1.heap.size ≤ (w3.setCell ⟨g, 0, none⟩ (.string (Y ++ s))).heap.size := by rw [size_put]; exact Nat.le_trans hBr k3.size
          have hYs : Y ++ s = mk (l ++ s.data.toList) := by rw [HY.out, ← mk_append, mk_toList]
          have hYsz : (Y ++ s).size = (l ++ s.data.toList).length := by rw [hYs, mk_size]
          have HPW := Lib.hid hPW
          have HWW := Lib.hid hWW
          have HRW := Lib.hid hRW
          have HBW := Lib.hid hBW
          have HYS := Lib.hid hYs
          have HYSZ := Lib.hid hYsz
          clear h3 k3 hB3 hW3 hR3 hPW hWW hRW hBW hYs hYsz
          have cW := (HWW.out.cell 0).trans (show _ = some (Value.string (Y ++ s)) from rfl)
          go_wp2_with fail
          go_region
          all_goals (
            go_wp2_with fail
            have HPW := Lib.hid HPW.out.drew
            have HWW := Lib.hid HWW.out.drew
            have HRW := Lib.hid (HRW.out.same (Below.refl _ _).drew)
            have HBW := Lib.hid HBW.out.drew
            have hBrW2 : w1.heap.size ≤ ((w3.setCell ⟨g, 0, none⟩ (.string (Y ++ s))).drew).heap.size := hBrW
            clear hBrW
            revert HPW HWW HRW HBW hBrW2
            generalize (w3.setCell ⟨g, 0, none⟩ (.string (Y ++ s))).drew = W4
            intro HPW HWW HRW HBW hBrW
            have e0 := (HWW.out.cell 0).trans (show _ = some (Value.string (Y ++ s)) from rfl)
            go_region_held3 (fun w' => w'.cell? ⟨g, 0, none⟩ = some (.string (Y ++ s))) (go_keep) (first | (go_at_call 17; (refine (Len_any HPW.out.drew).mono ?_; rintro e w5 ⟨rfl, rfl⟩)))
            all_goals (
              go_wp2_with fail
              go_roundw
              case rel =>
                refine ⟨k + 1, by omega, by go_num, ?_⟩
                unfold MakesAt
                rw [HST.out]
                exact ⟨_, A', n', c', HPW.out.drew, by have hh := HWW.out.drew; rw [HYS.out] at hh; exact hh, HRW.out.same (Below.refl _ _).drew, HBW.out.drew, hBrW⟩
              case measure => simp [intOf]; omega)
            )
        | false =>
          have hsl : s.data.toList.length = s.size := rfl
          have hsm : s = mk s.data.toList := (mk_toList s).symm
          obtain ⟨sl, hslist⟩ : ∃ sl, sl = s.data.toList := ⟨_, rfl⟩
          rw [← hslist] at hsl hsm
          have HSM := Lib.hid hsm
          have hstep : stepI (l, K) ⟨false, s, may⟩ = match nameL sl with | some L => putL may L l K | none => (l, K) := by rw [hslist]; rfl
          clear hslist hsm
          cases hN : nameL sl with
          | none =>
            rw [hN] at hstep
            have HST := Lib.hid (HST.out.trans hstep)
            have hno : (nameL sl).isSome = false := by rw [hN]; rfl
            have HN := Lib.hid hN
            clear hN hstep
            go_wp2_with fail
            go_region_held3 (fun w' => w'.cell? ⟨b2, off2 + k * 3 + 1, none⟩ = some (.string s) ∧ w'.cell? ⟨b2, off2 + k * 3 + 2, none⟩ = some (.bool may)) (go_keep) (first | (go_at_call 14; (refine (Name_no HP.out.drew s sl may HSM.out (by omega) HN.out).mono ?_; rintro e w3 ⟨rfl, h3, k3⟩; have k3 := (Kp.refl _ _ _ _).drew.trans k3; have hB3 : Below w.heap.size wr w3 := (k3.below HP.out hBr).mono hB0; have y1 := (hB3.cell (p := ⟨b2, off2 + k * 3 + 1, none⟩) hb2).trans x1; have y2 := (hB3.cell (p := ⟨b2, off2 + k * 3 + 2, none⟩) hb2).trans x2)))
            all_goals (
              have hB3 : Below w.heap.size wr w3 := (k3.below HP.out hBr).mono hB0
              have y1 := (hB3.cell (p := ⟨b2, off2 + k * 3 + 1, none⟩) hb2).trans x1
              have HPW := Lib.hid h3
              have HWW := Lib.hid (show Whole w3 g rpT #[.string Y, .slice A' n' c'] from by rw [HY.out]; exact k3.whole HW.out HP.out (by decide) (by decide))
              have HRW := Lib.hid (HR.out.kp HP.out k3)
              have HBW := Lib.hid (HB.out.trans hB3)
              have hBrW : w1.heap.size ≤ w3.heap.size := Nat.le_trans hBr k3.size
              clear h3 k3 hB3
              go_wp2_with fail
              refine (RefRight_any s sl _ HSM.out).mono ?_
              rw [hno]
              rintro e w4 ⟨rfl, hB4⟩
              have HPW := Lib.hid (HPW.out.same hB4)
              have HWW := Lib.hid (HWW.out.below hB4 HWW.out.lt)
              have HRW := Lib.hid (HRW.out.same hB4)
              have HBW := Lib.hid (HBW.out.trans (hB4.mono HBW.out.size))
              have hBrW : w1.heap.size ≤ w4.heap.size := Nat.le_trans hBrW hB4.size
              clear hB4
              go_wp2_with fail
              have hBrW2 : w1.heap.size ≤ (w4).heap.size := hBrW
              clear hBrW
              revert HPW HWW HRW HBW hBrW2
              generalize w4 = W4
              intro HPW HWW HRW HBW hBrW
              have e0 := (HWW.out.cell 0).trans (show _ = some (Value.string Y) from rfl)
              go_region_held3 (fun w' => w'.cell? ⟨g, 0, none⟩ = some (.string Y)) (go_keep) (first | (go_at_call 17; (refine (Len_any HPW.out.drew).mono ?_; rintro e w5 ⟨rfl, rfl⟩)))
              all_goals (
                go_wp2_with fail
                go_roundw
                case rel =>
                  refine ⟨k + 1, by omega, by go_num, ?_⟩
                  unfold MakesAt
                  rw [HST.out]
                  exact ⟨_, A', n', c', HPW.out.drew, by have hh := HWW.out.drew; rw [HY.out] at hh; exact hh, HRW.out.same (Below.refl _ _).drew, HBW.out.drew, hBrW⟩
                case measure => simp [intOf]; omega)
              )
          | some L =>
            rw [hN] at hstep
            have HST := Lib.hid (HST.out.trans hstep)
            have hok : (nameL sl).isSome = true := by rw [hN]; rfl
            obtain ⟨he, hg, hl255⟩ := nameL_is hN
            have HN := Lib.hid hN
            have HE := Lib.hid he
            have HG := Lib.hid hg
            clear hN hstep he hg
            go_wp2_with fail
            go_region_held3 (fun w' => w'.cell? ⟨b2, off2 + k * 3 + 1, none⟩ = some (.string s) ∧ w'.cell? ⟨b2, off2 + k * 3 + 2, none⟩ = some (.bool may)) (go_keep) (first | (go_at_call 14; (refine (Name_yes HP.out.drew s sl L may HSM.out HN.out (by omega) hBr (fun r t h => (HIV.out r t h).2.1)).mono ?_; rintro e w3 ⟨rfl, v3, h3, k3⟩; have k3 := (Kp.refl _ _ _ _).drew.trans k3; have hB3 : Below w.heap.size wr w3 := (k3.below HP.out hBr).mono hB0; have y1 := (hB3.cell (p := ⟨b2, off2 + k * 3 + 1, none⟩) hb2).trans x1; have y2 := (hB3.cell (p := ⟨b2, off2 + k * 3 + 2, none⟩) hb2).trans x2)))
            all_goals (
              have hB3 : Below w.heap.size wr w3 := (k3.below HP.out hBr).mono hB0
              have y1 := (hB3.cell (p := ⟨b2, off2 + k * 3 + 1, none⟩) hb2).trans x1
              have y2 := (hB3.cell (p := ⟨b2, off2 + k * 3 + 2, none⟩) hb2).trans x2
              have HPW := Lib.hid h3
              have HWW := Lib.hid (show Whole w3 g rpT #[.string Y, .slice A' n' c'] from by rw [HY.out]; exact k3.whole HW.out HP.out (by decide) (by decide))
              have HRW := Lib.hid (HR.out.kp HP.out k3)
              have HBW := Lib.hid (HB.out.trans hB3)
              have hBrW : w1.heap.size ≤ w3.heap.size := Nat.le_trans hBr k3.size
              clear h3 k3 hB3
              go_wp2_with fail
              refine (RefRight_any s sl _ HSM.out).mono ?_
              rw [hok]
              rintro e w4 ⟨rfl, hB4⟩
              have z1 := ((hB4.mono HBW.out.size).cell (p := ⟨b2, off2 + k * 3 + 1, none⟩) hb2).trans y1
              have z2 := ((hB4.mono HBW.out.size).cell (p := ⟨b2, off2 + k * 3 + 2, none⟩) hb2).trans y2
              have HPW := Lib.hid (HPW.out.same hB4)
              have HWW := Lib.hid (HWW.out.below hB4 HWW.out.lt)
              have HRW := Lib.hid (HRW.out.same hB4)
              have HBW := Lib.hid (HBW.out.trans (hB4.mono HBW.out.size))
              have hBrW : w1.heap.size ≤ w4.heap.size := Nat.le_trans hBrW hB4.size
              clear hB4
              have c0 := (HWW.out.cell 0).trans (show _ = some (Value.string Y) from rfl)
              have c1 := (HWW.out.cell 1).trans (show _ = some (Value.slice A' n' c') from rfl)
              have f0 := HWW.out.frozen 0
              have f1 := HWW.out.frozen 1
              go_wp2_with fail
              have HRV := Lib.hid (show RefPk w4.drew l K (.agg #[.string Y, .slice A' n' c']) from by rw [HY.out]; exact HRW.out.same (Below.refl _ _).drew)
              go_region_with (go_at_call 16; (refine (RefName_at _ l K _ s sl L may HRV.out (by omega) HSM.out HN.out (fun r t h => (HIV.out r t h).2.1)).mono ?_; rintro e w5 ⟨v5, rfl, h5, hB5⟩; obtain ⟨A5, n5, c5, rfl, h5⟩ := h5.shape; have hW5 := HWW.out.drew.below hB5 HWW.out.lt; have q0 := (hW5.cell 0).trans (show _ = some (Value.string Y) from rfl); have q1 := (hW5.cell 1).trans (show _ = some (Value.slice A' n' c') from rfl); have r0 := hW5.frozen 0; have r1 := hW5.frozen 1; have u1 := (((Below.refl _ _).drew.trans hB5 |>.mono HBW.out.size).cell (p := ⟨b2, off2 + k * 3 + 1, none⟩) hb2).trans z1; have u2 := (((Below.refl _ _).drew.trans hB5 |>.mono HBW.out.size).cell (p := ⟨b2, off2 + k * 3 + 2, none⟩) hb2).trans z2))
              all_goals (
                have HPW := Lib.hid (((HPW.out.drew.same hB5).put hW5 (by decide) (by decide) 0 (.string (mk (putL may L l K).1))).put (hW5.put 0 (.string (mk (putL may L l K).1))) (by decide) (by decide) 1 (.slice A5 n5 c5))
                have HWW := Lib.hid (show Whole ((w5.setCell ⟨g, 0, none⟩ (.string (mk (putL may L l K).1))).setCell ⟨g, 1, none⟩ (.slice A5 n5 c5)) g rpT #[.string (mk (putL may L l K).1), .slice A5 n5 c5] from by simpa using (hW5.put 0 (.string (mk (putL may L l K).1))).put 1 (.slice A5 n5 c5))
                have HRW := Lib.hid ((h5.put hW5 (by decide) 0 (.string (mk (putL may L l K).1))).put (hW5.put 0 (.string (mk (putL may L l K).1))) (by decide) 1 (.slice A5 n5 c5))
                have hBg : w.heap.size ≤ g := Nat.le_trans hB0 hsz2
                have HBW := Lib.hid (((HBW.out.trans ((Below.refl _ _).drew.trans hB5 |>.mono HBW.out.size)).setCell (p := ⟨g, 0, none⟩) hBg (.string (mk (putL may L l K).1))).setCell (p := ⟨g, 1, none⟩) hBg (.slice A5 n5 c5))
                have hBrW : w1.heap.size ≤ ((w5.setCell ⟨g, 0, none⟩ (.string (mk (putL may L l K).1))).setCell ⟨g, 1, none⟩ (.slice A5 n5 c5)).heap.size := by rw [size_put, size_put]; exact Nat.le_trans hBrW hB5.size
                have hYq := mk_size (putL may L l K).1
                clear hB5 h5 hW5
                go_wp2_with fail
                have hBrW2 : w1.heap.size ≤ ((w5.setCell ⟨g, 0, none⟩ (.string (mk (putL may L l K).1))).setCell ⟨g, 1, none⟩ (.slice A5 n5 c5)).heap.size := hBrW
                clear hBrW
                revert HPW HWW HRW HBW hBrW2
                generalize (w5.setCell ⟨g, 0, none⟩ (.string (mk (putL may L l K).1))).setCell ⟨g, 1, none⟩ (.slice A5 n5 c5) = W4
                intro HPW HWW HRW HBW hBrW
                have e0 := (HWW.out.cell 0).trans (show _ = some (Value.string (mk (putL may L l K).1)) from rfl)
                go_region_held3 (fun w' => w'.cell? ⟨g, 0, none⟩ = some (.string (mk (putL may L l K).1))) (go_keep) (first | (go_at_call 17; (refine (Len_any HPW.out.drew).mono ?_; rintro e w5 ⟨rfl, rfl⟩)))
                all_goals (
                  go_wp2_with fail
                  go_roundw
                  case rel =>
                    refine ⟨k + 1, by omega, by go_num, ?_⟩
                    unfold MakesAt
                    rw [HST.out]
                    exact ⟨_, A5, n5, c5, HPW.out.drew, by have hh := HWW.out.drew; exact hh, HRW.out.same (Below.refl _ _).drew, HBW.out.drew, hBrW⟩
                  case measure => simp [intOf]; omega)
                ))
      · obtain rfl : k = n := by omega
        have hfull : runI (xs.take k) = runI xs := by rw [List.take_of_length_le (by rw [HLEN.out]; exact Nat.le_refl _)]
        have c0 := (HW.out.cell 0).trans (show _ = some (Value.string (mk l)) from rfl)
        have heq : ((mk l).toList == (mk l).toList) = true := by rw [mk_beq]; simp
        clear hfull
        go_wp2_with fail
        go_region_with (go_at_call 18; (refine (Bytes_any HP.out.drew).mono ?_; rintro e w3 ⟨rfl, h3, k3⟩; have c3 := ((k3.whole HW.out.drew HP.out.drew (by decide) (by decide)).cell 0).trans (show _ = some (Value.string (mk l)) from rfl)))
        all_goals (
          have HB3 := Lib.hid (HB.out.trans (((Kp.refl _ _ _ _).drew.trans k3).below HP.out hBr |>.mono hB0))
          go_wp2_with fail
          go_ret
          exact ⟨rfl, HB3.out⟩)
end Go.Proofs.Ytimakddeokgfcaa
