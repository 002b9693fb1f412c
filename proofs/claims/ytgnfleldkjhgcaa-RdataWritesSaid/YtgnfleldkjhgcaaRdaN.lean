/- RdataWrites. No statement of the seat is proved here. -/
import Derived.Test.YtgnfleldkjhgcaaRdaL
import Derived.Deep.RegionLaw
namespace Go.Proofs.Ytgnfleldkjhgcaa
open Go.RowKit

/-- a row of another type stands while the packer turns -/
theorem Kp.rowT {B b m c : Nat} {w w' : World} {v v' : Value} {l : List UInt8} {K : Kn} {base e size n : Nat} {x : Value} {xs : List Value} (hk : Kp b m v v' w w') (hp : Pk B w b m v l K c) (ho : w.ownsRow base e size x n xs) (h1 : e ≠ pkT) (h2 : e ≠ 5) : w'.ownsRow base e size x n xs := by
  refine ⟨ho.1, ?_⟩
  rcases ho.2 with h3 | ⟨g, cap, cur, hx, hg, hh, r⟩
  · exact .inl h3
  · refine .inr ⟨g, cap, cur, hx, hg, ?_, r⟩
    have hgb : g ≠ b := by
      rintro rfl
      obtain ⟨p, _, hb⟩ := hp.blk
      rw [hh] at hb
      injection hb with hb
      injection hb with _ hb _
      exact absurd hb h1
    have hgm : g ≠ m := by
      rintro rfl
      obtain ⟨D, n', ⟨es, clock, hm, _⟩, _⟩ := hp.map
      rw [hh] at hm; cases hm
    exact (hk.block g (Array.getElem?_eq_some_iff.1 hh).1 hgb hgm (Lib.ownBlock_neF hp.row hh h2)).trans hh
/-- the packer stands while a row of another type turns -/
theorem Pk.rowT {B b m c : Nat} {w w' : World} {v : Value} {l : List UInt8} {K : Kn} {base e size n : Nat} {x : Value} {xs : List Value} (hp : Pk B w b m v l K c) (ho : w.ownsRow base e size x n xs) (hg : w.grownBy w' x.ownBlock) (h1 : e ≠ pkT) (h2 : e ≠ 5) : Pk B w' b m v l K c := by
  obtain ⟨p, hpp, hb⟩ := hp.blk
  obtain ⟨D, n', hm1, hm2, hm3⟩ := hp.map
  have hty : ∀ g, x.ownBlock = some g → ∃ cur, w.heap[g]? = some (.cells cur e (0, 0)) := by
    intro g hg
    rcases ho.2 with ⟨rfl, _⟩ | ⟨g', cap, cur, rfl, _, hh, _⟩
    · simp [Value.ownBlock] at hg
    · obtain rfl : g' = g := by simpa [Value.ownBlock] using hg
      exact ⟨cur, hh⟩
  have hgb : x.ownBlock ≠ some b := by
    intro hx
    obtain ⟨cur, hh⟩ := hty b hx
    rw [hh] at hb
    injection hb with hb
    injection hb with _ hb _
    exact h1 hb
  have hgm : x.ownBlock ≠ some m := by
    intro hx
    obtain ⟨cur, hh⟩ := hty m hx
    obtain ⟨es, clock, hm, _⟩ := hm1
    rw [hh] at hm; cases hm
  refine ⟨hp.hb, hp.hm, ⟨p, hpp, (hg.block b hp.blt (Ne.symm hgb)).trans hb⟩, hp.row.kept hg ?_, ⟨D, n', hm1.kept hg (Ne.symm hgm), hm2, hm3⟩, hp.nl⟩
  cases hv : v.ownBlock with
  | none => exact .inl rfl
  | some g =>
    refine .inr ?_
    intro hx
    obtain ⟨cur, hh⟩ := hty g hx.symm
    exact Lib.ownBlock_neF hp.row hh h2 hv

/-- a block of another type stands while a row turns -/
theorem Whole.rowT2 {w' : World} {W0 : World} {g t : Nat} {cs : Array Value} {base e size n : Nat} {x : Value} {xs : List Value} (hw : Whole W0 g t cs) {o : Obj} (ho : (W0.alloc o).ownsRow base e size x n xs) (hg : (W0.alloc o).grownBy w' x.ownBlock) (h : t ≠ e) : Whole w' g t cs :=
  (hw.alloc o).grown hg (fun e' => own_apart ho (hw.alloc o) (Ne.symm h) e'.symm)
theorem RefPk.rowT2 {w' : World} {W0 : World} {l : List UInt8} {K : Kn} {v : Value} {base e size n : Nat} {x : Value} {xs : List Value} (hr : RefPk W0 l K v) {o : Obj} (ho : (W0.alloc o).ownsRow base e size x n xs) (hg : (W0.alloc o).grownBy w' x.ownBlock) (h : 100 ≠ e) : RefPk w' l K v := by
  obtain ⟨A, m, c, KL, e1, h2, h3, h4⟩ := hr.same ((Below.refl W0.heap.size W0).alloc (Nat.le_refl _) o)
  refine ⟨A, m, c, KL, e1, ⟨h2.1, fun hn => ?_⟩, h3, h4⟩
  obtain ⟨b, off, e2, hlt, ⟨cs, fr, ht⟩, hc⟩ := h2.2 hn
  have hne : some b ≠ x.ownBlock := by
    intro hx
    rcases ho.2 with ⟨rfl, _⟩ | ⟨g', cap, cur, rfl, _, hh, _⟩
    · simp [Value.ownBlock] at hx
    · obtain rfl : b = g' := by simpa [Value.ownBlock] using hx
      rw [ht] at hh
      injection hh with hh
      injection hh with _ hh _
      exact h hh
  have hblk := hg.block b hlt hne
  refine ⟨b, off, e2, Nat.lt_of_lt_of_le hlt hg.size, ⟨cs, fr, hblk.trans ht⟩, fun j u hu => ?_⟩
  have := hc j u hu
  simp only [World.cell?, hblk] at this ⊢
  exact this

def SmallD (xs : List Itd) (k : Nat) : Prop := ∀ j x, j < k → xs[j]? = some x → x.s.size ≤ 600
theorem SmallD.step {xs : List Itd} {k : Nat} {x : Itd} (h : SmallD xs k) (hx : xs[k]? = some x) (hs : x.s.size ≤ 600) : SmallD xs (k + 1) := fun j y hj hy => by
  rcases Nat.lt_succ_iff_lt_or_eq.1 hj with hj | rfl
  · exact h j y hj hy
  · rw [hx] at hy; injection hy with hy; subst hy; exact hs
/-- a row stands while a block of another type turns -/
theorem own_off {w : World} {g t : Nat} {cs : Array Value} {base e n : Nat} {v : Value} {xs : List Value} (hw : Whole w g t cs) (h : w.ownsRow base e 1 v n xs) (hne : e ≠ t) (i : Nat) (u : Value) : (w.setCell ⟨g, i, none⟩ u).ownsRow base e 1 v n xs :=
  h.kept (gset w ⟨g, i, none⟩ u) (.inr (own_apart h hw hne))
def WritesAt (B0 : Nat) (w : World) (b m g : Nat) (xs : List Itd) (k : Nat) (atV : Value) (wr : World) : Prop :=
  ∃ v A c A' n' c', atV = .slice A k c ∧ wr.ownsRow B0 3 1 atV k (ints .i64 (atsD xs k)) ∧ Pk B0 wr b m v (runD (xs.take k)).1 (runD (xs.take k)).2 (runD (xs.take k)).1.length ∧
    Whole wr g rpT #[.string (mk (runD (xs.take k)).1), .slice A' n' c'] ∧ RefPk wr (runD (xs.take k)).1 (runD (xs.take k)).2 (rpV (runD (xs.take k)).1 A' n' c') ∧ Below w.heap.size w wr ∧ B0 ≤ wr.heap.size ∧ (runD (xs.take k)).1.length ≤ 600 * k ∧ SmallD xs k

set_option maxHeartbeats 8000000 in
set_option maxRecDepth 20000 in
theorem RdataWrites_walk (A : Option Addr) (n c : Nat) (xs : List Itd) (w : World) (h : InItems w A n xs) :
    Calls Try.prog 4 #[.slice A n c] w fun e w' => e = .returned (.bool true) ∧ Below w.heap.size w w' := by
  have HI := Lib.hid h
  clear h
  by_cases hn20 : n ≤ 20
  · have gn : (n : Int) ≤ 20 := by omega
    have HLEN := Lib.hid HI.out.1
    go_enter Try.func4, Try.ntmps4
    go_wp2_with fail
    refine (awake_any _).mono ?_
    rintro e w1 ⟨rfl, hB1⟩
    have HB1 := Lib.hid hB1
    clear hB1
    go_wp2_with fail
    refine (New_any _).mono ?_
    rintro e w2 ⟨b, m, rfl, hp, hB2⟩
    have hB0 : w.heap.size ≤ w1.heap.size := HB1.out.size
    have hsz2 : w1.heap.size ≤ w2.heap.size := hB2.size
    have hz := (Below.refl w2.heap.size w2).alloc (Nat.le_refl _) (.cells #[.string ⟨#[]⟩, .slice none 0 0] rpT)
    have HST := Lib.hid (show WritesAt w1.heap.size w b m w2.heap.size xs 0 (.slice none 0 0) (w2.alloc (.cells #[.string ⟨#[]⟩, .slice none 0 0] rpT)) from
      ⟨_, none, 0, none, 0, 0, rfl, World.ownsRow_nil _ _ _ _, hp.same hz, Whole.new w2 rpT _, RefPk.zero _, (HB1.out.trans (hB2.mono HB1.out.size)).alloc (Nat.le_trans hB0 hsz2) _, by simp; omega, by simp [runD], fun j x hj => absurd hj (Nat.not_lt_zero _)⟩)
    clear hp hB2 hz
    go_wp2_with fail
    revert HST
    generalize w2.alloc (.cells #[.string ⟨#[]⟩, .slice none 0 0] rpT) = W
    generalize w2.heap.size = g at *
    intro HST
    go_loopw [5, 6] (fun atV i wr => ∃ k : Nat, k ≤ n ∧ i = .int .i64 k ∧ WritesAt w1.heap.size w b m g xs k atV wr) (fun _ i _ => n - (intOf i).toNat)
    case atStart => exact ⟨0, Nat.zero_le _, rfl, HST.out⟩
    case round =>
      obtain ⟨k, hk, rfl, v, A3, c3, A', n', c', rfl, hrow, hpk, hw, hr, hB, hBr, hll, hsml⟩ := hrel
      have HIV := Lib.hid (runD_inv (xs.take k))
      have HNX := Lib.hid (show ∀ x, xs[k]? = some x → runD (xs.take (k + 1)) = stepD (runD (xs.take k)) x from fun x hx => by rw [takeD_snoc hx, runD_snoc])
      have HAT := Lib.hid (atsD_succ xs k)
      obtain ⟨st, hst⟩ : ∃ st, st = runD (xs.take k) := ⟨_, rfl⟩
      rw [← hst] at hpk hw hr hll HNX HIV HAT
      have HS := Lib.hid hst
      obtain ⟨l, K⟩ := st
      simp only at hpk hw hr hll HAT
      have HP := Lib.hid hpk
      have HW := Lib.hid hw
      have HR := Lib.hid hr
      have HB := Lib.hid hB
      have HRW := Lib.hid hrow
      have HSML := Lib.hid hsml
      obtain ⟨i0, hi, hz0, hz1, hz2⟩ := info_parts int_info
      have H63 : Hid (k + 1 ≤ maxLen) := Lib.hid (by unfold maxLen; omega)
      have H47 : Hid ((k + 1) * 8 ≤ 140737488355328) := Lib.hid (by omega)
      clear hst hpk hw hr hB hrow hsml HST
      by_cases hkn : k < n
      · have g1 : (k : Int) < (n : Int) := by omega
        obtain ⟨b2, off2, x, rfl, hb2, hx, x0, x1⟩ := (HI.out.keep HB.out).at hkn
        have HST := Lib.hid (HNX.out x hx)
        have HSX := Lib.hid (fun h6 : x.s.size ≤ 600 => HSML.out.step hx h6)
        clear hx
        obtain ⟨t, s⟩ := x
        simp only at x0 x1
        by_cases h600 : s.size ≤ 600
        · have g6 : (s.size : Int) ≤ 600 := by omega
          have HSN := Lib.hid (HSX.out h600)
          obtain ⟨D, hD⟩ : ∃ D, D = bytesD ⟨t, s⟩ := ⟨_, rfl⟩
          have hsm : s = mk D := by rw [hD]; exact (mk_toList s).symm
          have hDl : D.length = s.size := by rw [hD]; rfl
          have hstep : stepD (l, K) ⟨t, s⟩ = if rightR t D = true then writeV true (visR t D) (l, K) else (l, K) := by rw [hD]; rfl
          have hgrow := (stepD_grows (st := (l, K)) HIV.out ⟨t, s⟩).2
          have HSM := Lib.hid hsm
          clear hD hsm
          cases hr : rightR t D with
          | false =>
            rw [hr, if_neg (by simp)] at hstep
            have HST := Lib.hid (HST.out.trans hstep)
            have HRT := Lib.hid hr
            clear hstep hr hgrow
            go_wp2_with fail
            refine (Len_any HP.out).mono ?_
            rintro e w3 ⟨rfl, rfl⟩
            go_wp2_with (at_builtin; refine wpList_append_own _ rfl _ _ 31 rfl w1.heap.size 3 i0 (.int .i64 0) 1 8 Try.underlying31 hi hz0 hz1 hz2 rfl (by decide) _ _ _ rfl (HRW.out.alloc _) ⟨wr.heap.size, 0, none⟩ 1 1 [.int .i64 (l.length : Nat)] rfl rfl (news1 _ _ _) (one1 _ rfl) H63.out H47.out (by simp; omega) ?_)
            intro v2 w4 hown2 hgrow _
            have HPA := Lib.hid (show Pk w1.heap.size w4 b m v l K l.length from (HP.out.alloc (.cells #[.int .i64 (l.length : Nat)] 3)).rowT (HRW.out.alloc _) hgrow (by decide) (by decide))
            have HBA := Lib.hid (show Below w1.heap.size wr w4 from (((Below.refl _ _).alloc hBr (.cells #[.int .i64 (l.length : Nat)] 3)).grown hgrow (by simp; omega) (fun z hz => (HRW.out.lt z hz).1)))
            have hown3 : w4.ownsRow w1.heap.size 3 1 v2 (k + 1) (ints .i64 (atsD xs (k + 1))) := by
              rw [HAT.out]; simpa [ints] using hown2
            obtain ⟨A4, c4, rfl, _⟩ := Sees.own hown3
            have HOW := Lib.hid hown3
            have HW4 := Lib.hid (HW.out.rowT2 (HRW.out.alloc (.cells #[.int .i64 (l.length : Nat)] 3)) hgrow (by decide))
            have HR4 := Lib.hid (HR.out.rowT2 (HRW.out.alloc (.cells #[.int .i64 (l.length : Nat)] 3)) hgrow (by decide))
            clear hown2 hgrow hown3
            have hBr4 : w1.heap.size ≤ w4.heap.size := Nat.le_trans hBr HBA.out.size
            have y0 := ((HBA.out.mono hB0).cell (p := ⟨b2, off2 + k * 2, none⟩) hb2).trans x0
            have y1 := ((HBA.out.mono hB0).cell (p := ⟨b2, off2 + k * 2 + 1, none⟩) hb2).trans x1
            clear x0 x1
            go_wp2_with fail
            go_region_held3 (fun w' => w'.cell? ⟨b2, off2 + k * 2, none⟩ = some (.int .i64 t) ∧ w'.cell? ⟨b2, off2 + k * 2 + 1, none⟩ = some (.string s)) (go_keep) (first | (go_at_call 14; (refine (Write_no HPA.out.drew s D t HSM.out (by omega) HRT.out).mono ?_; rintro e w5 ⟨rfl, h5, hB5⟩; have hB5 := (Below.refl _ _).drew.trans hB5; have y0' := ((hB5.mono (Nat.le_trans HB.out.size (HBA.out.size))).cell (p := ⟨b2, off2 + k * 2, none⟩) hb2).trans y0; have y1' := ((hB5.mono (Nat.le_trans HB.out.size (HBA.out.size))).cell (p := ⟨b2, off2 + k * 2 + 1, none⟩) hb2).trans y1)))
            all_goals (
              have y0' := ((hB5.mono (Nat.le_trans HB.out.size (HBA.out.size))).cell (p := ⟨b2, off2 + k * 2, none⟩) hb2).trans y0
              have y1' := ((hB5.mono (Nat.le_trans HB.out.size (HBA.out.size))).cell (p := ⟨b2, off2 + k * 2 + 1, none⟩) hb2).trans y1
              have HP5 := Lib.hid h5
              have HOW5 := Lib.hid (own_below HOW.out hB5)
              have HW5 := Lib.hid (HW4.out.below hB5 HW4.out.lt)
              have HR5 := Lib.hid (HR4.out.same hB5)
              have HB5 := Lib.hid (HB.out.trans ((HBA.out.trans (hB5.mono hBr4)).mono hB0))
              have hBr5 : w1.heap.size ≤ w5.heap.size := Nat.le_trans hBr4 hB5.size
              clear h5 hB5
              go_wp2_with fail
              go_region_held3 (fun w' => w'.cell? ⟨b2, off2 + k * 2, none⟩ = some (.int .i64 t) ∧ w'.cell? ⟨b2, off2 + k * 2 + 1, none⟩ = some (.string s)) (go_keep) (first | (go_at_call 9; (refine (RefDRight_any s D t _ HSM.out (by omega)).mono ?_; rw [HRT.out]; rintro e w6 ⟨rfl, hB6⟩; have hB6 := (Below.refl _ _).drew.trans hB6; have z0 := ((hB6.mono HB5.out.size).cell (p := ⟨b2, off2 + k * 2, none⟩) hb2).trans y0'; have z1 := ((hB6.mono HB5.out.size).cell (p := ⟨b2, off2 + k * 2 + 1, none⟩) hb2).trans y1')))
              all_goals (
                have HP6 := Lib.hid (HP5.out.same hB6)
                have HOW6 := Lib.hid (own_below HOW5.out hB6)
                have HW6 := Lib.hid (HW5.out.below hB6 HW5.out.lt)
                have HR6 := Lib.hid (HR5.out.same hB6)
                have HB6 := Lib.hid (HB5.out.trans (hB6.mono HB5.out.size))
                have hBr6 : w1.heap.size ≤ w6.heap.size := Nat.le_trans hBr5 hB6.size
                clear hB6
                go_wp2_with fail
                go_roundw
                case rel =>
                  refine ⟨k + 1, by omega, by go_num, ?_⟩
                  unfold WritesAt
                  rw [HST.out]
                  exact ⟨_, _, _, A', n', c', rfl, HOW6.out, HP6.out, HW6.out, HR6.out, HB6.out, hBr6, by simp only; omega, HSN.out⟩
                case measure => simp [intOf]; omega))
          | true =>
            rw [hr, if_pos rfl] at hstep
            have HST := Lib.hid (HST.out.trans hstep)
            rw [hstep] at hgrow
            have hll2 : (writeV true (visR t D) (l, K)).1.length ≤ 600 * (k + 1) := by
              obtain ⟨z, hz, hzl⟩ := hgrow
              rw [hz, List.length_append]
              simp only at hzl ⊢
              omega
            have HRT := Lib.hid hr
            clear hstep hr hgrow
            go_wp2_with fail
            refine (Len_any HP.out).mono ?_
            rintro e w3 ⟨rfl, rfl⟩
            go_wp2_with (at_builtin; refine wpList_append_own _ rfl _ _ 31 rfl w1.heap.size 3 i0 (.int .i64 0) 1 8 Try.underlying31 hi hz0 hz1 hz2 rfl (by decide) _ _ _ rfl (HRW.out.alloc _) ⟨wr.heap.size, 0, none⟩ 1 1 [.int .i64 (l.length : Nat)] rfl rfl (news1 _ _ _) (one1 _ rfl) H63.out H47.out (by simp; omega) ?_)
            intro v2 w4 hown2 hgrow _
            have HPA := Lib.hid (show Pk w1.heap.size w4 b m v l K l.length from (HP.out.alloc (.cells #[.int .i64 (l.length : Nat)] 3)).rowT (HRW.out.alloc _) hgrow (by decide) (by decide))
            have HBA := Lib.hid (show Below w1.heap.size wr w4 from (((Below.refl _ _).alloc hBr (.cells #[.int .i64 (l.length : Nat)] 3)).grown hgrow (by simp; omega) (fun z hz => (HRW.out.lt z hz).1)))
            have hown3 : w4.ownsRow w1.heap.size 3 1 v2 (k + 1) (ints .i64 (atsD xs (k + 1))) := by
              rw [HAT.out]; simpa [ints] using hown2
            obtain ⟨A4, c4, rfl, _⟩ := Sees.own hown3
            have HOW := Lib.hid hown3
            have HW4 := Lib.hid (HW.out.rowT2 (HRW.out.alloc (.cells #[.int .i64 (l.length : Nat)] 3)) hgrow (by decide))
            have HR4 := Lib.hid (HR.out.rowT2 (HRW.out.alloc (.cells #[.int .i64 (l.length : Nat)] 3)) hgrow (by decide))
            clear hown2 hgrow hown3
            have hBr4 : w1.heap.size ≤ w4.heap.size := Nat.le_trans hBr HBA.out.size
            have y0 := ((HBA.out.mono hB0).cell (p := ⟨b2, off2 + k * 2, none⟩) hb2).trans x0
            have y1 := ((HBA.out.mono hB0).cell (p := ⟨b2, off2 + k * 2 + 1, none⟩) hb2).trans x1
            clear x0 x1
            go_wp2_with fail
            go_region_held3 (fun w' => w'.cell? ⟨b2, off2 + k * 2, none⟩ = some (.int .i64 t) ∧ w'.cell? ⟨b2, off2 + k * 2 + 1, none⟩ = some (.string s)) (go_keep) (first | (go_at_call 14; (refine (Write_yes HPA.out.drew s D t HSM.out (by omega) HRT.out (by omega) hBr4 HIV.out).mono ?_; rintro e w5 ⟨rfl, v5, h5, k5⟩; have k5 := (Kp.refl _ _ _ _).drew.trans k5; have hB5 := k5.below HPA.out hBr4; have y0' := ((hB5.mono hB0).cell (p := ⟨b2, off2 + k * 2, none⟩) hb2).trans y0; have y1' := ((hB5.mono hB0).cell (p := ⟨b2, off2 + k * 2 + 1, none⟩) hb2).trans y1)))
            all_goals (
              have hB5 := k5.below HPA.out hBr4
              have y0' := ((hB5.mono hB0).cell (p := ⟨b2, off2 + k * 2, none⟩) hb2).trans y0
              have y1' := ((hB5.mono hB0).cell (p := ⟨b2, off2 + k * 2 + 1, none⟩) hb2).trans y1
              have HP5 := Lib.hid h5
              have HOW5 := Lib.hid (k5.rowT HPA.out HOW.out (by decide) (by decide))
              have HW5 := Lib.hid (k5.whole HW4.out HPA.out (by decide) (by decide))
              have HR5 := Lib.hid (HR4.out.kp HPA.out k5)
              have HB5 := Lib.hid (HB.out.trans ((HBA.out.trans hB5).mono hB0))
              have hBr5 : w1.heap.size ≤ w5.heap.size := Nat.le_trans hBr4 k5.size
              clear h5 k5 hB5
              go_wp2_with fail
              go_region_held3 (fun w' => w'.cell? ⟨b2, off2 + k * 2, none⟩ = some (.int .i64 t) ∧ w'.cell? ⟨b2, off2 + k * 2 + 1, none⟩ = some (.string s)) (go_keep) (first | (go_at_call 9; (refine (RefDRight_any s D t _ HSM.out (by omega)).mono ?_; rw [HRT.out]; rintro e w6 ⟨rfl, hB6⟩; have hB6 := (Below.refl _ _).drew.trans hB6; have z0 := ((hB6.mono HB5.out.size).cell (p := ⟨b2, off2 + k * 2, none⟩) hb2).trans y0'; have z1 := ((hB6.mono HB5.out.size).cell (p := ⟨b2, off2 + k * 2 + 1, none⟩) hb2).trans y1')))
              all_goals (
                have z0 := ((hB6.mono HB5.out.size).cell (p := ⟨b2, off2 + k * 2, none⟩) hb2).trans y0'
                have z1 := ((hB6.mono HB5.out.size).cell (p := ⟨b2, off2 + k * 2 + 1, none⟩) hb2).trans y1'
                have HP6 := Lib.hid (HP5.out.same hB6)
                have HOW6 := Lib.hid (own_below HOW5.out hB6)
                have HW6 := Lib.hid (HW5.out.below hB6 HW5.out.lt)
                have HR6 := Lib.hid (HR5.out.same hB6)
                have HB6 := Lib.hid (HB5.out.trans (hB6.mono HB5.out.size))
                have hBr6 : w1.heap.size ≤ w6.heap.size := Nat.le_trans hBr5 hB6.size
                have q0 := (HW6.out.cell 0).trans (show _ = some (Value.string (mk l)) from rfl)
                have q1 := (HW6.out.cell 1).trans (show _ = some (Value.slice A' n' c') from rfl)
                have r0 := HW6.out.frozen 0
                have r1 := HW6.out.frozen 1
                clear hB6
                go_wp2_with fail
                have HRV := Lib.hid (show RefPk w6.drew l K (.agg #[.string (mk l), .slice A' n' c']) from HR6.out.same (Below.refl _ _).drew)
                go_region_with (go_at_call 15; (refine (RefWrite_any _ l K _ s D t HRV.out (by omega) HSM.out (by omega) HRT.out HIV.out).mono ?_; rintro e w7 ⟨v7, rfl, h7, hB7⟩; obtain ⟨A7, n7, c7, rfl, h7⟩ := h7.shape; have hB7 := (Below.refl _ _).drew.trans hB7; have hW7 := HW6.out.below hB7 HW6.out.lt; have s0 := (hW7.cell 0).trans (show _ = some (Value.string (mk l)) from rfl); have s1 := (hW7.cell 1).trans (show _ = some (Value.slice A' n' c') from rfl); have t0 := hW7.frozen 0; have t1 := hW7.frozen 1; have u0 := ((hB7.mono HB6.out.size).cell (p := ⟨b2, off2 + k * 2, none⟩) hb2).trans z0; have u1 := ((hB7.mono HB6.out.size).cell (p := ⟨b2, off2 + k * 2 + 1, none⟩) hb2).trans z1))
                all_goals (
                  have hBg : w.heap.size ≤ g := Nat.le_trans hB0 hsz2
                  have HP8 := Lib.hid (((HP6.out.same hB7).put hW7 (by decide) (by decide) 0 (.string (mk (writeV true (visR t D) (l, K)).1))).put (hW7.put 0 (.string (mk (writeV true (visR t D) (l, K)).1))) (by decide) (by decide) 1 (.slice A7 n7 c7))
                  have HW8 := Lib.hid (show Whole ((w7.setCell ⟨g, 0, none⟩ (.string (mk (writeV true (visR t D) (l, K)).1))).setCell ⟨g, 1, none⟩ (.slice A7 n7 c7)) g rpT #[.string (mk (writeV true (visR t D) (l, K)).1), .slice A7 n7 c7] from by simpa using (hW7.put 0 (.string (mk (writeV true (visR t D) (l, K)).1))).put 1 (.slice A7 n7 c7))
                  have HR8 := Lib.hid ((h7.put hW7 (by decide) 0 (.string (mk (writeV true (visR t D) (l, K)).1))).put (hW7.put 0 (.string (mk (writeV true (visR t D) (l, K)).1))) (by decide) 1 (.slice A7 n7 c7))
                  have HB8 := Lib.hid (((HB6.out.trans (hB7.mono HB6.out.size)).setCell (p := ⟨g, 0, none⟩) hBg (.string (mk (writeV true (visR t D) (l, K)).1))).setCell (p := ⟨g, 1, none⟩) hBg (.slice A7 n7 c7))
                  have HOW8 := Lib.hid (own_off (hW7.put 0 (.string (mk (writeV true (visR t D) (l, K)).1))) (own_off hW7 (own_below HOW6.out hB7) (by decide) 0 (.string (mk (writeV true (visR t D) (l, K)).1))) (by decide) 1 (.slice A7 n7 c7))
                  have hBr8 : w1.heap.size ≤ ((w7.setCell ⟨g, 0, none⟩ (.string (mk (writeV true (visR t D) (l, K)).1))).setCell ⟨g, 1, none⟩ (.slice A7 n7 c7)).heap.size := by rw [size_put, size_put]; exact Nat.le_trans hBr6 hB7.size
                  clear hB7 h7 hW7
                  go_wp2_with fail
                  revert HP8 HW8 HR8 HB8 HOW8 hBr8
                  generalize (w7.setCell ⟨g, 0, none⟩ (.string (mk (writeV true (visR t D) (l, K)).1))).setCell ⟨g, 1, none⟩ (.slice A7 n7 c7) = W8
                  intro HP8 HW8 HR8 HB8 HOW8 hBr8
                  go_roundw
                  case rel =>
                    refine ⟨k + 1, by omega, by go_num, ?_⟩
                    unfold WritesAt
                    rw [HST.out]
                    exact ⟨_, _, _, A7, n7, c7, rfl, HOW8.out, HP8.out, HW8.out, HR8.out, HB8.out, hBr8, hll2, HSN.out⟩
                  case measure => simp [intOf]; omega)))
        · have g6 : (600 : Int) < (s.size : Int) := by omega
          go_wp2_with fail
          go_ret
          exact ⟨rfl, HB.out⟩
      · obtain rfl : k = n := by omega
        have hfull : xs.take k = xs := List.take_of_length_le (by rw [HLEN.out]; exact Nat.le_refl _)
        have HS2 := Lib.hid (show runD xs = (l, K) from by rw [← hfull]; exact HS.out.symm)
        clear hfull
        go_wp2_with fail
        refine (Len_any HP.out).mono ?_
        rintro e w3 ⟨rfl, rfl⟩
        go_wp2_with (at_builtin; refine wpList_append_own _ rfl _ _ 31 rfl w1.heap.size 3 i0 (.int .i64 0) 1 8 Try.underlying31 hi hz0 hz1 hz2 rfl (by decide) _ _ _ rfl (HRW.out.alloc _) ⟨wr.heap.size, 0, none⟩ 1 1 [.int .i64 (l.length : Nat)] rfl rfl (news1 _ _ _) (one1 _ rfl) H63.out H47.out (by simp; omega) ?_)
        intro v2 w4 hown2 hgrow _
        have HPA := Lib.hid (show Pk w1.heap.size w4 b m v l K l.length from (HP.out.alloc (.cells #[.int .i64 (l.length : Nat)] 3)).rowT (HRW.out.alloc _) hgrow (by decide) (by decide))
        have HBA := Lib.hid (show Below w1.heap.size wr w4 from (((Below.refl _ _).alloc hBr (.cells #[.int .i64 (l.length : Nat)] 3)).grown hgrow (by simp; omega) (fun z hz => (HRW.out.lt z hz).1)))
        have hown3 : w4.ownsRow w1.heap.size 3 1 v2 (k + 1) (ints .i64 (atsD xs (k + 1))) := by
          rw [HAT.out]; simpa [ints] using hown2
        obtain ⟨A4, c4, rfl, _⟩ := Sees.own hown3
        have HOW := Lib.hid hown3
        have HW4 := Lib.hid (HW.out.rowT2 (HRW.out.alloc (.cells #[.int .i64 (l.length : Nat)] 3)) hgrow (by decide))
        have HR4 := Lib.hid (HR.out.rowT2 (HRW.out.alloc (.cells #[.int .i64 (l.length : Nat)] 3)) hgrow (by decide))
        clear hown2 hgrow hown3
        have hBr4 : w1.heap.size ≤ w4.heap.size := Nat.le_trans hBr HBA.out.size
        go_wp2_with fail
        have heq : ((mk l).toList == (mk l).toList) = true := by simp
        have c0 := (HW4.out.cell 0).trans (show _ = some (Value.string (mk l)) from rfl)
        go_region_held3 (fun w' => w'.cell? ⟨g, 0, none⟩ = some (.string (mk l))) (go_keep) (first | (go_at_call 16; (refine (Bytes_any HPA.out.drew).mono ?_; rintro e w5 ⟨rfl, h5, k5⟩; have k5 := (Kp.refl _ _ _ _).drew.trans k5; have c5 := ((k5.whole HW4.out HPA.out (by decide) (by decide)).cell 0).trans (show _ = some (Value.string (mk l)) from rfl))))
        all_goals (
          have HOW5 := Lib.hid (k5.rowT HPA.out HOW.out (by decide) (by decide))
          have HW5 := Lib.hid (k5.whole HW4.out HPA.out (by decide) (by decide))
          have HB5 := Lib.hid (HB.out.trans ((HBA.out.trans (k5.below HPA.out hBr4)).mono hB0))
          clear h5 k5
          go_wp2_with fail
          go_loopw [9] (fun i wq => ∃ j : Nat, j ≤ k ∧ i = .int .i64 j ∧ wq.ownsRow w1.heap.size 3 1 (.slice A4 (k + 1) c4) (k + 1) (ints .i64 (atsD xs (k + 1))) ∧ Whole wq g rpT #[.string (mk l), .slice A' n' c'] ∧ Below w.heap.size w wq) (fun i _ => k - (intOf i).toNat)
          case atStart => exact ⟨0, Nat.zero_le _, rfl, HOW5.out, HW5.out, HB5.out⟩
          case round =>
            obtain ⟨j, hj, rfl, hrow, hwq, hBq⟩ := hrel
            obtain ⟨A6, c6, he6, hse⟩ := Sees.own hrow
            injection he6 with he6 _ he7
            subst he6 he7
            have HRQ := Lib.hid hrow
            have HWQ := Lib.hid hwq
            have HBQ := Lib.hid hBq
            clear hrow hwq hBq
            by_cases hjk : j < k
            · have g1 : (j : Int) < (k : Int) := by omega
              obtain ⟨b2, off2, x, rfl, hb2, hx, x0, x1⟩ := (HI.out.keep HBQ.out).at hjk
              obtain ⟨b3, off3, rfl, hb3, hc3⟩ := hse.addr (by omega)
              have a0 := hc3 _ _ (atsD_at xs (show j < k + 1 by omega))
              have a1 := hc3 _ _ (atsD_at xs (show j + 1 < k + 1 by omega))
              have hread : rightR x.t (bytesD x) = true → dataR l (runD (xs.take j)).1.length (runD (xs.take (j + 1))).1.length x.t = some (bytesD x) := by
                intro hr
                have := back_data (xs := xs) (k := j) hx hr
                rw [HS2.out] at this
                exact this
              have hle : (runD (xs.take (j + 1))).1.length ≤ l.length := by
                obtain ⟨z, hz⟩ := runD_pre xs (j + 1)
                rw [HS2.out] at hz
                have := congrArg List.length hz
                simp at this
                omega
              obtain ⟨z, hz, _⟩ := (stepD_grows (runD_inv (xs.take j)) x).2
              rw [← runD_snoc, ← takeD_snoc hx] at hz
              have hz2 := congrArg List.length hz
              rw [List.length_append] at hz2
              have h600 := HSML.out j x hjk hx
              obtain ⟨p0, hp0⟩ : ∃ p0, p0 = (runD (xs.take j)).1.length := ⟨_, rfl⟩
              obtain ⟨nn, hnn⟩ : ∃ nn, nn = z.length := ⟨_, rfl⟩
              rw [← hp0] at a0 hread hz2
              rw [← hnn] at hz2
              rw [hz2] at a1 hread hle
              obtain ⟨t, s⟩ := x
              obtain ⟨D, hD⟩ : ∃ D, D = bytesD ⟨t, s⟩ := ⟨_, rfl⟩
              have hsm : s = mk D := by rw [hD]; exact (mk_toList s).symm
              have hDl : D.length = s.size := by rw [hD]; rfl
              rw [← hD] at hread
              simp only at x0 x1 hread h600
              have HSM := Lib.hid hsm
              have HRD := Lib.hid hread
              have heq2 : ((mk D).toList == s.toList) = true := by rw [hsm]; simp
              have a1c : wr.cell? ⟨b3, off3 + (j + 1), none⟩ = some (.int .i64 ((p0 : Int) + (nn : Int))) := by rw [a1]; rfl
              have w0 := (HWQ.out.cell 0).trans (show _ = some (Value.string (mk l)) from rfl)
              clear hread hx hp0 hnn hz hz2 hc3 hse hD hsm a1
              cases hr : rightR t D with
              | false =>
                have HRT := Lib.hid hr
                clear hr
                go_wp2_with fail
                go_region_held3 (fun w' => w'.cell? ⟨b2, off2 + j * 2, none⟩ = some (.int .i64 t) ∧ w'.cell? ⟨b2, off2 + j * 2 + 1, none⟩ = some (.string s)) (go_keep) (first | (go_at_call 9; (refine (RefDRight_any s D t _ HSM.out (by omega)).mono ?_; rw [HRT.out]; rintro e w6 ⟨rfl, hB6⟩; have hB6 := (Below.refl _ _).drew.trans hB6; have z0 := ((hB6.mono HBQ.out.size).cell (p := ⟨b2, off2 + j * 2, none⟩) hb2).trans x0; have z1 := ((hB6.mono HBQ.out.size).cell (p := ⟨b2, off2 + j * 2 + 1, none⟩) hb2).trans x1)))
                all_goals (
                  have HRQ6 := Lib.hid (own_below HRQ.out hB6)
                  have HWQ6 := Lib.hid (HWQ.out.below hB6 HWQ.out.lt)
                  have HBQ6 := Lib.hid (HBQ.out.trans (hB6.mono HBQ.out.size))
                  clear hB6
                  go_wp2_with fail
                  go_roundw
                  case rel => exact ⟨j + 1, by omega, by go_num, HRQ6.out, HWQ6.out, HBQ6.out⟩
                  case measure => simp [intOf]; omega)
              | true =>
                have HRT := Lib.hid hr
                have HRD2 := Lib.hid (HRD.out hr)
                clear hr
                go_wp2_with fail
                go_region_held3 (fun w' => w'.cell? ⟨b2, off2 + j * 2, none⟩ = some (.int .i64 t) ∧ w'.cell? ⟨b2, off2 + j * 2 + 1, none⟩ = some (.string s)) (go_keep) (first | (go_at_call 9; (refine (RefDRight_any s D t _ HSM.out (by omega)).mono ?_; rw [HRT.out]; rintro e w6 ⟨rfl, hB6⟩; have hB6 := (Below.refl _ _).drew.trans hB6; have z0 := ((hB6.mono HBQ.out.size).cell (p := ⟨b2, off2 + j * 2, none⟩) hb2).trans x0; have z1 := ((hB6.mono HBQ.out.size).cell (p := ⟨b2, off2 + j * 2 + 1, none⟩) hb2).trans x1)))
                all_goals (
                  have a0' := (hB6.cell (p := ⟨b3, off3 + j, none⟩) hb3).trans a0
                  have a1' := (hB6.cell (p := ⟨b3, off3 + (j + 1), none⟩) hb3).trans a1c
                  have HRQ6 := Lib.hid (own_below HRQ.out hB6)
                  have HWQ6 := Lib.hid (HWQ.out.below hB6 HWQ.out.lt)
                  have HBQ6 := Lib.hid (HBQ.out.trans (hB6.mono HBQ.out.size))
                  have hsz6 := hB6.size
                  have w6c := (HWQ6.out.cell 0).trans (show _ = some (Value.string (mk l)) from rfl)
                  clear hB6 a0 a1c w0 x0 x1
                  have hj1 : (j : Int) + 1 < (k : Int) + 1 := by omega
                  have hwr : IntKind.i64.wrap ((p0 : Int) + (nn : Int) - (p0 : Int)) = (nn : Int) := by rw [IntKind.wrap_i64]; omega
                  have hwj : IntKind.i64.wrap ((j : Int) + 1) = (j : Int) + 1 := by rw [IntKind.wrap_i64]; omega
                  have hj0 : (0 : Int) ≤ (j : Int) + 1 := by omega
                  have hj2 : (j : Int) < (k : Int) + 1 := by omega
                  go_wp2_with fail
                  go_region_held3 (fun w' => w'.cell? ⟨g, 0, none⟩ = some (.string (mk l)) ∧ w'.cell? ⟨b3, off3 + j, none⟩ = some (.int .i64 (p0 : Int)) ∧ w'.cell? ⟨b3, off3 + (j + 1), none⟩ = some (.int .i64 ((p0 : Int) + (nn : Int))) ∧ w'.cell? ⟨b2, off2 + j * 2, none⟩ = some (.int .i64 t)) (go_keep) (first | (go_at_call 17; (refine (DRead_any (mk l) l p0 nn t _ rfl (by omega) hle (by omega)).mono ?_; rw [HRD2.out]; unfold rdV; rintro e w7 ⟨rfl, hB7⟩; have hB7 := (Below.refl _ _).drew.trans hB7; have v0 := (hB7.cell (p := ⟨g, 0, none⟩) HWQ6.out.lt).trans w6c; have v1 := (hB7.cell (p := ⟨b3, off3 + j, none⟩) (Nat.lt_of_lt_of_le hb3 hsz6)).trans a0'; have v2 := (hB7.cell (p := ⟨b3, off3 + (j + 1), none⟩) (Nat.lt_of_lt_of_le hb3 hsz6)).trans a1'; have v3 := ((hB7.mono HBQ6.out.size).cell (p := ⟨b2, off2 + j * 2, none⟩) hb2).trans z0)))
                  all_goals (
                    have v4 := ((hB7.mono HBQ6.out.size).cell (p := ⟨b2, off2 + j * 2 + 1, none⟩) hb2).trans z1
                    have HRQ7 := Lib.hid (own_below HRQ6.out hB7)
                    have HWQ7 := Lib.hid (HWQ6.out.below hB7 HWQ6.out.lt)
                    have HBQ7 := Lib.hid (HBQ6.out.trans (hB7.mono HBQ6.out.size))
                    clear hB7
                    go_wp2_with fail
                    go_roundw
                    case rel => exact ⟨j + 1, by omega, by go_num, HRQ7.out, HWQ7.out, HBQ7.out⟩
                    case measure => simp [intOf]; omega))
            · obtain rfl : j = k := by omega
              clear hse
              go_wp2_with fail
              go_ret
              exact ⟨rfl, HBQ.out⟩)
  · have gn : (20 : Int) < (n : Int) := by omega
    go_enter Try.func4, Try.ntmps4
    go_wp2_with fail
    refine (awake_any _).mono ?_
    rintro e w1 ⟨rfl, hB1⟩
    go_wp2_with fail
    refine (awake_any _).mono ?_
    rintro e w3 ⟨rfl, hB3⟩
    go_wp2_with fail
    go_ret
    exact ⟨rfl, hB1.trans (hB3.mono hB1.size)⟩
end Go.Proofs.Ytgnfleldkjhgcaa
