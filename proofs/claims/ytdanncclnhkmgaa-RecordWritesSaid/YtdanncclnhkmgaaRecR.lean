/- RecordWrites. No statement of the seat is proved here. (written by gen_r.py) -/
import Derived.Test.YtdanncclnhkmgaaRecQ
import Derived.Test.YtdanncclnhkmgaaRecW
import Derived.Deep.DeepCutAuto
import Derived.Deep.RegionHeld3
import Derived.Deep.RegionLaw
import Derived.Deep.RegionWith
import Derived.BigQuiet
namespace Go.Proofs.Ytdanncclnhkmgaa
open Go.RowKit

def RecsAt (B0 : Nat) (w : World) (b m g : Nat) (xs : List Rrd) (k : Nat) (atV : Value) (wr : World) : Prop :=
  ∃ v A c A' n' c', atV = .slice A k c ∧ wr.ownsRow B0 3 1 atV k (ints .i64 (atsW xs k)) ∧ Pk B0 wr b m v (runW (xs.take k)).1 (runW (xs.take k)).2 (runW (xs.take k)).1.length ∧
    Whole wr g rpT #[.string (mk (runW (xs.take k)).1), .slice A' n' c'] ∧ RefPk wr (runW (xs.take k)).1 (runW (xs.take k)).2 (rpV (runW (xs.take k)).1 A' n' c') ∧ Below w.heap.size w wr ∧ B0 ≤ wr.heap.size ∧ (runW (xs.take k)).1.length ≤ 2265 * k ∧ SmallW xs k

theorem back_item {xs : List Rrd} {k : Nat} {x : Rrd} (hx : xs[k]? = some x) (hr : okR x.toRec = true) :
    recR (runW xs).1 (runW (xs.take k)).1.length = some (x.toRec, (runW (xs.take (k + 1))).1.length) := by
  obtain ⟨z, hz⟩ := runW_pre xs (k + 1)
  have hst : runW (xs.take (k + 1)) = writeW x.toRec (runW (xs.take k)) := by
    rw [takeW_snoc hx, runW_snoc]
    unfold stepW
    rw [if_pos hr]
  rw [hz, hst]
  exact back_rec hr (runW_inv _) z
/-- what stands behind a reading -/
structure Behind (B0 : Nat) (w : World) (g p b o : Nat) (x : Rrd) (A : Option Addr) (k c : Nat) (L : List Int) (cs : Array Value) (V : World) : Prop where
  r : Whole V p rrT #[.string x.s, .int .i64 x.t, .int .i64 x.c, .int .i64 x.l, .string x.d]
  a : V.ownsRow B0 3 1 (.slice A k c) k (ints .i64 L)
  p : Whole V g rpT cs
  e : Below w.heap.size w V
  f : Five V b o x

theorem below5 (V : World) (p : Nat) (s d : ByteArray) (t c l : Int) : Below p V (((((V.setCell ⟨p, 0, none⟩ (.string s)).setCell ⟨p, 1, none⟩ (.int .i64 t)).setCell ⟨p, 2, none⟩ (.int .i64 c)).setCell ⟨p, 3, none⟩ (.int .i64 l)).setCell ⟨p, 4, none⟩ (.string d)) :=
  (((((Below.refl p V).setCell (p := ⟨p, 0, none⟩) (Nat.le_refl p) (.string s)).setCell (p := ⟨p, 1, none⟩) (Nat.le_refl p) (.int .i64 t)).setCell (p := ⟨p, 2, none⟩) (Nat.le_refl p) (.int .i64 c)).setCell (p := ⟨p, 3, none⟩) (Nat.le_refl p) (.int .i64 l)).setCell (p := ⟨p, 4, none⟩) (Nat.le_refl p) (.string d)
theorem behind_put {B0 : Nat} {w : World} {g p b o : Nat} {s d : ByteArray} {t c l : Int} {x : Rrd} (hx : x = ⟨s, t, c, l, d⟩) {A : Option Addr} {k cc : Nat} {L : List Int} {cs : Array Value} {V : World} {a0 a1 a2 a3 a4 : Value}
    (hz : Whole V p rrT #[a0, a1, a2, a3, a4]) (ha : V.ownsRow B0 3 1 (.slice A k cc) k (ints .i64 L)) (hp : Whole V g rpT cs) (hgp : g < p) (he : Below w.heap.size w V) (hf : Five V b o x) (hbw : b < w.heap.size) (hpw : w.heap.size ≤ p) :
    Behind B0 w g p b o x A k cc L cs (((((V.setCell ⟨p, 0, none⟩ (.string s)).setCell ⟨p, 1, none⟩ (.int .i64 t)).setCell ⟨p, 2, none⟩ (.int .i64 c)).setCell ⟨p, 3, none⟩ (.int .i64 l)).setCell ⟨p, 4, none⟩ (.string d)) := by
  subst hx
  have z1 := hz.put 0 (.string s)
  have z2 := z1.put 1 (.int .i64 t)
  have z3 := z2.put 2 (.int .i64 c)
  have z4 := z3.put 3 (.int .i64 l)
  have z5 := z4.put 4 (.string d)
  refine ⟨by simpa using z5, ?_, hp.below (below5 V p s d t c l) hgp, he.trans ((below5 V p s d t c l).mono hpw), hf.keep (below5 V p s d t c l) (Nat.lt_of_lt_of_le hbw hpw)⟩
  exact own_off z4 (own_off z3 (own_off z2 (own_off z1 (own_off hz ha (by decide) 0 _) (by decide) 1 _) (by decide) 2 _) (by decide) 3 _) (by decide) 4 _
theorem behind_new {B0 : Nat} {w : World} {g b o : Nat} {s d : ByteArray} {t c l : Int} {x : Rrd} (hx : x = ⟨s, t, c, l, d⟩) {A : Option Addr} {k cc : Nat} {L : List Int} {cs : Array Value} {V : World}
    (ha : V.ownsRow B0 3 1 (.slice A k cc) k (ints .i64 L)) (hp : Whole V g rpT cs) (he : Below w.heap.size w V) (hf : Five V b o x) (hbw : b < w.heap.size) :
    Behind B0 w g V.heap.size b o x A k cc L cs (V.alloc (.cells #[.string s, .int .i64 t, .int .i64 c, .int .i64 l, .string d] rrT)) := by
  subst hx
  exact ⟨Whole.new V rrT _, ha.alloc _, hp.alloc _, he.alloc he.size _, hf.keep ((Below.refl V.heap.size V).alloc (Nat.le_refl _) _) (Nat.lt_of_lt_of_le hbw he.size)⟩

set_option maxHeartbeats 8000000 in
set_option maxRecDepth 20000 in
theorem RecordWrites_walk (A : Option Addr) (n c0 : Nat) (xs : List Rrd) (w : World) (h : InRecs w A n xs) :
    Calls Try.prog 4 #[.slice A n c0] w fun e w' => e = .returned (.bool true) ∧ Below w.heap.size w w' := by
  have HI := Lib.hid h
  clear h
  by_cases hn20 : n ≤ 20
  · have gn : (n : Int) ≤ 20 := by omega
    have HLEN := Lib.hid HI.out.1
    go_enter Try.func4, Try.ntmps4
    go_wp2_with fail
    refine (awake_any _).mono ?_
    rintro e w1 ⟨rfl, hB1⟩
    have HB1 := Lib.hid hB1
    clear hB1
    go_wp2_with fail
    refine (New_any _).mono ?_
    rintro e w2 ⟨b, m, rfl, hp, hB2⟩
    have hB0 : w.heap.size ≤ w1.heap.size := HB1.out.size
    have hsz2 : w1.heap.size ≤ w2.heap.size := hB2.size
    have hz := (Below.refl w2.heap.size w2).alloc (Nat.le_refl _) (.cells #[.string ⟨#[]⟩, .slice none 0 0] rpT)
    have HST := Lib.hid (show RecsAt w1.heap.size w b m w2.heap.size xs 0 (.slice none 0 0) (w2.alloc (.cells #[.string ⟨#[]⟩, .slice none 0 0] rpT)) from
      ⟨_, none, 0, none, 0, 0, rfl, World.ownsRow_nil _ _ _ _, hp.same hz, Whole.new w2 rpT _, RefPk.zero _, (HB1.out.trans (hB2.mono HB1.out.size)).alloc (Nat.le_trans hB0 hsz2) _, by simp; omega, by simp [runW], fun j x hj => absurd hj (Nat.not_lt_zero _)⟩)
    clear hp hB2 hz
    go_wp2_with fail
    revert HST
    generalize w2.alloc (.cells #[.string ⟨#[]⟩, .slice none 0 0] rpT) = W
    generalize w2.heap.size = g at *
    intro HST
    go_loopw [5, 6] (fun atV i wr => ∃ k : Nat, k ≤ n ∧ i = .int .i64 k ∧ RecsAt w1.heap.size w b m g xs k atV wr) (fun _ i _ => n - (intOf i).toNat)
    case atStart => exact ⟨0, Nat.zero_le _, rfl, HST.out⟩
    case round =>
      obtain ⟨k, hk, rfl, v, A3, c3, A', n', c', rfl, hrow, hpk, hw, hr, hB, hBr, hll, hsml⟩ := hrel
      have HIV := Lib.hid (runW_inv (xs.take k))
      have HNX := Lib.hid (show ∀ x, xs[k]? = some x → runW (xs.take (k + 1)) = stepW (runW (xs.take k)) x from fun x hx => by rw [takeW_snoc hx, runW_snoc])
      have HAT := Lib.hid (atsW_succ xs k)
      obtain ⟨st, hst⟩ : ∃ st, st = runW (xs.take k) := ⟨_, rfl⟩
      rw [← hst] at hpk hw hr hll HNX HIV HAT
      have HS := Lib.hid hst
      obtain ⟨l, K⟩ := st
      simp only at hpk hw hr hll HAT
      have HP := Lib.hid hpk
      have HW := Lib.hid hw
      have HR := Lib.hid hr
      have HB := Lib.hid hB
      have HRW := Lib.hid hrow
      have HSML := Lib.hid hsml
      obtain ⟨i0, hi, hz0, hz1, hz2⟩ := info_parts int_info
      have H63 : Hid (k + 1 ≤ maxLen) := Lib.hid (by unfold maxLen; omega)
      have H47 : Hid ((k + 1) * 8 ≤ 140737488355328) := Lib.hid (by omega)
      clear hst hpk hw hr hB hrow hsml HST
      by_cases hkn : k < n
      · have g1 : (k : Int) < (n : Int) := by omega
        obtain ⟨b2, off2, x, rfl, hb2, hx, hx5⟩ := (HI.out.keep HB.out).at hkn
        have HST := Lib.hid (HNX.out x hx)
        have HSX := Lib.hid (fun h6 : x.s.size ≤ 600 ∧ x.d.size ≤ 2000 => HSML.out.step hx h6)
        have hgrow := (stepW_grows (st := (l, K)) HIV.out x).2
        have hstep : stepW (l, K) x = if okR x.toRec = true then writeW x.toRec (l, K) else (l, K) := rfl
        clear hx
        obtain ⟨s, t, c, ttl, d⟩ := x
        have HX5 := Lib.hid hx5
        obtain ⟨x0, x1, x2, x3, x4⟩ := hx5
        simp only at x0 x1 x2 x3 x4 hgrow
        clear HNX
        cases hf : fewB s.size d.size with
        | false =>
          have HF := Lib.hid hf
          clear hf hgrow hstep
          go_wp2_with fail
          refine (few_any s d t c ttl _).mono ?_
          rw [HF.out]
          rintro e w3 ⟨rfl, hB3⟩
          have HB3 := Lib.hid (HB.out.trans (hB3.mono HB.out.size))
          clear hB3
          go_wp2_with fail
          go_ret
          exact ⟨rfl, HB3.out⟩
        | true =>
          have hsm : s.size ≤ 600 ∧ d.size ≤ 2000 := by unfold fewB at hf; simpa using hf
          have HSN := Lib.hid (HSX.out hsm)
          have HF := Lib.hid hf
          obtain ⟨r, hr⟩ : ∃ r, r = (⟨s, t, c, ttl, d⟩ : Rrd).toRec := ⟨_, rfl⟩
          have hrn : s = mk r.n := by rw [hr]; exact recOf_n s d t c ttl
          have hrd : d = mk r.d := by rw [hr]; exact recOf_d s d t c ttl
          have hrt : r.t = t ∧ r.c = c ∧ r.l = ttl := by rw [hr]; exact ⟨rfl, rfl, rfl⟩
          have hnl : r.n.length ≤ 600 := by have := hsm.1; rw [hrn, mk_size] at this; exact this
          have hdl : r.d.length ≤ 2000 := by have := hsm.2; rw [hrd, mk_size] at this; exact this
          rw [← hr] at hstep
          have HRN := Lib.hid hrn
          have HRD := Lib.hid hrd
          obtain ⟨rt1, rt2, rt3⟩ := hrt
          have HWN := Lib.hid (fun (W : World) (hok : okR r = false) {B b m c0 : Nat} {v : Value} {l : List UInt8} {K : Kn} (h : Pk B W b m v l K c0) => (by have := RWrite_no h s d r hrn hrd (by omega) (by omega) hok; rw [rt1, rt2, rt3] at this; exact this :
            Calls Try.prog 19 #[pkP b, .agg #[.string s, .int .i64 t, .int .i64 c, .int .i64 ttl, .string d]] W fun e w' => e = .returned (.int .i64 2) ∧ Pk B w' b m v l K c0 ∧ Below W.heap.size W w'))
          have HWY := Lib.hid (fun (W : World) (hok : okR r = true) {B b m : Nat} {v : Value} {l : List UInt8} {K : Kn} (h : Pk B W b m v l K l.length) (hl : l.length ≤ 600000) (hBw : B ≤ W.heap.size) (hK : InvK l K) => (by have := RWrite_yes h s d r hrn hrd (by omega) hok hl hBw hK; rw [rt1, rt2, rt3] at this; exact this :
            Calls Try.prog 19 #[pkP b, .agg #[.string s, .int .i64 t, .int .i64 c, .int .i64 ttl, .string d]] W fun e w' => e = .returned (.int .i64 0) ∧ ∃ v', Pk B w' b m v' (writeW r (l, K)).1 (writeW r (l, K)).2 (writeW r (l, K)).1.length ∧ Kp b m v v' W w'))
          have HRR := Lib.hid (fun (W : World) => (by have := RefRRight_any s d r W hrn hrd (by omega); rw [rt1, rt2, rt3] at this; exact this :
            Calls Try.prog 10 #[.agg #[.string s, .int .i64 t, .int .i64 c, .int .i64 ttl, .string d]] W fun e w' => e = .returned (.bool (okR r)) ∧ Below W.heap.size W w'))
          have HRWY := Lib.hid (fun (W : World) (l : List UInt8) (K : Kn) (v : Value) (hrp : RefPk W l K v) (hl : l.length ≤ 600000) (hok : okR r = true) (hi : InvK l K) => (by have := RefRWrite_any W l K v s d r hrp hl hrn hrd hok hi; rw [rt1, rt2, rt3] at this; exact this :
            Calls Try.prog 20 #[v, .agg #[.string s, .int .i64 t, .int .i64 c, .int .i64 ttl, .string d]] W fun e w' => ∃ v', e = .returned v' ∧ RefPk w' (writeW r (l, K)).1 (writeW r (l, K)).2 v' ∧ Below W.heap.size W w'))
          clear hf hr hrn hrd rt1 rt2 rt3 HSX HRN HRD
          go_wp2_with fail
          refine (few_any s d t c ttl _).mono ?_
          rw [HF.out]
          rintro e w3 ⟨rfl, hB3⟩
          have HX3 := Lib.hid (HX5.out.keep (hB3.mono HB.out.size) hb2)
          have HP3 := Lib.hid (HP.out.same hB3)
          have HRW3 := Lib.hid (own_below HRW.out hB3)
          have HW3 := Lib.hid (HW.out.below hB3 HW.out.lt)
          have HR3 := Lib.hid (HR.out.same hB3)
          have HB3 := Lib.hid (HB.out.trans (hB3.mono HB.out.size))
          have hBr3 : w1.heap.size ≤ w3.heap.size := Nat.le_trans hBr hB3.size
          clear hB3 x0 x1 x2 x3 x4
          go_wp2_with fail
          refine (Len_any HP3.out).mono ?_
          rintro e w' ⟨rfl, rfl⟩
          go_wp2_with (at_builtin; refine wpList_append_own _ rfl _ _ 35 rfl w1.heap.size 3 i0 (.int .i64 0) 1 8 Try.underlying35 hi hz0 hz1 hz2 rfl (by decide) _ _ _ rfl (HRW3.out.alloc _) ⟨w3.heap.size, 0, none⟩ 1 1 [.int .i64 (l.length : Nat)] rfl rfl (news1 _ _ _) (one1 _ rfl) H63.out H47.out (by simp; omega) ?_)
          intro v2 w4 hown2 hgrow _
          have HPA := Lib.hid (show Pk w1.heap.size w4 b m v l K l.length from (HP3.out.alloc (.cells #[.int .i64 (l.length : Nat)] 3)).rowT (HRW3.out.alloc _) hgrow (by decide) (by decide))
          have HBA := Lib.hid (show Below w1.heap.size w3 w4 from (((Below.refl _ _).alloc hBr3 (.cells #[.int .i64 (l.length : Nat)] 3)).grown hgrow (by simp; omega) (fun z hz => (HRW3.out.lt z hz).1)))
          have hown3 : w4.ownsRow w1.heap.size 3 1 v2 (k + 1) (ints .i64 (atsW xs (k + 1))) := by
            rw [HAT.out]; simpa [ints] using hown2
          obtain ⟨A4, c4, rfl, _⟩ := Sees.own hown3
          have HOW := Lib.hid hown3
          have HW4 := Lib.hid (HW3.out.rowT2 (HRW3.out.alloc (.cells #[.int .i64 (l.length : Nat)] 3)) hgrow (by decide))
          have HR4 := Lib.hid (HR3.out.rowT2 (HRW3.out.alloc (.cells #[.int .i64 (l.length : Nat)] 3)) hgrow (by decide))
          clear hown2 hgrow hown3
          have hBr4 : w1.heap.size ≤ w4.heap.size := Nat.le_trans hBr3 HBA.out.size
          have HX4 := Lib.hid (HX3.out.keep (HBA.out.mono hB0) hb2)
          have HB4 := Lib.hid (HB3.out.trans (HBA.out.mono hB0))
          obtain ⟨x0, x1, x2, x3, x4⟩ := HX4.out
          simp only at x0 x1 x2 x3 x4
          cases hok : okR r with
          | false =>
            rw [hok, if_neg (by simp)] at hstep
            have HST := Lib.hid (HST.out.trans hstep)
            have HOK := Lib.hid hok
            clear hstep hok hgrow
            go_wp2_with fail
            refine (HWN.out _ HOK.out HPA.out).mono ?_
            rintro e w5 ⟨rfl, h5, hB5⟩
            have HX5 := Lib.hid (HX4.out.keep (hB5.mono HB4.out.size) hb2)
            have HP5 := Lib.hid h5
            have HOW5 := Lib.hid (own_below HOW.out hB5)
            have HW5 := Lib.hid (HW4.out.below hB5 HW4.out.lt)
            have HR5 := Lib.hid (HR4.out.same hB5)
            have HB5 := Lib.hid (HB4.out.trans (hB5.mono HB4.out.size))
            have hBr5 : w1.heap.size ≤ w5.heap.size := Nat.le_trans hBr4 hB5.size
            clear h5 hB5 x0 x1 x2 x3 x4
            obtain ⟨x0, x1, x2, x3, x4⟩ := HX5.out
            simp only at x0 x1 x2 x3 x4
            go_wp2_with fail
            refine (HRR.out _).mono ?_
            rw [HOK.out]
            rintro e w6 ⟨rfl, hB6⟩
            have HP6 := Lib.hid (HP5.out.same hB6)
            have HOW6 := Lib.hid (own_below HOW5.out hB6)
            have HW6 := Lib.hid (HW5.out.below hB6 HW5.out.lt)
            have HR6 := Lib.hid (HR5.out.same hB6)
            have HB6 := Lib.hid (HB5.out.trans (hB6.mono HB5.out.size))
            have hBr6 : w1.heap.size ≤ w6.heap.size := Nat.le_trans hBr5 hB6.size
            clear hB6 x0 x1 x2 x3 x4
            go_wp2_with fail
            go_roundw
            case rel =>
              refine ⟨k + 1, by omega, by go_num, ?_⟩
              unfold RecsAt
              rw [HST.out]
              exact ⟨_, _, _, A', n', c', rfl, HOW6.out, HP6.out, HW6.out, HR6.out, HB6.out, hBr6, by simp only; omega, HSN.out⟩
            case measure => simp [intOf]; omega
          | true =>
            rw [hok, if_pos rfl] at hstep
            have HST := Lib.hid (HST.out.trans hstep)
            rw [hstep] at hgrow
            have hll2 : (writeW r (l, K)).1.length ≤ 2265 * (k + 1) := by
              obtain ⟨z, hz, hzl⟩ := hgrow
              rw [hz, List.length_append]
              try simp only at hzl ⊢
              omega
            obtain ⟨st2, hst2⟩ : ∃ st2, st2 = writeW r (l, K) := ⟨_, rfl⟩
            obtain ⟨l2, K2⟩ := st2
            rw [← hst2] at hll2
            simp only at hll2
            have HW2 := Lib.hid hst2
            clear hst2
            have HOK := Lib.hid hok
            clear hstep hok hgrow
            go_wp2_with fail
            refine (HWY.out _ HOK.out HPA.out (by omega) hBr4 HIV.out).mono ?_
            rw [← HW2.out]
            rintro e w5 ⟨rfl, v5, h5, k5⟩
            simp only at h5
            have hB5 := k5.below HPA.out hBr4
            have HX5 := Lib.hid (HX4.out.keep (hB5.mono hB0) hb2)
            have HP5 := Lib.hid h5
            have HOW5 := Lib.hid (k5.rowT HPA.out HOW.out (by decide) (by decide))
            have HW5 := Lib.hid (k5.whole HW4.out HPA.out (by decide) (by decide))
            have HR5 := Lib.hid (HR4.out.kp HPA.out k5)
            have HB5 := Lib.hid (HB4.out.trans (hB5.mono hB0))
            have hBr5 : w1.heap.size ≤ w5.heap.size := Nat.le_trans hBr4 k5.size
            clear h5 k5 hB5 x0 x1 x2 x3 x4
            obtain ⟨x0, x1, x2, x3, x4⟩ := HX5.out
            simp only at x0 x1 x2 x3 x4
            go_wp2_with fail
            refine (HRR.out _).mono ?_
            rw [HOK.out]
            rintro e w6 ⟨rfl, hB6⟩
            have HX6 := Lib.hid (HX5.out.keep (hB6.mono HB5.out.size) hb2)
            have HP6 := Lib.hid (HP5.out.same hB6)
            have HOW6 := Lib.hid (own_below HOW5.out hB6)
            have HW6 := Lib.hid (HW5.out.below hB6 HW5.out.lt)
            have HR6 := Lib.hid (HR5.out.same hB6)
            have HB6 := Lib.hid (HB5.out.trans (hB6.mono HB5.out.size))
            have hBr6 : w1.heap.size ≤ w6.heap.size := Nat.le_trans hBr5 hB6.size
            clear hB6 x0 x1 x2 x3 x4
            obtain ⟨x0, x1, x2, x3, x4⟩ := HX6.out
            simp only at x0 x1 x2 x3 x4
            have q0 := (HW6.out.cell 0).trans (show _ = some (Value.string (mk l)) from rfl)
            have q1 := (HW6.out.cell 1).trans (show _ = some (Value.slice A' n' c') from rfl)
            have r0 := HW6.out.frozen 0
            have r1 := HW6.out.frozen 1
            go_wp2_with fail
            have HRV := Lib.hid (show RefPk w6.drew l K (.agg #[.string (mk l), .slice A' n' c']) from HR6.out.same (Below.refl _ _).drew)
            go_region_with (go_at_call 20; (refine (HRWY.out _ l K _ HRV.out (by omega) HOK.out HIV.out).mono ?_; rw [← HW2.out]; rintro e w7 ⟨v7, rfl, h7, hB7⟩; simp only at h7; obtain ⟨A7, n7, c7, rfl, h7⟩ := h7.shape; have hB7 := (Below.refl _ _).drew.trans hB7; have hW7 := HW6.out.below hB7 HW6.out.lt; have s0 := (hW7.cell 0).trans (show _ = some (Value.string (mk l)) from rfl); have s1 := (hW7.cell 1).trans (show _ = some (Value.slice A' n' c') from rfl); have t0 := hW7.frozen 0; have t1 := hW7.frozen 1; obtain ⟨u0, u1, u2, u3, u4⟩ := HX6.out.keep (hB7.mono HB6.out.size) hb2))
            all_goals (
              have hBg : w.heap.size ≤ g := Nat.le_trans hB0 hsz2
              have HP8 := Lib.hid (((HP6.out.same hB7).put hW7 (by decide) (by decide) 0 (.string (mk l2))).put (hW7.put 0 (.string (mk l2))) (by decide) (by decide) 1 (.slice A7 n7 c7))
              have HW8 := Lib.hid (show Whole ((w7.setCell ⟨g, 0, none⟩ (.string (mk l2))).setCell ⟨g, 1, none⟩ (.slice A7 n7 c7)) g rpT #[.string (mk l2), .slice A7 n7 c7] from by simpa using (hW7.put 0 (.string (mk l2))).put 1 (.slice A7 n7 c7))
              have HR8 := Lib.hid ((h7.put hW7 (by decide) 0 (.string (mk l2))).put (hW7.put 0 (.string (mk l2))) (by decide) 1 (.slice A7 n7 c7))
              have HB8 := Lib.hid (((HB6.out.trans (hB7.mono HB6.out.size)).setCell (p := ⟨g, 0, none⟩) hBg (.string (mk l2))).setCell (p := ⟨g, 1, none⟩) hBg (.slice A7 n7 c7))
              have HOW8 := Lib.hid (own_off (hW7.put 0 (.string (mk l2))) (own_off hW7 (own_below HOW6.out hB7) (by decide) 0 (.string (mk l2))) (by decide) 1 (.slice A7 n7 c7))
              have hBr8 : w1.heap.size ≤ ((w7.setCell ⟨g, 0, none⟩ (.string (mk l2))).setCell ⟨g, 1, none⟩ (.slice A7 n7 c7)).heap.size := by rw [size_put, size_put]; exact Nat.le_trans hBr6 hB7.size
              clear hB7 h7 hW7
              go_wp2_with fail
              revert HP8 HW8 HR8 HB8 HOW8 hBr8
              generalize (w7.setCell ⟨g, 0, none⟩ (.string (mk l2))).setCell ⟨g, 1, none⟩ (.slice A7 n7 c7) = W8
              intro HP8 HW8 HR8 HB8 HOW8 hBr8
              go_roundw
              case rel =>
                refine ⟨k + 1, by omega, by go_num, ?_⟩
                unfold RecsAt
                rw [HST.out, ← HW2.out]
                exact ⟨_, _, _, A7, n7, c7, rfl, HOW8.out, HP8.out, HW8.out, HR8.out, HB8.out, hBr8, hll2, HSN.out⟩
              case measure => simp [intOf]; omega)
      · obtain rfl : k = n := by omega
        have hfull : xs.take k = xs := List.take_of_length_le (by rw [HLEN.out]; exact Nat.le_refl _)
        have HS2 := Lib.hid (show runW xs = (l, K) from by rw [← hfull]; exact HS.out.symm)
        clear hfull
        go_wp2_with fail
        refine (Len_any HP.out).mono ?_
        rintro e w' ⟨rfl, rfl⟩
        go_wp2_with (at_builtin; refine wpList_append_own _ rfl _ _ 35 rfl w1.heap.size 3 i0 (.int .i64 0) 1 8 Try.underlying35 hi hz0 hz1 hz2 rfl (by decide) _ _ _ rfl (HRW.out.alloc _) ⟨wr.heap.size, 0, none⟩ 1 1 [.int .i64 (l.length : Nat)] rfl rfl (news1 _ _ _) (one1 _ rfl) H63.out H47.out (by simp; omega) ?_)
        intro v2 w4 hown2 hgrow _
        have HPA := Lib.hid (show Pk w1.heap.size w4 b m v l K l.length from (HP.out.alloc (.cells #[.int .i64 (l.length : Nat)] 3)).rowT (HRW.out.alloc _) hgrow (by decide) (by decide))
        have HBA := Lib.hid (show Below w1.heap.size wr w4 from (((Below.refl _ _).alloc hBr (.cells #[.int .i64 (l.length : Nat)] 3)).grown hgrow (by simp; omega) (fun z hz => (HRW.out.lt z hz).1)))
        have hown3 : w4.ownsRow w1.heap.size 3 1 v2 (k + 1) (ints .i64 (atsW xs (k + 1))) := by
          rw [HAT.out]; simpa [ints] using hown2
        obtain ⟨A4, c4, rfl, _⟩ := Sees.own hown3
        have HOW := Lib.hid hown3
        have HW4 := Lib.hid (HW.out.rowT2 (HRW.out.alloc (.cells #[.int .i64 (l.length : Nat)] 3)) hgrow (by decide))
        have HR4 := Lib.hid (HR.out.rowT2 (HRW.out.alloc (.cells #[.int .i64 (l.length : Nat)] 3)) hgrow (by decide))
        clear hown2 hgrow hown3
        have hBr4 : w1.heap.size ≤ w4.heap.size := Nat.le_trans hBr HBA.out.size
        go_wp2_with fail
        have heq : ((mk l).toList == (mk l).toList) = true := by simp
        have q0 := (HW4.out.cell 0).trans (show _ = some (Value.string (mk l)) from rfl)
        go_region_held3 (fun w' => w'.cell? ⟨g, 0, none⟩ = some (.string (mk l))) (go_keep) (first | (go_at_call 21; (refine (Bytes_any HPA.out.drew).mono ?_; rintro e w5 ⟨rfl, h5, k5⟩; have k5 := (Kp.refl _ _ _ _).drew.trans k5; have q5 := ((k5.whole HW4.out HPA.out (by decide) (by decide)).cell 0).trans (show _ = some (Value.string (mk l)) from rfl))))
        all_goals (
          have HOW5 := Lib.hid (k5.rowT HPA.out HOW.out (by decide) (by decide))
          have HW5 := Lib.hid (k5.whole HW4.out HPA.out (by decide) (by decide))
          have HB5 := Lib.hid (HB.out.trans ((HBA.out.trans (k5.below HPA.out hBr4)).mono hB0))
          clear h5 k5
          go_wp2_with fail
          go_loopw [9] (fun i wq => ∃ j : Nat, j ≤ k ∧ i = .int .i64 j ∧ wq.ownsRow w1.heap.size 3 1 (.slice A4 (k + 1) c4) (k + 1) (ints .i64 (atsW xs (k + 1))) ∧ Whole wq g rpT #[.string (mk l), .slice A' n' c'] ∧ Below w.heap.size w wq) (fun i _ => k - (intOf i).toNat)
          case atStart => exact ⟨0, Nat.zero_le _, rfl, HOW5.out, HW5.out, HB5.out⟩
          case round =>
            obtain ⟨j, hj, rfl, hrow, hwq, hBq⟩ := hrel
            obtain ⟨A6, c6, he6, hse⟩ := Sees.own hrow
            injection he6 with he6 _ he7
            subst he6 he7
            have HRQ := Lib.hid hrow
            have HWQ := Lib.hid hwq
            have HBQ := Lib.hid hBq
            clear hrow hwq hBq
            by_cases hjk : j < k
            · have g1 : (j : Int) < (k : Int) := by omega
              obtain ⟨b2, off2, x, rfl, hb2, hx, hx5⟩ := (HI.out.keep HBQ.out).at hjk
              obtain ⟨b3, off3, rfl, hb3, hc3⟩ := hse.addr (by omega)
              have a0 := hc3 _ _ (atsW_at xs (show j < k + 1 by omega))
              have a1 := hc3 _ _ (atsW_at xs (show j + 1 < k + 1 by omega))
              have hread : okR x.toRec = true → recR l (runW (xs.take j)).1.length = some (x.toRec, (runW (xs.take (j + 1))).1.length) := by
                intro hr
                have := back_item (xs := xs) (k := j) hx hr
                rw [HS2.out] at this
                exact this
              have hle : (runW (xs.take j)).1.length ≤ l.length := by
                obtain ⟨z, hz⟩ := runW_pre xs j
                rw [HS2.out] at hz
                have := congrArg List.length hz
                simp at this
                omega
              have hsm := HSML.out j x hjk hx
              obtain ⟨p0, hp0⟩ : ∃ p0, p0 = (runW (xs.take j)).1.length := ⟨_, rfl⟩
              obtain ⟨p1, hp1⟩ : ∃ p1, p1 = (runW (xs.take (j + 1))).1.length := ⟨_, rfl⟩
              rw [← hp0] at a0 hread hle
              rw [← hp1] at a1 hread
              obtain ⟨s, t, c, ttl, d⟩ := x
              have HX5 := Lib.hid hx5
              simp only at hsm
              obtain ⟨x0, x1, x2, x3, x4⟩ := hx5
              simp only at x0 x1 x2 x3 x4
              have HRR := Lib.hid (fun (W : World) => (RefRRight_any s d (recOf s d t c ttl) W (recOf_n s d t c ttl) (recOf_d s d t c ttl) (by have := hsm.2; show d.data.toList.length ≤ 65535; rw [Array.length_toList]; show d.size ≤ 65535; omega) :
                Calls Try.prog 10 #[.agg #[.string s, .int .i64 t, .int .i64 c, .int .i64 ttl, .string d]] W fun e w' => e = .returned (.bool (okR (recOf s d t c ttl))) ∧ Below W.heap.size W w'))
              have hread' : okR (recOf s d t c ttl) = true → ∀ W : World, Calls Try.prog 22 #[.string (mk l), .int .i64 (p0 : Nat)] W fun e w' => e = .returned (.tuple #[.agg #[.string s, .int .i64 t, .int .i64 c, .int .i64 ttl, .string d], .int .i64 (p1 : Int), .int .i64 0]) ∧ Below W.heap.size W w' := by
                intro hr W
                have h := RRead_of (mk l) l p0 p1 (recOf s d t c ttl) W rfl (by omega) hle (hread hr)
                rw [← recOf_n s d t c ttl, ← recOf_d s d t c ttl] at h
                exact h
              have HRD := Lib.hid hread'
              have HP1 := Lib.hid hp1
              clear hread hread' hx hp0 hp1 hc3 hse
              cases hok : okR (recOf s d t c ttl) with
              | false =>
                have HOK := Lib.hid hok
                clear hok
                go_wp2_with fail
                refine (HRR.out _).mono ?_
                rw [HOK.out]
                rintro e w6 ⟨rfl, hB6⟩
                have HRQ6 := Lib.hid (own_below HRQ.out hB6)
                have HWQ6 := Lib.hid (HWQ.out.below hB6 HWQ.out.lt)
                have HBQ6 := Lib.hid (HBQ.out.trans (hB6.mono HBQ.out.size))
                clear hB6
                go_wp2_with fail
                go_roundw
                case rel => exact ⟨j + 1, by omega, by go_num, HRQ6.out, HWQ6.out, HBQ6.out⟩
                case measure => simp [intOf]; omega
              | true =>
                have HRT := Lib.hid (HRD.out hok)
                have HOK := Lib.hid hok
                clear hok
                go_wp2_with fail
                refine (HRR.out _).mono ?_
                rw [HOK.out]
                rintro e w6 ⟨rfl, hB6⟩
                have HX6 := Lib.hid (HX5.out.keep (hB6.mono HBQ.out.size) hb2)
                have a0' := (hB6.cell (p := ⟨b3, off3 + j, none⟩) hb3).trans a0
                have HRQ6 := Lib.hid (own_below HRQ.out hB6)
                have HWQ6 := Lib.hid (HWQ.out.below hB6 HWQ.out.lt)
                have HBQ6 := Lib.hid (HBQ.out.trans (hB6.mono HBQ.out.size))
                have hb36 : b3 < w6.heap.size := Nat.lt_of_lt_of_le hb3 hB6.size
                clear hB6 a0 a1 x0 x1 x2 x3 x4
                have hj2 : (j : Int) < (k : Int) + 1 := by omega
                have q6 := (HWQ6.out.cell 0).trans (show _ = some (Value.string (mk l)) from rfl)
                have hj1 : (j : Int) + 1 < (k : Int) + 1 := by omega
                have hwj : IntKind.i64.wrap ((j : Int) + 1) = (j : Int) + 1 := by rw [IntKind.wrap_i64]; omega
                have hj0 : (0 : Int) ≤ (j : Int) + 1 := by omega
                have A1 : ∀ o, (w6.alloc o).cell? ⟨g, 0, none⟩ = some (.string (mk l)) := fun o => ((HWQ6.out.alloc o).cell 0).trans rfl
                have A2 : ∀ o, (w6.alloc o).cell? ⟨b3, off3 + j, none⟩ = some (.int .i64 (p0 : Nat)) := fun o => (((Below.refl _ _).alloc (Nat.le_refl _) o).cell (p := ⟨b3, off3 + j, none⟩) hb36).trans a0'
                go_upto_region 25 with fail
                go_cut [10, 11, 12] (fun a b e V => ∃ p9, a = .pointer (some ⟨p9, 0, none⟩) ∧ b = .int .i64 (p1 : Int) ∧ e = .int .i64 0 ∧ Behind w1.heap.size w g p9 b2 (off2 + j * 5) ⟨s, t, c, ttl, d⟩ (some ⟨b3, off3, none⟩) (k + 1) c4 (atsW xs (k + 1)) #[.string (mk l), .slice A' n' c'] V)
                case first =>
                  go_region_held3 (fun w' => w'.cell? ⟨g, 0, none⟩ = some (.string (mk l)) ∧ w'.cell? ⟨b3, off3 + j, none⟩ = some (.int .i64 (p0 : Nat))) (go_keep) (first
                    | (go_at_call 22; (refine (HRT.out _).mono ?_; rintro e w7 ⟨rfl, hB7⟩; have hB7 := (Below.refl _ _).drew.trans hB7; (first
                      | (have hq : Below _ w6 w7 := (by with_reducible exact hB7); have v0 := (hq.cell (p := ⟨g, 0, none⟩) HWQ6.out.lt).trans q6; have v1 := (hq.cell (p := ⟨b3, off3 + j, none⟩) hb36).trans a0'; have B1 : ∀ o, (w7.alloc o).cell? ⟨g, 0, none⟩ = some (.string (mk l)) := fun o => (((Below.refl _ _).alloc (Nat.le_refl _) o).cell (p := ⟨g, 0, none⟩) (Nat.lt_of_lt_of_le HWQ6.out.lt hq.size)).trans v0; have B2 : ∀ o, (w7.alloc o).cell? ⟨b3, off3 + j, none⟩ = some (.int .i64 (p0 : Nat)) := fun o => (((Below.refl _ _).alloc (Nat.le_refl _) o).cell (p := ⟨b3, off3 + j, none⟩) (Nat.lt_of_lt_of_le hb36 hq.size)).trans v1)
                      | (have hq : Below _ (w6.alloc (.cells #[.string ⟨#[]⟩, .int .i64 0, .int .i64 0, .int .i64 0, .string ⟨#[]⟩] rrT)) w7 := (by with_reducible exact hB7); have hz0 := Whole.new w6 rrT #[.string ⟨#[]⟩, .int .i64 0, .int .i64 0, .int .i64 0, .string ⟨#[]⟩]; have hz7 := hz0.below hq hz0.lt; have v0 := (hq.cell (p := ⟨g, 0, none⟩) (HWQ6.out.alloc (.cells #[.string ⟨#[]⟩, .int .i64 0, .int .i64 0, .int .i64 0, .string ⟨#[]⟩] rrT)).lt).trans (A1 _); have v1 := (hq.cell (p := ⟨b3, off3 + j, none⟩) (Nat.lt_of_lt_of_le hb36 (by first | (simp; omega) | simp | omega))).trans (A2 _); have c0 := hz7.cell 0; have c1 := hz7.cell 1; have c2 := hz7.cell 2; have c3 := hz7.cell 3; have c4' := hz7.cell 4; have f0 := hz7.frozen 0; have f1 := hz7.frozen 1; have f2 := hz7.frozen 2; have f3 := hz7.frozen 3; have f4 := hz7.frozen 4; have D5 := below5 w7 w6.heap.size s d t c ttl; have D1 := (D5.cell (p := ⟨g, 0, none⟩) HWQ6.out.lt).trans v0; have D2 := (D5.cell (p := ⟨b3, off3 + j, none⟩) hb36).trans v1)))))
                  all_goals (
                    go_wp2_with fail
                    go_meet
                    first
                    | exact ⟨_, rfl, rfl, rfl, behind_new rfl (own_below HRQ6.out hq) (HWQ6.out.below hq HWQ6.out.lt) (HBQ6.out.trans (hq.mono HBQ6.out.size)) (HX6.out.keep (hq.mono HBQ6.out.size) hb2) hb2⟩
                    | exact ⟨_, rfl, rfl, rfl, behind_put rfl hz7 (own_below (HRQ6.out.alloc _) hq) ((HWQ6.out.alloc _).below hq (HWQ6.out.alloc _).lt) HWQ6.out.lt ((HBQ6.out.alloc HBQ6.out.size _).trans (hq.mono (Nat.le_trans HBQ6.out.size (by simp)))) ((HX6.out.keep ((Below.refl w6.heap.size w6).alloc (Nat.le_refl _) _) (Nat.lt_of_lt_of_le hb2 HBQ6.out.size)).keep (hq.mono (Nat.le_trans HBQ6.out.size (by simp))) hb2) hb2 HBQ6.out.size⟩)
                case rest =>
                  obtain ⟨p9, rfl, rfl, rfl, hbh⟩ := hcut
                  have HBH := Lib.hid hbh
                  clear hbh A1 A2 a0' q6 HX5 HX6 HRQ HRQ6 HWQ HWQ6 HBQ hb36 HRD HRT HRR
                  obtain ⟨m0, m1, m2, m3, m4⟩ := rr_facts (show Whole wc p9 rrT (rrA s d t c ttl) from HBH.out.r)
                  obtain ⟨x0, x1, x2, x3, x4⟩ := HBH.out.f
                  simp only at x0 x1 x2 x3 x4
                  obtain ⟨A7, c7, he7, hse7⟩ := Sees.own HBH.out.a
                  injection he7 with he7 _ he8
                  subst he7 he8
                  obtain ⟨b8, off8, he8, hb8, hc8⟩ := hse7.addr (by omega)
                  injection he8 with he8
                  injection he8 with he8 he9 _
                  subst he8 he9
                  have a1 := hc8 _ _ (atsW_at xs (show j + 1 < k + 1 by omega))
                  rw [← HP1.out] at a1
                  have hes : (s.toList == s.toList) = true := by simp
                  have hed : (d.toList == d.toList) = true := by simp
                  clear hc8 hse7
                  go_wp2_with fail
                  go_quiet (fail)
                  have HRQ9 := Lib.hid (own_below HBH.out.a (below_drewN (Below.refl _ _) nq))
                  have HWQ9 := Lib.hid (HBH.out.p.drewN nq)
                  have HBQ9 := Lib.hid (below_drewN HBH.out.e nq)
                  clear HBH
                  go_wp2_with fail
                  go_roundw
                  case rel => exact ⟨j + 1, by omega, by go_num, HRQ9.out, HWQ9.out, HBQ9.out⟩
                  case measure => simp [intOf]; omega
            · obtain rfl : j = k := by omega
              clear hse
              go_wp2_with fail
              go_ret
              exact ⟨rfl, HBQ.out⟩)
  · have gn : (20 : Int) < (n : Int) := by omega
    go_enter Try.func4, Try.ntmps4
    go_wp2_with fail
    refine (awake_any _).mono ?_
    rintro e w1 ⟨rfl, hB1⟩
    go_wp2_with fail
    refine (awake_any _).mono ?_
    rintro e w3 ⟨rfl, hB3⟩
    go_wp2_with fail
    go_ret
    exact ⟨rfl, hB1.trans (hB3.mono hB1.size)⟩
end Go.Proofs.Ytdanncclnhkmgaa
