/- writeSection, Encode of the program. No statement of the seat is proved here. -/
import Derived.Test.YtokjmefleanjaaaGreatMesD
namespace Go.Proofs.YtokjmefleanjaaaGreat
open Go.RowKit Go.Op Go.Maps
attribute [local go_sem] sec_0 sec_1 sec_2

/-- what a message's packer holds where T should stand: T, or more than a message may be, and no more than T -/
def Mid (T st : WSt) : Prop := InvK st.1 st.2 ∧ st.1.length ≤ 140000 ∧ (st = T ∨ (65535 < st.1.length ∧ st.1.length ≤ T.1.length))
theorem Mid.same {T st : WSt} (h : Mid T st) (hl : ¬ 65535 < st.1.length) : st = T := by
  rcases h.2.2 with h | h
  · exact h
  · exact absurd h.1 hl
section
variable {α : Type} {W : α → WSt → WSt} {R : List UInt8 → Nat → Option (α × Nat)} {ok : α → Bool}
theorem secW_append (l l' : List α) (st : WSt) : secW W (l ++ l') st = secW W l' (secW W l st) := by simp [secW]
theorem secW_inv (C : Codec W R ok) {T : WSt} (l : List α) (h : ∀ x ∈ l, ok x = true) (hT : InvK T.1 T.2) : InvK (secW W l T).1 (secW W l T).2 := (C.sec_grows l T h hT).1
theorem Mid.stop (C : Codec W R ok) {T st : WSt} (h : Mid T st) (l : List α) (hT : InvK T.1 T.2) (hl : ∀ x ∈ l, ok x = true) (hlong : 65535 < st.1.length) : Mid (secW W l T) st := by
  obtain ⟨_, z, hz, _⟩ := C.sec_grows l T hl hT
  refine ⟨h.1, h.2.1, .inr ⟨hlong, ?_⟩⟩
  rw [hz, List.length_append]
  rcases h.2.2 with e | e
  · rw [e]; omega
  · omega
theorem Mid.step (C : Codec W R ok) {st : WSt} {x : α} (h : InvK st.1 st.2) (hx : ok x = true) (hl : st.1.length ≤ 65535) : Mid (W x st) (W x st) := by
  obtain ⟨h1, z, hz, _, hz2⟩ := C.grows x st hx h
  exact ⟨h1, by rw [hz, List.length_append]; omega, .inl rfl⟩
end
theorem name_room {r : Rec} (h : okR r = true) : r.n.length ≤ 1073741824 := by
  obtain ⟨⟨L, hL⟩, _⟩ := ok_parts h
  have := (nameL_is hL).2.2
  obtain ⟨he, _, hl⟩ := nameL_is hL
  omega

set_option maxHeartbeats 4000000 in
set_option maxRecDepth 20000 in
theorem writeSecQ_any {B b m : Nat} {w : World} {v : Value} {T st : WSt} (h : Pk B w b m v st.1 st.2 st.1.length) (hm : Mid T st) (hT : InvK T.1 T.2) (A : Option Addr) (n c : Nat) (xs : List Qrd) (hx : SeesQ w B A n xs) (hok : ∀ x ∈ xs, okQ x.toQue = true) (hn : n ≤ 65535) (hBw : B ≤ w.heap.size) :
    Calls Tryz.prog 15 #[pkP b, .slice A n c, .func (.func 16) #[] #[]] w fun e w' => e = .returned (.tuple #[]) ∧ ∃ v' st', Pk B w' b m v' st'.1 st'.2 st'.1.length ∧ Mid (secW queW (xs.map Qrd.toQue) T) st' ∧ Kp b m v v' w w' := by
  have HP := Lib.hid h
  have HM := Lib.hid hm
  have HT := Lib.hid hT
  have HX := Lib.hid hx
  have HOK := Lib.hid hok
  have HN := Lib.hid hx.1
  have HM0 := Lib.hid (show Mid (secW queW ((xs.take 0).map Qrd.toQue) T) st from hm)
  clear h hm hT hx hok
  go_enter Tryz.func15, Tryz.ntmps15
  go_wp2_with fail
  go_loopw [10] (fun i wr => ∃ (k : Nat) (v1 : Value) (s1 : WSt), k ≤ n ∧ i = .int .i64 (k : Nat) ∧ Pk B wr b m v1 s1.1 s1.2 s1.1.length ∧ Mid (secW queW ((xs.take k).map Qrd.toQue) T) s1 ∧ Kp b m v v1 w wr) (fun i _ => n - (intOf i).toNat)
  case atStart => exact ⟨0, v, st, Nat.zero_le _, rfl, HP.out, HM0.out, .refl _ _ _ _⟩
  case round =>
    obtain ⟨k, v1, s1, hk, rfl, hp, hm, hkp⟩ := hrel
    have HPR := Lib.hid hp
    have HMR := Lib.hid hm
    have HKR := Lib.hid hkp
    have HBR := Lib.hid (Nat.le_trans hBw hkp.size)
    have HBL := Lib.hid (hkp.below HP.out hBw)
    clear hp hm hkp
    by_cases hkn : k < n
    · have g2 : (k : Int) < (n : Int) := by omega
      obtain ⟨b2, off, x, rfl, hb, hxk, ht⟩ := (HX.out.keep HBL.out).at hkn
      obtain ⟨x0, x1, x2⟩ := ht
      have HXK := Lib.hid hxk
      have HR := Lib.hid (HOK.out x (List.mem_of_getElem? hxk))
      have HWN := Lib.hid (Whole.new wr quT (quA x.s x.t x.c))
      have HPN := Lib.hid (HPR.out.alloc (.cells (quA x.s x.t x.c) quT))
      have HBN := Lib.hid (show B ≤ (wr.alloc (.cells (quA x.s x.t x.c) quT)).heap.size by rw [World.size_alloc]; have := HBR.out; omega)
      have HKN := Lib.hid (HKR.out.to ((Below.refl wr.heap.size wr).alloc (Nat.le_refl _) (.cells (quA x.s x.t x.c) quT)))
      have HTK := Lib.hid (secW_inv que_codec (T := T) ((xs.take k).map Qrd.toQue) (by
        intro y hy
        obtain ⟨z, hz, rfl⟩ := List.mem_map.1 hy
        exact HOK.out z (List.mem_of_mem_take hz)) HT.out)
      have HSPL := Lib.hid (show secW queW (xs.map Qrd.toQue) T = secW queW ((xs.drop k).map Qrd.toQue) (secW queW ((xs.take k).map Qrd.toQue) T) by rw [← secW_append, ← List.map_append, List.take_append_drop])
      have HRST := Lib.hid (show ∀ y ∈ (xs.drop k).map Qrd.toQue, okQ y = true by
        intro y hy
        obtain ⟨z, hz, rfl⟩ := List.mem_map.1 hy
        exact HOK.out z (List.mem_of_mem_drop hz))
      have HNX := Lib.hid (show (xs.take (k + 1)).map Qrd.toQue = (xs.take k).map Qrd.toQue ++ [x.toQue] by rw [List.take_add_one, hxk, List.map_append]; rfl)
      clear hxk
      unfold quA at *
      by_cases hlong : 65535 < s1.1.length
      · have HE := Lib.hid (show decide (65535 < s1.1.length) = true by simp [hlong])
        have HEND := Lib.hid (HSPL.out ▸ (HMR.out.stop que_codec ((xs.drop k).map Qrd.toQue) HTK.out HRST.out hlong))
        go_wp2_with fail
        refine (tooLong_any HPN.out).mono ?_
        rw [HE.out]
        rintro e w1 ⟨rfl, rfl⟩
        go_wp2_with fail
        refine bodyPost_ret (results_none rfl _ _ _) rfl ?_
        exact ⟨rfl, v1, s1, HPN.out, HEND.out, HKN.out⟩
      · have HE := Lib.hid (show decide (65535 < s1.1.length) = false by simp [hlong])
        have hst := HMR.out.same hlong
        have HI := Lib.hid HMR.out.1
        have HNEW := Lib.hid (show Mid (secW queW ((xs.take (k + 1)).map Qrd.toQue) T) (queW x.toQue s1) by rw [HNX.out, secW_snoc, ← hst]; exact Mid.step que_codec HI.out HR.out (by omega))
        have hlen : s1.1.length ≤ 65535 := by omega
        obtain ⟨d0, d1, d2⟩ := qu_facts HWN.out
        clear hlong hst
        go_wp2_with fail
        refine (tooLong_any HPN.out).mono ?_
        rw [HE.out]
        rintro e w1 ⟨rfl, rfl⟩
        go_wp2_with fail
        refine (writeQue_any HPN.out x.s x.toQue (qrd_name x) HR.out (by omega) HBN.out HI.out).mono ?_
        rintro e w2 ⟨rfl, v2, h2, k2⟩
        have HP2 := Lib.hid h2
        have HK2 := Lib.hid (HKN.out.trans k2)
        clear h2 k2
        go_wp2_with fail
        go_roundw
        case rel => exact ⟨k + 1, v2, queW x.toQue s1, by omega, by go_num, HP2.out, HNEW.out, HK2.out⟩
        case measure => simp [intOf]; omega
    · obtain rfl : k = n := by omega
      have HEND := Lib.hid (show Mid (secW queW (xs.map Qrd.toQue) T) s1 by have := HMR.out; rwa [← HN.out, List.take_length] at this)
      go_wp2_with fail
      go_end0
      exact ⟨rfl, v1, s1, HPR.out, HEND.out, HKR.out⟩

set_option maxHeartbeats 4000000 in
set_option maxRecDepth 20000 in
theorem writeSecR_any {B b m : Nat} {w : World} {v : Value} {T st : WSt} (h : Pk B w b m v st.1 st.2 st.1.length) (hm : Mid T st) (hT : InvK T.1 T.2) (A : Option Addr) (n c : Nat) (xs : List Rrd) (hx : SeesR w B A n xs) (hok : ∀ x ∈ xs, okR x.toRec = true) (hn : n ≤ 65535) (hBw : B ≤ w.heap.size) :
    Calls Tryz.prog 18 #[pkP b, .slice A n c, .func (.func 19) #[] #[]] w fun e w' => e = .returned (.tuple #[]) ∧ ∃ v' st', Pk B w' b m v' st'.1 st'.2 st'.1.length ∧ Mid (secW writeW (xs.map Rrd.toRec) T) st' ∧ Kp b m v v' w w' := by
  have HP := Lib.hid h
  have HM := Lib.hid hm
  have HT := Lib.hid hT
  have HX := Lib.hid hx
  have HOK := Lib.hid hok
  have HN := Lib.hid hx.1
  have HM0 := Lib.hid (show Mid (secW writeW ((xs.take 0).map Rrd.toRec) T) st from hm)
  clear h hm hT hx hok
  go_enter Tryz.func18, Tryz.ntmps18
  go_wp2_with fail
  go_loopw [10] (fun i wr => ∃ (k : Nat) (v1 : Value) (s1 : WSt), k ≤ n ∧ i = .int .i64 (k : Nat) ∧ Pk B wr b m v1 s1.1 s1.2 s1.1.length ∧ Mid (secW writeW ((xs.take k).map Rrd.toRec) T) s1 ∧ Kp b m v v1 w wr) (fun i _ => n - (intOf i).toNat)
  case atStart => exact ⟨0, v, st, Nat.zero_le _, rfl, HP.out, HM0.out, .refl _ _ _ _⟩
  case round =>
    obtain ⟨k, v1, s1, hk, rfl, hp, hm, hkp⟩ := hrel
    have HPR := Lib.hid hp
    have HMR := Lib.hid hm
    have HKR := Lib.hid hkp
    have HBR := Lib.hid (Nat.le_trans hBw hkp.size)
    have HBL := Lib.hid (hkp.below HP.out hBw)
    clear hp hm hkp
    by_cases hkn : k < n
    · have g2 : (k : Int) < (n : Int) := by omega
      obtain ⟨b2, off, x, rfl, hb, hxk, ht⟩ := (HX.out.keep HBL.out).at hkn
      obtain ⟨x0, x1, x2, x3, x4⟩ := ht
      have HXK := Lib.hid hxk
      have HR := Lib.hid (HOK.out x (List.mem_of_getElem? hxk))
      have HWN := Lib.hid (Whole.new wr rrT (rrA x.s x.d x.t x.c x.l))
      have HPN := Lib.hid (HPR.out.alloc (.cells (rrA x.s x.d x.t x.c x.l) rrT))
      have HBN := Lib.hid (show B ≤ (wr.alloc (.cells (rrA x.s x.d x.t x.c x.l) rrT)).heap.size by rw [World.size_alloc]; have := HBR.out; omega)
      have HKN := Lib.hid (HKR.out.to ((Below.refl wr.heap.size wr).alloc (Nat.le_refl _) (.cells (rrA x.s x.d x.t x.c x.l) rrT)))
      have HTK := Lib.hid (secW_inv rec_codec (T := T) ((xs.take k).map Rrd.toRec) (by
        intro y hy
        obtain ⟨z, hz, rfl⟩ := List.mem_map.1 hy
        exact HOK.out z (List.mem_of_mem_take hz)) HT.out)
      have HSPL := Lib.hid (show secW writeW (xs.map Rrd.toRec) T = secW writeW ((xs.drop k).map Rrd.toRec) (secW writeW ((xs.take k).map Rrd.toRec) T) by rw [← secW_append, ← List.map_append, List.take_append_drop])
      have HRST := Lib.hid (show ∀ y ∈ (xs.drop k).map Rrd.toRec, okR y = true by
        intro y hy
        obtain ⟨z, hz, rfl⟩ := List.mem_map.1 hy
        exact HOK.out z (List.mem_of_mem_drop hz))
      have HNX := Lib.hid (show (xs.take (k + 1)).map Rrd.toRec = (xs.take k).map Rrd.toRec ++ [x.toRec] by rw [List.take_add_one, hxk, List.map_append]; rfl)
      clear hxk
      unfold rrA at *
      by_cases hlong : 65535 < s1.1.length
      · have HE := Lib.hid (show decide (65535 < s1.1.length) = true by simp [hlong])
        have HEND := Lib.hid (HSPL.out ▸ (HMR.out.stop rec_codec ((xs.drop k).map Rrd.toRec) HTK.out HRST.out hlong))
        go_wp2_with fail
        refine (tooLong_any HPN.out).mono ?_
        rw [HE.out]
        rintro e w1 ⟨rfl, rfl⟩
        go_wp2_with fail
        refine bodyPost_ret (results_none rfl _ _ _) rfl ?_
        exact ⟨rfl, v1, s1, HPN.out, HEND.out, HKN.out⟩
      · have HE := Lib.hid (show decide (65535 < s1.1.length) = false by simp [hlong])
        have hst := HMR.out.same hlong
        have HI := Lib.hid HMR.out.1
        have HNEW := Lib.hid (show Mid (secW writeW ((xs.take (k + 1)).map Rrd.toRec) T) (writeW x.toRec s1) by rw [HNX.out, secW_snoc, ← hst]; exact Mid.step rec_codec HI.out HR.out (by omega))
        have hlen : s1.1.length ≤ 65535 := by omega
        obtain ⟨d0, d1, d2, d3, d4⟩ := rr_facts HWN.out
        clear hlong hst
        go_wp2_with fail
        refine (tooLong_any HPN.out).mono ?_
        rw [HE.out]
        rintro e w1 ⟨rfl, rfl⟩
        go_wp2_with fail
        refine (RWrite_yes HPN.out x.s x.d x.toRec (rrd_name x) (rrd_data x) (name_room HR.out) HR.out (by omega) HBN.out HI.out).mono ?_
        rintro e w2 ⟨rfl, v2, h2, k2⟩
        have HP2 := Lib.hid h2
        have HK2 := Lib.hid (HKN.out.trans k2)
        clear h2 k2
        go_wp2_with fail
        go_roundw
        case rel => exact ⟨k + 1, v2, writeW x.toRec s1, by omega, by go_num, HP2.out, HNEW.out, HK2.out⟩
        case measure => simp [intOf]; omega
    · obtain rfl : k = n := by omega
      have HEND := Lib.hid (show Mid (secW writeW (xs.map Rrd.toRec) T) s1 by have := HMR.out; rwa [← HN.out, List.take_length] at this)
      go_wp2_with fail
      go_end0
      exact ⟨rfl, v1, s1, HPR.out, HEND.out, HKR.out⟩

/-- what the packer should hold ahead of section k -/
def tgt (m : Mes) : Nat → WSt
  | 0 => secW queW m.q (headM m, noneK)
  | 1 => secW writeW m.an (secW queW m.q (headM m, noneK))
  | 2 => secW writeW m.ns (secW writeW m.an (secW queW m.q (headM m, noneK)))
  | _ => secW writeW m.ad (secW writeW m.ns (secW writeW m.an (secW queW m.q (headM m, noneK))))
theorem tgt_inv {m : Mes} (h : okM m = true) : ∀ k, InvK (tgt m k).1 (tgt m k).2 := by
  obtain ⟨z1, z2, z3, z4, i1, i2, i3, i4, _⟩ := full_inv h
  intro k
  match k with
  | 0 => exact i1
  | 1 => exact i2
  | 2 => exact i3
  | _ + 3 => exact i4
theorem tgt_full (m : Mes) : tgt m 3 = fullW m := rfl
def encR (m : Mes) : ByteArray × Int := if okM m = true then (if (fullW m).1.length ≤ 65535 then (mk (fullW m).1, 0) else (empty, 3)) else (empty, 1)
set_option maxHeartbeats 8000000 in
set_option maxRecDepth 20000 in
theorem Encode_any (hd : Hd) (x : Mrd) (w : World) (hx : SeesM w w.heap.size x) (hs : SmallM x) :
    Calls Tryz.prog 7 #[.agg (msV hd x)] w fun e w' => e = .returned (.tuple #[.string (encR (x.toMes hd)).1, .int .i64 (encR (x.toMes hd)).2]) ∧ Below w.heap.size w w' := by
  obtain ⟨W, hW⟩ : ∃ W, W = w.alloc (.cells (msV hd x) msT) := ⟨_, rfl⟩
  obtain ⟨g, hg⟩ : ∃ g, g = w.heap.size := ⟨_, rfl⟩
  have HB0 := Lib.hid (show Below w.heap.size w W by rw [hW]; exact (Below.refl _ _).alloc (Nat.le_refl _) _)
  have HW0 := Lib.hid (show Whole W g msT (msV hd x) by rw [hW, hg]; exact Whole.new w msT _)
  have HX := Lib.hid ((hx.keep HB0.out).more HB0.out.size)
  have HS := Lib.hid hs
  have HQN := Lib.hid hx.q.1
  have HAN := Lib.hid hx.a.1
  have HNN := Lib.hid hx.n.1
  have HDN := Lib.hid hx.d.1
  have HWW := Lib.hid hW
  have HG := Lib.hid hg
  have HMV := Lib.hid (show msV hd x = #[.int .i64 hd.id, .bool hd.qr, .int .i64 hd.op, .bool hd.aa, .bool hd.tc, .bool hd.rd, .bool hd.ra, .int .i64 hd.z, .int .i64 hd.rc, .slice x.qA x.qn x.qc, .slice x.aA x.an x.ac, .slice x.nA x.nn x.nc, .slice x.dA x.dn x.dc] from rfl)
  obtain ⟨m, hm⟩ : ∃ m, m = x.toMes hd := ⟨_, rfl⟩
  have HM := Lib.hid hm
  rw [← hm]
  clear hW hg hx hs hm
  have hms : MsCells g hd (.slice x.qA x.qn x.qc) (.slice x.aA x.an x.ac) (.slice x.nA x.nn x.nc) (.slice x.dA x.dn x.dc) W := ms_facts HW0.out
  obtain ⟨c0, c1, c2, c3, c4, c5, c6, c7, c8, c9, c10, c11, c12⟩ := hms
  rw [HMV.out]
  cases hok : okM m with
  | false =>
    have HE := Lib.hid (show encR m = (empty, 1) by unfold encR; rw [hok]; rfl)
    have HOK := Lib.hid hok
    clear hok
    go_enter Tryz.func7, Tryz.ntmps7
    go_wp2_with fail
    rw [← HMV.out, ← HWW.out, ← HG.out]
    refine (Formed_any hd x _ HX.out HS.out).mono ?_
    rw [← HM.out, HOK.out]
    rintro e w1 ⟨rfl, hB⟩
    have HB1 := Lib.hid (HB0.out.trans (hB.mono HB0.out.size))
    clear hB
    go_wp2_with fail
    go_ret2
    exact ⟨by rw [HE.out]; rfl, HB1.out⟩
  | true =>
    have HOK := Lib.hid hok
    have HOK2 := Lib.hid (show okM (x.toMes hd) = true by rw [← HM.out]; exact hok)
    obtain ⟨_, sa, sn, sd, sq⟩ := okM_is hok
    have HSQ := Lib.hid (show ∀ y ∈ x.lq, okQ y.toQue = true from fun y hy => (okSec_is.1 sq).2 _ (by rw [HM.out]; exact List.mem_map.2 ⟨y, hy, rfl⟩))
    have HSA := Lib.hid (show ∀ y ∈ x.la, okR y.toRec = true from fun y hy => (okSec_is.1 sa).2 _ (by rw [HM.out]; exact List.mem_map.2 ⟨y, hy, rfl⟩))
    have HSN := Lib.hid (show ∀ y ∈ x.ln, okR y.toRec = true from fun y hy => (okSec_is.1 sn).2 _ (by rw [HM.out]; exact List.mem_map.2 ⟨y, hy, rfl⟩))
    have HSD := Lib.hid (show ∀ y ∈ x.ld, okR y.toRec = true from fun y hy => (okSec_is.1 sd).2 _ (by rw [HM.out]; exact List.mem_map.2 ⟨y, hy, rfl⟩))
    have lq : x.qn ≤ 65535 := by have := (okSec_is.1 sq).1; rw [HM.out, show (x.toMes hd).q.length = x.lq.length by simp [Mrd.toMes], HQN.out] at this; omega
    have la : x.an ≤ 65535 := by have := (okSec_is.1 sa).1; rw [HM.out, show (x.toMes hd).an.length = x.la.length by simp [Mrd.toMes], HAN.out] at this; omega
    have ln : x.nn ≤ 65535 := by have := (okSec_is.1 sn).1; rw [HM.out, show (x.toMes hd).ns.length = x.ln.length by simp [Mrd.toMes], HNN.out] at this; omega
    have ld : x.dn ≤ 65535 := by have := (okSec_is.1 sd).1; rw [HM.out, show (x.toMes hd).ad.length = x.ld.length by simp [Mrd.toMes], HDN.out] at this; omega
    clear hok sa sn sd sq
    go_enter Tryz.func7, Tryz.ntmps7
    go_wp2_with fail
    rw [← HMV.out, ← HWW.out, ← HG.out]
    refine (Formed_any hd x _ HX.out HS.out).mono ?_
    rw [← HM.out, HOK.out]
    rintro e w1 ⟨rfl, hB⟩
    have HB1 := Lib.hid (HB0.out.trans (hB.mono HB0.out.size))
    have HW1 := Lib.hid (HW0.out.below hB HW0.out.lt)
    have HX1 := Lib.hid ((HX.out.keep hB).more hB.size)
    clear hB c0 c1 c2 c3 c4 c5 c6 c7 c8 c9 c10 c11 c12
    go_wp2_with fail
    refine (New_any _).mono ?_
    rintro e w2 ⟨b, mm, rfl, hp2, hB⟩
    obtain ⟨B, hBB⟩ : ∃ B, B = w1.heap.size := ⟨_, rfl⟩
    have HB2 := Lib.hid (HB1.out.trans (hB.mono HB1.out.size))
    have HX2 := Lib.hid (show SeesM w2 B x by rw [hBB]; exact HX1.out.keep hB)
    have HW2 := Lib.hid (HW1.out.below hB HW1.out.lt)
    have HGB := Lib.hid (show g < B by rw [hBB]; exact HW1.out.lt)
    have HWB := Lib.hid (show w.heap.size ≤ B by rw [hBB]; exact HB1.out.size)
    have HBS := Lib.hid (show B ≤ w2.heap.size by rw [hBB]; exact hB.size)
    have HP2 := Lib.hid (show Pk B w2 b mm (.slice none 0 0) [] noneK 0 by rw [hBB]; exact hp2)
    clear hp2 hB hBB
    have hms : MsCells g hd (.slice x.qA x.qn x.qc) (.slice x.aA x.an x.ac) (.slice x.nA x.nn x.nc) (.slice x.dA x.dn x.dc) w2 := ms_facts HW2.out
    obtain ⟨c0, c1, c2, c3, c4, c5, c6, c7, c8, c9, c10, c11, c12⟩ := hms
    go_wp2_with fail
    rw [← HMV.out]
    refine (mwriteHead_any HP2.out hd x HOK2.out HQN.out HAN.out HNN.out HDN.out (by simp) HBS.out).mono ?_
    rw [← HM.out]
    rintro e w3 ⟨rfl, v3, hp3, hk3⟩
    have HP3 := Lib.hid (show Pk B w3 b mm v3 (headM m) noneK (headM m).length from hp3.more (Nat.zero_le _))
    have HL3 := Lib.hid (hk3.below HP2.out HBS.out)
    have HS3 := Lib.hid (Nat.le_trans HBS.out HL3.out.size)
    clear hp3 hk3 c0 c1 c2 c3 c4 c5 c6 c7 c8 c9 c10 c11 c12
    obtain ⟨_, _, _, _, _, _, _, _, _, c9, c10, c11, c12⟩ := ms_facts (HW2.out.below HL3.out HGB.out)
    have HMID := Lib.hid (show Mid (headM m, noneK) (headM m, noneK) from ⟨noneK_inv _, by simp [headM_len], .inl rfl⟩)
    go_wp2_with fail
    refine (writeSecQ_any (st := (headM m, noneK)) HP3.out HMID.out (noneK_inv _) x.qA x.qn x.qc x.lq (HX2.out.keep HL3.out).q HSQ.out lq HS3.out).mono ?_
    rintro e w4 ⟨rfl, v4, st4, hp4, hm4, hk4⟩
    have HP4 := Lib.hid hp4
    have HL4 := Lib.hid (HL3.out.trans (hk4.below HP3.out HS3.out))
    have HS4 := Lib.hid (Nat.le_trans HBS.out HL4.out.size)
    have HM4 := Lib.hid (show Mid (tgt m 0) st4 by rw [HM.out] at hm4 ⊢; exact hm4)
    clear hp4 hm4 hk4 c9 c10 c11 c12
    go_wp2_with fail
    refine (sectionsOf_any g _).mono ?_
    rintro e w5 ⟨rfl, hB5⟩
    have HP5 := Lib.hid (HP4.out.same hB5)
    have HL5 := Lib.hid (HL4.out.trans (hB5.mono HS4.out))
    have HS5 := Lib.hid (Nat.le_trans HBS.out HL5.out.size)
    clear hB5
    go_wp2_with fail
    go_loopw [6, 19] (fun _ i wr => ∃ (k : Nat) (v1 : Value) (s1 : WSt), k ≤ 3 ∧ i = .int .i64 (k : Nat) ∧ Pk B wr b mm v1 s1.1 s1.2 s1.1.length ∧ Mid (tgt m k) s1 ∧ Below B w2 wr) (fun _ i _ => 3 - (intOf i).toNat)
    case atStart => exact ⟨0, v4, st4, by omega, rfl, HP5.out, HM4.out, HL5.out⟩
    case round =>
      obtain ⟨k, v1, s1, hk, rfl, hp, hmid, hbl⟩ := hrel
      have HPR := Lib.hid hp
      have HMR := Lib.hid hmid
      have HLR := Lib.hid hbl
      have HSR := Lib.hid (Nat.le_trans HBS.out hbl.size)
      have HXR := Lib.hid (HX2.out.keep hbl)
      obtain ⟨_, _, _, _, _, _, _, _, _, c9, c10, c11, c12⟩ := ms_facts (HW2.out.below hbl HGB.out)
      clear hp hmid hbl
      rcases (show k = 0 ∨ k = 1 ∨ k = 2 ∨ k = 3 by omega) with rfl | rfl | rfl | rfl
      · go_wp2_with fail
        refine (writeSecR_any HPR.out HMR.out (tgt_inv HOK.out 0) x.aA x.an x.ac x.la HXR.out.a HSA.out la HSR.out).mono ?_
        rintro e w6 ⟨rfl, v6, st6, hp6, hm6, hk6⟩
        have HP6 := Lib.hid hp6
        have HL6 := Lib.hid (HLR.out.trans (hk6.below HPR.out HSR.out))
        have HM6 := Lib.hid (show Mid (tgt m 1) st6 by rw [HM.out] at hm6 ⊢; exact hm6)
        clear hp6 hm6 hk6 c9 c10 c11 c12
        go_wp2_with fail
        go_roundw
        case rel => exact ⟨1, v6, st6, by omega, rfl, HP6.out, HM6.out, HL6.out⟩
        case measure => simp [intOf]
      · go_wp2_with fail
        refine (writeSecR_any HPR.out HMR.out (tgt_inv HOK.out 1) x.nA x.nn x.nc x.ln HXR.out.n HSN.out ln HSR.out).mono ?_
        rintro e w6 ⟨rfl, v6, st6, hp6, hm6, hk6⟩
        have HP6 := Lib.hid hp6
        have HL6 := Lib.hid (HLR.out.trans (hk6.below HPR.out HSR.out))
        have HM6 := Lib.hid (show Mid (tgt m 2) st6 by rw [HM.out] at hm6 ⊢; exact hm6)
        clear hp6 hm6 hk6 c9 c10 c11 c12
        go_wp2_with fail
        go_roundw
        case rel => exact ⟨2, v6, st6, by omega, rfl, HP6.out, HM6.out, HL6.out⟩
        case measure => simp [intOf]
      · go_wp2_with fail
        refine (writeSecR_any HPR.out HMR.out (tgt_inv HOK.out 2) x.dA x.dn x.dc x.ld HXR.out.d HSD.out ld HSR.out).mono ?_
        rintro e w6 ⟨rfl, v6, st6, hp6, hm6, hk6⟩
        have HP6 := Lib.hid hp6
        have HL6 := Lib.hid (HLR.out.trans (hk6.below HPR.out HSR.out))
        have HM6 := Lib.hid (show Mid (tgt m 3) st6 by rw [HM.out] at hm6 ⊢; exact hm6)
        clear hp6 hm6 hk6 c9 c10 c11 c12
        go_wp2_with fail
        go_roundw
        case rel => exact ⟨3, v6, st6, by omega, rfl, HP6.out, HM6.out, HL6.out⟩
        case measure => simp [intOf]
      · clear c9 c10 c11 c12
        by_cases hlong : 65535 < s1.1.length
        · have HE := Lib.hid (show decide (65535 < s1.1.length) = true by simp [hlong])
          have HENC := Lib.hid (show encR m = (empty, 3) by
            unfold encR
            rw [if_pos HOK.out, if_neg]
            rcases HMR.out.2.2 with e | e
            · rw [← tgt_full, ← e]; omega
            · rw [← tgt_full]; omega)
          go_wp2_with fail
          refine (tooLong_any HPR.out).mono ?_
          rw [HE.out]
          rintro e w7 ⟨rfl, rfl⟩
          go_wp2_with fail
          go_ret2
          exact ⟨by rw [HENC.out]; rfl, HB2.out.trans (HLR.out.mono HWB.out)⟩
        · have HE := Lib.hid (show decide (65535 < s1.1.length) = false by simp [hlong])
          have hst := HMR.out.same hlong
          have HENC := Lib.hid (show encR m = (mk s1.1, 0) by
            unfold encR
            rw [if_pos HOK.out, hst, tgt_full, if_pos (by rw [← tgt_full, ← hst]; omega)])
          clear hlong hst
          go_wp2_with fail
          refine (tooLong_any HPR.out).mono ?_
          rw [HE.out]
          rintro e w7 ⟨rfl, rfl⟩
          go_wp2_with fail
          refine (Bytes_any HPR.out).mono ?_
          rintro e w8 ⟨rfl, _, hk8⟩
          have HL8 := Lib.hid (HLR.out.trans (hk8.below HPR.out HSR.out))
          clear hk8
          go_wp2_with fail
          go_ret2
          exact ⟨by rw [HENC.out]; rfl, HB2.out.trans (HL8.out.mono HWB.out)⟩
end Go.Proofs.YtokjmefleanjaaaGreat
