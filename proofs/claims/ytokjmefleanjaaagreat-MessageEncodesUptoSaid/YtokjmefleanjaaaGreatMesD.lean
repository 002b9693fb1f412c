/- writeHead, writeQuestion of the program. No statement of the seat is proved here. -/
import Derived.Test.YtokjmefleanjaaaGreatMesC
import Derived.Test.YtokjmefleanjaaaGreatReI
namespace Go.Proofs.YtokjmefleanjaaaGreat
open Go.RowKit Go.Op Go.Maps
attribute [local go_sem] sec_0 sec_1 sec_2

/-- all cells of a message in block g, as the walk reads them -/
abbrev MsCells (g : Nat) (h : Hd) (q a n d : Value) (w : World) : Prop :=
    w.cell? ⟨g, 0, none⟩ = some (.int .i64 h.id) ∧ w.cell? ⟨g, 1, none⟩ = some (.bool h.qr) ∧ w.cell? ⟨g, 2, none⟩ = some (.int .i64 h.op) ∧ w.cell? ⟨g, 3, none⟩ = some (.bool h.aa) ∧
    w.cell? ⟨g, 4, none⟩ = some (.bool h.tc) ∧ w.cell? ⟨g, 5, none⟩ = some (.bool h.rd) ∧ w.cell? ⟨g, 6, none⟩ = some (.bool h.ra) ∧ w.cell? ⟨g, 7, none⟩ = some (.int .i64 h.z) ∧
    w.cell? ⟨g, 8, none⟩ = some (.int .i64 h.rc) ∧ w.cell? ⟨g, 9, none⟩ = some q ∧ w.cell? ⟨g, 10, none⟩ = some a ∧ w.cell? ⟨g, 11, none⟩ = some n ∧ w.cell? ⟨g, 12, none⟩ = some d
theorem join_msg {m : Mes} (h : okM m = true) : joinR [m.h.id, (bitsH m.h : Nat), (m.q.length : Nat), (m.an.length : Nat), (m.ns.length : Nat), (m.ad.length : Nat)] [2, 2, 2, 2, 2, 2] = (mk (headM m), 0) := by
  obtain ⟨hh, ha, hn, hd, hq⟩ := okM_is h
  have hid := (okH_is hh).1
  have hb := bits_lt hh
  have la := (okSec_is.1 ha).1
  have ln := (okSec_is.1 hn).1
  have ld := (okSec_is.1 hd).1
  have lq := (okSec_is.1 hq).1
  have e2 : ((2 : Int)).toNat = 2 := rfl
  have fit : ∀ n : Nat, n ≤ 65535 → fitB n 2 = true := fun n hn => by unfold fitB; rw [decide_eq_true_eq]; omega
  refine joinR_some (by decide) rfl ?_
  simp only [joinF, e2, Int.toNat_natCast, fit m.h.id.toNat (by omega), fit (bitsH m.h) (by omega), fit m.q.length lq, fit m.an.length la, fit m.ns.length ln, fit m.ad.length ld, if_true, Option.map_some, List.append_nil]
  rfl
section
variable {B b m c0 : Nat} {w w' : World} {v v' : Value} {l : List UInt8} {K : Kn}
set_option maxHeartbeats 8000000 in
set_option maxRecDepth 20000 in
theorem mwriteHead_any (h : Pk B w b m v l K c0) (hd : Hd) (x : Mrd) (hok : okM (x.toMes hd) = true) (hq : x.lq.length = x.qn) (ha : x.la.length = x.an) (hn : x.ln.length = x.nn) (hdd : x.ld.length = x.dn) (hlen : l.length + 12 ≤ 1000000000) (hBw : B ≤ w.heap.size) :
    Calls Tryz.prog 14 #[pkP b, .agg (msV hd x)] w fun e w' => e = .returned (.tuple #[]) ∧ ∃ v', Pk B w' b m v' (l ++ headM (x.toMes hd)) K c0 ∧ Kp b m v v' w w' := by
  have HJ := Lib.hid (join_msg hok)
  obtain ⟨hh, sa, sn, sd, sq⟩ := okM_is hok
  have hid : 0 ≤ hd.id ∧ hd.id ≤ 65535 := (okH_is hh).1
  have lq : x.qn ≤ 65535 := by have := (okSec_is.1 sq).1; rw [show (x.toMes hd).q.length = x.lq.length by simp [Mrd.toMes]] at this; omega
  have la : x.an ≤ 65535 := by have := (okSec_is.1 sa).1; rw [show (x.toMes hd).an.length = x.la.length by simp [Mrd.toMes]] at this; omega
  have ln : x.nn ≤ 65535 := by have := (okSec_is.1 sn).1; rw [show (x.toMes hd).ns.length = x.ln.length by simp [Mrd.toMes]] at this; omega
  have ld : x.dn ≤ 65535 := by have := (okSec_is.1 sd).1; rw [show (x.toMes hd).ad.length = x.ld.length by simp [Mrd.toMes]] at this; omega
  have HH := Lib.hid hh
  have HQ := Lib.hid hq
  have HAA := Lib.hid ha
  have HNN := Lib.hid hn
  have HDD := Lib.hid hdd
  obtain ⟨W, hW⟩ : ∃ W, W = w.alloc (.cells (msV hd x) msT) := ⟨_, rfl⟩
  obtain ⟨g, hg⟩ : ∃ g, g = w.heap.size := ⟨_, rfl⟩
  have HB0 := Lib.hid (show Below w.heap.size w W by rw [hW]; exact (Below.refl _ _).alloc (Nat.le_refl _) _)
  have HW0 := Lib.hid (show Whole W g msT (msV hd x) by rw [hW, hg]; exact Whole.new w msT _)
  have HWW := Lib.hid hW
  have HG := Lib.hid hg
  have HP := Lib.hid h
  clear hW hg h hh hok hq ha hn hdd sa sn sd sq
  have hw0 : IntKind.u64.wrap hd.id = hd.id := by rw [IntKind.wrap_u64]; omega
  have hw1 : IntKind.u64.wrap (x.qn : Int) = (x.qn : Int) := by rw [IntKind.wrap_u64]; omega
  unfold msV at *
  have hms : MsCells g hd (.slice x.qA x.qn x.qc) (.slice x.aA x.an x.ac) (.slice x.nA x.nn x.nc) (.slice x.dA x.dn x.dc) W := ms_facts HW0.out
  obtain ⟨c0, c1, c2, c3, c4, c5, c6, c7, c8, c9, c10, c11, c12⟩ := hms
  unfold msA at *
  go_enter Tryz.func14, Tryz.ntmps14
  go_wp2_with fail
  rw [← HWW.out, ← HG.out]
  go_region_held3 (fun w' => w'.cell? ⟨g, 0, none⟩ = some (.int .i64 hd.id) ∧ w'.cell? ⟨g, 1, none⟩ = some (.bool hd.qr) ∧ w'.cell? ⟨g, 2, none⟩ = some (.int .i64 hd.op) ∧ w'.cell? ⟨g, 3, none⟩ = some (.bool hd.aa) ∧ w'.cell? ⟨g, 4, none⟩ = some (.bool hd.tc) ∧ w'.cell? ⟨g, 5, none⟩ = some (.bool hd.rd) ∧ w'.cell? ⟨g, 6, none⟩ = some (.bool hd.ra) ∧ w'.cell? ⟨g, 7, none⟩ = some (.int .i64 hd.z) ∧ w'.cell? ⟨g, 8, none⟩ = some (.int .i64 hd.rc) ∧ w'.cell? ⟨g, 9, none⟩ = some (.slice x.qA x.qn x.qc) ∧ w'.cell? ⟨g, 10, none⟩ = some (.slice x.aA x.an x.ac) ∧ w'.cell? ⟨g, 11, none⟩ = some (.slice x.nA x.nn x.nc) ∧ w'.cell? ⟨g, 12, none⟩ = some (.slice x.dA x.dn x.dc)) (go_keep) (first
    | (go_at_call 40; (refine (bitsOf_any hd (.slice x.qA x.qn x.qc) (.slice x.aA x.an x.ac) (.slice x.nA x.nn x.nc) (.slice x.dA x.dn x.dc) _ HH.out).mono ?_; rintro e w1 ⟨rfl, hB1⟩; have hB1 := (Below.refl _ _).drew.trans hB1; have hw1 := HW0.out.below hB1 HW0.out.lt; obtain ⟨k0, k1, k2, k3, k4, k5, k6, k7, k8, k9, k10, k11, k12⟩ := ms_facts hw1)))
  all_goals (
    have HB1 := Lib.hid (HB0.out.trans (Below.mono (B := W.heap.size) hB1 HB0.out.size))
    have HBW := Lib.hid (show Below W.heap.size W w1 from hB1)
    have HW1 := Lib.hid hw1
    clear hB1 hw1 c0 c1 c2 c3 c4 c5 c6 c7 c8 c9 c10 c11 c12 k0 k1 k2 k3 k4 k5 k6 k7 k8 k9 k10 k11 k12 hw0
    obtain ⟨vals, hvals⟩ : ∃ vals : List Int, vals = [hd.id, (bitsH hd : Nat), (x.qn : Nat), (x.an : Nat), (x.nn : Nat), (x.dn : Nat)] := ⟨_, rfl⟩
    have hown : (w1.alloc (.cells #[.int .u64 hd.id, .int .u64 (bitsH hd : Nat), .int .u64 (x.qn : Nat)] 74)).ownsRow w1.heap.size 74 1 (.slice (some ⟨w1.heap.size, 0, none⟩) 3 3) 3 (ints .u64 (vals.take 3)) := by
      have := World.ownsRow_lit (base := w1.heap.size) (e := 74) (size := 1) w1 #[.int .u64 hd.id, .int .u64 (bitsH hd : Nat), .int .u64 (x.qn : Nat)] 3 (Nat.le_refl _) (by decide) rfl
      rw [hvals]; exact this
    have HO := Lib.hid hown
    have HBX := Lib.hid (show Below w1.heap.size w1 (w1.alloc (.cells #[.int .u64 hd.id, .int .u64 (bitsH hd : Nat), .int .u64 (x.qn : Nat)] 74)) from (Below.refl _ _).alloc (Nat.le_refl _) _)
    have HV := Lib.hid hvals
    clear hown hvals
    obtain ⟨i0, hi0, hz0, hz1, hz2⟩ := info_parts u64_info
    go_wp2_with fail
    obtain ⟨w2, hw2⟩ : ∃ w2, w2 = w1.alloc (.cells #[.int .u64 hd.id, .int .u64 (bitsH hd : Nat), .int .u64 (x.qn : Nat)] 74) := ⟨_, rfl⟩
    rw [← hw2] at HO HBX ⊢
    clear hw2
    refine (sectionsOf_any g _).mono ?_
    rintro e w3 ⟨rfl, hB3⟩
    have HO3 := Lib.hid (own_below HO.out hB3)
    have HB3 := Lib.hid (HBX.out.trans (hB3.mono HBX.out.size))
    clear hB3
    go_wp2_with fail
    go_loopw [4, 20] (fun vv i wr => ∃ k : Nat, k ≤ 3 ∧ i = .int .i64 (k : Nat) ∧ wr.ownsRow w1.heap.size 74 1 vv (3 + k) (ints .u64 (vals.take (3 + k))) ∧ Below w1.heap.size w1 wr) (fun _ i _ => 3 - (intOf i).toNat)
    case atStart => exact ⟨0, by omega, rfl, HO3.out, HB3.out⟩
    case round =>
      obtain ⟨k, hk, rfl, ho, hB⟩ := hrel
      obtain ⟨A4, cA4, rfl, hsee⟩ := Sees.own ho
      have HO4 := Lib.hid ho
      have HSE := Lib.hid hsee
      have HBR := Lib.hid hB
      have HWR := Lib.hid (HW1.out.below hB HW1.out.lt)
      clear ho hB hsee
      obtain ⟨_, _, _, _, _, _, _, _, _, c9, c10, c11, c12⟩ := ms_facts HWR.out
      rcases (show k = 0 ∨ k = 1 ∨ k = 2 ∨ k = 3 by omega) with rfl | rfl | rfl | rfl
      · have hwx : IntKind.u64.wrap (x.an : Int) = (x.an : Int) := by rw [IntKind.wrap_u64]; omega
        have HE := Lib.hid (show ints .u64 (vals.take 3) ++ [.int .u64 (x.an : Nat)] = ints .u64 (vals.take 4) by rw [HV.out]; rfl)
        go_wp2_with (at_builtin; refine wpList_append_own _ rfl _ _ 69 rfl w1.heap.size 74 i0 (.int .u64 0) 1 8 Tryz.underlying69 hi0 hz0 hz1 hz2 rfl (by decide) _ _ _ rfl (HO4.out.alloc _) ⟨wr.heap.size, 0, none⟩ 1 1 [.int .u64 (x.an : Nat)] rfl rfl (news1 _ _ _) (one1 _ rfl) (by unfold maxLen; omega) (by omega) (by have := HBR.out.size; simp; omega) ?_)
        intro v2 w4 hown2 hgrow _
        have HB4 := Lib.hid ((HBR.out.alloc HBR.out.size (.cells #[.int .u64 (x.an : Nat)] 74)).grown hgrow (by have := HBR.out.size; simp; omega) (fun j hj => (HO4.out.lt j hj).1))
        rw [HE.out] at hown2
        have HO5 := Lib.hid hown2
        clear hown2 hgrow c9 c10 c11 c12
        go_wp2_with fail
        go_roundw
        case rel => exact ⟨1, by omega, rfl, HO5.out, HB4.out⟩
        case measure => simp [intOf]
      · have hwx : IntKind.u64.wrap (x.nn : Int) = (x.nn : Int) := by rw [IntKind.wrap_u64]; omega
        have HE := Lib.hid (show ints .u64 (vals.take 4) ++ [.int .u64 (x.nn : Nat)] = ints .u64 (vals.take 5) by rw [HV.out]; rfl)
        go_wp2_with (at_builtin; refine wpList_append_own _ rfl _ _ 69 rfl w1.heap.size 74 i0 (.int .u64 0) 1 8 Tryz.underlying69 hi0 hz0 hz1 hz2 rfl (by decide) _ _ _ rfl (HO4.out.alloc _) ⟨wr.heap.size, 0, none⟩ 1 1 [.int .u64 (x.nn : Nat)] rfl rfl (news1 _ _ _) (one1 _ rfl) (by unfold maxLen; omega) (by omega) (by have := HBR.out.size; simp; omega) ?_)
        intro v2 w4 hown2 hgrow _
        have HB4 := Lib.hid ((HBR.out.alloc HBR.out.size (.cells #[.int .u64 (x.nn : Nat)] 74)).grown hgrow (by have := HBR.out.size; simp; omega) (fun j hj => (HO4.out.lt j hj).1))
        rw [HE.out] at hown2
        have HO5 := Lib.hid hown2
        clear hown2 hgrow c9 c10 c11 c12
        go_wp2_with fail
        go_roundw
        case rel => exact ⟨2, by omega, rfl, HO5.out, HB4.out⟩
        case measure => simp [intOf]
      · have hwx : IntKind.u64.wrap (x.dn : Int) = (x.dn : Int) := by rw [IntKind.wrap_u64]; omega
        have HE := Lib.hid (show ints .u64 (vals.take 5) ++ [.int .u64 (x.dn : Nat)] = ints .u64 (vals.take 6) by rw [HV.out]; rfl)
        go_wp2_with (at_builtin; refine wpList_append_own _ rfl _ _ 69 rfl w1.heap.size 74 i0 (.int .u64 0) 1 8 Tryz.underlying69 hi0 hz0 hz1 hz2 rfl (by decide) _ _ _ rfl (HO4.out.alloc _) ⟨wr.heap.size, 0, none⟩ 1 1 [.int .u64 (x.dn : Nat)] rfl rfl (news1 _ _ _) (one1 _ rfl) (by unfold maxLen; omega) (by omega) (by have := HBR.out.size; simp; omega) ?_)
        intro v2 w4 hown2 hgrow _
        have HB4 := Lib.hid ((HBR.out.alloc HBR.out.size (.cells #[.int .u64 (x.dn : Nat)] 74)).grown hgrow (by have := HBR.out.size; simp; omega) (fun j hj => (HO4.out.lt j hj).1))
        rw [HE.out] at hown2
        have HO5 := Lib.hid hown2
        clear hown2 hgrow c9 c10 c11 c12
        go_wp2_with fail
        go_roundw
        case rel => exact ⟨3, by omega, rfl, HO5.out, HB4.out⟩
        case measure => simp [intOf]
      · have HU := Lib.hid (show U64s vals from by
          rw [HV.out]
          intro z hz
          have := bits_lt HH.out
          simp [Mrd.toMes] at this
          simp at hz
          omega)
        have HE := Lib.hid (show vals = [(x.toMes hd).h.id, (bitsH (x.toMes hd).h : Nat), ((x.toMes hd).q.length : Nat), ((x.toMes hd).an.length : Nat), ((x.toMes hd).ns.length : Nat), ((x.toMes hd).ad.length : Nat)] by
          rw [HV.out]
          simp [Mrd.toMes, HQ.out, HAA.out, HNN.out, HDD.out])
        have HT := Lib.hid (show vals.take (3 + 3) = vals by rw [HV.out]; rfl)
        clear c9 c10 c11 c12 hw1
        go_wp2_with fail
        refine (mheadWidths_any _).mono ?_
        rintro e w5 ⟨g5, rfl, hs5, hB5⟩
        have HS5 := Lib.hid hs5
        have HSV := Lib.hid (HSE.out.below hB5)
        have HB5 := Lib.hid (HB1.out.trans ((HBR.out.trans (hB5.mono HBR.out.size)).mono HB1.out.size))
        have hlt := hB5.size
        clear hs5 hB5
        go_wp2_with fail
        refine (Join_any A4 (some ⟨g5, 0, none⟩) 6 6 cA4 6 _ _ vals [2, 2, 2, 2, 2, 2] _ (by have := HSV.out; rw [HT.out] at this; exact this) HS5.out hlt (Nat.le_refl _) (by decide) (by decide) HU.out).mono ?_
        rintro e w6 ⟨he, hB6⟩
        rw [HE.out, HJ.out] at he
        subst he
        have HB6 := Lib.hid (HB5.out.trans (hB6.mono HB5.out.size))
        have HP6 := Lib.hid (HP.out.same HB6.out)
        clear hB6
        go_wp2_with fail
        refine (Raw_any HP6.out _ (by rw [mk_size, headM_len]; omega) (Nat.le_trans hBw HB6.out.size)).mono ?_
        rintro e w7 ⟨rfl, v', h1, h2⟩
        go_wp2_with fail
        go_end0
        exact ⟨rfl, v', h1, (Kp.of_below HB6.out).trans h2⟩)

theorem join_que {q : Que} (h : okQ q = true) : joinR [q.t, q.c] [2, 2] = (mk (be q.t.toNat 2 ++ be q.c.toNat 2), 0) := by
  obtain ⟨_, ht, hc⟩ := okQ_is h
  have e2 : ((2 : Int)).toNat = 2 := rfl
  have fit : ∀ n : Nat, n ≤ 65535 → fitB n 2 = true := fun n hn => by unfold fitB; rw [decide_eq_true_eq]; omega
  refine joinR_some (by decide) rfl ?_
  simp only [joinF, e2, fit q.t.toNat (by omega), fit q.c.toNat (by omega), if_true, Option.map_some, List.append_nil]
theorem sees_duo {W : World} {g ty : Nat} {x y : Int} (h : Whole W g ty #[.int .u64 x, .int .u64 y]) : Sees W (g + 1) (some ⟨g, 0, none⟩) 2 (ints .u64 [x, y]) := sees_whole h
set_option maxHeartbeats 8000000 in
set_option maxRecDepth 20000 in
theorem writeQue_any (h : Pk B w b m v l K l.length) (N : ByteArray) (q : Que) (hN : N = mk q.n) (hok : okQ q = true) (hl : l.length ≤ 600000) (hBw : B ≤ w.heap.size) (hK : InvK l K) :
    Calls Tryz.prog 16 #[pkP b, .agg (quA N q.t q.c)] w fun e w' => e = .returned (.int .i64 0) ∧ ∃ v', Pk B w' b m v' (queW q (l, K)).1 (queW q (l, K)).2 (queW q (l, K)).1.length ∧ Kp b m v v' w w' := by
  obtain ⟨⟨L, hL⟩, ht, hc⟩ := okQ_is hok
  have hnw : nameW q.n (l, K) = putL true L l K := by unfold nameW; rw [hL]
  obtain ⟨_, ⟨z, hz, _, hz2⟩, _⟩ := name_inv hL (st := (l, K)) hK
  obtain ⟨l1, K1, h1⟩ : ∃ l1 K1, putL true L l K = (l1, K1) := ⟨_, _, rfl⟩
  rw [hnw, h1] at hz
  have hl1 : l1.length ≤ 600255 := by
    have := congrArg List.length hz
    simp only [List.length_append] at this
    omega
  have hqw : queW q (l, K) = (l1 ++ (be q.t.toNat 2 ++ be q.c.toNat 2), K1) := by unfold queW; rw [hnw, h1]
  have hKt : ∀ r t, K r = some t → t < 16384 := fun r t h => (hK r t h).2.1
  have HJ := Lib.hid (join_que hok)
  have HQW := Lib.hid hqw
  have H1 := Lib.hid h1
  have HKT := Lib.hid hKt
  have HLN := Lib.hid hL
  have HN := Lib.hid hN
  have hb0 : Below w.heap.size w (w.alloc (.cells (quA N q.t q.c) quT)) := (Below.refl _ _).alloc (Nat.le_refl _) _
  have HH := Lib.hid (h.same hb0)
  have HB0 := Lib.hid hb0
  have HW0 := Lib.hid (Whole.new w quT (quA N q.t q.c))
  have u1 : IntKind.u64.wrap q.t = q.t := by rw [IntKind.wrap_u64]; omega
  have u2 : IntKind.u64.wrap q.c = q.c := by rw [IntKind.wrap_u64]; omega
  have HU := Lib.hid (show U64s [q.t, q.c] from by intro z hz; simp at hz; omega)
  obtain ⟨c0, _, _⟩ := qu_facts HW0.out
  clear h hL hnw hz h1 hqw hKt hN hb0 hz2
  unfold quA at *
  go_enter Tryz.func16, Tryz.ntmps16
  go_wp2_with fail
  refine (Name_yes HH.out N q.n L true HN.out HLN.out (by omega) (Nat.le_trans hBw HB0.out.size) HKT.out).mono ?_
  rw [H1.out]
  rintro e w1 ⟨rfl, v1, h1, k1⟩
  have HP1 := Lib.hid h1
  have HW1 := Lib.hid (k1.whole HW0.out HH.out (by decide) (by decide))
  have HK1 := Lib.hid ((Kp.of_below (b := b) (m := m) (v := v) HB0.out).trans k1)
  have hs1 : B ≤ w1.heap.size := Nat.le_trans (Nat.le_trans hBw HB0.out.size) k1.size
  clear h1 k1 c0
  obtain ⟨_, c1, c2⟩ := qu_facts HW1.out
  go_wp2_with fail
  go_region_held3 (fun w' => w'.cell? ⟨w.heap.size, 1, none⟩ = some (.int .i64 q.t) ∧ w'.cell? ⟨w.heap.size, 2, none⟩ = some (.int .i64 q.c)) (go_keep) (first
    | (go_at_call 45; (refine (queWidths_any _).mono ?_; rintro e w2 ⟨g2, rfl, hs2, hB2⟩; have hB2 := (Below.refl _ _).drew.trans hB2; (first
        | (have hq : Below _ w1 w2 := (by with_reducible exact hB2); have hw2 := HW1.out.below hq HW1.out.lt; have HB2 := Lib.hid hq; obtain ⟨_, k1, k2⟩ := qu_facts hw2)
        | (have hq : Below _ (w1.alloc (.cells #[.int .u64 q.t, .int .u64 q.c] 74)) w2 := (by with_reducible exact hB2); have hw1' := HW1.out.alloc (.cells #[.int .u64 q.t, .int .u64 q.c] 74); have hw2 := hw1'.below hq hw1'.lt; have hu0 := Whole.new w1 74 #[.int .u64 q.t, .int .u64 q.c]; have hu1 := hu0.below hq hu0.lt; have HB2 := Lib.hid (((Below.refl w1.heap.size w1).alloc (Nat.le_refl _) (.cells #[.int .u64 q.t, .int .u64 q.c] 74)).trans (hq.mono (by first | (simp; omega) | simp | omega))); obtain ⟨_, k1, k2⟩ := qu_facts hw2))))
    | (go_at_call 41; (first
        | (refine (Join_any _ _ 2 2 2 2 _ _ [q.t, q.c] [2, 2] _ (sees_duo hu1) hs2 (Nat.succ_le_of_lt hu1.lt) (Nat.le_refl _) (by decide) (by decide) HU.out).mono ?_; rintro e w3 ⟨he, hB3⟩; rw [HJ.out] at he; subst he; have HB3 := Lib.hid (HB2.out.trans (hB3.mono HB2.out.size)); obtain ⟨_, z1, z2⟩ := qu_facts (HW1.out.below HB3.out HW1.out.lt))
        | (refine (Join_any _ _ 2 2 2 2 _ _ [q.t, q.c] [2, 2] _ (sees_duo (Whole.new w2 74 #[.int .u64 q.t, .int .u64 q.c])) (hs2.below ((Below.refl _ _).alloc (Nat.le_refl _) _)) (by simp) (by simp) (by decide) (by decide) HU.out).mono ?_; rintro e w3 ⟨he, hB3⟩; rw [HJ.out] at he; subst he; have HB3 := Lib.hid ((HB2.out.alloc HB2.out.size (.cells #[.int .u64 q.t, .int .u64 q.c] 74)).trans (hB3.mono (by have := HB2.out.size; first | (simp; omega) | simp | omega))); obtain ⟨_, z1, z2⟩ := qu_facts (HW1.out.below HB3.out HW1.out.lt)))))
  all_goals (
    have HP3 := Lib.hid (HP1.out.same HB3.out)
    have hs3 : B ≤ w3.heap.size := Nat.le_trans hs1 HB3.out.size
    have HK3 := Lib.hid (HK1.out.to HB3.out)
    clear hB3 hB2
    go_wp2_with fail
    refine (Raw_any HP3.out _ (by rw [mk_size]; simp [be_length]; omega) hs3).mono ?_
    rintro e w4 ⟨rfl, v', h1, h2⟩
    have h1' := h1.more (c' := (l1 ++ (be q.t.toNat 2 ++ be q.c.toNat 2)).length) (by rw [List.length_append]; omega)
    have HR := Lib.hid h1'
    have HK4 := Lib.hid (HK3.out.trans h2)
    clear h1 h2 h1'
    go_wp2_with fail
    go_ret
    exact ⟨rfl, v', by rw [HQW.out]; exact HR.out, HK4.out⟩)
end
end Go.Proofs.YtokjmefleanjaaaGreat
