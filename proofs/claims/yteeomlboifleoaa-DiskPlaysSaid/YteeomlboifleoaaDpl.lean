/- The law DiskPlays, walked. No statement of the seat is proved here. -/
import Derived.Test.YteeomlboifleoaaRefO
namespace Go.Proofs.Yteeomlboifleoaa
open Go.RowKit Go.Maps Go.Sort
set_option linter.unusedVariables false

theorem RAt.kept2 {B : Nat} {w w' : World} {L : Ls} {q l : Int} {dn : Bool} {S : St} (h : RAt w L q l dn S) (hk : Kept B w w') : RAt w' L q l dn S :=
  ⟨hk.own h.files (by decide), hk.own h.names (by decide), hk.own h.safe (by decide), hk.own h.pend (by decide), h.eq, h.el, h.lo, h.ed⟩
theorem At.rowD {B d : Nat} {m : Mem} {S : St} {w w' : World} {r : Option Nat} (h : At B w d m S) (hg : w.grownBy w' r) (ht : ∀ g, r = some g → typ w.heap[g]? = 33) : At B w' d m S :=
  ⟨h.dB, h.nB, h.sB, h.ne, h.disk.keepT hg (fun x hx => by rw [ht x hx]; decide), map_keepT h.names hg (fun x hx => by rw [ht x hx]; decide), map_keepT h.safe hg (fun x hx => by rw [ht x hx]; decide),
    own_keepT h.pend hg (fun x hx => by rw [ht x hx]; decide), h.files.keep hg (fun x hx => by rw [ht x hx]; decide)⟩
theorem Live.rowD {B d k M : Nat} {S : St} {w w' : World} {r : Option Nat} (h : Live B w d k M S) (hg : w.grownBy w' r) (ht : ∀ g, r = some g → typ w.heap[g]? = 33) : Live B w' d k M S := by
  obtain ⟨⟨m, hm⟩, h2, h3, h4, h5⟩ := h
  exact ⟨⟨m, hm.rowD hg ht⟩, h2, h3, Nat.le_trans h4 hg.size, h5⟩
theorem New_ref (q : Int) (w : World) : Calls Try.prog 11 #[.int .i64 q] w fun e w' => e = .returned (.agg #[.int .i64 q, .slice none 0 0, .slice none 0 0, .slice none 0 0, .slice none 0 0, .int .i64 (-1), .bool false]) ∧ Below w.heap.size w w' := by
  go_enter Try.func11, Try.ntmps11
  go_wp2_with fail
  exact ret7 rfl rfl rfl (Whole.new w _ _) ⟨rfl, (Below.refl _ _).alloc (Nat.le_refl _) _⟩
theorem new_at (w : World) (q : Int) : RAt w ⟨none, 0, 0, none, 0, 0, none, 0, 0, none, 0, 0⟩ q (-1) false (St.new q) :=
  ⟨World.ownsRow_nil _ _ _ _, World.ownsRow_nil _ _ _ _, World.ownsRow_nil _ _ _ _, World.ownsRow_nil _ _ _ _, rfl, rfl, by decide, rfl⟩
theorem Do_ref2 {w : World} {S : St} {k M : Nat} (L : Ls) (l : Int) (h : RAt w L S.quota l S.down S) (F : Fit k M S) (hk : k ≤ 40000) (hM : M ≤ 400000000) (hre : Re S) (hz : Nz S) (hcn : Cons S) (hq : S.quota ≤ 1099511627776 ∧ 0 ≤ S.quota) (c : CallV) (hc : c.fits) (ha : c.a.size ≤ 70) (hb : c.b.size ≤ 300) (T : St) (sv : ByteArray) (ev : Int) (hT : T = (doS S c).1) (hs : sv = ⟨(doS S c).2.1.toArray⟩) (he : ev = (doS S c).2.2) :
    Calls Try.prog 13 #[.agg #[.int .i64 S.quota, .slice L.af L.nf L.cf, .slice L.an L.nn L.cn, .slice L.as_ L.ns L.cs, .slice L.ap L.np L.cp, .int .i64 l, .bool S.down], .agg #[.int .u8 (c.kind : Nat), .string c.a, .string c.b, .int .i64 c.n]] w fun e w' => ∃ (L2 : Ls) (l2 : Int), e = .returned (.tuple #[.agg #[.int .i64 T.quota, .slice L2.af L2.nf L2.cf, .slice L2.an L2.nn L2.cn, .slice L2.as_ L2.ns L2.cs, .slice L2.ap L2.np L2.cp, .int .i64 l2, .bool T.down], .string sv, .int .i64 ev]) ∧ RAt w' L2 T.quota l2 T.down T ∧ Below w.heap.size w w' := by
  subst hT hs he
  have hh : Has (rv L S.quota l S.down) w S := ⟨L, _, l, _, rfl, h⟩
  refine (Do_ref hh F hk hM hre hz hcn hq c hc ha hb).mono ?_
  rintro e w' ⟨V, rfl, ⟨L2, q2, l2, dn2, rfl, hA⟩, hB⟩
  have e1 := hA.eq
  have e2 := hA.ed
  subst e1 e2
  exact ⟨L2, l2, rfl, hA, hB⟩
/-- what holds of the law's disk and of the reference's at a round's head -/
structure Playing (w w1 wr : World) (d r k : Nat) (L : Ls) (l : Int) (S : St) : Prop where
  live : Live w1.heap.size wr d (2 * k) (300 * k) S
  at_ : RAt wr L S.quota l S.down S
  cells : Whole wr r 33 #[.int .i64 S.quota, .slice L.af L.nf L.cf, .slice L.an L.nn L.cn, .slice L.as_ L.ns L.cs, .slice L.ap L.np L.cp, .int .i64 l, .bool S.down]
  nz : Nz S
  cons : Cons S
  bel : Below w.heap.size w wr

theorem Playing.same {w w1 wr w' : World} {d r k : Nat} {L : Ls} {l : Int} {S : St} (h : Playing w w1 wr d r k L l S) (hb : Below wr.heap.size wr w') : Playing w w1 w' d r k L l S :=
  ⟨h.live.same hb, h.at_.same hb, h.cells.below hb h.cells.lt, h.nz, h.cons, h.bel.trans (hb.mono h.bel.size)⟩
set_option maxHeartbeats 4000000 in
set_option maxRecDepth 20000 in
theorem DiskPlays_walk (q : Int) (A : Option Addr) (n c : Nat) (cs : List CallV) (w : World) (_hq : (Lit.int .i64 q).wf = true) (hl : SeesC w w.heap.size A n cs) :
    Calls Try.prog 3 #[.int .i64 q, .slice A n c] w fun e w' => e = .returned (.bool true) ∧ Below w.heap.size w w' := by
  have hl1' : ∀ w1, Below w.heap.size w w1 → SeesC w1 w.heap.size A n cs := fun w1 hB1 => by
    obtain ⟨h1, h2, h3⟩ := hl
    refine ⟨h1, h2, fun hn => ?_⟩
    obtain ⟨b, off, e, hb, hc⟩ := h3 hn
    refine ⟨b, off, e, hb, fun j z hz => ?_⟩
    obtain ⟨x0, x1, x2, x3⟩ := hc j z hz
    exact ⟨(hB1.cell hb).trans x0, (hB1.cell hb).trans x1, (hB1.cell hb).trans x2, (hB1.cell hb).trans x3⟩
  have hl2' : ∀ w1, Below w.heap.size w w1 → SeesC w1 w1.heap.size A n cs := fun w1 hB1 => by
    obtain ⟨h1, h2, h3⟩ := hl1' w1 hB1
    exact ⟨h1, h2, fun hn => by
      obtain ⟨b, off, e, hb, hc⟩ := h3 hn
      exact ⟨b, off, e, Nat.lt_of_lt_of_le hb hB1.size, hc⟩⟩
  have HL1 := Lib.hid hl1'
  have HL2 := Lib.hid hl2'
  have hlen := hl.1
  have HLL := Lib.hid hl
  clear hl hl1' hl2'
  cases hfe : fewB cs
  · clear hlen
    go_enter Try.func3, Try.ntmps3
    go_wp2_with fail
    refine (awake_any w).mono ?_
    rintro e w1 ⟨rfl, hB1⟩
    have hfw := few_any A n c cs w1 (HL2.out w1 hB1)
    rw [hfe] at hfw
    have HB1 := Lib.hid hB1
    clear hB1 hfe
    go_wp2_with fail
    refine hfw.mono ?_
    rintro e w2 ⟨rfl, rfl⟩
    clear hfw
    go_wp2_with fail
    refine (awake_any w1).mono ?_
    rintro e w2 ⟨rfl, hB2⟩
    have HB2 := Lib.hid (HB1.out.trans (hB2.mono HB1.out.size))
    clear hB2
    go_wp2
    go_ret
    exact ⟨rfl, HB2.out⟩
  have hF2 : cs.length ≤ 60 ∧ ∀ z ∈ cs, z.a.size ≤ 70 ∧ z.b.size ≤ 300 := by
    unfold fewB at hfe
    simp only [Bool.and_eq_true, decide_eq_true_eq, List.all_eq_true, okC] at hfe
    exact hfe
  have hn60 : (n : Int) ≤ 60 := by have := hF2.1; omega
  have HF2 := Lib.hid hF2
  have HLEN := Lib.hid hlen
  have HFE := Lib.hid hfe
  clear hF2 hlen hfe
  cases hqb : qB q
  · have hbad : q < 0 ∨ 1099511627776 < q := by
      unfold qB at hqb
      simp at hqb
      omega
    have hnew := Lib.hid (fun W => New_bad q W hqb)
    clear hqb
    by_cases hneg : q < 0
    case' neg =>
      have hbig : 1099511627776 < q := by omega
      have hpos : decide (q < 0) = false := by simpa using (by omega : (0 : Int) ≤ q)
    all_goals
      clear hbad
      go_enter Try.func3, Try.ntmps3
      go_wp2_with fail
      refine (awake_any w).mono ?_
      rintro e w1 ⟨rfl, hB1⟩
      have hfw := few_any A n c cs w1 (HL2.out w1 hB1)
      rw [HFE.out] at hfw
      have HB1 := Lib.hid hB1
      clear hB1
      go_wp2_with fail
      refine hfw.mono ?_
      rintro e w2 ⟨rfl, rfl⟩
      clear hfw
      go_wp2_with fail
      refine Calls.mono (hnew.out _) ?_
      rintro e w2 ⟨rfl, rfl⟩
      go_wp2_with fail
      go_ret
      exact ⟨rfl, HB1.out⟩
  have hqq : 0 ≤ q ∧ q ≤ 1099511627776 := by
    unfold qB at hqb
    simpa using hqb
  have hq0 := hqq.1
  have hq1 := hqq.2
  have HQB := Lib.hid hqb
  clear hqb hqq
  go_enter Try.func3, Try.ntmps3
  go_wp2_with fail
  refine (awake_any w).mono ?_
  rintro e w1 ⟨rfl, hB1⟩
  have hfw := few_any A n c cs w1 (HL2.out w1 hB1)
  rw [HFE.out] at hfw
  have HB1 := Lib.hid hB1
  clear hB1
  go_wp2_with fail
  refine hfw.mono ?_
  rintro e w2 ⟨rfl, rfl⟩
  clear hfw
  go_wp2_with fail
  refine (live_New q w1 HQB.out).mono ?_
  rintro e w2 ⟨d, rfl, hL2, hB2⟩
  have HLv2 := Lib.hid hL2
  have HB2 := Lib.hid (HB1.out.trans (hB2.mono HB1.out.size))
  have HBB := Lib.hid HB1.out.size
  clear hL2 hB2
  go_wp2_with fail
  refine (New_ref q w2).mono ?_
  rintro e w3 ⟨rfl, hB3⟩
  have x7 := Whole.new w3 33 #[.int .i64 q, .slice none 0 0, .slice none 0 0, .slice none 0 0, .slice none 0 0, .int .i64 (-1), .bool false]
  have hB3' := hB3.alloc hB3.size (.cells #[.int .i64 q, .slice none 0 0, .slice none 0 0, .slice none 0 0, .slice none 0 0, .int .i64 (-1), .bool false] 33)
  have hPl : Hid (Playing w w1 (w3.alloc (.cells #[.int .i64 q, .slice none 0 0, .slice none 0 0, .slice none 0 0, .slice none 0 0, .int .i64 (-1), .bool false] 33)) d w3.heap.size 0 ⟨none, 0, 0, none, 0, 0, none, 0, 0, none, 0, 0⟩ (-1) (St.new q)) := Lib.hid
    ⟨HLv2.out.same hB3', new_at _ q, x7, Nz.new q, Cons.empty rfl, HB2.out.trans (hB3'.mono HB2.out.size)⟩
  have hr7 : Hid (w1.heap.size ≤ w3.heap.size) := Lib.hid (Nat.le_trans HLv2.out.base hB3.size)
  clear x7 hB3 hB3'
  go_wp2_with fail
  generalize (w3.alloc (.cells #[.int .i64 q, .slice none 0 0, .slice none 0 0, .slice none 0 0, .slice none 0 0, .int .i64 (-1), .bool false] 33)) = W0 at hPl ⊢
  obtain ⟨r, hr⟩ : ∃ r, r = w3.heap.size := ⟨_, rfl⟩
  rw [← hr] at hPl hr7 ⊢
  clear hr
  go_loopw [8] (fun i wr => ∃ k : Nat, k ≤ n ∧ i = .int .i64 k ∧ ∃ L l S, Playing w w1 wr d r k L l S) (fun i _ => n - (intOf i).toNat)
  case atStart => exact ⟨0, Nat.zero_le _, rfl, _, _, _, hPl.out⟩
  case round =>
    clear hPl
    obtain ⟨k, hk, rfl, L, l, S, hP⟩ := hrel
    have HP := Lib.hid hP
    clear hP
    by_cases hlt : k < n
    · obtain ⟨b, off, z, rfl, hb, hz, hfit, x0, x1, x2, x3⟩ := HLL.out.at hlt
      have hz2 := HF2.out.2 z (List.mem_of_getElem? hz)
      have y0 := (HP.out.bel.cell (p := ⟨b, off + k * 4, none⟩) hb).trans x0
      have y1 := (HP.out.bel.cell (p := ⟨b, off + k * 4 + 1, none⟩) hb).trans x1
      have y2 := (HP.out.bel.cell (p := ⟨b, off + k * 4 + 2, none⟩) hb).trans x2
      have y3 := (HP.out.bel.cell (p := ⟨b, off + k * 4 + 3, none⟩) hb).trans x3
      have hlk : (k : Int) < (n : Int) := by omega
      have hdo := do_any HP.out.live (by omega) (by omega) z hfit hz2.1 hz2.2
      unfold CallV.val at hdo
      have HDo := Lib.hid hdo
      have HFIT := Lib.hid hfit
      have HZ2 := Lib.hid hz2
      have HBLT := Lib.hid hb
      have X0 := Lib.hid x0
      have X1 := Lib.hid x1
      have X2 := Lib.hid x2
      have X3 := Lib.hid x3
      clear x0 x1 x2 x3 hz hfit hz2 hdo hb
      go_wp2_with fail
      refine Calls.mono HDo.out ?_
      rintro e w4 ⟨rfl, hL3, hK3⟩
      obtain ⟨af, nf, cf, an, nn, cn, as_, ns, cs_, ap, np, cp⟩ := L
      have HL4 := Lib.hid hL3
      have HA4 := Lib.hid (HP.out.at_.kept2 hK3)
      have HC4 := Lib.hid (hK3.whole HP.out.cells (by decide))
      have HB4 := Lib.hid (HP.out.bel.trans ((hK3.below HP.out.live.base).mono HBB.out))
      have y0 := (HB4.out.cell (p := ⟨b, off + k * 4, none⟩) HBLT.out).trans X0.out
      have y1 := (HB4.out.cell (p := ⟨b, off + k * 4 + 1, none⟩) HBLT.out).trans X1.out
      have y2 := (HB4.out.cell (p := ⟨b, off + k * 4 + 2, none⟩) HBLT.out).trans X2.out
      have y3 := (HB4.out.cell (p := ⟨b, off + k * 4 + 3, none⟩) HBLT.out).trans X3.out
      obtain ⟨a0, a1, a2, a3, a4, a5, a6⟩ := disk_facts HC4.out
      obtain ⟨sv, hsv⟩ : ∃ sv, sv = (⟨(doS S z).2.1.toArray⟩ : ByteArray) := ⟨_, rfl⟩
      obtain ⟨ev, hev⟩ : ∃ ev, ev = (doS S z).2.2 := ⟨_, rfl⟩
      rw [← hsv, ← hev]
      have HSV := Lib.hid hsv
      have HEV := Lib.hid hev
      clear hL3 hK3 hsv hev
      go_upto_region 13 with (fail)
      obtain ⟨T, hT⟩ : ∃ T, T = (doS S z).1 := ⟨_, rfl⟩
      have HT := Lib.hid hT
      have hBd : Below w4.heap.size w4 w4.drew := ⟨rfl, rfl, rfl, Nat.le_refl _, fun _ _ => rfl⟩
      have hBa : Below w4.heap.size w4 (w4.alloc (.cells #[.int .i64 0, .slice none 0 0, .slice none 0 0, .slice none 0 0, .slice none 0 0, .int .i64 0, .bool false] 33)).drew := ⟨rfl, rfl, rfl, by simp [World.drew], fun k hk => by rw [heap_drew]; exact heap_alloc_old _ _ _ hk⟩
      have HD1 := Lib.hid (Do_ref2 (w := w4.drew) ⟨af, nf, cf, an, nn, cn, as_, ns, cs_, ap, np, cp⟩ l (HA4.out.same hBd) HP.out.live.fit (by omega) (by omega) HP.out.live.re HP.out.nz HP.out.cons HP.out.live.quota z HFIT.out HZ2.out.1 HZ2.out.2 T sv ev hT HSV.out HEV.out)
      have HD2 := Lib.hid (Do_ref2 (w := (w4.alloc (.cells #[.int .i64 0, .slice none 0 0, .slice none 0 0, .slice none 0 0, .slice none 0 0, .int .i64 0, .bool false] 33)).drew) ⟨af, nf, cf, an, nn, cn, as_, ns, cs_, ap, np, cp⟩ l (HA4.out.same hBa) HP.out.live.fit (by omega) (by omega) HP.out.live.re HP.out.nz HP.out.cons HP.out.live.quota z HFIT.out HZ2.out.1 HZ2.out.2 T sv ev hT HSV.out HEV.out)
      have lr := HC4.out.lt
      have lb : b < w4.heap.size := Nat.lt_of_lt_of_le HBLT.out HB4.out.size
      have n0 : ¬ (w4.heap.size = r) := by omega
      have n1 : ¬ (r = w4.heap.size) := by omega
      have n2 : ¬ (w4.heap.size = b) := by omega
      have n3 : ¬ (b = w4.heap.size) := by omega
      have HBA := Lib.hid hBa
      have HBD := Lib.hid hBd
      have hC1 := Lib.hid HC4.out.drew
      have hC2 := Lib.hid (HC4.out.below hBa HC4.out.lt)
      have hZ2 := Lib.hid ((Whole.new w4 33 #[.int .i64 0, .slice none 0 0, .slice none 0 0, .slice none 0 0, .slice none 0 0, .int .i64 0, .bool false]).drew)
      clear hT hBd hBa
      go_region_held3 (fun w' => w'.cell? ⟨r, 0, none⟩ = some (.int .i64 S.quota) ∧ w'.cell? ⟨r, 1, none⟩ = some (.slice af nf cf) ∧ w'.cell? ⟨r, 2, none⟩ = some (.slice an nn cn) ∧ w'.cell? ⟨r, 3, none⟩ = some (.slice as_ ns cs_) ∧ w'.cell? ⟨r, 4, none⟩ = some (.slice ap np cp) ∧ w'.cell? ⟨r, 5, none⟩ = some (.int .i64 l) ∧ w'.cell? ⟨r, 6, none⟩ = some (.bool S.down) ∧ w'.cell? ⟨b, off + k * 4, none⟩ = some (.int .u8 (z.kind : Nat)) ∧ w'.cell? ⟨b, off + k * 4 + 1, none⟩ = some (.string z.a) ∧ w'.cell? ⟨b, off + k * 4 + 2, none⟩ = some (.string z.b) ∧ w'.cell? ⟨b, off + k * 4 + 3, none⟩ = some (.int .i64 z.n)) (go_keep)
        (first
          | (go_at_call 13; refine (Calls.mono HD1.out ?_); rintro e w5 ⟨L2, l2, rfl, hA5, hB5⟩; have y := hC1.out.below hB5 hC1.out.lt; obtain ⟨b0, b1, b2, b3, b4, b5, b6⟩ := disk_facts y; have y05 := (hB5.cell (p := ⟨b, off + k * 4, none⟩) lb).trans y0; have y15 := (hB5.cell (p := ⟨b, off + k * 4 + 1, none⟩) lb).trans y1; have y25 := (hB5.cell (p := ⟨b, off + k * 4 + 2, none⟩) lb).trans y2; have y35 := (hB5.cell (p := ⟨b, off + k * 4 + 3, none⟩) lb).trans y3)
          | (go_at_call 13; refine (Calls.mono HD2.out ?_); rintro e w5 ⟨L2, l2, rfl, hA5, hB5⟩; have y := hC2.out.below hB5 hC2.out.lt; have yz := hZ2.out.below hB5 hZ2.out.lt; obtain ⟨b0, b1, b2, b3, b4, b5, b6⟩ := disk_facts y; obtain ⟨⟨d0, d1, d2, d3, d4, d5, d6⟩, e0, e1, e2, e3, e4, e5, e6⟩ := zero_facts yz; have y05 := ((HBA.out.trans (hB5.mono HBA.out.size)).cell (p := ⟨b, off + k * 4, none⟩) lb).trans y0; have y15 := ((HBA.out.trans (hB5.mono HBA.out.size)).cell (p := ⟨b, off + k * 4 + 1, none⟩) lb).trans y1; have y25 := ((HBA.out.trans (hB5.mono HBA.out.size)).cell (p := ⟨b, off + k * 4 + 2, none⟩) lb).trans y2; have y35 := ((HBA.out.trans (hB5.mono HBA.out.size)).cell (p := ⟨b, off + k * 4 + 3, none⟩) lb).trans y3))
      case' refine_2.refine_3.refine_3.refine_3.refine_3.refine_3.refine_1.refine_2.refine_3.refine_3.refine_3.refine_3.refine_1.refine_2.refine_1.refine_2.refine_3.refine_3 =>
        have hBn : Below w5.heap.size w5 (w5.alloc (.cells #[.int .i64 T.quota, .slice L2.af L2.nf L2.cf, .slice L2.an L2.nn L2.cn, .slice L2.as_ L2.ns L2.cs, .slice L2.ap L2.np L2.cp, .int .i64 l2, .bool T.down] 33)) := (Below.refl _ w5).alloc (Nat.le_refl _) _
        have hB6 := (HBD.out.trans (hB5.mono HBD.out.size)).trans (hBn.mono (Nat.le_trans HBD.out.size hB5.size))
        have HV := Lib.hid (Whole.new w5 33 #[.int .i64 T.quota, .slice L2.af L2.nf L2.cf, .slice L2.an L2.nn L2.cn, .slice L2.as_ L2.ns L2.cs, .slice L2.ap L2.np L2.cp, .int .i64 l2, .bool T.down])
        have HU := Lib.hid (y.below hBn y.lt)
        have HA6 := Lib.hid (hA5.same hBn)
        have HL6 := Lib.hid (HL4.out.same hB6)
        have HB6 := Lib.hid (HB4.out.trans (hB6.mono HB4.out.size))
        have hgr : ¬ (w5.heap.size = r) := by have := y.lt; omega
        clear hBn hB6 hB5 hA5 y
        generalize w5.alloc (.cells #[.int .i64 T.quota, .slice L2.af L2.nf L2.cf, .slice L2.an L2.nn L2.cn, .slice L2.as_ L2.ns L2.cs, .slice L2.ap L2.np L2.cp, .int .i64 l2, .bool T.down] 33) = W6 at HV HU HA6 HL6 HB6 ⊢
        obtain ⟨g, hg⟩ : ∃ g, g = w5.heap.size := ⟨_, rfl⟩
        rw [← hg] at HV hgr ⊢
        clear hg
      case' refine_2.refine_3.refine_3.refine_3.refine_3.refine_3.refine_2.refine_1.refine_2.refine_1.refine_2.refine_3.refine_3.refine_3.refine_3.refine_1.refine_2.refine_3.refine_3 =>
        have tg := seven_grown w5 w4.heap.size (.int .i64 T.quota) (.slice L2.af L2.nf L2.cf) (.slice L2.an L2.nn L2.cn) (.slice L2.as_ L2.ns L2.cs) (.slice L2.ap L2.np L2.cp) (.int .i64 l2) (.bool T.down)
        have hB5' : Below w4.heap.size w4 w5 := HBA.out.trans (hB5.mono HBA.out.size)
        have hB6 := seven_below hB5' (Nat.le_refl _) (.int .i64 T.quota) (.slice L2.af L2.nf L2.cf) (.slice L2.an L2.nn L2.cn) (.slice L2.as_ L2.ns L2.cs) (.slice L2.ap L2.np L2.cp) (.int .i64 l2) (.bool T.down)
        have HV := Lib.hid (seven_put yz (.int .i64 T.quota) (.slice L2.af L2.nf L2.cf) (.slice L2.an L2.nn L2.cn) (.slice L2.as_ L2.ns L2.cs) (.slice L2.ap L2.np L2.cp) (.int .i64 l2) (.bool T.down))
        have HU := Lib.hid (y.grown tg (by simp; omega))
        have HA6 := Lib.hid (hA5.kept yz tg)
        have HL6 := Lib.hid (HL4.out.same hB6)
        have HB6 := Lib.hid (HB4.out.trans (hB6.mono HB4.out.size))
        have hgr : ¬ (w4.heap.size = r) := n0
        clear tg hB5' hB6 hB5 hA5 y yz d0 d1 d2 d3 d4 d5 d6 e0 e1 e2 e3 e4 e5 e6
        generalize (((((((w5.setCell ⟨w4.heap.size, 0, none⟩ (.int .i64 T.quota)).setCell ⟨w4.heap.size, 1, none⟩ (.slice L2.af L2.nf L2.cf)).setCell ⟨w4.heap.size, 2, none⟩ (.slice L2.an L2.nn L2.cn)).setCell ⟨w4.heap.size, 3, none⟩ (.slice L2.as_ L2.ns L2.cs)).setCell ⟨w4.heap.size, 4, none⟩ (.slice L2.ap L2.np L2.cp)).setCell ⟨w4.heap.size, 5, none⟩ (.int .i64 l2)).setCell ⟨w4.heap.size, 6, none⟩ (.bool T.down)) = W6 at HV HU HA6 HL6 HB6 ⊢
        obtain ⟨g, hg⟩ : ∃ g, g = w4.heap.size := ⟨_, rfl⟩
        rw [← hg] at HV hgr ⊢
        clear hg
      all_goals
        clear y05 y15 y25 y35 b0 b1 b2 b3 b4 b5 b6 y0 y1 y2 y3 a0 a1 a2 a3 a4 a5 a6 n0 n1 n2 n3 lr lb HD1 HD2 hC1 hC2 hZ2 HBA HBD HA4 HC4 HB4
        obtain ⟨v0, v1, v2, v3, v4, v5, v6⟩ := disk_facts HV.out
        obtain ⟨a0, a1, a2, a3, a4, a5, a6⟩ := disk_facts HU.out
        have f0 := HU.out.frozen 0
        have f1 := HU.out.frozen 1
        have f2 := HU.out.frozen 2
        have f3 := HU.out.frozen 3
        have f4 := HU.out.frozen 4
        have f5 := HU.out.frozen 5
        have f6 := HU.out.frozen 6
        go_upto_region 15 with (fail)
        have tg := seven_grown W6 r (.int .i64 T.quota) (.slice L2.af L2.nf L2.cf) (.slice L2.an L2.nn L2.cn) (.slice L2.as_ L2.ns L2.cs) (.slice L2.ap L2.np L2.cp) (.int .i64 l2) (.bool T.down)
        have hPl : Hid (Playing w w1 (((((((W6.setCell ⟨r, 0, none⟩ (.int .i64 T.quota)).setCell ⟨r, 1, none⟩ (.slice L2.af L2.nf L2.cf)).setCell ⟨r, 2, none⟩ (.slice L2.an L2.nn L2.cn)).setCell ⟨r, 3, none⟩ (.slice L2.as_ L2.ns L2.cs)).setCell ⟨r, 4, none⟩ (.slice L2.ap L2.np L2.cp)).setCell ⟨r, 5, none⟩ (.int .i64 l2)).setCell ⟨r, 6, none⟩ (.bool T.down)) d r (k + 1) L2 l2 T) := Lib.hid
          ⟨by rw [HT.out]; rw [HT.out] at tg; exact (HL6.out.rowD tg (by rintro x ⟨⟩; exact whole_typ HU.out)).mono (by omega) (by omega), HA6.out.kept HU.out tg, seven_put HU.out (.int .i64 T.quota) (.slice L2.af L2.nf L2.cf) (.slice L2.an L2.nn L2.cn) (.slice L2.as_ L2.ns L2.cs) (.slice L2.ap L2.np L2.cp) (.int .i64 l2) (.bool T.down), by rw [HT.out]; exact HP.out.nz.doS HP.out.live.fit z, by rw [HT.out]; exact HP.out.cons.doS HP.out.live.re z, seven_below HB6.out (Nat.le_trans HBB.out hr7.out) (.int .i64 T.quota) (.slice L2.af L2.nf L2.cf) (.slice L2.an L2.nn L2.cn) (.slice L2.as_ L2.ns L2.cs) (.slice L2.ap L2.np L2.cp) (.int .i64 l2) (.bool T.down)⟩
        clear tg v0 v1 v2 v3 v4 v5 v6 a0 a1 a2 a3 a4 a5 a6 f0 f1 f2 f3 f4 f5 f6 HV HU HA6 HL6 HB6 hgr
        generalize (((((((W6.setCell ⟨r, 0, none⟩ (.int .i64 T.quota)).setCell ⟨r, 1, none⟩ (.slice L2.af L2.nf L2.cf)).setCell ⟨r, 2, none⟩ (.slice L2.an L2.nn L2.cn)).setCell ⟨r, 3, none⟩ (.slice L2.as_ L2.ns L2.cs)).setCell ⟨r, 4, none⟩ (.slice L2.ap L2.np L2.cp)).setCell ⟨r, 5, none⟩ (.int .i64 l2)).setCell ⟨r, 6, none⟩ (.bool T.down)) = W7 at hPl ⊢
        obtain ⟨a0, a1, a2, a3, a4, a5, a6⟩ := disk_facts hPl.out.cells
        have hsm := Same_ref L2 T.quota l2 T.down hPl.out.live hPl.out.at_ hPl.out.nz (by omega) (by omega)
        unfold rv at hsm
        have HSM := Lib.hid hsm
        clear hsm
        go_wp2_with fail
        refine Calls.mono HSM.out ?_
        rintro e w8 ⟨rfl, hB8⟩
        have HPN := Lib.hid (hPl.out.same hB8)
        clear hB8 a0 a1 a2 a3 a4 a5 a6
        go_wp2_with fail
        go_roundw
        case rel => exact ⟨k + 1, by omega, by go_num, L2, l2, T, HPN.out⟩
        case measure => simp [intOf]; omega
    · obtain rfl : k = n := by omega
      go_wp2_with fail
      go_ret
      exact ⟨rfl, HP.out.bel⟩
end Go.Proofs.Yteeomlboifleoaa
