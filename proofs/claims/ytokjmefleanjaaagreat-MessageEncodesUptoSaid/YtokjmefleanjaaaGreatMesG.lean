/- awake; the reference's Same where two messages are the same. No statement of the seat is proved here. -/
import Derived.Test.YtokjmefleanjaaaGreatMesE
namespace Go.Proofs.YtokjmefleanjaaaGreat
open Go.RowKit Go.Op

def noneM : Mrd := ⟨none, 0, 0, none, 0, 0, none, 0, 0, none, 0, 0, [], [], [], []⟩
theorem noneM_sees (w : World) : SeesM w w.heap.size noneM := ⟨⟨rfl, fun h => absurd h (by decide)⟩, ⟨rfl, fun h => absurd h (by decide)⟩, ⟨rfl, fun h => absurd h (by decide)⟩, ⟨rfl, fun h => absurd h (by decide)⟩⟩
theorem noneM_small : SmallM noneM := ⟨fun _ h => (by cases h), fun _ h => (by cases h), fun _ h => (by cases h), fun _ h => (by cases h)⟩
theorem wake_enc : encR (noneM.toMes ⟨1, false, 0, false, false, true, false, 0, 0⟩) = (⟨#[0, 1, 1, 0, 0, 0, 0, 0, 0, 0, 0, 0]⟩, 0) := by
  have hok : okM (noneM.toMes ⟨1, false, 0, false, false, true, false, 0, 0⟩) = true := by decide
  have hf : (fullW (noneM.toMes ⟨1, false, 0, false, false, true, false, 0, 0⟩)).1 = [0, 1, 1, 0, 0, 0, 0, 0, 0, 0, 0, 0] := by decide
  unfold encR
  rw [if_pos hok, hf, if_pos (by decide)]
  rfl
set_option maxHeartbeats 2000000 in
set_option maxRecDepth 20000 in
theorem awake_any (w : World) : Calls Tryz.prog 5 #[] w fun e w' => e = .returned (.bool true) ∧ Below w.heap.size w w' := by
  have HE := Lib.hid wake_enc
  go_enter Tryz.func5, Tryz.ntmps5
  go_wp2_with fail
  refine (Encode_any ⟨1, false, 0, false, false, true, false, 0, 0⟩ noneM _ (noneM_sees _) noneM_small).mono ?_
  rw [HE.out]
  rintro e w1 ⟨rfl, hB⟩
  go_wp2_with fail
  go_ret
  exact ⟨rfl, hB⟩

set_option maxHeartbeats 8000000 in
set_option maxRecDepth 20000 in
theorem SameR_yes (A A' : Option Addr) (n c n' c' : Nat) (xs : List Rrd) (w : World) (hx : SeesR w w.heap.size A n xs) (hy : SeesR w w.heap.size A' n' xs) (hn : n ≤ 1073741824) :
    Calls Tryz.prog 39 #[.slice A n c, .slice A' n' c'] w fun e w' => e = .returned (.bool true) ∧ Below w.heap.size w w' := by
  obtain rfl : n = n' := hx.1.symm.trans hy.1
  have HX := Lib.hid hx
  have HY := Lib.hid hy
  clear hx hy
  go_enter Tryz.func39, Tryz.ntmps39
  go_wp2_with fail
  go_loopw [5] (fun i wr => ∃ k : Nat, k ≤ n ∧ i = .int .i64 (k : Nat) ∧ Below w.heap.size w wr) (fun i _ => n - (intOf i).toNat)
  case atStart => exact ⟨0, Nat.zero_le _, rfl, Below.refl _ _⟩
  case round =>
    obtain ⟨k, hk, rfl, hB⟩ := hrel
    have HB := Lib.hid hB
    by_cases hkn : k < n
    · have g2 : (k : Int) < (n : Int) := by omega
      have g0 : (0 : Int) ≤ (k : Int) := by omega
      obtain ⟨b, off, x, rfl, hb, hxk, ht⟩ := (HX.out.keep hB).at hkn
      obtain ⟨b', off', x', rfl, hb', hxk', ht'⟩ := (HY.out.keep hB).at hkn
      obtain rfl : x = x' := by rw [hxk] at hxk'; exact Option.some.inj hxk'
      obtain ⟨x0, x1, x2, x3, x4⟩ := ht
      obtain ⟨y0, y1, y2, y3, y4⟩ := ht'
      clear hB hxk hxk'
      go_wp2_with fail
      go_quiet (fail)
      go_wp2_with fail
      go_roundw
      case rel => exact ⟨k + 1, by omega, by go_num, below_drewN HB.out _⟩
      case measure => simp [intOf]; omega
    · obtain rfl : k = n := by omega
      clear hB
      go_wp2_with fail
      go_ret
      exact ⟨rfl, HB.out⟩

theorem two_ms (w : World) (a b : Array Value) (ta tb : TypeId) :
    Whole ((w.alloc (.cells a ta)).alloc (.cells b tb)) w.heap.size ta a ∧ Whole ((w.alloc (.cells a ta)).alloc (.cells b tb)) (w.heap.size + 1) tb b ∧ Below w.heap.size w ((w.alloc (.cells a ta)).alloc (.cells b tb)) := by
  have h0 := Whole.new w ta a
  have h1 := Whole.new (w.alloc (.cells a ta)) tb b
  simp only [World.size_alloc] at h1
  exact ⟨h0.alloc _, h1, ((Below.refl _ _).alloc (Nat.le_refl _) _).alloc (by simp) _⟩
set_option maxHeartbeats 16000000 in
set_option maxRecDepth 20000 in
theorem Same_in (h : Hd) (x : Mrd) (qA aA nA dA : Option Addr) (qc ac nc dc : Nat) (w : World) (hx : SeesM w w.heap.size x) (hy : SeesM w w.heap.size ⟨qA, x.qn, qc, aA, x.an, ac, nA, x.nn, nc, dA, x.dn, dc, x.lq, x.la, x.ln, x.ld⟩) (hq : x.qn ≤ 1073741824) (ha : x.an ≤ 1073741824) (hn : x.nn ≤ 1073741824) (hd : x.dn ≤ 1073741824) :
    Calls Tryz.prog 12 #[.agg (msV h x), .agg (msA h (.slice qA x.qn qc) (.slice aA x.an ac) (.slice nA x.nn nc) (.slice dA x.dn dc))] w fun e w' => e = .returned (.bool true) ∧ Below w.heap.size w w' := by
  obtain ⟨W, hW⟩ : ∃ W, W = (w.alloc (.cells (msV h x) msT)).alloc (.cells (msA h (.slice qA x.qn qc) (.slice aA x.an ac) (.slice nA x.nn nc) (.slice dA x.dn dc)) msT) := ⟨_, rfl⟩
  obtain ⟨g, hg⟩ : ∃ g, g = w.heap.size := ⟨_, rfl⟩
  obtain ⟨g2, hg2⟩ : ∃ g2, g2 = w.heap.size + 1 := ⟨_, rfl⟩
  obtain ⟨t1, t2, t3⟩ := two_ms w (msV h x) (msA h (.slice qA x.qn qc) (.slice aA x.an ac) (.slice nA x.nn nc) (.slice dA x.dn dc)) msT msT
  have HB0 := Lib.hid (show Below w.heap.size w W by rw [hW]; exact t3)
  have HW0 := Lib.hid (show Whole W g msT (msV h x) by rw [hW, hg]; exact t1)
  have HW1 := Lib.hid (show Whole W g2 msT (msA h (.slice qA x.qn qc) (.slice aA x.an ac) (.slice nA x.nn nc) (.slice dA x.dn dc)) by rw [hW, hg2]; exact t2)
  have HX := Lib.hid ((hx.keep HB0.out).more HB0.out.size)
  have HY := Lib.hid ((hy.keep HB0.out).more HB0.out.size)
  have HWW := Lib.hid hW
  have HG := Lib.hid hg
  have HG2 := Lib.hid hg2
  have HMV := Lib.hid (show msV h x = #[.int .i64 h.id, .bool h.qr, .int .i64 h.op, .bool h.aa, .bool h.tc, .bool h.rd, .bool h.ra, .int .i64 h.z, .int .i64 h.rc, .slice x.qA x.qn x.qc, .slice x.aA x.an x.ac, .slice x.nA x.nn x.nc, .slice x.dA x.dn x.dc] from rfl)
  have HMY := Lib.hid (show msA h (.slice qA x.qn qc) (.slice aA x.an ac) (.slice nA x.nn nc) (.slice dA x.dn dc) = #[.int .i64 h.id, .bool h.qr, .int .i64 h.op, .bool h.aa, .bool h.tc, .bool h.rd, .bool h.ra, .int .i64 h.z, .int .i64 h.rc, .slice qA x.qn qc, .slice aA x.an ac, .slice nA x.nn nc, .slice dA x.dn dc] from rfl)
  clear hW hg hg2 t1 t2 t3 hx hy
  obtain ⟨c0, c1, c2, c3, c4, c5, c6, c7, c8, c9, c10, c11, c12⟩ := ms_facts HW0.out
  obtain ⟨d0, d1, d2, d3, d4, d5, d6, d7, d8, d9, d10, d11, d12⟩ := ms_facts HW1.out
  rw [HMV.out, HMY.out]
  go_enter Tryz.func12, Tryz.ntmps12
  go_wp2_with fail
  rw [← HMV.out, ← HMY.out, ← HWW.out, ← HG2.out, ← HG.out]
  clear c0 c1 c2 c3 c4 c5 c6 c7 c8 c9 c10 c11 c12 d0 d1 d2 d3 d4 d5 d6 d7 d8 d9 d10 d11 d12
  go_loopw [5] (fun i wr => ∃ k : Nat, k ≤ x.qn ∧ i = .int .i64 (k : Nat) ∧ Below W.heap.size W wr) (fun i _ => x.qn - (intOf i).toNat)
  case atStart => exact ⟨0, Nat.zero_le _, rfl, Below.refl _ _⟩
  case round =>
    obtain ⟨k, hk, rfl, hB⟩ := hrel
    have HB := Lib.hid hB
    have HW2 := Lib.hid (HW0.out.below hB HW0.out.lt)
    have HW3 := Lib.hid (HW1.out.below hB HW1.out.lt)
    obtain ⟨_, _, _, _, _, _, _, _, _, c9, c10, c11, c12⟩ := ms_facts HW2.out
    obtain ⟨_, _, _, _, _, _, _, _, _, d9, d10, d11, d12⟩ := ms_facts HW3.out
    by_cases hkn : k < x.qn
    · have g2 : (k : Int) < (x.qn : Int) := by omega
      have g0 : (0 : Int) ≤ (k : Int) := by omega
      obtain ⟨b, off, y, hA, hb, hxk, ht⟩ := (HX.out.q.keep hB).at hkn
      obtain ⟨b', off', y', hA', hb', hxk', ht'⟩ := (HY.out.q.keep hB).at hkn
      simp only at hA' hxk'
      obtain rfl : y = y' := by rw [hxk] at hxk'; exact Option.some.inj hxk'
      obtain ⟨x0, x1, x2⟩ := ht
      obtain ⟨y0, y1, y2⟩ := ht'
      rw [hA] at c9
      rw [hA'] at d9
      clear hB hxk hxk' hA hA' c10 c11 c12 d10 d11 d12
      go_wp2_with fail
      go_quiet (fail)
      go_wp2_with fail
      go_roundw
      case rel => exact ⟨k + 1, by omega, by go_num, below_drewN HB.out _⟩
      case measure => simp [intOf]; omega
    · obtain rfl : k = x.qn := by omega
      have hxs := (HX.out.keep hB).more hB.size
      have hys := (HY.out.keep hB).more hB.size
      clear hB
      go_wp2_with fail
      refine (SameR_yes x.aA aA x.an x.ac x.an ac x.la _ hxs.a hys.a ha).mono ?_
      rintro e w2 ⟨rfl, hB2⟩
      have HB2 := Lib.hid (HB.out.trans (hB2.mono HB.out.size))
      clear c9 c10 c11 c12 d9 d10 d11 d12
      have hxs2 := (hxs.keep hB2).more hB2.size
      have hys2 := (hys.keep hB2).more hB2.size
      obtain ⟨_, _, _, _, _, _, _, _, _, _, _, c11, c12⟩ := ms_facts (HW0.out.below HB2.out HW0.out.lt)
      obtain ⟨_, _, _, _, _, _, _, _, _, _, _, d11, d12⟩ := ms_facts (HW1.out.below HB2.out HW1.out.lt)
      clear hxs hys hB2
      go_wp2_with fail
      refine (SameR_yes x.nA nA x.nn x.nc x.nn nc x.ln _ hxs2.n hys2.n hn).mono ?_
      rintro e w3 ⟨rfl, hB3⟩
      have HB3 := Lib.hid (HB2.out.trans (hB3.mono HB2.out.size))
      clear c11 c12 d11 d12
      have hxs3 := (hxs2.keep hB3).more hB3.size
      have hys3 := (hys2.keep hB3).more hB3.size
      obtain ⟨_, _, _, _, _, _, _, _, _, _, _, _, c12⟩ := ms_facts (HW0.out.below HB3.out HW0.out.lt)
      obtain ⟨_, _, _, _, _, _, _, _, _, _, _, _, d12⟩ := ms_facts (HW1.out.below HB3.out HW1.out.lt)
      clear hxs2 hys2 hB3
      go_wp2_with fail
      refine (SameR_yes x.dA dA x.dn x.dc x.dn dc x.ld _ hxs3.d hys3.d hd).mono ?_
      rintro e w4 ⟨rfl, hB4⟩
      have HB4 := Lib.hid (HB0.out.trans ((HB3.out.trans (hB4.mono HB3.out.size)).mono HB0.out.size))
      clear c12 d12 hB4
      go_wp2_with fail
      go_ret
      exact ⟨rfl, HB4.out⟩
theorem Same_yes (h : Hd) (x y : Mrd) (w : World) (hx : SeesM w w.heap.size x) (hy : SeesM w w.heap.size y) (e1 : x.lq = y.lq) (e2 : x.la = y.la) (e3 : x.ln = y.ln) (e4 : x.ld = y.ld) (hq : x.qn ≤ 1073741824) (ha : x.an ≤ 1073741824) (hn : x.nn ≤ 1073741824) (hd : x.dn ≤ 1073741824) :
    Calls Tryz.prog 12 #[.agg (msV h x), .agg (msV h y)] w fun e w' => e = .returned (.bool true) ∧ Below w.heap.size w w' := by
  have q1 : y.qn = x.qn := by rw [← hx.q.1, ← hy.q.1, e1]
  have q2 : y.an = x.an := by rw [← hx.a.1, ← hy.a.1, e2]
  have q3 : y.nn = x.nn := by rw [← hx.n.1, ← hy.n.1, e3]
  have q4 : y.dn = x.dn := by rw [← hx.d.1, ← hy.d.1, e4]
  obtain ⟨qA, qn, qc, aA, an, ac, nA, nn, nc, dA, dn, dc, lq, la, ln, ld⟩ := y
  simp only at q1 q2 q3 q4 e1 e2 e3 e4
  subst q1 q2 q3 q4 e1 e2 e3 e4
  exact Same_in h x qA aA nA dA qc ac nc dc w hx hy hq ha hn hd
end Go.Proofs.YtokjmefleanjaaaGreat
