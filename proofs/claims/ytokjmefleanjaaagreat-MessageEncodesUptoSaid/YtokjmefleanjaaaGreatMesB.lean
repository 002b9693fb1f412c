/- rightSection, Formed of the program; questions in memory. No statement of the seat is proved here. -/
import Derived.Test.YtokjmefleanjaaaGreatMesA
namespace Go.Proofs.YtokjmefleanjaaaGreat
open Go.RowKit Go.Op

structure Qrd where
  s : ByteArray
  t : Int
  c : Int
def Qrd.toQue (x : Qrd) : Que := ⟨x.s.data.toList, x.t, x.c⟩
theorem qrd_name (x : Qrd) : x.s = mk x.toQue.n := (mk_toList x.s).symm
theorem rrd_name (x : Rrd) : x.s = mk x.toRec.n := (mk_toList x.s).symm
theorem rrd_data (x : Rrd) : x.d = mk x.toRec.d := (mk_toList x.d).symm
def Three (W : World) (b o : Nat) (x : Qrd) : Prop :=
  W.cell? ⟨b, o, none⟩ = some (.string x.s) ∧ W.cell? ⟨b, o + 1, none⟩ = some (.int .i64 x.t) ∧ W.cell? ⟨b, o + 2, none⟩ = some (.int .i64 x.c)
theorem Three.keep {W W' : World} {B b o : Nat} {x : Qrd} (h : Three W b o x) (hb : Below B W W') (hlt : b < B) : Three W' b o x := by
  obtain ⟨x0, x1, x2⟩ := h
  exact ⟨(hb.cell hlt).trans x0, (hb.cell hlt).trans x1, (hb.cell hlt).trans x2⟩
/-- what a walk is told of a slice of questions -/
def SeesQ (W : World) (B : Nat) (A : Option Addr) (n : Nat) (xs : List Qrd) : Prop :=
  xs.length = n ∧ (0 < n → ∃ b off, A = some ⟨b, off, none⟩ ∧ b < B ∧ ∀ j x, xs[j]? = some x → Three W b (off + j * 3) x)
theorem SeesQ.keep {W W' : World} {B n : Nat} {A : Option Addr} {xs : List Qrd} (h : SeesQ W B A n xs) (hb : Below B W W') : SeesQ W' B A n xs :=
  ⟨h.1, fun hn => by
    obtain ⟨b, off, e, hlt, hc⟩ := h.2 hn
    exact ⟨b, off, e, hlt, fun j x hx => (hc j x hx).keep hb hlt⟩⟩
theorem SeesQ.more {W : World} {B B' n : Nat} {A : Option Addr} {xs : List Qrd} (h : SeesQ W B A n xs) (hB : B ≤ B') : SeesQ W B' A n xs :=
  ⟨h.1, fun hn => by
    obtain ⟨b, off, e, hlt, hc⟩ := h.2 hn
    exact ⟨b, off, e, Nat.lt_of_lt_of_le hlt hB, hc⟩⟩
theorem SeesR.more {W : World} {B B' n : Nat} {A : Option Addr} {xs : List Rrd} (h : SeesR W B A n xs) (hB : B ≤ B') : SeesR W B' A n xs :=
  ⟨h.1, fun hn => by
    obtain ⟨b, off, e, hlt, hc⟩ := h.2 hn
    exact ⟨b, off, e, Nat.lt_of_lt_of_le hlt hB, hc⟩⟩
theorem SeesQ.at {W : World} {B : Nat} {A : Option Addr} {n : Nat} {xs : List Qrd} (h : SeesQ W B A n xs) {j : Nat} (hj : j < n) :
    ∃ b off x, A = some ⟨b, off, none⟩ ∧ b < B ∧ xs[j]? = some x ∧ Three W b (off + j * 3) x := by
  obtain ⟨h1, h3⟩ := h
  obtain ⟨b, off, e, hb, hc⟩ := h3 (by omega)
  have hl : j < xs.length := by omega
  exact ⟨b, off, xs[j], e, hb, List.getElem?_eq_getElem hl, hc j xs[j] (List.getElem?_eq_getElem hl)⟩
/-- all elements ahead of k are right -/
def Upto {α : Type} (f : α → Bool) (xs : List α) (k : Nat) : Prop := ∀ x ∈ xs.take k, f x = true
theorem Upto.zero {α : Type} (f : α → Bool) (xs : List α) : Upto f xs 0 := fun x h => by simp at h
theorem Upto.succ {α : Type} {f : α → Bool} {xs : List α} {k : Nat} {x : α} (h : Upto f xs k) (hx : xs[k]? = some x) (hf : f x = true) : Upto f xs (k + 1) := by
  intro y hy
  rw [List.take_add_one, hx] at hy
  rcases List.mem_append.1 hy with hy | hy
  · exact h y hy
  · obtain rfl : y = x := by simpa using hy
    exact hf
theorem Upto.all {α : Type} {f : α → Bool} {xs : List α} (h : Upto f xs xs.length) : xs.all f = true := by
  rw [List.all_eq_true]
  intro x hx
  exact h x (by rw [List.take_length]; exact hx)
theorem not_all {α : Type} {f : α → Bool} {xs : List α} {k : Nat} {x : α} (hx : xs[k]? = some x) (hf : f x = false) : xs.all f = false := by
  rw [List.all_eq_false]
  exact ⟨x, List.mem_of_getElem? hx, by rw [hf]; simp⟩
theorem okSec_map {α β : Type} {g : α → β} {f : β → Bool} {xs : List α} : okSec f (xs.map g) = (decide (xs.length ≤ 65535) && xs.all fun x => f (g x)) := by
  unfold okSec
  rw [List.length_map, List.all_map]
  rfl

def SmallQ (xs : List Qrd) : Prop := ∀ x ∈ xs, x.s.size ≤ 1073741824
def SmallR (xs : List Rrd) : Prop := ∀ x ∈ xs, x.s.size ≤ 1073741824 ∧ x.d.size ≤ 65535

set_option maxHeartbeats 2000000 in
set_option maxRecDepth 20000 in
theorem rightSecQ_any (A : Option Addr) (n c : Nat) (xs : List Qrd) (w : World) (hx : SeesQ w w.heap.size A n xs) (hs : SmallQ xs) :
    Calls Tryz.prog 28 #[.slice A n c, .func (.func 29) #[] #[]] w fun e w' => e = .returned (.bool (okSec okQ (xs.map Qrd.toQue))) ∧ Below w.heap.size w w' := by
  have hok := okSec_map (g := Qrd.toQue) (f := okQ) (xs := xs)
  have hn := hx.1
  by_cases h65 : n ≤ 65535
  · have hok : okSec okQ (xs.map Qrd.toQue) = xs.all fun x => okQ x.toQue := by rw [hok, hn, decide_eq_true h65]; rfl
    have HOK := Lib.hid hok
    have HX := Lib.hid hx
    have HS := Lib.hid hs
    have HN := Lib.hid hn
    have g1 : decide ((65535 : Int) < (n : Int)) = false := by rw [decide_eq_false_iff_not]; omega
    have HB := Lib.hid (Below.refl w.heap.size w)
    clear hok hn hx hs
    go_enter Tryz.func28, Tryz.ntmps28
    go_wp2_with fail
    go_loopw [12] (fun i wr => ∃ k : Nat, k ≤ n ∧ i = .int .i64 (k : Nat) ∧ Upto (fun x => okQ x.toQue) xs k ∧ Below w.heap.size w wr) (fun i _ => n - (intOf i).toNat)
    case atStart => exact ⟨0, Nat.zero_le _, rfl, Upto.zero _ _, HB.out⟩
    case round =>
      obtain ⟨k, hk, rfl, hup, hB⟩ := hrel
      have HU := Lib.hid hup
      have HB1 := Lib.hid hB
      clear hup hB
      by_cases hkn : k < n
      · have g2 : (k : Int) < (n : Int) := by omega
        obtain ⟨b, off, x, rfl, hb, hxk, ht⟩ := (HX.out.keep HB1.out).at hkn
        obtain ⟨x0, x1, x2⟩ := ht
        have HXK := Lib.hid hxk
        have HBN := Lib.hid (show Below w.heap.size w (wr.alloc (.cells (quA x.s x.t x.c) quT)) from HB1.out.alloc HB1.out.size _)
        clear hxk
        cases hr : okQ x.toQue with
        | true =>
          have HR := Lib.hid hr
          clear hr
          go_wp2_with fail
          refine (rightQue_any x.s x.toQue _ (qrd_name x) (HS.out x (List.mem_of_getElem? HXK.out))).mono ?_
          rw [HR.out]
          rintro e w1 ⟨rfl, hB2⟩
          have HB2 := Lib.hid (HBN.out.trans (hB2.mono HBN.out.size))
          have HU2 := Lib.hid (HU.out.succ HXK.out HR.out)
          clear hB2 x0 x1 x2
          go_wp2_with fail
          go_roundw
          case rel => exact ⟨k + 1, by omega, by go_num, HU2.out, HB2.out⟩
          case measure => simp [intOf]; omega
        | false =>
          have HR := Lib.hid hr
          clear hr
          go_wp2_with fail
          refine (rightQue_any x.s x.toQue _ (qrd_name x) (HS.out x (List.mem_of_getElem? HXK.out))).mono ?_
          rw [HR.out]
          rintro e w1 ⟨rfl, hB2⟩
          have HB2 := Lib.hid (HBN.out.trans (hB2.mono HBN.out.size))
          clear hB2 x0 x1 x2
          go_wp2_with fail
          go_ret
          exact ⟨by rw [HOK.out, not_all HXK.out HR.out]; rfl, HB2.out⟩
      · obtain rfl : k = n := by omega
        go_wp2_with fail
        go_ret
        refine ⟨?_, HB1.out⟩
        have hu := HU.out
        rw [← HN.out] at hu
        rw [HOK.out, hu.all]
        rfl
  · have HOK := Lib.hid (show okSec okQ (xs.map Qrd.toQue) = false by rw [hok, hn, decide_eq_false h65]; rfl)
    have g1 : (65535 : Int) < (n : Int) := by omega
    clear hok hn hx hs
    go_enter Tryz.func28, Tryz.ntmps28
    go_wp2_with fail
    go_ret
    exact ⟨by rw [HOK.out]; rfl, Below.refl _ _⟩

set_option maxHeartbeats 2000000 in
set_option maxRecDepth 20000 in
theorem rightSecR_any (A : Option Addr) (n c : Nat) (xs : List Rrd) (w : World) (hx : SeesR w w.heap.size A n xs) (hs : SmallR xs) :
    Calls Tryz.prog 26 #[.slice A n c, .func (.func 27) #[] #[]] w fun e w' => e = .returned (.bool (okSec okR (xs.map Rrd.toRec))) ∧ Below w.heap.size w w' := by
  have hok := okSec_map (g := Rrd.toRec) (f := okR) (xs := xs)
  have hn := hx.1
  by_cases h65 : n ≤ 65535
  · have hok : okSec okR (xs.map Rrd.toRec) = xs.all fun x => okR x.toRec := by rw [hok, hn, decide_eq_true h65]; rfl
    have HOK := Lib.hid hok
    have HX := Lib.hid hx
    have HS := Lib.hid hs
    have HN := Lib.hid hn
    have g1 : decide ((65535 : Int) < (n : Int)) = false := by rw [decide_eq_false_iff_not]; omega
    have HB := Lib.hid (Below.refl w.heap.size w)
    clear hok hn hx hs
    go_enter Tryz.func26, Tryz.ntmps26
    go_wp2_with fail
    go_loopw [12] (fun i wr => ∃ k : Nat, k ≤ n ∧ i = .int .i64 (k : Nat) ∧ Upto (fun x => okR x.toRec) xs k ∧ Below w.heap.size w wr) (fun i _ => n - (intOf i).toNat)
    case atStart => exact ⟨0, Nat.zero_le _, rfl, Upto.zero _ _, HB.out⟩
    case round =>
      obtain ⟨k, hk, rfl, hup, hB⟩ := hrel
      have HU := Lib.hid hup
      have HB1 := Lib.hid hB
      clear hup hB
      by_cases hkn : k < n
      · have g2 : (k : Int) < (n : Int) := by omega
        obtain ⟨b, off, x, rfl, hb, hxk, ht⟩ := (HX.out.keep HB1.out).at hkn
        obtain ⟨x0, x1, x2, x3, x4⟩ := ht
        have HXK := Lib.hid hxk
        have HBN := Lib.hid (show Below w.heap.size w (wr.alloc (.cells (rrA x.s x.d x.t x.c x.l) rrT)) from HB1.out.alloc HB1.out.size _)
        clear hxk
        cases hr : okR x.toRec with
        | true =>
          have HR := Lib.hid hr
          clear hr
          go_wp2_with fail
          refine (RRight_any x.s x.d x.toRec _ (rrd_name x) (rrd_data x) (HS.out x (List.mem_of_getElem? HXK.out)).1 (HS.out x (List.mem_of_getElem? HXK.out)).2).mono ?_
          rw [HR.out]
          rintro e w1 ⟨rfl, hB2⟩
          have HB2 := Lib.hid (HBN.out.trans (hB2.mono HBN.out.size))
          have HU2 := Lib.hid (HU.out.succ HXK.out HR.out)
          clear hB2 x0 x1 x2 x3 x4
          go_wp2_with fail
          go_roundw
          case rel => exact ⟨k + 1, by omega, by go_num, HU2.out, HB2.out⟩
          case measure => simp [intOf]; omega
        | false =>
          have HR := Lib.hid hr
          clear hr
          go_wp2_with fail
          refine (RRight_any x.s x.d x.toRec _ (rrd_name x) (rrd_data x) (HS.out x (List.mem_of_getElem? HXK.out)).1 (HS.out x (List.mem_of_getElem? HXK.out)).2).mono ?_
          rw [HR.out]
          rintro e w1 ⟨rfl, hB2⟩
          have HB2 := Lib.hid (HBN.out.trans (hB2.mono HBN.out.size))
          clear hB2 x0 x1 x2 x3 x4
          go_wp2_with fail
          go_ret
          exact ⟨by rw [HOK.out, not_all HXK.out HR.out]; rfl, HB2.out⟩
      · obtain rfl : k = n := by omega
        go_wp2_with fail
        go_ret
        refine ⟨?_, HB1.out⟩
        have hu := HU.out
        rw [← HN.out] at hu
        rw [HOK.out, hu.all]
        rfl
  · have HOK := Lib.hid (show okSec okR (xs.map Rrd.toRec) = false by rw [hok, hn, decide_eq_false h65]; rfl)
    have g1 : (65535 : Int) < (n : Int) := by omega
    clear hok hn hx hs
    go_enter Tryz.func26, Tryz.ntmps26
    go_wp2_with fail
    go_ret
    exact ⟨by rw [HOK.out]; rfl, Below.refl _ _⟩


theorem sec_0 (g : Nat) (W : World) : (Instr.index 48 (secA g) (.int .i64 0)).run Tryz.prog W = .ok (.pointer (some ⟨g, 10, none⟩)) W := by kernel_rfl
theorem sec_1 (g : Nat) (W : World) : (Instr.index 48 (secA g) (.int .i64 1)).run Tryz.prog W = .ok (.pointer (some ⟨g, 11, none⟩)) W := by kernel_rfl
theorem sec_2 (g : Nat) (W : World) : (Instr.index 48 (secA g) (.int .i64 2)).run Tryz.prog W = .ok (.pointer (some ⟨g, 12, none⟩)) W := by kernel_rfl
attribute [local go_sem] sec_0 sec_1 sec_2

/-- a message's value: its slices, and what they hold -/
structure Mrd where
  qA : Option Addr
  qn : Nat
  qc : Nat
  aA : Option Addr
  an : Nat
  ac : Nat
  nA : Option Addr
  nn : Nat
  nc : Nat
  dA : Option Addr
  dn : Nat
  dc : Nat
  lq : List Qrd
  la : List Rrd
  ln : List Rrd
  ld : List Rrd
def Mrd.toMes (h : Hd) (x : Mrd) : Mes := ⟨h, x.lq.map Qrd.toQue, x.la.map Rrd.toRec, x.ln.map Rrd.toRec, x.ld.map Rrd.toRec⟩
def msV (h : Hd) (x : Mrd) : Array Value := msA h (.slice x.qA x.qn x.qc) (.slice x.aA x.an x.ac) (.slice x.nA x.nn x.nc) (.slice x.dA x.dn x.dc)
structure SeesM (w : World) (B : Nat) (x : Mrd) : Prop where
  q : SeesQ w B x.qA x.qn x.lq
  a : SeesR w B x.aA x.an x.la
  n : SeesR w B x.nA x.nn x.ln
  d : SeesR w B x.dA x.dn x.ld
structure SmallM (x : Mrd) : Prop where
  q : SmallQ x.lq
  a : SmallR x.la
  n : SmallR x.ln
  d : SmallR x.ld
theorem SeesM.keep {w w' : World} {B : Nat} {x : Mrd} (h : SeesM w B x) (hb : Below B w w') : SeesM w' B x := ⟨h.q.keep hb, h.a.keep hb, h.n.keep hb, h.d.keep hb⟩
theorem SeesM.more {w : World} {B B' : Nat} {x : Mrd} (h : SeesM w B x) (hB : B ≤ B') : SeesM w B' x := ⟨h.q.more hB, h.a.more hB, h.n.more hB, h.d.more hB⟩
/-- the three sections, ahead of k -/
def Secs (m : Mes) (k : Nat) : Prop := (1 ≤ k → okSec okR m.an = true) ∧ (2 ≤ k → okSec okR m.ns = true) ∧ (3 ≤ k → okSec okR m.ad = true)
set_option maxHeartbeats 4000000 in
set_option maxRecDepth 20000 in
theorem Formed_any (h : Hd) (x : Mrd) (w : World) (hx : SeesM w w.heap.size x) (hs : SmallM x) :
    Calls Tryz.prog 9 #[.agg (msV h x)] w fun e w' => e = .returned (.bool (okM (x.toMes h))) ∧ Below w.heap.size w w' := by
  obtain ⟨W, hW⟩ : ∃ W, W = w.alloc (.cells (msV h x) msT) := ⟨_, rfl⟩
  obtain ⟨g, hg⟩ : ∃ g, g = w.heap.size := ⟨_, rfl⟩
  have HB0 := Lib.hid (show Below w.heap.size w W by rw [hW]; exact (Below.refl _ _).alloc (Nat.le_refl _) _)
  have HW0 := Lib.hid (show Whole W g msT (msV h x) by rw [hW, hg]; exact Whole.new w msT (msV h x))
  have HX := Lib.hid hx
  have HS := Lib.hid hs
  have HWW := Lib.hid hW
  have HG := Lib.hid hg
  obtain ⟨m, hm⟩ : ∃ m, m = x.toMes h := ⟨_, rfl⟩
  have HM := Lib.hid hm
  have hokm : okM m = (okH h && (okSec okR m.an && (okSec okR m.ns && (okSec okR m.ad && okSec okQ m.q)))) := by rw [hm]; rfl
  rw [← hm]
  clear hW hg hx hs hm
  unfold msV msA at *
  obtain ⟨c0, _, c2, _, _, _, _, c7, c8, c9, c10, c11, c12⟩ := ms_facts HW0.out
  have hokh : okH h = (inB h.id 65535 && inB h.op 15 && inB h.z 7 && inB h.rc 15) := rfl
  cases h0 : inB h.id 65535 with
  | false =>
    have HO := Lib.hid (show okM m = false by rw [hokm, hokh, h0]; simp)
    have H0 := Lib.hid h0
    clear hokm hokh h0
    go_enter Tryz.func9, Tryz.ntmps9
    go_wp2_with fail
    rw [← HWW.out, ← HG.out]
    refine (inRange_any h.id 65535 _).mono ?_
    rw [H0.out]
    rintro e w1 ⟨rfl, rfl⟩
    go_wp2_with fail
    go_ret
    exact ⟨by rw [HO.out]; rfl, HB0.out⟩
  | true =>
    have H0 := Lib.hid h0
    cases h1 : inB h.op 15 with
    | false =>
      have HO := Lib.hid (show okM m = false by rw [hokm, hokh, h0, h1]; simp)
      have H1 := Lib.hid h1
      clear hokm hokh h1
      go_enter Tryz.func9, Tryz.ntmps9
      go_wp2_with fail
      rw [← HWW.out, ← HG.out]
      refine (inRange_any h.id 65535 _).mono ?_
      rw [H0.out]
      rintro e w1 ⟨rfl, rfl⟩
      go_wp2_with fail
      refine (inRange_any h.op 15 _).mono ?_
      rw [H1.out]
      rintro e w1 ⟨rfl, rfl⟩
      go_wp2_with fail
      go_ret
      exact ⟨by rw [HO.out]; rfl, HB0.out⟩
    | true =>
      have H1 := Lib.hid h1
      cases h2 : inB h.z 7 with
      | false =>
        have HO := Lib.hid (show okM m = false by rw [hokm, hokh, h0, h1, h2]; simp)
        have H2 := Lib.hid h2
        clear hokm hokh h2
        go_enter Tryz.func9, Tryz.ntmps9
        go_wp2_with fail
        rw [← HWW.out, ← HG.out]
        refine (inRange_any h.id 65535 _).mono ?_
        rw [H0.out]
        rintro e w1 ⟨rfl, rfl⟩
        go_wp2_with fail
        refine (inRange_any h.op 15 _).mono ?_
        rw [H1.out]
        rintro e w1 ⟨rfl, rfl⟩
        go_wp2_with fail
        refine (inRange_any h.z 7 _).mono ?_
        rw [H2.out]
        rintro e w1 ⟨rfl, rfl⟩
        go_wp2_with fail
        go_ret
        exact ⟨by rw [HO.out]; rfl, HB0.out⟩
      | true =>
        have H2 := Lib.hid h2
        cases h3 : inB h.rc 15 with
        | false =>
          have HO := Lib.hid (show okM m = false by rw [hokm, hokh, h0, h1, h2, h3]; simp)
          have H3 := Lib.hid h3
          clear hokm hokh h3
          go_enter Tryz.func9, Tryz.ntmps9
          go_wp2_with fail
          rw [← HWW.out, ← HG.out]
          refine (inRange_any h.id 65535 _).mono ?_
          rw [H0.out]
          rintro e w1 ⟨rfl, rfl⟩
          go_wp2_with fail
          refine (inRange_any h.op 15 _).mono ?_
          rw [H1.out]
          rintro e w1 ⟨rfl, rfl⟩
          go_wp2_with fail
          refine (inRange_any h.z 7 _).mono ?_
          rw [H2.out]
          rintro e w1 ⟨rfl, rfl⟩
          go_wp2_with fail
          refine (inRange_any h.rc 15 _).mono ?_
          rw [H3.out]
          rintro e w1 ⟨rfl, rfl⟩
          go_wp2_with fail
          go_ret
          exact ⟨by rw [HO.out]; rfl, HB0.out⟩
        | true =>
          have H3 := Lib.hid h3
          have HOK := Lib.hid (show okM m = (okSec okR m.an && (okSec okR m.ns && (okSec okR m.ad && okSec okQ m.q))) by rw [hokm, hokh, h0, h1, h2, h3]; rfl)
          clear hokm hokh h0 h1 h2 h3
          go_enter Tryz.func9, Tryz.ntmps9
          go_wp2_with fail
          rw [← HWW.out, ← HG.out]
          refine (inRange_any h.id 65535 _).mono ?_
          rw [H0.out]
          rintro e w1 ⟨rfl, rfl⟩
          go_wp2_with fail
          refine (inRange_any h.op 15 _).mono ?_
          rw [H1.out]
          rintro e w1 ⟨rfl, rfl⟩
          go_wp2_with fail
          refine (inRange_any h.z 7 _).mono ?_
          rw [H2.out]
          rintro e w1 ⟨rfl, rfl⟩
          go_wp2_with fail
          refine (inRange_any h.rc 15 _).mono ?_
          rw [H3.out]
          rintro e w1 ⟨rfl, rfl⟩
          go_wp2_with fail
          refine (sectionsOf_any g _).mono ?_
          rintro e w2 ⟨rfl, hB2⟩
          have HB2 := Lib.hid (HB0.out.trans (hB2.mono HB0.out.size))
          have HW2 := Lib.hid (HW0.out.below hB2 HW0.out.lt)
          clear hB2 c0 c2 c7 c8 c9 c10 c11 c12
          go_wp2_with fail
          go_loopw [28] (fun i wr => ∃ k : Nat, k ≤ 3 ∧ i = .int .i64 (k : Nat) ∧ Secs m k ∧ Below w2.heap.size w2 wr) (fun i _ => 3 - (intOf i).toNat)
          case atStart => exact ⟨0, by omega, rfl, ⟨by omega, by omega, by omega⟩, Below.refl _ _⟩
          case round =>
            obtain ⟨k, hk, rfl, hsec, hB⟩ := hrel
            have HSE := Lib.hid hsec
            have HBR := Lib.hid (HB2.out.trans (hB.mono HB2.out.size))
            have HBQ := Lib.hid hB
            have HWR := Lib.hid (HW2.out.below hB HW2.out.lt)
            clear hsec hB
            obtain ⟨_, _, _, _, _, _, _, _, _, c9, c10, c11, c12⟩ := ms_facts HWR.out
            have hxs := (HX.out.keep HBR.out).more HBR.out.size
            rcases (show k = 0 ∨ k = 1 ∨ k = 2 ∨ k = 3 by omega) with rfl | rfl | rfl | rfl
            · cases hr : okSec okR m.an with
              | true =>
                have HR := Lib.hid hr
                have HSX := Lib.hid (show Secs m 1 from ⟨fun _ => hr, by omega, by omega⟩)
                clear hr
                go_wp2_with fail
                refine (rightSecR_any x.aA x.an x.ac x.la _ hxs.a HS.out.a).mono ?_
                rw [show okSec okR (x.la.map Rrd.toRec) = true by have := HR.out; rw [HM.out] at this; exact this]
                rintro e w3 ⟨rfl, hB3⟩
                have HB3 := Lib.hid (HBQ.out.trans (hB3.mono HBQ.out.size))
                clear hB3 c9 c10 c11 c12 hxs
                go_wp2_with fail
                go_roundw
                case rel => exact ⟨1, by omega, rfl, HSX.out, HB3.out⟩
                case measure => simp [intOf]
              | false =>
                have HO := Lib.hid (show okM m = false by rw [HOK.out, hr]; simp)
                have HR := Lib.hid hr
                clear hr
                go_wp2_with fail
                refine (rightSecR_any x.aA x.an x.ac x.la _ hxs.a HS.out.a).mono ?_
                rw [show okSec okR (x.la.map Rrd.toRec) = false by have := HR.out; rw [HM.out] at this; exact this]
                rintro e w3 ⟨rfl, hB3⟩
                have HB3 := Lib.hid (HBR.out.trans (hB3.mono HBR.out.size))
                clear hB3 c9 c10 c11 c12 hxs
                go_wp2_with fail
                go_ret
                exact ⟨by rw [HO.out]; rfl, HB3.out⟩
            · cases hr : okSec okR m.ns with
              | true =>
                have HR := Lib.hid hr
                have HSX := Lib.hid (show Secs m 2 from ⟨fun _ => HSE.out.1 (by omega), fun _ => hr, by omega⟩)
                clear hr
                go_wp2_with fail
                refine (rightSecR_any x.nA x.nn x.nc x.ln _ hxs.n HS.out.n).mono ?_
                rw [show okSec okR (x.ln.map Rrd.toRec) = true by have := HR.out; rw [HM.out] at this; exact this]
                rintro e w3 ⟨rfl, hB3⟩
                have HB3 := Lib.hid (HBQ.out.trans (hB3.mono HBQ.out.size))
                clear hB3 c9 c10 c11 c12 hxs
                go_wp2_with fail
                go_roundw
                case rel => exact ⟨2, by omega, rfl, HSX.out, HB3.out⟩
                case measure => simp [intOf]
              | false =>
                have HO := Lib.hid (show okM m = false by rw [HOK.out, hr]; simp)
                have HR := Lib.hid hr
                clear hr
                go_wp2_with fail
                refine (rightSecR_any x.nA x.nn x.nc x.ln _ hxs.n HS.out.n).mono ?_
                rw [show okSec okR (x.ln.map Rrd.toRec) = false by have := HR.out; rw [HM.out] at this; exact this]
                rintro e w3 ⟨rfl, hB3⟩
                have HB3 := Lib.hid (HBR.out.trans (hB3.mono HBR.out.size))
                clear hB3 c9 c10 c11 c12 hxs
                go_wp2_with fail
                go_ret
                exact ⟨by rw [HO.out]; rfl, HB3.out⟩
            · cases hr : okSec okR m.ad with
              | true =>
                have HR := Lib.hid hr
                have HSX := Lib.hid (show Secs m 3 from ⟨fun _ => HSE.out.1 (by omega), fun _ => HSE.out.2.1 (by omega), fun _ => hr⟩)
                clear hr
                go_wp2_with fail
                refine (rightSecR_any x.dA x.dn x.dc x.ld _ hxs.d HS.out.d).mono ?_
                rw [show okSec okR (x.ld.map Rrd.toRec) = true by have := HR.out; rw [HM.out] at this; exact this]
                rintro e w3 ⟨rfl, hB3⟩
                have HB3 := Lib.hid (HBQ.out.trans (hB3.mono HBQ.out.size))
                clear hB3 c9 c10 c11 c12 hxs
                go_wp2_with fail
                go_roundw
                case rel => exact ⟨3, by omega, rfl, HSX.out, HB3.out⟩
                case measure => simp [intOf]
              | false =>
                have HO := Lib.hid (show okM m = false by rw [HOK.out, hr]; simp)
                have HR := Lib.hid hr
                clear hr
                go_wp2_with fail
                refine (rightSecR_any x.dA x.dn x.dc x.ld _ hxs.d HS.out.d).mono ?_
                rw [show okSec okR (x.ld.map Rrd.toRec) = false by have := HR.out; rw [HM.out] at this; exact this]
                rintro e w3 ⟨rfl, hB3⟩
                have HB3 := Lib.hid (HBR.out.trans (hB3.mono HBR.out.size))
                clear hB3 c9 c10 c11 c12 hxs
                go_wp2_with fail
                go_ret
                exact ⟨by rw [HO.out]; rfl, HB3.out⟩
            · have HO := Lib.hid (show okM m = okSec okQ m.q by rw [HOK.out, HSE.out.1 (by omega), HSE.out.2.1 (by omega), HSE.out.2.2 (by omega)]; rfl)
              go_wp2_with fail
              refine (rightSecQ_any x.qA x.qn x.qc x.lq _ hxs.q HS.out.q).mono ?_
              rw [show okSec okQ (x.lq.map Qrd.toQue) = okM m by rw [HO.out, HM.out]; rfl]
              rintro e w3 ⟨rfl, hB3⟩
              go_wp2_with fail
              go_ret
              exact ⟨rfl, HBR.out.trans (hB3.mono HBR.out.size)⟩
end Go.Proofs.YtokjmefleanjaaaGreat
