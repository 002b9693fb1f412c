/- Decode of the program. No statement of the seat is proved here. -/
import Derived.Test.YtokjmefleanjaaaGreatMesL
import Derived.Test.YtokjmefleanjaaaGreatMesB
namespace Go.Proofs.YtokjmefleanjaaaGreat
open Go.RowKit Go.Op
attribute [local go_sem] sec_0 sec_1 sec_2

theorem SeesQ.set {w : World} {B g i n : Nat} {A : Option Addr} {xs : List Qrd} (h : SeesQ w B A n xs) (hA : ∀ a, A = some a → g < a.block) (u : Value) : SeesQ (w.setCell ⟨g, i, none⟩ u) B A n xs :=
  h.puts (g := g) (fun a ha => by have := hA a ha; omega) [u] i
theorem SeesR.puts {w : World} {B g n : Nat} {A : Option Addr} {xs : List Rrd} (h : SeesR w B A n xs) (hA : ∀ a, A = some a → a.block ≠ g) (l : List Value) (i : Nat) : SeesR (putAll w g i l) B A n xs :=
  ⟨h.1, fun hn => by
    obtain ⟨b, off, e, hb, hc⟩ := h.2 hn
    have hne : b ≠ g := hA _ e
    refine ⟨b, off, e, hb, fun j x hx => ?_⟩
    obtain ⟨c0, c1, c2, c3, c4⟩ := hc j x hx
    exact ⟨(putAll_cell (p := ⟨b, off + j * 5, none⟩) hne l i).trans c0, (putAll_cell (p := ⟨b, off + j * 5 + 1, none⟩) hne l i).trans c1, (putAll_cell (p := ⟨b, off + j * 5 + 2, none⟩) hne l i).trans c2, (putAll_cell (p := ⟨b, off + j * 5 + 3, none⟩) hne l i).trans c3, (putAll_cell (p := ⟨b, off + j * 5 + 4, none⟩) hne l i).trans c4⟩⟩
/-- the lists of a message lie behind block g -/
structure FarM (x : Mrd) (g : Nat) : Prop where
  q : ∀ a, x.qA = some a → g < a.block
  a : ∀ a, x.aA = some a → g < a.block
  n : ∀ a, x.nA = some a → g < a.block
  d : ∀ a, x.dA = some a → g < a.block
theorem SeesM.puts {w : World} {B g g2 : Nat} {x : Mrd} (h : SeesM w B x) (hf : FarM x g) (hg : g2 ≤ g) (l : List Value) (i : Nat) : SeesM (putAll w g2 i l) B x :=
  ⟨h.q.puts (fun a ha => by have := hf.q a ha; omega) l i, h.a.puts (fun a ha => by have := hf.a a ha; omega) l i, h.n.puts (fun a ha => by have := hf.n a ha; omega) l i, h.d.puts (fun a ha => by have := hf.d a ha; omega) l i⟩
theorem SeesM.set {w : World} {B g i : Nat} {x : Mrd} (h : SeesM w B x) (hf : FarM x g) (u : Value) : SeesM (w.setCell ⟨g, i, none⟩ u) B x := h.puts hf (Nat.le_refl _) [u] i

/-- what is still to be read, ahead of section k -/
def restK (M : List UInt8) (hd : Hd) (q : List Que) (an ns ad : List Rec) : Nat → Nat → Option Mes
  | 0, p => match secR recR M p (num (seg M 6 8)) with
    | none => none
    | some (an, p2) => match secR recR M p2 (num (seg M 8 10)) with
      | none => none
      | some (ns, p3) => match secR recR M p3 (num (seg M 10 12)) with
        | none => none
        | some (ad, p4) => if p4 = M.length then some ⟨hd, q, an, ns, ad⟩ else none
  | 1, p2 => match secR recR M p2 (num (seg M 8 10)) with
      | none => none
      | some (ns, p3) => match secR recR M p3 (num (seg M 10 12)) with
        | none => none
        | some (ad, p4) => if p4 = M.length then some ⟨hd, q, an, ns, ad⟩ else none
  | 2, p3 => match secR recR M p3 (num (seg M 10 12)) with
        | none => none
        | some (ad, p4) => if p4 = M.length then some ⟨hd, q, an, ns, ad⟩ else none
  | _, p4 => if p4 = M.length then some ⟨hd, q, an, ns, ad⟩ else none
theorem dec_short {M : List UInt8} (h : M.length < 12) : decR M = none := by unfold decR; rw [if_pos h]
theorem dec_noq {M : List UInt8} (h : 12 ≤ M.length) (k : secR queR M 12 (num (seg M 4 6)) = none) : decR M = none := by unfold decR; rw [if_neg (by omega), k]
theorem dec_q {M : List UInt8} (h : 12 ≤ M.length) {q : List Que} {p1 : Nat} (k : secR queR M 12 (num (seg M 4 6)) = some (q, p1)) : decR M = restK M (hdOf (num (seg M 0 2)) (num (seg M 2 4))) q [] [] [] 0 p1 := by unfold decR; rw [if_neg (by omega), k]; rfl
theorem rest_no {M : List UInt8} {hd : Hd} {q : List Que} {an ns ad : List Rec} {p : Nat} : (secR recR M p (num (seg M 6 8)) = none → restK M hd q an ns ad 0 p = none) ∧ (secR recR M p (num (seg M 8 10)) = none → restK M hd q an ns ad 1 p = none) ∧ (secR recR M p (num (seg M 10 12)) = none → restK M hd q an ns ad 2 p = none) := by
  refine ⟨fun h => ?_, fun h => ?_, fun h => ?_⟩ <;> simp only [restK, h]
theorem rest_0 {M : List UInt8} {hd : Hd} {q : List Que} {an ns ad l : List Rec} {p e : Nat} (h : secR recR M p (num (seg M 6 8)) = some (l, e)) : restK M hd q an ns ad 0 p = restK M hd q l ns ad 1 e := by
  simp only [restK, h]
theorem rest_1 {M : List UInt8} {hd : Hd} {q : List Que} {an ns ad l : List Rec} {p e : Nat} (h : secR recR M p (num (seg M 8 10)) = some (l, e)) : restK M hd q an ns ad 1 p = restK M hd q an l ad 2 e := by
  simp only [restK, h]
theorem rest_2 {M : List UInt8} {hd : Hd} {q : List Que} {an ns ad l : List Rec} {p e : Nat} (h : secR recR M p (num (seg M 10 12)) = some (l, e)) : restK M hd q an ns ad 2 p = restK M hd q an ns l 3 e := by
  simp only [restK, h]
theorem sec_le {α : Type} {R : List UInt8 → Nat → Option (α × Nat)} {M : List UInt8} (hR : ∀ p x e, R M p = some (x, e) → e ≤ M.length) : ∀ (n p : Nat) (l : List α) (e : Nat), p ≤ M.length → secR R M p n = some (l, e) → e ≤ M.length ∧ l.length = n := by
  intro n
  induction n with
  | zero => intro p l e hp h; rw [secR_zero] at h; simp only [Option.some.injEq, Prod.mk.injEq] at h; obtain ⟨rfl, rfl⟩ := h; exact ⟨hp, rfl⟩
  | succ n ih =>
    intro p l e hp h
    cases hr : R M p with
    | none => rw [secR_no hr] at h; cases h
    | some q =>
      obtain ⟨x, e1⟩ := q
      rw [secR_yes hr] at h
      cases hs : secR R M e1 n with
      | none => rw [hs] at h; cases h
      | some r =>
        obtain ⟨l1, e2⟩ := r
        rw [hs] at h
        simp only [Option.map_some, Option.some.injEq, Prod.mk.injEq] at h
        obtain ⟨rfl, rfl⟩ := h
        obtain ⟨i1, i2⟩ := ih e1 l1 e2 (hR p x e1 hr) hs
        exact ⟨i1, by simp [i2]⟩
def DecOut (M : List UInt8) (w : World) (e : Ending) (w' : World) : Prop :=
  Below w.heap.size w w' ∧ match decR M with
  | none => e = .returned (.tuple #[.agg (msA zeroH nilS nilS nilS nilS), .int .i64 2])
  | some m => ∃ x : Mrd, e = .returned (.tuple #[.agg (msV m.h x), .int .i64 0]) ∧ SeesM w' w'.heap.size x ∧ x.lq = m.q.map q2d ∧ x.la = m.an.map r2d ∧ x.ln = m.ns.map r2d ∧ x.ld = m.ad.map r2d
theorem dec_out_no {M : List UInt8} {w w' : World} {e : Ending} (h : decR M = none) (hb : Below w.heap.size w w') (he : e = .returned (.tuple #[.agg (msA zeroH nilS nilS nilS nilS), .int .i64 2])) : DecOut M w e w' := ⟨hb, by rw [h]; exact he⟩
theorem zero_facts {w : World} {g : Nat} (h : Whole w g msT (msA zeroH nilS nilS nilS nilS)) : w.cell? ⟨g, 0, none⟩ = some (.int .i64 0) ∧ w.cell? ⟨g, 1, none⟩ = some (.bool false) ∧ w.cell? ⟨g, 2, none⟩ = some (.int .i64 0) ∧ w.cell? ⟨g, 3, none⟩ = some (.bool false) ∧ w.cell? ⟨g, 4, none⟩ = some (.bool false) ∧ w.cell? ⟨g, 5, none⟩ = some (.bool false) ∧ w.cell? ⟨g, 6, none⟩ = some (.bool false) ∧ w.cell? ⟨g, 7, none⟩ = some (.int .i64 0) ∧ w.cell? ⟨g, 8, none⟩ = some (.int .i64 0) ∧ w.cell? ⟨g, 9, none⟩ = some (.slice none 0 0) ∧ w.cell? ⟨g, 10, none⟩ = some (.slice none 0 0) ∧ w.cell? ⟨g, 11, none⟩ = some (.slice none 0 0) ∧ w.cell? ⟨g, 12, none⟩ = some (.slice none 0 0) := ms_facts h
/-- where the loop over the sections stands -/
structure DecAt (M : List UInt8) (hd : Hd) (g k p : Nat) (w1 wr : World) : Prop where
  ex : ∃ (x : Mrd) (q : List Que) (an ns ad : List Rec), Whole wr g msT (msV hd x) ∧ SeesM wr wr.heap.size x ∧ FarM x g ∧ x.lq = q.map q2d ∧ x.la = an.map r2d ∧ x.ln = ns.map r2d ∧ x.ld = ad.map r2d ∧ decR M = restK M hd q an ns ad k p
  below : Below g w1 wr

set_option maxHeartbeats 16000000 in
set_option maxRecDepth 20000 in
theorem Decode_any (S : ByteArray) (M : List UInt8) (w : World) (hS : S = mk M) (hM : M.length ≤ 800000) :
    Calls Tryz.prog 11 #[.string S] w fun e w' => DecOut M w e w' := by
  have hsz : S.size = M.length := by rw [hS, mk_size]
  have HS := Lib.hid hS
  have HSZ := Lib.hid hsz
  have HB0 := Lib.hid (show Below w.heap.size w (w.alloc (.cells zeroM msT)) from (Below.refl _ _).alloc (Nat.le_refl _) _)
  have HW0 := Lib.hid (Whole.new w msT zeroM)
  clear hS hsz
  unfold zeroM at *
  by_cases h12 : M.length < 12
  · have HD := Lib.hid (dec_short h12)
    go_enter Tryz.func11, Tryz.ntmps11
    go_wp2_with fail
    refine (readHead_any S M _ HS.out hM).mono ?_
    rintro e w1 ⟨hB1, he⟩
    rw [if_pos h12] at he
    subst he
    have HB1 := Lib.hid (HB0.out.trans (hB1.mono HB0.out.size))
    have HB2 := Lib.hid (HB1.out.alloc HB1.out.size (.cells (msA zeroH nilS nilS nilS nilS) msT))
    have HW2 := Lib.hid ((HW0.out.below hB1 HW0.out.lt).alloc (.cells (msA zeroH nilS nilS nilS nilS) msT))
    clear hB1
    obtain ⟨e0, e1, e2, e3, e4, e5, e6, e7, e8, e9, e10, e11, e12⟩ := zero_facts HW2.out
    obtain ⟨f0, f1, f2, f3, f4, f5, f6, f7, f8, f9, f10, f11, f12⟩ := ms_frozen HW2.out
    have HRET := Lib.hid (show Whole (putAll (w1.alloc (.cells (msA zeroH nilS nilS nilS nilS) msT)) w.heap.size 0 (msL zeroH nilS nilS nilS nilS)) w.heap.size msT (msL zeroH nilS nilS nilS nilS).toArray from whole_new_row (msL zeroH nilS nilS nilS nilS) HW2.out rfl)
    have FIN := Lib.hid (show DecOut M w (.returned (.tuple #[.agg (msL zeroH nilS nilS nilS nilS).toArray, .int .i64 2])) (putAll (w1.alloc (.cells (msA zeroH nilS nilS nilS nilS) msT)) w.heap.size 0 (msL zeroH nilS nilS nilS nilS)) from dec_out_no HD.out (putAll_below (Nat.le_refl _) _ 0 HB2.out) rfl)
    unfold msA zeroH nilS at *
    simp only at *
    go_wp2_with fail
    exact retm2 rfl rfl rfl rfl HRET.out ms_size FIN.out
  · have hyes : 12 ≤ M.length := by omega
    have nn : ∀ a, a + 2 ≤ M.length → num (seg M a (a + 2)) ≤ 65535 := fun a ha => by
      have := num_lt (seg M a (a + 2))
      rw [seg_len ha, show a + 2 - a = 2 by omega] at this
      omega
    have l2 : num (seg M 4 6) ≤ 65535 := nn 4 (by omega)
    have l3 : num (seg M 6 8) ≤ 65535 := nn 6 (by omega)
    have l4 : num (seg M 8 10) ≤ 65535 := nn 8 (by omega)
    have l5 : num (seg M 10 12) ≤ 65535 := nn 10 (by omega)
    obtain ⟨N2, hN2⟩ : ∃ N2, N2 = num (seg M 4 6) := ⟨_, rfl⟩
    obtain ⟨N3, hN3⟩ : ∃ N3, N3 = num (seg M 6 8) := ⟨_, rfl⟩
    obtain ⟨N4, hN4⟩ : ∃ N4, N4 = num (seg M 8 10) := ⟨_, rfl⟩
    obtain ⟨N5, hN5⟩ : ∃ N5, N5 = num (seg M 10 12) := ⟨_, rfl⟩
    rw [← hN2] at l2; rw [← hN3] at l3; rw [← hN4] at l4; rw [← hN5] at l5
    obtain ⟨HDR, hHDR⟩ : ∃ HDR, HDR = hdOf (num (seg M 0 2)) (num (seg M 2 4)) := ⟨_, rfl⟩
    have E2 := Lib.hid hN2
    have E3 := Lib.hid hN3
    have E4 := Lib.hid hN4
    have E5 := Lib.hid hN5
    have EH := Lib.hid hHDR
    have HY := Lib.hid hyes
    clear hN2 hN3 hN4 hN5 hHDR nn hyes
    go_enter Tryz.func11, Tryz.ntmps11
    go_wp2_with fail
    refine (readHead_any S M _ HS.out hM).mono ?_
    rintro e w1 ⟨hB1, he⟩
    rw [if_neg h12, ← E2.out, ← E3.out, ← E4.out, ← E5.out, ← EH.out] at he
    obtain ⟨b, off, c, rfl, hb, u0, u1, u2, u3⟩ := he
    have HB1 := Lib.hid (HB0.out.trans (hB1.mono HB0.out.size))
    have HW1 := Lib.hid (HW0.out.below hB1 HW0.out.lt)
    have hlt := HW1.out.lt
    obtain ⟨W2, hW2⟩ : ∃ W2, W2 = w1.alloc (.cells (msA HDR nilS nilS nilS nilS) msT) := ⟨_, rfl⟩
    obtain ⟨g4, hg4⟩ : ∃ g4, g4 = w1.heap.size := ⟨_, rfl⟩
    have HBN := Lib.hid (show Below g4 w1 W2 by rw [hW2, hg4]; exact (Below.refl _ _).alloc (Nat.le_refl _) _)
    have HWN := Lib.hid (show Whole W2 g4 msT (msA HDR nilS nilS nilS nilS) by rw [hW2, hg4]; exact Whole.new w1 msT _)
    have hb4 : b < g4 := by rw [hg4]; exact hb
    have hg2 : w.heap.size < g4 := by rw [hg4]; exact hlt
    have U0 := Lib.hid u0
    have U1 := Lib.hid u1
    have U2 := Lib.hid u2
    have U3 := Lib.hid u3
    have v0 : W2.cell? ⟨b, off, none⟩ = some (.int .u64 (N2 : Nat)) := (HBN.out.cell (p := ⟨b, off, none⟩) hb4).trans u0
    have HWW := Lib.hid hW2
    have HG := Lib.hid hg4
    have HB4 := Lib.hid hb4
    have HG2 := Lib.hid hg2
    have n1 : ¬ (g4 = w.heap.size) := by omega
    have n2 : ¬ (w.heap.size = g4) := by omega
    clear hB1 hb u0 u1 u2 u3 hW2 hg4 hlt
    have HMS := Lib.hid (show msA HDR nilS nilS nilS nilS = #[.int .i64 HDR.id, .bool HDR.qr, .int .i64 HDR.op, .bool HDR.aa, .bool HDR.tc, .bool HDR.rd, .bool HDR.ra, .int .i64 HDR.z, .int .i64 HDR.rc, .slice none 0 0, .slice none 0 0, .slice none 0 0, .slice none 0 0] from rfl)
    have v0' := v0
    rw [HWW.out, HMS.out] at v0'
    rw [HMS.out]
    go_wp2_with fail
    rw [← HMS.out, ← HWW.out, ← HG.out]
    clear v0'
    refine (readSecQ_any S M 12 N2 _ HS.out hM HY.out l2).mono ?_
    rintro e w3 ⟨hB3, he⟩
    have HW3 := Lib.hid (HWN.out.below hB3 HWN.out.lt)
    have HB3 := Lib.hid (HBN.out.trans (hB3.mono (Nat.le_of_lt HWN.out.lt)))
    have hgl := HWN.out.lt
    clear hB3 v0
    cases hq : secR queR M 12 N2 with
    | none =>
      rw [hq] at he
      simp only at he
      subst he
      have HD := Lib.hid (show decR M = none from dec_noq HY.out (by rw [← E2.out]; exact hq))
      have HZ := Lib.hid ((HW1.out.below HB3.out HG2.out).far (p := ⟨g4, 9, none⟩) (by simp only; omega) (.slice none 0 0))
      have HBZ := Lib.hid ((HB1.out.trans (HB3.out.mono (Nat.le_of_lt HG2.out))).setCell (p := ⟨g4, 9, none⟩) (Nat.le_of_lt HG2.out) (.slice none 0 0))
      obtain ⟨_, _, _, _, _, _, _, _, _, c9, _, _, _⟩ := ms_facts HW3.out
      have f9' := HW3.out.frozen 9
      clear hq
      obtain ⟨e0, e1, e2, e3, e4, e5, e6, e7, e8, e9, e10, e11, e12⟩ := zero_facts HZ.out
      obtain ⟨f0, f1, f2, f3, f4, f5, f6, f7, f8, f9, f10, f11, f12⟩ := ms_frozen HZ.out
      have HRET := Lib.hid (whole_new_row (msL zeroH nilS nilS nilS nilS) HZ.out rfl)
      have FIN := Lib.hid (show DecOut M w (.returned (.tuple #[.agg (msL zeroH nilS nilS nilS nilS).toArray, .int .i64 2])) (putAll _ w.heap.size 0 (msL zeroH nilS nilS nilS nilS)) from dec_out_no HD.out (putAll_below (Nat.le_refl _) _ 0 HBZ.out) rfl)
      go_wp2_with fail
      exact retm2 rfl rfl rfl rfl HRET.out ms_size FIN.out
    | some r =>
      obtain ⟨ql, p1⟩ := r
      rw [hq] at he
      obtain ⟨A9, c9', rfl, hs9, hfar9⟩ := he
      obtain ⟨hp1, hl9⟩ := sec_le (fun p x e h => que_le h) _ _ _ _ HY.out hq
      have HDEC := Lib.hid (show decR M = restK M HDR ql [] [] [] 0 p1 by rw [EH.out]; exact dec_q HY.out (by rw [← E2.out]; exact hq))
      have HS9 := Lib.hid hs9
      have HFAR := Lib.hid (show ∀ a, A9 = some a → g4 < a.block from fun a ha => Nat.lt_of_lt_of_le hgl (hfar9 a ha))
      have HW4 := Lib.hid (show Whole (w3.setCell ⟨g4, 9, none⟩ (.slice A9 N2 c9')) g4 msT (msA HDR (.slice A9 N2 c9') nilS nilS nilS) from put_ms HW3.out _ (by simp [msA]))
      have HB5 := Lib.hid (HB3.out.setCell (p := ⟨g4, 9, none⟩) (Nat.le_refl _) (.slice A9 N2 c9'))
      have HSM := Lib.hid (show SeesM (w3.setCell ⟨g4, 9, none⟩ (.slice A9 N2 c9')) (w3.setCell ⟨g4, 9, none⟩ (.slice A9 N2 c9')).heap.size ⟨A9, N2, c9', none, 0, 0, none, 0, 0, none, 0, 0, ql.map q2d, [], [], []⟩ from by
        rw [size_put]
        exact ⟨HS9.out.set HFAR.out _, ⟨rfl, fun h => absurd h (Nat.lt_irrefl 0)⟩, ⟨rfl, fun h => absurd h (Nat.lt_irrefl 0)⟩, ⟨rfl, fun h => absurd h (Nat.lt_irrefl 0)⟩⟩)
      obtain ⟨_, _, _, _, _, _, _, _, _, c9, _, _, _⟩ := ms_facts HW3.out
      have f9' := HW3.out.frozen 9
      clear hq hs9 hfar9
      go_wp2_with fail
      obtain ⟨W5, hW5⟩ : ∃ W5, W5 = w3.setCell ⟨g4, 9, none⟩ (.slice A9 N2 c9') := ⟨_, rfl⟩
      rw [← hW5] at HW4 HB5 HSM ⊢
      clear hW5 c9 f9'
      refine (sectionsOf_any g4 _).mono ?_
      rintro e w6 ⟨rfl, hB6⟩
      have HB6 := Lib.hid (HB5.out.trans (hB6.mono (Nat.le_of_lt HW4.out.lt)))
      have HSTART := Lib.hid (show DecAt M HDR g4 0 p1 w1 w6 from ⟨⟨⟨A9, N2, c9', none, 0, 0, none, 0, 0, none, 0, 0, ql.map q2d, [], [], []⟩, ql, [], [], [], HW4.out.below hB6 HW4.out.lt, (HSM.out.keep hB6).more hB6.size, ⟨HFAR.out, fun _ h => (by cases h), fun _ h => (by cases h), fun _ h => (by cases h)⟩, rfl, rfl, rfl, rfl, HDEC.out⟩, HB6.out⟩)
      clear hB6
      go_wp2_with fail
      go_loopw [6, 37] (fun at' i wr => ∃ k p2 : Nat, k ≤ 3 ∧ p2 ≤ M.length ∧ at' = .int .i64 (p2 : Nat) ∧ i = .int .i64 (k : Nat) ∧ DecAt M HDR g4 k p2 w1 wr) (fun _ i _ => 3 - (intOf i).toNat)
      case atStart => exact ⟨0, p1, by omega, hp1, rfl, rfl, HSTART.out⟩
      case round =>
        obtain ⟨k, p2, hk, hp2, rfl, rfl, ⟨x, q, an, ns, ad, hw, hsee, hfar, e1, e2, e3, e4, hdec⟩, hbel⟩ := hrel
        have HWR := Lib.hid hw
        have HSR := Lib.hid hsee
        have HFR := Lib.hid hfar
        have HDR2 := Lib.hid hdec
        have HBR := Lib.hid hbel
        have X1 := Lib.hid e1
        have X2 := Lib.hid e2
        have X3 := Lib.hid e3
        have X4 := Lib.hid e4
        clear hw hsee hfar hdec hbel e1 e2 e3 e4
        rcases (show k = 0 ∨ k = 1 ∨ k = 2 ∨ k = 3 by omega) with rfl | rfl | rfl | rfl
        · have hgl2 := HWR.out.lt
          have v1 : wr.cell? ⟨b, off + 1, none⟩ = some (.int .u64 (N3 : Nat)) := (HBR.out.cell (p := ⟨b, off + 1, none⟩) HB4.out).trans U1.out
          obtain ⟨_, _, _, _, _, _, _, _, _, _, c10, c11, c12⟩ := ms_facts HWR.out
          go_wp2_with fail
          refine (readSecR_any S M p2 N3 _ HS.out hM hp2 l3).mono ?_
          rintro e w7 ⟨hB7, he⟩
          have HW7 := Lib.hid (HWR.out.below hB7 HWR.out.lt)
          have HB7 := Lib.hid (HBR.out.trans (hB7.mono (Nat.le_of_lt HWR.out.lt)))
          have HK7 := Lib.hid hB7
          obtain ⟨_, _, _, _, _, _, _, _, _, _, d10, d11, d12⟩ := ms_facts HW7.out
          have f10' := HW7.out.frozen 10
          clear hB7 v1 c10 c11 c12
          cases hr : secR recR M p2 N3 with
          | none =>
            rw [hr] at he
            simp only at he
            subst he
            have HD := Lib.hid (show decR M = none by rw [HDR2.out]; exact rest_no.1 (by rw [← E3.out]; exact hr))
            have HZ := Lib.hid ((HW1.out.below HB7.out HG2.out).far (p := ⟨g4, 10, none⟩) (by simp only; omega) (.slice none 0 0))
            have HBZ := Lib.hid ((HB1.out.trans (HB7.out.mono (Nat.le_of_lt HG2.out))).setCell (p := ⟨g4, 10, none⟩) (Nat.le_of_lt HG2.out) (.slice none 0 0))
            clear hr
            obtain ⟨e0, e1, e2, e3, e4, e5, e6, e7, e8, e9, e10, e11, e12⟩ := zero_facts HZ.out
            obtain ⟨f0, f1, f2, f3, f4, f5, f6, f7, f8, f9, f10, f11, f12⟩ := ms_frozen HZ.out
            have HRET := Lib.hid (whole_new_row (msL zeroH nilS nilS nilS nilS) HZ.out rfl)
            have FIN := Lib.hid (show DecOut M w (.returned (.tuple #[.agg (msL zeroH nilS nilS nilS nilS).toArray, .int .i64 2])) (putAll _ w.heap.size 0 (msL zeroH nilS nilS nilS nilS)) from dec_out_no HD.out (putAll_below (Nat.le_refl _) _ 0 HBZ.out) rfl)
            go_wp2_with fail
            exact retm2 rfl rfl rfl rfl HRET.out ms_size FIN.out
          | some r =>
            obtain ⟨l7, p3⟩ := r
            rw [hr] at he
            obtain ⟨A7, c7, rfl, hs7, hfar7⟩ := he
            obtain ⟨hp3, hl7⟩ := sec_le (fun p x e h => rec_le h) _ _ _ _ hp2 hr
            have HDEC2 := Lib.hid (show decR M = restK M HDR q l7 ns ad 1 p3 by rw [HDR2.out]; exact rest_0 (by rw [← E3.out]; exact hr))
            have HFAR7 := Lib.hid (show ∀ a, A7 = some a → g4 < a.block from fun a ha => Nat.lt_of_lt_of_le hgl2 (hfar7 a ha))
            have HN7 := Lib.hid (hs7.puts (g := g4) (fun a ha => by have := HFAR7.out a ha; omega) [.slice A7 N3 c7] 10)
            have HW8 := Lib.hid (show Whole (w7.setCell ⟨g4, 10, none⟩ (.slice A7 N3 c7)) g4 msT (msV HDR ⟨x.qA, x.qn, x.qc, A7, N3, c7, x.nA, x.nn, x.nc, x.dA, x.dn, x.dc, x.lq, l7.map r2d, x.ln, x.ld⟩) from put_ms HW7.out _ (by simp [msV, msA]))
            have HB8 := Lib.hid (HB7.out.setCell (p := ⟨g4, 10, none⟩) (Nat.le_refl _) (.slice A7 N3 c7))
            have HSM8 := Lib.hid (show SeesM (w7.setCell ⟨g4, 10, none⟩ (.slice A7 N3 c7)) (w7.setCell ⟨g4, 10, none⟩ (.slice A7 N3 c7)).heap.size ⟨x.qA, x.qn, x.qc, A7, N3, c7, x.nA, x.nn, x.nc, x.dA, x.dn, x.dc, x.lq, l7.map r2d, x.ln, x.ld⟩ from by
              rw [size_put]
              obtain ⟨hq7, ha7, hn7, hd7⟩ := ((HSR.out.keep HK7.out).more HK7.out.size).set (i := 10) HFR.out (.slice A7 N3 c7)
              exact ⟨hq7, HN7.out, hn7, hd7⟩)
            have HNEXT := Lib.hid (show DecAt M HDR g4 1 p3 w1 (w7.setCell ⟨g4, 10, none⟩ (.slice A7 N3 c7)) from ⟨⟨⟨x.qA, x.qn, x.qc, A7, N3, c7, x.nA, x.nn, x.nc, x.dA, x.dn, x.dc, x.lq, l7.map r2d, x.ln, x.ld⟩, q, l7, ns, ad, HW8.out, HSM8.out, ⟨HFR.out.q, HFAR7.out, HFR.out.n, HFR.out.d⟩, X1.out, rfl, X3.out, X4.out, HDEC2.out⟩, HB8.out⟩)
            clear hr hs7 hfar7
            go_wp2_with fail
            go_roundw
            case rel => exact ⟨1, p3, by omega, hp3, rfl, rfl, HNEXT.out⟩
            case measure => simp [intOf]
        · have hgl2 := HWR.out.lt
          have v1 : wr.cell? ⟨b, off + 2, none⟩ = some (.int .u64 (N4 : Nat)) := (HBR.out.cell (p := ⟨b, off + 2, none⟩) HB4.out).trans U2.out
          obtain ⟨_, _, _, _, _, _, _, _, _, _, c10, c11, c12⟩ := ms_facts HWR.out
          go_wp2_with fail
          refine (readSecR_any S M p2 N4 _ HS.out hM hp2 l4).mono ?_
          rintro e w7 ⟨hB7, he⟩
          have HW7 := Lib.hid (HWR.out.below hB7 HWR.out.lt)
          have HB7 := Lib.hid (HBR.out.trans (hB7.mono (Nat.le_of_lt HWR.out.lt)))
          have HK7 := Lib.hid hB7
          obtain ⟨_, _, _, _, _, _, _, _, _, _, d10, d11, d12⟩ := ms_facts HW7.out
          have f10' := HW7.out.frozen 11
          clear hB7 v1 c10 c11 c12
          cases hr : secR recR M p2 N4 with
          | none =>
            rw [hr] at he
            simp only at he
            subst he
            have HD := Lib.hid (show decR M = none by rw [HDR2.out]; exact rest_no.2.1 (by rw [← E4.out]; exact hr))
            have HZ := Lib.hid ((HW1.out.below HB7.out HG2.out).far (p := ⟨g4, 11, none⟩) (by simp only; omega) (.slice none 0 0))
            have HBZ := Lib.hid ((HB1.out.trans (HB7.out.mono (Nat.le_of_lt HG2.out))).setCell (p := ⟨g4, 11, none⟩) (Nat.le_of_lt HG2.out) (.slice none 0 0))
            clear hr
            obtain ⟨e0, e1, e2, e3, e4, e5, e6, e7, e8, e9, e10, e11, e12⟩ := zero_facts HZ.out
            obtain ⟨f0, f1, f2, f3, f4, f5, f6, f7, f8, f9, f10, f11, f12⟩ := ms_frozen HZ.out
            have HRET := Lib.hid (whole_new_row (msL zeroH nilS nilS nilS nilS) HZ.out rfl)
            have FIN := Lib.hid (show DecOut M w (.returned (.tuple #[.agg (msL zeroH nilS nilS nilS nilS).toArray, .int .i64 2])) (putAll _ w.heap.size 0 (msL zeroH nilS nilS nilS nilS)) from dec_out_no HD.out (putAll_below (Nat.le_refl _) _ 0 HBZ.out) rfl)
            go_wp2_with fail
            exact retm2 rfl rfl rfl rfl HRET.out ms_size FIN.out
          | some r =>
            obtain ⟨l7, p3⟩ := r
            rw [hr] at he
            obtain ⟨A7, c7, rfl, hs7, hfar7⟩ := he
            obtain ⟨hp3, hl7⟩ := sec_le (fun p x e h => rec_le h) _ _ _ _ hp2 hr
            have HDEC2 := Lib.hid (show decR M = restK M HDR q an l7 ad 2 p3 by rw [HDR2.out]; exact rest_1 (by rw [← E4.out]; exact hr))
            have HFAR7 := Lib.hid (show ∀ a, A7 = some a → g4 < a.block from fun a ha => Nat.lt_of_lt_of_le hgl2 (hfar7 a ha))
            have HN7 := Lib.hid (hs7.puts (g := g4) (fun a ha => by have := HFAR7.out a ha; omega) [.slice A7 N4 c7] 11)
            have HW8 := Lib.hid (show Whole (w7.setCell ⟨g4, 11, none⟩ (.slice A7 N4 c7)) g4 msT (msV HDR ⟨x.qA, x.qn, x.qc, x.aA, x.an, x.ac, A7, N4, c7, x.dA, x.dn, x.dc, x.lq, x.la, l7.map r2d, x.ld⟩) from put_ms HW7.out _ (by simp [msV, msA]))
            have HB8 := Lib.hid (HB7.out.setCell (p := ⟨g4, 11, none⟩) (Nat.le_refl _) (.slice A7 N4 c7))
            have HSM8 := Lib.hid (show SeesM (w7.setCell ⟨g4, 11, none⟩ (.slice A7 N4 c7)) (w7.setCell ⟨g4, 11, none⟩ (.slice A7 N4 c7)).heap.size ⟨x.qA, x.qn, x.qc, x.aA, x.an, x.ac, A7, N4, c7, x.dA, x.dn, x.dc, x.lq, x.la, l7.map r2d, x.ld⟩ from by
              rw [size_put]
              obtain ⟨hq7, ha7, hn7, hd7⟩ := ((HSR.out.keep HK7.out).more HK7.out.size).set (i := 11) HFR.out (.slice A7 N4 c7)
              exact ⟨hq7, ha7, HN7.out, hd7⟩)
            have HNEXT := Lib.hid (show DecAt M HDR g4 2 p3 w1 (w7.setCell ⟨g4, 11, none⟩ (.slice A7 N4 c7)) from ⟨⟨⟨x.qA, x.qn, x.qc, x.aA, x.an, x.ac, A7, N4, c7, x.dA, x.dn, x.dc, x.lq, x.la, l7.map r2d, x.ld⟩, q, an, l7, ad, HW8.out, HSM8.out, ⟨HFR.out.q, HFR.out.a, HFAR7.out, HFR.out.d⟩, X1.out, X2.out, rfl, X4.out, HDEC2.out⟩, HB8.out⟩)
            clear hr hs7 hfar7
            go_wp2_with fail
            go_roundw
            case rel => exact ⟨2, p3, by omega, hp3, rfl, rfl, HNEXT.out⟩
            case measure => simp [intOf]
        · have hgl2 := HWR.out.lt
          have v1 : wr.cell? ⟨b, off + 3, none⟩ = some (.int .u64 (N5 : Nat)) := (HBR.out.cell (p := ⟨b, off + 3, none⟩) HB4.out).trans U3.out
          obtain ⟨_, _, _, _, _, _, _, _, _, _, c10, c11, c12⟩ := ms_facts HWR.out
          go_wp2_with fail
          refine (readSecR_any S M p2 N5 _ HS.out hM hp2 l5).mono ?_
          rintro e w7 ⟨hB7, he⟩
          have HW7 := Lib.hid (HWR.out.below hB7 HWR.out.lt)
          have HB7 := Lib.hid (HBR.out.trans (hB7.mono (Nat.le_of_lt HWR.out.lt)))
          have HK7 := Lib.hid hB7
          obtain ⟨_, _, _, _, _, _, _, _, _, _, d10, d11, d12⟩ := ms_facts HW7.out
          have f10' := HW7.out.frozen 12
          clear hB7 v1 c10 c11 c12
          cases hr : secR recR M p2 N5 with
          | none =>
            rw [hr] at he
            simp only at he
            subst he
            have HD := Lib.hid (show decR M = none by rw [HDR2.out]; exact rest_no.2.2 (by rw [← E5.out]; exact hr))
            have HZ := Lib.hid ((HW1.out.below HB7.out HG2.out).far (p := ⟨g4, 12, none⟩) (by simp only; omega) (.slice none 0 0))
            have HBZ := Lib.hid ((HB1.out.trans (HB7.out.mono (Nat.le_of_lt HG2.out))).setCell (p := ⟨g4, 12, none⟩) (Nat.le_of_lt HG2.out) (.slice none 0 0))
            clear hr
            obtain ⟨e0, e1, e2, e3, e4, e5, e6, e7, e8, e9, e10, e11, e12⟩ := zero_facts HZ.out
            obtain ⟨f0, f1, f2, f3, f4, f5, f6, f7, f8, f9, f10, f11, f12⟩ := ms_frozen HZ.out
            have HRET := Lib.hid (whole_new_row (msL zeroH nilS nilS nilS nilS) HZ.out rfl)
            have FIN := Lib.hid (show DecOut M w (.returned (.tuple #[.agg (msL zeroH nilS nilS nilS nilS).toArray, .int .i64 2])) (putAll _ w.heap.size 0 (msL zeroH nilS nilS nilS nilS)) from dec_out_no HD.out (putAll_below (Nat.le_refl _) _ 0 HBZ.out) rfl)
            go_wp2_with fail
            exact retm2 rfl rfl rfl rfl HRET.out ms_size FIN.out
          | some r =>
            obtain ⟨l7, p3⟩ := r
            rw [hr] at he
            obtain ⟨A7, c7, rfl, hs7, hfar7⟩ := he
            obtain ⟨hp3, hl7⟩ := sec_le (fun p x e h => rec_le h) _ _ _ _ hp2 hr
            have HDEC2 := Lib.hid (show decR M = restK M HDR q an ns l7 3 p3 by rw [HDR2.out]; exact rest_2 (by rw [← E5.out]; exact hr))
            have HFAR7 := Lib.hid (show ∀ a, A7 = some a → g4 < a.block from fun a ha => Nat.lt_of_lt_of_le hgl2 (hfar7 a ha))
            have HN7 := Lib.hid (hs7.puts (g := g4) (fun a ha => by have := HFAR7.out a ha; omega) [.slice A7 N5 c7] 12)
            have HW8 := Lib.hid (show Whole (w7.setCell ⟨g4, 12, none⟩ (.slice A7 N5 c7)) g4 msT (msV HDR ⟨x.qA, x.qn, x.qc, x.aA, x.an, x.ac, x.nA, x.nn, x.nc, A7, N5, c7, x.lq, x.la, x.ln, l7.map r2d⟩) from put_ms HW7.out _ (by simp [msV, msA]))
            have HB8 := Lib.hid (HB7.out.setCell (p := ⟨g4, 12, none⟩) (Nat.le_refl _) (.slice A7 N5 c7))
            have HSM8 := Lib.hid (show SeesM (w7.setCell ⟨g4, 12, none⟩ (.slice A7 N5 c7)) (w7.setCell ⟨g4, 12, none⟩ (.slice A7 N5 c7)).heap.size ⟨x.qA, x.qn, x.qc, x.aA, x.an, x.ac, x.nA, x.nn, x.nc, A7, N5, c7, x.lq, x.la, x.ln, l7.map r2d⟩ from by
              rw [size_put]
              obtain ⟨hq7, ha7, hn7, hd7⟩ := ((HSR.out.keep HK7.out).more HK7.out.size).set (i := 12) HFR.out (.slice A7 N5 c7)
              exact ⟨hq7, ha7, hn7, HN7.out⟩)
            have HNEXT := Lib.hid (show DecAt M HDR g4 3 p3 w1 (w7.setCell ⟨g4, 12, none⟩ (.slice A7 N5 c7)) from ⟨⟨⟨x.qA, x.qn, x.qc, x.aA, x.an, x.ac, x.nA, x.nn, x.nc, A7, N5, c7, x.lq, x.la, x.ln, l7.map r2d⟩, q, an, ns, l7, HW8.out, HSM8.out, ⟨HFR.out.q, HFR.out.a, HFR.out.n, HFAR7.out⟩, X1.out, X2.out, X3.out, rfl, HDEC2.out⟩, HB8.out⟩)
            clear hr hs7 hfar7
            go_wp2_with fail
            go_roundw
            case rel => exact ⟨3, p3, by omega, hp3, rfl, rfl, HNEXT.out⟩
            case measure => simp [intOf]
        · have hse : M.length = S.size := HSZ.out.symm
          rw [hse] at hp2
          by_cases hend : p2 = S.size
          · have gne : ((p2 : Int) != (S.size : Int)) = false := by rw [hend]; simp
            have HDEC3 := Lib.hid (show decR M = some ⟨HDR, q, an, ns, ad⟩ by rw [HDR2.out]; simp [restK, hend, hse])
            have HZ := Lib.hid (HW1.out.below HBR.out HG2.out)
            have HBZ := Lib.hid (HB1.out.trans (HBR.out.mono (Nat.le_of_lt HG2.out)))
            obtain ⟨e0, e1, e2, e3, e4, e5, e6, e7, e8, e9, e10, e11, e12⟩ := zero_facts HZ.out
            obtain ⟨f0, f1, f2, f3, f4, f5, f6, f7, f8, f9, f10, f11, f12⟩ := ms_frozen HZ.out
            obtain ⟨c0, c1, c2, c3, c4, c5, c6, c7, c8, c9, c10, c11, c12⟩ := ms_facts HWR.out
            have HRET := Lib.hid (whole_new_row (msL HDR (.slice x.qA x.qn x.qc) (.slice x.aA x.an x.ac) (.slice x.nA x.nn x.nc) (.slice x.dA x.dn x.dc)) HZ.out rfl)
            have FIN := Lib.hid (show DecOut M w (.returned (.tuple #[.agg (msL HDR (.slice x.qA x.qn x.qc) (.slice x.aA x.an x.ac) (.slice x.nA x.nn x.nc) (.slice x.dA x.dn x.dc)).toArray, .int .i64 0])) (putAll wr w.heap.size 0 (msL HDR (.slice x.qA x.qn x.qc) (.slice x.aA x.an x.ac) (.slice x.nA x.nn x.nc) (.slice x.dA x.dn x.dc))) from by
              refine ⟨putAll_below (Nat.le_refl _) _ 0 HBZ.out, ?_⟩
              rw [HDEC3.out]
              refine ⟨x, rfl, ?_, X1.out, X2.out, X3.out, X4.out⟩
              rw [putAll_size]
              exact HSR.out.puts HFR.out (Nat.le_of_lt HG2.out) _ 0)
            clear hend hse
            go_wp2_with fail
            exact retm2 rfl rfl rfl rfl HRET.out ms_size FIN.out
          · have gne : ((p2 : Int) != (S.size : Int)) = true := by rw [bne_iff_ne]; omega
            have HD := Lib.hid (show decR M = none by rw [HDR2.out]; simp [restK, hse, hend])
            have HZ := Lib.hid (HW1.out.below HBR.out HG2.out)
            have HBZ := Lib.hid (HB1.out.trans (HBR.out.mono (Nat.le_of_lt HG2.out)))
            clear hend hse
            obtain ⟨e0, e1, e2, e3, e4, e5, e6, e7, e8, e9, e10, e11, e12⟩ := zero_facts HZ.out
            obtain ⟨f0, f1, f2, f3, f4, f5, f6, f7, f8, f9, f10, f11, f12⟩ := ms_frozen HZ.out
            have HRET := Lib.hid (whole_new_row (msL zeroH nilS nilS nilS nilS) HZ.out rfl)
            have FIN := Lib.hid (show DecOut M w (.returned (.tuple #[.agg (msL zeroH nilS nilS nilS nilS).toArray, .int .i64 2])) (putAll _ w.heap.size 0 (msL zeroH nilS nilS nilS nilS)) from dec_out_no HD.out (putAll_below (Nat.le_refl _) _ 0 HBZ.out) rfl)
            go_wp2_with fail
            exact retm2 rfl rfl rfl rfl HRET.out ms_size FIN.out
end Go.Proofs.YtokjmefleanjaaaGreat
