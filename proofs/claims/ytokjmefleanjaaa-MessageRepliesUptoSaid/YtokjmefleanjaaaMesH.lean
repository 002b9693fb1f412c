/- slices.Clone of questions, Reply; MessageReplies. No statement of the seat is proved here. -/
import Derived.Test.YtokjmefleanjaaaMesF
import Derived.Test.YtokjmefleanjaaaMesN
import Derived.Test.YtokjmefleanjaaaMesG
namespace Go.Proofs.Ytokjmefleanjaaa
open Go.RowKit Go.Op

set_option maxHeartbeats 2000000 in
set_option maxRecDepth 20000 in
theorem CloneQ_any (A : Option Addr) (n c : Nat) (xs : List Qrd) (w : World) (hx : SeesQ w w.heap.size A n xs) (hn : n ≤ 1073741824) :
    Calls Try.prog 13 #[.slice A n c] w fun e w' => ∃ A' c', e = .returned (.slice A' n c') ∧ SeesQ w' w'.heap.size A' n xs ∧ (∀ a, A' = some a → w.heap.size ≤ a.block) ∧ Below w.heap.size w w' := by
  have q : ∀ (w : World) (a : Option Addr) (n c n' c' : Nat), (binOp .eql 23 (.slice a n c) (.slice none n' c')).run Try.prog w = .ok (.bool a.isNone) w := fun w a n c n' c' => Lib.run_eql_slice_nil w _ _ a n c n' c' Try.underlying23
  rcases A with _ | ad
  · have hn0 : n = 0 := by
      rcases Nat.eq_zero_or_pos n with h0 | h0
      · exact h0
      · obtain ⟨b, off, e, _⟩ := hx.2 h0
        cases e
    subst hn0
    have HX := Lib.hid hx
    clear hx
    go_enter Try.func13, Try.ntmps13
    go_wp2_with fail
    go_ret
    exact ⟨none, 0, rfl, HX.out, (fun a h => by cases h), Below.refl _ _⟩
  · obtain ⟨i, hi, hz0, hz1, hz2⟩ := info_parts que_info
    have hcells : ∀ j u, (qcells xs)[j]? = some u → (w.alloc (.cells #[] 41)).cell? (ad.add j) = some u := by
      intro j u hu
      have hj : j < (qcells xs).length := (List.getElem?_eq_some_iff.1 hu).1
      rw [qcells_len, hx.1] at hj
      obtain ⟨b, off, e, hb, hc⟩ := hx.cells (by omega)
      injection e with e
      subst e
      rw [show (⟨b, off, none⟩ : Addr).add j = ⟨b, off + j, none⟩ from by unfold Addr.add; split <;> simp_all]
      exact ((Below.refl w.heap.size w).alloc (Nat.le_refl _) (.cells #[] 41)).cell hb |>.trans (hc j u hu)
    have HC := Lib.hid hcells
    have HL := Lib.hid (show (qcells xs).length = n * 3 by rw [qcells_len, hx.1])
    have HO := Lib.hid (own_noneQ w w.heap.size (Nat.le_refl _))
    have HB := Lib.hid (show Below w.heap.size w (w.alloc (.cells #[] 41)) from (Below.refl _ _).alloc (Nat.le_refl _) _)
    have HZ := Lib.hid (show 0 + n = n from Nat.zero_add n)
    clear hcells hx
    go_enter Try.func13, Try.ntmps13
    go_wp2_with (at_builtin; refine wpList_append_own _ rfl _ _ 23 rfl w.heap.size 41 i (.agg #[.string ⟨#[]⟩, .int .i64 0, .int .i64 0]) 3 32 Try.underlying23 hi hz0 hz1 hz2 rfl (by decide) _ _ _ rfl HO.out ad n c (qcells xs) rfl HL.out HC.out (qcells_one xs) (by unfold maxLen; omega) (by omega) HB.out.size ?_)
    intro v' w' hown hgrow _
    have hown : w'.ownsRow w.heap.size 41 3 v' n (qcells xs) := by first | exact hown | (rw [List.nil_append, HZ.out] at hown; exact hown)
    have HB2 := Lib.hid (HB.out.grown hgrow HB.out.size (fun z hz => by simp [Value.ownBlock] at hz; omega))
    have hlt := fun j hj => (hown.lt j hj).1
    obtain ⟨A', c', rfl, hsee⟩ := SeesQ.own hown
    have HS := Lib.hid hsee
    have HFAR := Lib.hid (show ∀ a, A' = some a → w.heap.size ≤ a.block from fun a ha => hlt a.block (by rw [ha]; rfl))
    clear hown hgrow hsee hlt
    go_wp2_with fail
    go_ret
    exact ⟨A', c', rfl, HS.out, HFAR.out, HB2.out⟩

def repH (h : Hd) (code : Int) : Hd := ⟨h.id, true, h.op, false, false, h.rd, false, 0, code⟩
set_option maxHeartbeats 8000000 in
set_option maxRecDepth 20000 in
theorem Reply_any (hd : Hd) (x : Mrd) (code : Int) (w : World) (hx : SeesM w w.heap.size x) (hq : x.qn ≤ 1073741824) :
    Calls Try.prog 8 #[.agg (msV hd x), .int .i64 code] w fun e w' => ∃ A c, e = .returned (.agg (msA (repH hd code) (.slice A x.qn c) (.slice none 0 0) (.slice none 0 0) (.slice none 0 0))) ∧ SeesQ w' w'.heap.size A x.qn x.lq ∧ Below w.heap.size w w' := by
  obtain ⟨W, hW⟩ : ∃ W, W = (w.alloc (.cells (msV hd x) msT)).alloc (.cells (msA zeroH (.slice none 0 0) (.slice none 0 0) (.slice none 0 0) (.slice none 0 0)) msT) := ⟨_, rfl⟩
  obtain ⟨g, hg⟩ : ∃ g, g = w.heap.size := ⟨_, rfl⟩
  obtain ⟨g2, hg2⟩ : ∃ g2, g2 = w.heap.size + 1 := ⟨_, rfl⟩
  obtain ⟨t1, t2, t3⟩ := two_ms w (msV hd x) (msA zeroH (.slice none 0 0) (.slice none 0 0) (.slice none 0 0) (.slice none 0 0)) msT msT
  have HB0 := Lib.hid (show Below w.heap.size w W by rw [hW]; exact t3)
  have HW0 := Lib.hid (show Whole W g msT (msV hd x) by rw [hW, hg]; exact t1)
  have HW1 := Lib.hid (show Whole W g2 msT (msA zeroH (.slice none 0 0) (.slice none 0 0) (.slice none 0 0) (.slice none 0 0)) by rw [hW, hg2]; exact t2)
  have HX := Lib.hid ((hx.keep HB0.out).more HB0.out.size)
  have HWW := Lib.hid hW
  have HG := Lib.hid hg
  have HG2 := Lib.hid hg2
  have HMV := Lib.hid (show msV hd x = #[.int .i64 hd.id, .bool hd.qr, .int .i64 hd.op, .bool hd.aa, .bool hd.tc, .bool hd.rd, .bool hd.ra, .int .i64 hd.z, .int .i64 hd.rc, .slice x.qA x.qn x.qc, .slice x.aA x.an x.ac, .slice x.nA x.nn x.nc, .slice x.dA x.dn x.dc] from rfl)
  have HMY := Lib.hid (show msA zeroH (.slice none 0 0) (.slice none 0 0) (.slice none 0 0) (.slice none 0 0) = #[.int .i64 0, .bool false, .int .i64 0, .bool false, .bool false, .bool false, .bool false, .int .i64 0, .int .i64 0, .slice none 0 0, .slice none 0 0, .slice none 0 0, .slice none 0 0] from rfl)
  have HNE := Lib.hid (show w.heap.size ≤ g2 by omega)
  have n1 : ¬ g2 = g := by omega
  have n2 : ¬ g = g2 := by omega
  have HXD := Lib.hid (show SeesM W.drew W.drew.heap.size x from (HX.out.keep (Below.refl _ _).drew).more (Nat.le_refl _))
  clear hW hg hg2 t1 t2 t3 hx
  obtain ⟨c0, c1, c2, c3, c4, c5, c6, c7, c8, c9, c10, c11, c12⟩ := ms_facts HW0.out
  rw [HMV.out]
  go_enter Try.func8, Try.ntmps8
  go_wp2_with fail
  rw [← HMV.out, ← HMY.out, ← HWW.out, ← HG2.out, ← HG.out]
  go_region_held3 (fun w' => w'.cell? ⟨g, 0, none⟩ = some (.int .i64 hd.id) ∧ w'.cell? ⟨g, 2, none⟩ = some (.int .i64 hd.op) ∧ w'.cell? ⟨g, 5, none⟩ = some (.bool hd.rd) ∧ w'.cell? ⟨g, 9, none⟩ = some (.slice x.qA x.qn x.qc)) (go_keep) (first
    | (go_at_call 13; (refine (CloneQ_any x.qA x.qn x.qc x.lq _ HXD.out.q hq).mono ?_; rintro e w1 ⟨A1, c1', rfl, hs1, hfar, hB1⟩; have HFAR := Lib.hid (show ∀ a, A1 = some a → W.heap.size ≤ a.block from hfar); clear hfar; have hB1 := (Below.refl _ _).drew.trans hB1; have HB1 := Lib.hid hB1; have HS1 := Lib.hid hs1; have hw1 := HW0.out.below hB1 HW0.out.lt; have hw2 := HW1.out.below hB1 HW1.out.lt; have HV := Lib.hid hw2; obtain ⟨k0, k1, k2, k3, k4, k5, k6, k7, k8, k9, k10, k11, k12⟩ := ms_facts hw1; obtain ⟨z0, z1, z2, z3, z4, z5, z6, z7, z8, z9, z10, z11, z12⟩ := ms_facts hw2; obtain ⟨f0, f1, f2, f3, f4, f5, f6, f7, f8, f9, f10, f11, f12⟩ := ms_frozen hw2)))
  all_goals (
    have HBX := Lib.hid (HB0.out.trans (HB1.out.mono HB0.out.size))
    clear c0 c1 c2 c3 c4 c5 c6 c7 c8 c9 c10 c11 c12 k0 k1 k2 k3 k4 k5 k6 k7 k8 k9 k10 k11 k12 z0 z1 z2 z3 z4 z5 z6 z7 z8 z9 z10 z11 z12 f0 f1 f2 f3 f4 f5 f6 f7 f8 f9 f10 f11 f12
    have HG2W := Lib.hid HV.out.lt
    have HFQ := Lib.hid (show ∀ a, A1 = some a → a.block ≠ g2 from fun a ha => by have h1 := HFAR.out a ha; have h2 := HW1.out.lt; omega)
    go_wp2_with fail
    refine bodyPost_ret (results_cell_row rfl _ _ _ _ _ (0, 0) _ rfl (whole_new_row (msL (repH hd code) (.slice A1 x.qn c1') (.slice none 0 0) (.slice none 0 0) (.slice none 0 0)) HV.out rfl) Try.underlying26 rfl ms_size) rfl ⟨A1, c1', rfl, ?_, putAll_below HNE.out (msL (repH hd code) (.slice A1 x.qn c1') (.slice none 0 0) (.slice none 0 0) (.slice none 0 0)) 0 HBX.out⟩
    have := (HS1.out.puts HFQ.out (msL (repH hd code) (.slice A1 x.qn c1') (.slice none 0 0) (.slice none 0 0) (.slice none 0 0)) 0)
    exact this.more (by rw [← putAll_size (w := w1) (g := g2) (msL (repH hd code) (.slice A1 x.qn c1') (.slice none 0 0) (.slice none 0 0) (.slice none 0 0)) 0]; exact Nat.le_refl _))

/-- a message of questions alone -/
def onlyQ (A : Option Addr) (n c : Nat) (l : List Qrd) : Mrd := ⟨A, n, c, none, 0, 0, none, 0, 0, none, 0, 0, l, [], [], []⟩
theorem onlyQ_sees {w : World} {B : Nat} {A : Option Addr} {n c : Nat} {l : List Qrd} (h : SeesQ w B A n l) : SeesM w B (onlyQ A n c l) := ⟨h, ⟨rfl, fun h => absurd h (by simp [onlyQ])⟩, ⟨rfl, fun h => absurd h (by simp [onlyQ])⟩, ⟨rfl, fun h => absurd h (by simp [onlyQ])⟩⟩
set_option maxHeartbeats 16000000 in
set_option maxRecDepth 20000 in
theorem MessageReplies_walk (hd : Hd) (x : Mrd) (code : Int) (w : World) (hx : SeesM w w.heap.size x) (hq : x.qn ≤ 100000000) (ha : x.an ≤ 100000000) (hn : x.nn ≤ 100000000) (hdn : x.dn ≤ 100000000) :
    Calls Try.prog 3 #[.agg (msV hd x), .int .i64 code] w fun e w' => e = .returned (.bool true) ∧ Below w.heap.size w w' := by
  obtain ⟨W, hW⟩ : ∃ W, W = w.alloc (.cells (msV hd x) msT) := ⟨_, rfl⟩
  obtain ⟨g, hg⟩ : ∃ g, g = w.heap.size := ⟨_, rfl⟩
  have HB0 := Lib.hid (show Below w.heap.size w W by rw [hW]; exact (Below.refl _ _).alloc (Nat.le_refl _) _)
  have HW0 := Lib.hid (show Whole W g msT (msV hd x) by rw [hW, hg]; exact Whole.new w msT _)
  have HX := Lib.hid ((hx.keep HB0.out).more HB0.out.size)
  have HWW := Lib.hid hW
  have HG := Lib.hid hg
  have HMV := Lib.hid (show msV hd x = #[.int .i64 hd.id, .bool hd.qr, .int .i64 hd.op, .bool hd.aa, .bool hd.tc, .bool hd.rd, .bool hd.ra, .int .i64 hd.z, .int .i64 hd.rc, .slice x.qA x.qn x.qc, .slice x.aA x.an x.ac, .slice x.nA x.nn x.nc, .slice x.dA x.dn x.dc] from rfl)
  clear hW hg hx
  rw [HMV.out]
  cases hf : fewM x with
  | false =>
    have HF := Lib.hid hf
    clear hf
    go_enter Try.func3, Try.ntmps3
    go_wp2_with fail
    rw [← HMV.out, ← HWW.out, ← HG.out]
    refine (awake_any _).mono ?_
    rintro e w1 ⟨rfl, hB⟩
    have HB1 := Lib.hid (HB0.out.trans (hB.mono HB0.out.size))
    have HX1 := Lib.hid ((HX.out.keep hB).more hB.size)
    obtain ⟨c0, c1, c2, c3, c4, c5, c6, c7, c8, c9, c10, c11, c12⟩ := ms_facts (HW0.out.below hB HW0.out.lt)
    clear hB
    go_wp2_with fail
    refine (Few_any hd x _ HX1.out ha hn hdn).mono ?_
    rw [HF.out]
    rintro e w2 ⟨rfl, hB⟩
    have HB2 := Lib.hid (HB1.out.trans (hB.mono HB1.out.size))
    clear hB c0 c1 c2 c3 c4 c5 c6 c7 c8 c9 c10 c11 c12
    go_wp2_with fail
    refine (awake_any _).mono ?_
    rintro e w3 ⟨rfl, hB⟩
    go_wp2_with fail
    go_ret
    exact ⟨rfl, HB2.out.trans (hB.mono HB2.out.size)⟩
  | true =>
    have HF := Lib.hid hf
    clear hf
    go_enter Try.func3, Try.ntmps3
    go_wp2_with fail
    rw [← HMV.out, ← HWW.out, ← HG.out]
    refine (awake_any _).mono ?_
    rintro e w1 ⟨rfl, hB⟩
    have HB1 := Lib.hid (HB0.out.trans (hB.mono HB0.out.size))
    have HX1 := Lib.hid ((HX.out.keep hB).more hB.size)
    have HW1 := Lib.hid (HW0.out.below hB HW0.out.lt)
    obtain ⟨c0, c1, c2, c3, c4, c5, c6, c7, c8, c9, c10, c11, c12⟩ := ms_facts HW1.out
    clear hB
    go_wp2_with fail
    refine (Few_any hd x _ HX1.out ha hn hdn).mono ?_
    rw [HF.out]
    rintro e w2 ⟨rfl, hB⟩
    have HB2 := Lib.hid (HB1.out.trans (hB.mono HB1.out.size))
    have HX2 := Lib.hid ((HX1.out.keep hB).more hB.size)
    have HXD := Lib.hid (show SeesM w2.drew w2.drew.heap.size x from (HX2.out.keep (Below.refl _ _).drew).more (Nat.le_refl _))
    have HW2 := Lib.hid (HW1.out.below hB HW1.out.lt)
    clear hB c0 c1 c2 c3 c4 c5 c6 c7 c8 c9 c10 c11 c12
    obtain ⟨c0, c1, c2, c3, c4, c5, c6, c7, c8, c9, c10, c11, c12⟩ := ms_facts HW2.out
    go_wp2_with fail
    go_region_held3 (fun w' => w'.cell? ⟨g, 0, none⟩ = some (.int .i64 hd.id) ∧ w'.cell? ⟨g, 1, none⟩ = some (.bool hd.qr) ∧ w'.cell? ⟨g, 2, none⟩ = some (.int .i64 hd.op) ∧ w'.cell? ⟨g, 3, none⟩ = some (.bool hd.aa) ∧ w'.cell? ⟨g, 4, none⟩ = some (.bool hd.tc) ∧ w'.cell? ⟨g, 5, none⟩ = some (.bool hd.rd) ∧ w'.cell? ⟨g, 6, none⟩ = some (.bool hd.ra) ∧ w'.cell? ⟨g, 7, none⟩ = some (.int .i64 hd.z) ∧ w'.cell? ⟨g, 8, none⟩ = some (.int .i64 hd.rc) ∧ w'.cell? ⟨g, 9, none⟩ = some (.slice x.qA x.qn x.qc) ∧ w'.cell? ⟨g, 10, none⟩ = some (.slice x.aA x.an x.ac) ∧ w'.cell? ⟨g, 11, none⟩ = some (.slice x.nA x.nn x.nc) ∧ w'.cell? ⟨g, 12, none⟩ = some (.slice x.dA x.dn x.dc)) (go_keep) (first
      | (go_at_call 8; (refine (Reply_any hd x code _ HXD.out (by omega)).mono ?_; rintro e w3 ⟨A3, c3', rfl, hs3, hB3⟩; have hB3 := (Below.refl _ _).drew.trans hB3; have HB3 := Lib.hid (HB2.out.trans (Below.mono (B := w2.heap.size) hB3 HB2.out.size)); have HS3 := Lib.hid hs3; have HX3 := Lib.hid ((HX2.out.keep (show Below w2.heap.size w2 w3 from hB3)).more (show w2.heap.size ≤ w3.heap.size from hB3.size)); have HW3 := Lib.hid (HW2.out.below (show Below w2.heap.size w2 w3 from hB3) HW2.out.lt); obtain ⟨k0, k1, k2, k3, k4, k5, k6, k7, k8, k9, k10, k11, k12⟩ := ms_facts HW3.out; clear hB3 hs3))
      | (go_at_call 7; (refine (Same_yes (repH hd code) (onlyQ A3 x.qn c3' x.lq) (onlyQ x.qA x.qn x.qc x.lq) _ (onlyQ_sees HS3.out) (onlyQ_sees HX3.out.q) rfl rfl rfl rfl (show x.qn ≤ 1073741824 by omega) (Nat.zero_le _) (Nat.zero_le _) (Nat.zero_le _)).mono ?_; rintro e w4 ⟨rfl, hB4⟩; have HB4 := Lib.hid (HB3.out.trans (hB4.mono HB3.out.size)); obtain ⟨z0, z1, z2, z3, z4, z5, z6, z7, z8, z9, z10, z11, z12⟩ := ms_facts (HW3.out.below hB4 HW3.out.lt); clear hB4)))
    all_goals (
      go_wp2_with fail
      go_ret
      exact ⟨rfl, HB4.out⟩)
end Go.Proofs.Ytokjmefleanjaaa
