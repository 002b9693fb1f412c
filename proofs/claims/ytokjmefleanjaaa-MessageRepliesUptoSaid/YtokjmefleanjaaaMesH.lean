/- slices.Clone of questions, Reply; MessageReplies. No statement of the seat is proved here. -/
import Derived.Test.YtokjmefleanjaaaMesF
import Derived.Test.YtokjmefleanjaaaMesG
namespace Go.Proofs.Ytokjmefleanjaaa
open Go.RowKit Go.Op

def qcells (xs : List Qrd) : List Value := xs.flatMap fun x => [.string x.s, .int .i64 x.t, .int .i64 x.c]
theorem qcells_cons (x : Qrd) (xs : List Qrd) : qcells (x :: xs) = [.string x.s, .int .i64 x.t, .int .i64 x.c] ++ qcells xs := by simp [qcells]
theorem qcells_append (xs ys : List Qrd) : qcells (xs ++ ys) = qcells xs ++ qcells ys := by simp [qcells]
theorem qcells_len (xs : List Qrd) : (qcells xs).length = xs.length * 3 := by
  induction xs with
  | nil => rfl
  | cons x xs ih => rw [qcells_cons, List.length_append, ih, List.length_cons]; simp; omega
theorem qcells_one (xs : List Qrd) : ∀ u ∈ qcells xs, u.oneCell' = true := by
  intro u hu
  simp only [qcells, List.mem_flatMap] at hu
  obtain ⟨k, _, hu⟩ := hu
  simp only [List.mem_cons, List.not_mem_nil, or_false] at hu
  rcases hu with rfl | rfl | rfl <;> rfl
theorem qcells_at : ∀ (xs : List Qrd) (j : Nat) (x : Qrd), xs[j]? = some x → (qcells xs)[j * 3]? = some (.string x.s) ∧ (qcells xs)[j * 3 + 1]? = some (.int .i64 x.t) ∧ (qcells xs)[j * 3 + 2]? = some (.int .i64 x.c) := by
  intro xs
  induction xs with
  | nil => intro j x h; simp at h
  | cons y xs ih =>
    intro j x h
    rw [qcells_cons]
    cases j with
    | zero => simp only [List.getElem?_cons_zero, Option.some.injEq] at h; subst h; exact ⟨rfl, rfl, rfl⟩
    | succ j =>
      rw [List.getElem?_cons_succ] at h
      obtain ⟨a0, a1, a2⟩ := ih j x h
      have e : ∀ r, ([Value.string y.s, .int .i64 y.t, .int .i64 y.c] ++ qcells xs)[(j + 1) * 3 + r]? = (qcells xs)[j * 3 + r]? := by
        intro r
        rw [List.getElem?_append_right (by simp; omega)]
        congr 1
        simp; omega
      exact ⟨(e 0).trans a0, (e 1).trans a1, (e 2).trans a2⟩
theorem SeesQ.cells {w : World} {B : Nat} {A : Option Addr} {n : Nat} {xs : List Qrd} (h : SeesQ w B A n xs) (hn : 0 < n) : ∃ b off, A = some ⟨b, off, none⟩ ∧ b < B ∧ ∀ j u, (qcells xs)[j]? = some u → w.cell? ⟨b, off + j, none⟩ = some u := by
  obtain ⟨hl, h2⟩ := h
  obtain ⟨b, off, e, hb, hc⟩ := h2 hn
  refine ⟨b, off, e, hb, fun j u hu => ?_⟩
  have hj : j < (qcells xs).length := (List.getElem?_eq_some_iff.1 hu).1
  rw [qcells_len] at hj
  obtain ⟨x, hx⟩ : ∃ x, xs[j / 3]? = some x := ⟨xs[j / 3]'(by omega), List.getElem?_eq_getElem (by omega)⟩
  obtain ⟨a0, a1, a2⟩ := qcells_at xs (j / 3) x hx
  obtain ⟨c0, c1, c2⟩ := hc (j / 3) x hx
  have hr : j % 3 < 3 := Nat.mod_lt _ (by omega)
  have hj3 : j = j / 3 * 3 + j % 3 := by omega
  obtain ⟨r, hrr⟩ : ∃ r, r = j % 3 := ⟨_, rfl⟩
  rw [← hrr] at hr hj3
  rw [hj3] at hu ⊢
  rcases (show r = 0 ∨ r = 1 ∨ r = 2 by omega) with rfl | rfl | rfl
  · rw [Nat.add_zero] at hu ⊢; rw [a0] at hu; injection hu with hu; subst hu; exact c0
  · rw [a1] at hu; injection hu with hu; subst hu; exact c1
  · rw [a2] at hu; injection hu with hu; subst hu; exact c2
theorem SeesQ.own {w : World} {base : Nat} {v : Value} {n : Nat} {xs : List Qrd} (h : w.ownsRow base 41 3 v n (qcells xs)) :
    ∃ A c, v = .slice A n c ∧ SeesQ w w.heap.size A n xs := by
  have hl : xs.length = n := by have := h.1; rw [qcells_len] at this; omega
  rcases h.2 with ⟨rfl, rfl⟩ | ⟨g, cap, cur, rfl, hb, hg, h1, h2, h3, h4⟩
  · exact ⟨none, 0, rfl, hl, fun h => absurd h (by omega)⟩
  · refine ⟨some ⟨g, 0, none⟩, cap, rfl, hl, fun _ => ⟨g, 0, rfl, (Array.getElem?_eq_some_iff.1 hg).1, fun j x hx => ?_⟩⟩
    obtain ⟨a0, a1, a2⟩ := qcells_at xs j x hx
    have hj : j < n := by rw [← hl]; exact (List.getElem?_eq_some_iff.1 hx).1
    rw [Nat.zero_add]
    exact ⟨(h.cellAt _ (by omega)).trans a0, (h.cellAt _ (by omega)).trans a1, (h.cellAt _ (by omega)).trans a2⟩
theorem que_info : (Try.prog.info? 41).map (fun i => (i.zero, i.size, i.bytes)) = some (some (.agg #[.string ⟨#[]⟩, .int .i64 0, .int .i64 0]), 3, 32) := by kernel_rfl
theorem own_noneQ (w : World) (base : Nat) (hb : base ≤ w.heap.size) : (w.alloc (.cells #[] 41)).ownsRow base 41 3 (.slice (some ⟨w.heap.size, 0, none⟩) 0 0) 0 [] :=
  ⟨rfl, .inr ⟨w.heap.size, 0, #[], rfl, hb, heap_alloc_new w _, Nat.le_refl _, by unfold maxLen; omega, rfl, rfl⟩⟩

set_option maxHeartbeats 2000000 in
set_option maxRecDepth 20000 in
theorem CloneQ_any (A : Option Addr) (n c : Nat) (xs : List Qrd) (w : World) (hx : SeesQ w w.heap.size A n xs) (hn : n ≤ 1073741824) :
    Calls Try.prog 13 #[.slice A n c] w fun e w' => ∃ A' c', e = .returned (.slice A' n c') ∧ SeesQ w' w'.heap.size A' n xs ∧ (∀ a, A' = some a → w.heap.size ≤ a.block) ∧ Below w.heap.size w w' := by
  have q : ∀ (w : World) (a : Option Addr) (n c n' c' : Nat), (binOp .eql 23 (.slice a n c) (.slice none n' c')).run Try.prog w = .ok (.bool a.isNone) w := fun w a n c n' c' => Lib.run_eql_slice_nil w _ _ a n c n' c' Try.underlying23
  rcases A with _ | ad
  · have hn0 : n = 0 := by
      rcases Nat.eq_zero_or_pos n with h0 | h0
      · exact h0
      · obtain ⟨b, off, e, _⟩ := hx.2 h0
        cases e
    subst hn0
    have HX := Lib.hid hx
    clear hx
    go_enter Try.func13, Try.ntmps13
    go_wp2_with fail
    go_ret
    exact ⟨none, 0, rfl, HX.out, (fun a h => by cases h), Below.refl _ _⟩
  · obtain ⟨i, hi, hz0, hz1, hz2⟩ := info_parts que_info
    have hcells : ∀ j u, (qcells xs)[j]? = some u → (w.alloc (.cells #[] 41)).cell? (ad.add j) = some u := by
      intro j u hu
      have hj : j < (qcells xs).length := (List.getElem?_eq_some_iff.1 hu).1
      rw [qcells_len, hx.1] at hj
      obtain ⟨b, off, e, hb, hc⟩ := hx.cells (by omega)
      injection e with e
      subst e
      rw [show (⟨b, off, none⟩ : Addr).add j = ⟨b, off + j, none⟩ from by unfold Addr.add; split <;> simp_all]
      exact ((Below.refl w.heap.size w).alloc (Nat.le_refl _) (.cells #[] 41)).cell hb |>.trans (hc j u hu)
    have HC := Lib.hid hcells
    have HL := Lib.hid (show (qcells xs).length = n * 3 by rw [qcells_len, hx.1])
    have HO := Lib.hid (own_noneQ w w.heap.size (Nat.le_refl _))
    have HB := Lib.hid (show Below w.heap.size w (w.alloc (.cells #[] 41)) from (Below.refl _ _).alloc (Nat.le_refl _) _)
    have HZ := Lib.hid (show 0 + n = n from Nat.zero_add n)
    clear hcells hx
    go_enter Try.func13, Try.ntmps13
    go_wp2_with (at_builtin; refine wpList_append_own _ rfl _ _ 23 rfl w.heap.size 41 i (.agg #[.string ⟨#[]⟩, .int .i64 0, .int .i64 0]) 3 32 Try.underlying23 hi hz0 hz1 hz2 rfl (by decide) _ _ _ rfl HO.out ad n c (qcells xs) rfl HL.out HC.out (qcells_one xs) (by unfold maxLen; omega) (by omega) HB.out.size ?_)
    intro v' w' hown hgrow _
    have hown : w'.ownsRow w.heap.size 41 3 v' n (qcells xs) := by first | exact hown | (rw [List.nil_append, HZ.out] at hown; exact hown)
    have HB2 := Lib.hid (HB.out.grown hgrow HB.out.size (fun z hz => by simp [Value.ownBlock] at hz; omega))
    have hlt := fun j hj => (hown.lt j hj).1
    obtain ⟨A', c', rfl, hsee⟩ := SeesQ.own hown
    have HS := Lib.hid hsee
    have HFAR := Lib.hid (show ∀ a, A' = some a → w.heap.size ≤ a.block from fun a ha => hlt a.block (by rw [ha]; rfl))
    clear hown hgrow hsee hlt
    go_wp2_with fail
    go_ret
    exact ⟨A', c', rfl, HS.out, HFAR.out, HB2.out⟩

theorem putAll_cell {w : World} {g : Nat} {p : Addr} (hp : p.block ≠ g) : ∀ (l : List Value) (i : Nat), (putAll w g i l).cell? p = w.cell? p := by
  intro l
  induction l generalizing w with
  | nil => intro i; rfl
  | cons u r ih =>
    intro i
    exact (ih (w := w.setCell ⟨g, i, none⟩ u) (i + 1)).trans (World.cell?_setCell_other w ⟨g, i, none⟩ p u (fun e => hp (by rw [← e])))
theorem putAll_size {w : World} {g : Nat} : ∀ (l : List Value) (i : Nat), (putAll w g i l).heap.size = w.heap.size := by
  intro l
  induction l generalizing w with
  | nil => intro i; rfl
  | cons u r ih => intro i; exact (ih (w := w.setCell ⟨g, i, none⟩ u) (i + 1)).trans (size_put _ _ _)
theorem SeesQ.puts {w : World} {B g n : Nat} {A : Option Addr} {xs : List Qrd} (h : SeesQ w B A n xs) (hA : ∀ a, A = some a → a.block ≠ g) (l : List Value) (i : Nat) : SeesQ (putAll w g i l) B A n xs :=
  ⟨h.1, fun hn => by
    obtain ⟨b, off, e, hb, hc⟩ := h.2 hn
    have hne : b ≠ g := hA _ e
    refine ⟨b, off, e, hb, fun j x hx => ?_⟩
    obtain ⟨c0, c1, c2⟩ := hc j x hx
    exact ⟨(putAll_cell (p := ⟨b, off + j * 3, none⟩) hne l i).trans c0, (putAll_cell (p := ⟨b, off + j * 3 + 1, none⟩) hne l i).trans c1, (putAll_cell (p := ⟨b, off + j * 3 + 2, none⟩) hne l i).trans c2⟩⟩
def msL (h : Hd) (q a n d : Value) : List Value := [.int .i64 h.id, .bool h.qr, .int .i64 h.op, .bool h.aa, .bool h.tc, .bool h.rd, .bool h.ra, .int .i64 h.z, .int .i64 h.rc, q, a, n, d]
def repH (h : Hd) (code : Int) : Hd := ⟨h.id, true, h.op, false, false, h.rd, false, 0, code⟩
theorem ms_size : (Try.prog.info? msT).map (·.size) = some 13 := by kernel_rfl
def zeroH : Hd := ⟨0, false, 0, false, false, false, false, 0, 0⟩
theorem ms_frozen {w : World} {g t : Nat} {cs : Array Value} (h : Whole w g t cs) : w.frozen? ⟨g, 0, none⟩ = false ∧ w.frozen? ⟨g, 1, none⟩ = false ∧ w.frozen? ⟨g, 2, none⟩ = false ∧ w.frozen? ⟨g, 3, none⟩ = false ∧ w.frozen? ⟨g, 4, none⟩ = false ∧ w.frozen? ⟨g, 5, none⟩ = false ∧
    w.frozen? ⟨g, 6, none⟩ = false ∧ w.frozen? ⟨g, 7, none⟩ = false ∧ w.frozen? ⟨g, 8, none⟩ = false ∧ w.frozen? ⟨g, 9, none⟩ = false ∧ w.frozen? ⟨g, 10, none⟩ = false ∧ w.frozen? ⟨g, 11, none⟩ = false ∧ w.frozen? ⟨g, 12, none⟩ = false :=
  ⟨h.frozen 0, h.frozen 1, h.frozen 2, h.frozen 3, h.frozen 4, h.frozen 5, h.frozen 6, h.frozen 7, h.frozen 8, h.frozen 9, h.frozen 10, h.frozen 11, h.frozen 12⟩
set_option maxHeartbeats 8000000 in
set_option maxRecDepth 20000 in
theorem Reply_any (hd : Hd) (x : Mrd) (code : Int) (w : World) (hx : SeesM w w.heap.size x) (hq : x.qn ≤ 1073741824) :
    Calls Try.prog 8 #[.agg (msV hd x), .int .i64 code] w fun e w' => ∃ A c, e = .returned (.agg (msA (repH hd code) (.slice A x.qn c) (.slice none 0 0) (.slice none 0 0) (.slice none 0 0))) ∧ SeesQ w' w'.heap.size A x.qn x.lq ∧ Below w.heap.size w w' := by
  obtain ⟨W, hW⟩ : ∃ W, W = (w.alloc (.cells (msV hd x) msT)).alloc (.cells (msA zeroH (.slice none 0 0) (.slice none 0 0) (.slice none 0 0) (.slice none 0 0)) msT) := ⟨_, rfl⟩
  obtain ⟨g, hg⟩ : ∃ g, g = w.heap.size := ⟨_, rfl⟩
  obtain ⟨g2, hg2⟩ : ∃ g2, g2 = w.heap.size + 1 := ⟨_, rfl⟩
  obtain ⟨t1, t2, t3⟩ := two_ms w (msV hd x) (msA zeroH (.slice none 0 0) (.slice none 0 0) (.slice none 0 0) (.slice none 0 0)) msT msT
  have HB0 := Lib.hid (show Below w.heap.size w W by rw [hW]; exact t3)
  have HW0 := Lib.hid (show Whole W g msT (msV hd x) by rw [hW, hg]; exact t1)
  have HW1 := Lib.hid (show Whole W g2 msT (msA zeroH (.slice none 0 0) (.slice none 0 0) (.slice none 0 0) (.slice none 0 0)) by rw [hW, hg2]; exact t2)
  have HX := Lib.hid ((hx.keep HB0.out).more HB0.out.size)
  have HWW := Lib.hid hW
  have HG := Lib.hid hg
  have HG2 := Lib.hid hg2
  have HMV := Lib.hid (show msV hd x = #[.int .i64 hd.id, .bool hd.qr, .int .i64 hd.op, .bool hd.aa, .bool hd.tc, .bool hd.rd, .bool hd.ra, .int .i64 hd.z, .int .i64 hd.rc, .slice x.qA x.qn x.qc, .slice x.aA x.an x.ac, .slice x.nA x.nn x.nc, .slice x.dA x.dn x.dc] from rfl)
  have HMY := Lib.hid (show msA zeroH (.slice none 0 0) (.slice none 0 0) (.slice none 0 0) (.slice none 0 0) = #[.int .i64 0, .bool false, .int .i64 0, .bool false, .bool false, .bool false, .bool false, .int .i64 0, .int .i64 0, .slice none 0 0, .slice none 0 0, .slice none 0 0, .slice none 0 0] from rfl)
  have HNE := Lib.hid (show w.heap.size ≤ g2 by omega)
  have n1 : ¬ g2 = g := by omega
  have n2 : ¬ g = g2 := by omega
  have HXD := Lib.hid (show SeesM W.drew W.drew.heap.size x from (HX.out.keep (Below.refl _ _).drew).more (Nat.le_refl _))
  clear hW hg hg2 t1 t2 t3 hx
  obtain ⟨c0, c1, c2, c3, c4, c5, c6, c7, c8, c9, c10, c11, c12⟩ := ms_facts HW0.out
  rw [HMV.out]
  go_enter Try.func8, Try.ntmps8
  go_wp2_with fail
  rw [← HMV.out, ← HMY.out, ← HWW.out, ← HG2.out, ← HG.out]
  go_region_held3 (fun w' => w'.cell? ⟨g, 0, none⟩ = some (.int .i64 hd.id) ∧ w'.cell? ⟨g, 2, none⟩ = some (.int .i64 hd.op) ∧ w'.cell? ⟨g, 5, none⟩ = some (.bool hd.rd) ∧ w'.cell? ⟨g, 9, none⟩ = some (.slice x.qA x.qn x.qc)) (go_keep) (first
    | (go_at_call 13; (refine (CloneQ_any x.qA x.qn x.qc x.lq _ HXD.out.q hq).mono ?_; rintro e w1 ⟨A1, c1', rfl, hs1, hfar, hB1⟩; have HFAR := Lib.hid (show ∀ a, A1 = some a → W.heap.size ≤ a.block from hfar); clear hfar; have hB1 := (Below.refl _ _).drew.trans hB1; have HB1 := Lib.hid hB1; have HS1 := Lib.hid hs1; have hw1 := HW0.out.below hB1 HW0.out.lt; have hw2 := HW1.out.below hB1 HW1.out.lt; have HV := Lib.hid hw2; obtain ⟨k0, k1, k2, k3, k4, k5, k6, k7, k8, k9, k10, k11, k12⟩ := ms_facts hw1; obtain ⟨z0, z1, z2, z3, z4, z5, z6, z7, z8, z9, z10, z11, z12⟩ := ms_facts hw2; obtain ⟨f0, f1, f2, f3, f4, f5, f6, f7, f8, f9, f10, f11, f12⟩ := ms_frozen hw2)))
  all_goals (
    have HBX := Lib.hid (HB0.out.trans (HB1.out.mono HB0.out.size))
    clear c0 c1 c2 c3 c4 c5 c6 c7 c8 c9 c10 c11 c12 k0 k1 k2 k3 k4 k5 k6 k7 k8 k9 k10 k11 k12 z0 z1 z2 z3 z4 z5 z6 z7 z8 z9 z10 z11 z12 f0 f1 f2 f3 f4 f5 f6 f7 f8 f9 f10 f11 f12
    have HG2W := Lib.hid HV.out.lt
    have HFQ := Lib.hid (show ∀ a, A1 = some a → a.block ≠ g2 from fun a ha => by have h1 := HFAR.out a ha; have h2 := HW1.out.lt; omega)
    go_wp2_with fail
    refine bodyPost_ret (results_cell_row rfl _ _ _ _ _ (0, 0) _ rfl (whole_new_row (msL (repH hd code) (.slice A1 x.qn c1') (.slice none 0 0) (.slice none 0 0) (.slice none 0 0)) HV.out rfl) Try.underlying26 rfl ms_size) rfl ⟨A1, c1', rfl, ?_, putAll_below HNE.out (msL (repH hd code) (.slice A1 x.qn c1') (.slice none 0 0) (.slice none 0 0) (.slice none 0 0)) 0 HBX.out⟩
    have := (HS1.out.puts HFQ.out (msL (repH hd code) (.slice A1 x.qn c1') (.slice none 0 0) (.slice none 0 0) (.slice none 0 0)) 0)
    exact this.more (by rw [← putAll_size (w := w1) (g := g2) (msL (repH hd code) (.slice A1 x.qn c1') (.slice none 0 0) (.slice none 0 0) (.slice none 0 0)) 0]; exact Nat.le_refl _))

/-- a message of questions alone -/
def onlyQ (A : Option Addr) (n c : Nat) (l : List Qrd) : Mrd := ⟨A, n, c, none, 0, 0, none, 0, 0, none, 0, 0, l, [], [], []⟩
theorem onlyQ_sees {w : World} {B : Nat} {A : Option Addr} {n c : Nat} {l : List Qrd} (h : SeesQ w B A n l) : SeesM w B (onlyQ A n c l) := ⟨h, ⟨rfl, fun h => absurd h (by simp [onlyQ])⟩, ⟨rfl, fun h => absurd h (by simp [onlyQ])⟩, ⟨rfl, fun h => absurd h (by simp [onlyQ])⟩⟩
set_option maxHeartbeats 16000000 in
set_option maxRecDepth 20000 in
theorem MessageReplies_walk (hd : Hd) (x : Mrd) (code : Int) (w : World) (hx : SeesM w w.heap.size x) (hq : x.qn ≤ 100000000) (ha : x.an ≤ 100000000) (hn : x.nn ≤ 100000000) (hdn : x.dn ≤ 100000000) :
    Calls Try.prog 3 #[.agg (msV hd x), .int .i64 code] w fun e w' => e = .returned (.bool true) ∧ Below w.heap.size w w' := by
  obtain ⟨W, hW⟩ : ∃ W, W = w.alloc (.cells (msV hd x) msT) := ⟨_, rfl⟩
  obtain ⟨g, hg⟩ : ∃ g, g = w.heap.size := ⟨_, rfl⟩
  have HB0 := Lib.hid (show Below w.heap.size w W by rw [hW]; exact (Below.refl _ _).alloc (Nat.le_refl _) _)
  have HW0 := Lib.hid (show Whole W g msT (msV hd x) by rw [hW, hg]; exact Whole.new w msT _)
  have HX := Lib.hid ((hx.keep HB0.out).more HB0.out.size)
  have HWW := Lib.hid hW
  have HG := Lib.hid hg
  have HMV := Lib.hid (show msV hd x = #[.int .i64 hd.id, .bool hd.qr, .int .i64 hd.op, .bool hd.aa, .bool hd.tc, .bool hd.rd, .bool hd.ra, .int .i64 hd.z, .int .i64 hd.rc, .slice x.qA x.qn x.qc, .slice x.aA x.an x.ac, .slice x.nA x.nn x.nc, .slice x.dA x.dn x.dc] from rfl)
  clear hW hg hx
  rw [HMV.out]
  cases hf : fewM x with
  | false =>
    have HF := Lib.hid hf
    clear hf
    go_enter Try.func3, Try.ntmps3
    go_wp2_with fail
    rw [← HMV.out, ← HWW.out, ← HG.out]
    refine (awake_any _).mono ?_
    rintro e w1 ⟨rfl, hB⟩
    have HB1 := Lib.hid (HB0.out.trans (hB.mono HB0.out.size))
    have HX1 := Lib.hid ((HX.out.keep hB).more hB.size)
    obtain ⟨c0, c1, c2, c3, c4, c5, c6, c7, c8, c9, c10, c11, c12⟩ := ms_facts (HW0.out.below hB HW0.out.lt)
    clear hB
    go_wp2_with fail
    refine (Few_any hd x _ HX1.out ha hn hdn).mono ?_
    rw [HF.out]
    rintro e w2 ⟨rfl, hB⟩
    have HB2 := Lib.hid (HB1.out.trans (hB.mono HB1.out.size))
    clear hB c0 c1 c2 c3 c4 c5 c6 c7 c8 c9 c10 c11 c12
    go_wp2_with fail
    refine (awake_any _).mono ?_
    rintro e w3 ⟨rfl, hB⟩
    go_wp2_with fail
    go_ret
    exact ⟨rfl, HB2.out.trans (hB.mono HB2.out.size)⟩
  | true =>
    have HF := Lib.hid hf
    clear hf
    go_enter Try.func3, Try.ntmps3
    go_wp2_with fail
    rw [← HMV.out, ← HWW.out, ← HG.out]
    refine (awake_any _).mono ?_
    rintro e w1 ⟨rfl, hB⟩
    have HB1 := Lib.hid (HB0.out.trans (hB.mono HB0.out.size))
    have HX1 := Lib.hid ((HX.out.keep hB).more hB.size)
    have HW1 := Lib.hid (HW0.out.below hB HW0.out.lt)
    obtain ⟨c0, c1, c2, c3, c4, c5, c6, c7, c8, c9, c10, c11, c12⟩ := ms_facts HW1.out
    clear hB
    go_wp2_with fail
    refine (Few_any hd x _ HX1.out ha hn hdn).mono ?_
    rw [HF.out]
    rintro e w2 ⟨rfl, hB⟩
    have HB2 := Lib.hid (HB1.out.trans (hB.mono HB1.out.size))
    have HX2 := Lib.hid ((HX1.out.keep hB).more hB.size)
    have HXD := Lib.hid (show SeesM w2.drew w2.drew.heap.size x from (HX2.out.keep (Below.refl _ _).drew).more (Nat.le_refl _))
    have HW2 := Lib.hid (HW1.out.below hB HW1.out.lt)
    clear hB c0 c1 c2 c3 c4 c5 c6 c7 c8 c9 c10 c11 c12
    obtain ⟨c0, c1, c2, c3, c4, c5, c6, c7, c8, c9, c10, c11, c12⟩ := ms_facts HW2.out
    go_wp2_with fail
    go_region_held3 (fun w' => w'.cell? ⟨g, 0, none⟩ = some (.int .i64 hd.id) ∧ w'.cell? ⟨g, 1, none⟩ = some (.bool hd.qr) ∧ w'.cell? ⟨g, 2, none⟩ = some (.int .i64 hd.op) ∧ w'.cell? ⟨g, 3, none⟩ = some (.bool hd.aa) ∧ w'.cell? ⟨g, 4, none⟩ = some (.bool hd.tc) ∧ w'.cell? ⟨g, 5, none⟩ = some (.bool hd.rd) ∧ w'.cell? ⟨g, 6, none⟩ = some (.bool hd.ra) ∧ w'.cell? ⟨g, 7, none⟩ = some (.int .i64 hd.z) ∧ w'.cell? ⟨g, 8, none⟩ = some (.int .i64 hd.rc) ∧ w'.cell? ⟨g, 9, none⟩ = some (.slice x.qA x.qn x.qc) ∧ w'.cell? ⟨g, 10, none⟩ = some (.slice x.aA x.an x.ac) ∧ w'.cell? ⟨g, 11, none⟩ = some (.slice x.nA x.nn x.nc) ∧ w'.cell? ⟨g, 12, none⟩ = some (.slice x.dA x.dn x.dc)) (go_keep) (first
      | (go_at_call 8; (refine (Reply_any hd x code _ HXD.out (by omega)).mono ?_; rintro e w3 ⟨A3, c3', rfl, hs3, hB3⟩; have hB3 := (Below.refl _ _).drew.trans hB3; have HB3 := Lib.hid (HB2.out.trans (Below.mono (B := w2.heap.size) hB3 HB2.out.size)); have HS3 := Lib.hid hs3; have HX3 := Lib.hid ((HX2.out.keep (show Below w2.heap.size w2 w3 from hB3)).more (show w2.heap.size ≤ w3.heap.size from hB3.size)); have HW3 := Lib.hid (HW2.out.below (show Below w2.heap.size w2 w3 from hB3) HW2.out.lt); obtain ⟨k0, k1, k2, k3, k4, k5, k6, k7, k8, k9, k10, k11, k12⟩ := ms_facts HW3.out; clear hB3 hs3))
      | (go_at_call 7; (refine (Same_yes (repH hd code) (onlyQ A3 x.qn c3' x.lq) (onlyQ x.qA x.qn x.qc x.lq) _ (onlyQ_sees HS3.out) (onlyQ_sees HX3.out.q) rfl rfl rfl rfl (show x.qn ≤ 1073741824 by omega) (Nat.zero_le _) (Nat.zero_le _) (Nat.zero_le _)).mono ?_; rintro e w4 ⟨rfl, hB4⟩; have HB4 := Lib.hid (HB3.out.trans (hB4.mono HB3.out.size)); obtain ⟨z0, z1, z2, z3, z4, z5, z6, z7, z8, z9, z10, z11, z12⟩ := ms_facts (HW3.out.below hB4 HW3.out.lt); clear hB4)))
    all_goals (
      go_wp2_with fail
      go_ret
      exact ⟨rfl, HB4.out⟩)
end Go.Proofs.Ytokjmefleanjaaa
