/- A message in memory; the small functions of the program; rightQuestion, rightSection, Formed. No statement of the seat is proved here. -/
import Derived.Test.YtokjmefleanjaaaGreatMesM
import Derived.Test.YtokjmefleanjaaaGreatReA
import Derived.Test.YtokjmefleanjaaaGreatReQ
namespace Go.Proofs.YtokjmefleanjaaaGreat
open Go.RowKit Go.Op

abbrev msT : TypeId := 26
abbrev quT : TypeId := 45
def msA (h : Hd) (q a n d : Value) : Array Value := #[.int .i64 h.id, .bool h.qr, .int .i64 h.op, .bool h.aa, .bool h.tc, .bool h.rd, .bool h.ra, .int .i64 h.z, .int .i64 h.rc, q, a, n, d]
def quA (n : ByteArray) (t c : Int) : Array Value := #[.string n, .int .i64 t, .int .i64 c]
theorem ms_facts {w : World} {g : Nat} {h : Hd} {q a n d : Value} (k : Whole w g msT (msA h q a n d)) :
    w.cell? ⟨g, 0, none⟩ = some (.int .i64 h.id) ∧ w.cell? ⟨g, 1, none⟩ = some (.bool h.qr) ∧ w.cell? ⟨g, 2, none⟩ = some (.int .i64 h.op) ∧ w.cell? ⟨g, 3, none⟩ = some (.bool h.aa) ∧
    w.cell? ⟨g, 4, none⟩ = some (.bool h.tc) ∧ w.cell? ⟨g, 5, none⟩ = some (.bool h.rd) ∧ w.cell? ⟨g, 6, none⟩ = some (.bool h.ra) ∧ w.cell? ⟨g, 7, none⟩ = some (.int .i64 h.z) ∧
    w.cell? ⟨g, 8, none⟩ = some (.int .i64 h.rc) ∧ w.cell? ⟨g, 9, none⟩ = some q ∧ w.cell? ⟨g, 10, none⟩ = some a ∧ w.cell? ⟨g, 11, none⟩ = some n ∧ w.cell? ⟨g, 12, none⟩ = some d :=
  ⟨k.cell 0, k.cell 1, k.cell 2, k.cell 3, k.cell 4, k.cell 5, k.cell 6, k.cell 7, k.cell 8, k.cell 9, k.cell 10, k.cell 11, k.cell 12⟩
theorem qu_facts {w : World} {g : Nat} {n : ByteArray} {t c : Int} (h : Whole w g quT (quA n t c)) :
    w.cell? ⟨g, 0, none⟩ = some (.string n) ∧ w.cell? ⟨g, 1, none⟩ = some (.int .i64 t) ∧ w.cell? ⟨g, 2, none⟩ = some (.int .i64 c) :=
  ⟨h.cell 0, h.cell 1, h.cell 2⟩

theorem inRange_any (n top : Int) (w : World) : Calls Tryz.prog 25 #[.int .i64 n, .int .i64 top] w fun e w' => e = .returned (.bool (inB n top)) ∧ w = w' := by
  by_cases h1 : 0 ≤ n
  · by_cases h2 : n ≤ top
    · have HE := Lib.hid (show inB n top = true by unfold inB; simp [h1, h2])
      go_enter Tryz.func25, Tryz.ntmps25
      go_wp2_with fail
      go_ret
      exact ⟨by rw [HE.out]; rfl, rfl⟩
    · have HE := Lib.hid (show inB n top = false by unfold inB; simp [h2])
      have g2 : decide (n ≤ top) = false := by rw [decide_eq_false_iff_not]; omega
      clear h2
      go_enter Tryz.func25, Tryz.ntmps25
      go_wp2_with fail
      go_ret
      exact ⟨by rw [HE.out]; rfl, rfl⟩
  · have HE := Lib.hid (show inB n top = false by unfold inB; simp [h1])
    have g2 : decide (0 ≤ n) = false := by rw [decide_eq_false_iff_not]; omega
    clear h1
    go_enter Tryz.func25, Tryz.ntmps25
    go_wp2_with fail
    go_ret
    exact ⟨by rw [HE.out]; rfl, rfl⟩

/-- where the three sections of a message in block g lie -/
def secA (g : Nat) : Value := .agg #[.pointer (some ⟨g, 10, none⟩), .pointer (some ⟨g, 11, none⟩), .pointer (some ⟨g, 12, none⟩)]
theorem secT_size : (Tryz.prog.info? 48).map (·.size) = some 3 := by kernel_rfl
/-- a whole row laid anew, cell by cell -/
def putAll (w : World) (g : Nat) : Nat → List Value → World
  | _, [] => w
  | i, u :: r => putAll (w.setCell ⟨g, i, none⟩ u) g (i + 1) r
theorem putAll_whole {w : World} {g t : Nat} : ∀ (l : List Value) (i : Nat) (cs : List Value), Whole w g t cs.toArray → i + l.length = cs.length → Whole (putAll w g i l) g t (cs.take i ++ l).toArray := by
  intro l
  induction l generalizing w with
  | nil => intro i cs h hl; simp only [List.length_nil, Nat.add_zero] at hl; rw [hl, List.take_length, List.append_nil]; exact h
  | cons u r ih =>
    intro i cs h hl
    rw [List.length_cons] at hl
    have h1 := h.put i u
    have e : cs.toArray.setIfInBounds i u = (cs.set i u).toArray := by simp
    rw [e] at h1
    have := ih (w := w.setCell ⟨g, i, none⟩ u) (i + 1) (cs.set i u) h1 (by rw [List.length_set]; omega)
    have e2 : (cs.set i u).take (i + 1) ++ r = cs.take i ++ u :: r := by
      rw [List.take_add_one, List.take_set_of_le (Nat.le_refl _)]
      simp [show i < cs.length by omega]
    rw [e2] at this
    exact this
theorem putAll_below {B : Nat} {a w : World} {g : Nat} (hg : B ≤ g) : ∀ (l : List Value) (i : Nat), Below B a w → Below B a (putAll w g i l) := by
  intro l
  induction l generalizing w with
  | nil => intro i h; exact h
  | cons u r ih => intro i h; exact ih (i + 1) (h.setCell (p := ⟨g, i, none⟩) hg u)
theorem whole_new_row {w : World} {g t : Nat} {cs : Array Value} (l : List Value) (h : Whole w g t cs) (hl : l.length = cs.size) : Whole (putAll w g 0 l) g t l.toArray := by
  have := putAll_whole (w := w) (g := g) (t := t) l 0 cs.toList (by simpa using h) (by simpa using hl)
  simpa using this

set_option maxHeartbeats 2000000 in
set_option maxRecDepth 20000 in
theorem sectionsOf_any (g : Nat) (w : World) : Calls Tryz.prog 17 #[.pointer (some ⟨g, 0, none⟩)] w fun e w' => e = .returned (secA g) ∧ Below w.heap.size w w' := by
  have HB := Lib.hid (show Below w.heap.size w (w.alloc (.cells #[.pointer none, .pointer none, .pointer none] 48)) from (Below.refl _ _).alloc (Nat.le_refl _) _)
  have HW := Lib.hid (Whole.new w 48 #[.pointer none, .pointer none, .pointer none])
  go_enter Tryz.func17, Tryz.ntmps17
  go_wp2_with fail
  obtain ⟨W, hW⟩ : ∃ W, W = w.alloc (.cells #[.pointer none, .pointer none, .pointer none] 48) := ⟨_, rfl⟩
  rw [← hW] at HB HW ⊢
  clear hW
  go_still_tail 10, (by kernel_rfl)
  change wpList _ _ _ _ _ W.drew
  have HW5 := Lib.hid HW.out.drew
  have HB5 := Lib.hid HB.out.drew
  generalize W.drew = w5 at HW5 HB5 ⊢
  have c0 := HW5.out.cell 0
  have c1 := HW5.out.cell 1
  have c2 := HW5.out.cell 2
  have f0 := HW5.out.frozen 0
  have f1 := HW5.out.frozen 1
  have f2 := HW5.out.frozen 2
  go_wp2_with fail
  exact bodyPost_ret (results_cell_row rfl _ _ _ _ _ (0, 0) _ rfl (whole_new_row [.pointer (some ⟨g, 10, none⟩), .pointer (some ⟨g, 11, none⟩), .pointer (some ⟨g, 12, none⟩)] HW5.out rfl) Tryz.underlying48 rfl secT_size) rfl ⟨rfl, putAll_below (Nat.le_refl _) [.pointer (some ⟨g, 10, none⟩), .pointer (some ⟨g, 11, none⟩), .pointer (some ⟨g, 12, none⟩)] 0 HB5.out⟩

theorem mheadWidths_any (w : World) : Calls Tryz.prog 42 #[] w fun e w' => ∃ g, e = .returned (.slice (some ⟨g, 0, none⟩) 6 6) ∧ Sees w' w'.heap.size (some ⟨g, 0, none⟩) 6 (ints .i64 [2, 2, 2, 2, 2, 2]) ∧ Below w.heap.size w w' := by
  go_enter Tryz.func42, Tryz.ntmps42
  go_wp2
  go_ret
  have hw := Whole.new w 3 #[.int .i64 2, .int .i64 2, .int .i64 2, .int .i64 2, .int .i64 2, .int .i64 2]
  refine ⟨_, rfl, ⟨rfl, fun _ => ⟨_, 0, rfl, by simp, fun j u hu => ?_⟩⟩, (Below.refl _ _).alloc (Nat.le_refl _) _⟩
  rw [Nat.zero_add]
  refine (hw.cell j).trans ?_
  rw [← hu]; simp [ints]
theorem queWidths_any (w : World) : Calls Tryz.prog 45 #[] w fun e w' => ∃ g, e = .returned (.slice (some ⟨g, 0, none⟩) 2 2) ∧ Sees w' w'.heap.size (some ⟨g, 0, none⟩) 2 (ints .i64 [2, 2]) ∧ Below w.heap.size w w' := by
  go_enter Tryz.func45, Tryz.ntmps45
  go_wp2
  go_ret
  have hw := Whole.new w 3 #[.int .i64 2, .int .i64 2]
  refine ⟨_, rfl, ⟨rfl, fun _ => ⟨_, 0, rfl, by simp, fun j u hu => ?_⟩⟩, (Below.refl _ _).alloc (Nat.le_refl _) _⟩
  rw [Nat.zero_add]
  refine (hw.cell j).trans ?_
  rw [← hu]; simp [ints]
theorem tooLong_any {B b m c : Nat} {w : World} {v : Value} {l : List UInt8} {K : Kn} (h : Pk B w b m v l K c) : Calls Tryz.prog 20 #[pkP b] w fun e w' => e = .returned (.bool (decide (65535 < l.length))) ∧ w = w' := by
  have HH := Lib.hid h
  clear h
  by_cases hl : 65535 < l.length
  · have HE := Lib.hid (show decide (65535 < l.length) = true by simp [hl])
    have g1 : (65535 : Int) < (l.length : Int) := by omega
    go_enter Tryz.func20, Tryz.ntmps20
    go_wp2_with fail
    refine (Len_any HH.out).mono ?_
    rintro e w1 ⟨rfl, rfl⟩
    go_wp2_with fail
    go_ret
    exact ⟨by rw [HE.out]; rfl, rfl⟩
  · have HE := Lib.hid (show decide (65535 < l.length) = false by simp [hl])
    have g1 : decide ((65535 : Int) < (l.length : Int)) = false := by rw [decide_eq_false_iff_not]; omega
    clear hl
    go_enter Tryz.func20, Tryz.ntmps20
    go_wp2_with fail
    refine (Len_any HH.out).mono ?_
    rintro e w1 ⟨rfl, rfl⟩
    go_wp2_with fail
    go_ret
    exact ⟨by rw [HE.out]; rfl, rfl⟩

/-! ### rightQuestion -/
set_option maxHeartbeats 2000000 in
set_option maxRecDepth 20000 in
theorem rightQue_any (N : ByteArray) (q : Que) (w : World) (hN : N = mk q.n) (hn : q.n.length ≤ 1073741824) :
    Calls Tryz.prog 29 #[.agg (quA N q.t q.c)] w fun e w' => e = .returned (.bool (okQ q)) ∧ Below w.heap.size w w' := by
  have hok : okQ q = ((nameL q.n).isSome && inB q.t 65535 && inB q.c 65535) := rfl
  have HN := Lib.hid hN
  have HB0 := Lib.hid (show Below w.heap.size w (w.alloc (.cells (quA N q.t q.c) quT)) from (Below.refl _ _).alloc (Nat.le_refl _) _)
  have HW0 := Lib.hid (Whole.new w quT (quA N q.t q.c))
  obtain ⟨d0, _, _⟩ := qu_facts HW0.out
  clear hN
  unfold quA at *
  cases h1 : (nameL q.n).isSome with
  | false =>
    have HO := Lib.hid (show okQ q = false by rw [hok, h1]; simp)
    have H1 := Lib.hid h1
    clear hok h1
    go_enter Tryz.func29, Tryz.ntmps29
    go_wp2_with fail
    refine (Right_any N q.n _ HN.out hn).mono ?_
    rw [H1.out]
    rintro e w1 ⟨rfl, hB⟩
    go_wp2_with fail
    go_ret
    exact ⟨by rw [HO.out]; rfl, HB0.out.trans (hB.mono HB0.out.size)⟩
  | true =>
    have H1 := Lib.hid h1
    cases h2 : inB q.t 65535 with
    | false =>
      have HO := Lib.hid (show okQ q = false by rw [hok, h1, h2]; simp)
      have H2 := Lib.hid h2
      clear hok h1 h2
      go_enter Tryz.func29, Tryz.ntmps29
      go_wp2_with fail
      refine (Right_any N q.n _ HN.out hn).mono ?_
      rw [H1.out]
      rintro e w1 ⟨rfl, hB⟩
      clear d0
      obtain ⟨_, d1, d2⟩ := qu_facts (HW0.out.below hB HW0.out.lt)
      go_wp2_with fail
      refine (inRange_any q.t 65535 _).mono ?_
      rw [H2.out]
      rintro e w2 ⟨rfl, rfl⟩
      go_wp2_with fail
      go_ret
      exact ⟨by rw [HO.out]; rfl, HB0.out.trans (hB.mono HB0.out.size)⟩
    | true =>
      have H2 := Lib.hid h2
      have HO := Lib.hid (show okQ q = inB q.c 65535 by rw [hok, h1, h2]; simp)
      clear hok h1 h2
      go_enter Tryz.func29, Tryz.ntmps29
      go_wp2_with fail
      refine (Right_any N q.n _ HN.out hn).mono ?_
      rw [H1.out]
      rintro e w1 ⟨rfl, hB⟩
      clear d0
      obtain ⟨_, d1, d2⟩ := qu_facts (HW0.out.below hB HW0.out.lt)
      go_wp2_with fail
      refine (inRange_any q.t 65535 _).mono ?_
      rw [H2.out]
      rintro e w2 ⟨rfl, rfl⟩
      go_wp2_with fail
      refine (inRange_any q.c 65535 _).mono ?_
      rintro e w2 ⟨rfl, rfl⟩
      go_wp2_with fail
      go_ret
      exact ⟨by rw [HO.out]; rfl, HB0.out.trans (hB.mono HB0.out.size)⟩
end Go.Proofs.YtokjmefleanjaaaGreat
