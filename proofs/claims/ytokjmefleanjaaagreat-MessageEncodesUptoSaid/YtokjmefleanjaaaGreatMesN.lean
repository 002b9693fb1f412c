/- Questions as cells; a message's block written anew. No statement of the seat is proved here. -/
import Derived.Test.YtokjmefleanjaaaGreatMesF
namespace Go.Proofs.YtokjmefleanjaaaGreat
open Go.RowKit Go.Op

def qcells (xs : List Qrd) : List Value := xs.flatMap fun x => [.string x.s, .int .i64 x.t, .int .i64 x.c]
theorem qcells_cons (x : Qrd) (xs : List Qrd) : qcells (x :: xs) = [.string x.s, .int .i64 x.t, .int .i64 x.c] ++ qcells xs := by simp [qcells]
theorem qcells_append (xs ys : List Qrd) : qcells (xs ++ ys) = qcells xs ++ qcells ys := by simp [qcells]
theorem qcells_len (xs : List Qrd) : (qcells xs).length = xs.length * 3 := by
  induction xs with
  | nil => rfl
  | cons x xs ih => rw [qcells_cons, List.length_append, ih, List.length_cons]; simp; omega
theorem qcells_one (xs : List Qrd) : ∀ u ∈ qcells xs, u.oneCell' = true := by
  intro u hu
  simp only [qcells, List.mem_flatMap] at hu
  obtain ⟨k, _, hu⟩ := hu
  simp only [List.mem_cons, List.not_mem_nil, or_false] at hu
  rcases hu with rfl | rfl | rfl <;> rfl
theorem qcells_at : ∀ (xs : List Qrd) (j : Nat) (x : Qrd), xs[j]? = some x → (qcells xs)[j * 3]? = some (.string x.s) ∧ (qcells xs)[j * 3 + 1]? = some (.int .i64 x.t) ∧ (qcells xs)[j * 3 + 2]? = some (.int .i64 x.c) := by
  intro xs
  induction xs with
  | nil => intro j x h; simp at h
  | cons y xs ih =>
    intro j x h
    rw [qcells_cons]
    cases j with
    | zero => simp only [List.getElem?_cons_zero, Option.some.injEq] at h; subst h; exact ⟨rfl, rfl, rfl⟩
    | succ j =>
      rw [List.getElem?_cons_succ] at h
      obtain ⟨a0, a1, a2⟩ := ih j x h
      have e : ∀ r, ([Value.string y.s, .int .i64 y.t, .int .i64 y.c] ++ qcells xs)[(j + 1) * 3 + r]? = (qcells xs)[j * 3 + r]? := by
        intro r
        rw [List.getElem?_append_right (by simp; omega)]
        congr 1
        simp; omega
      exact ⟨(e 0).trans a0, (e 1).trans a1, (e 2).trans a2⟩
theorem SeesQ.cells {w : World} {B : Nat} {A : Option Addr} {n : Nat} {xs : List Qrd} (h : SeesQ w B A n xs) (hn : 0 < n) : ∃ b off, A = some ⟨b, off, none⟩ ∧ b < B ∧ ∀ j u, (qcells xs)[j]? = some u → w.cell? ⟨b, off + j, none⟩ = some u := by
  obtain ⟨hl, h2⟩ := h
  obtain ⟨b, off, e, hb, hc⟩ := h2 hn
  refine ⟨b, off, e, hb, fun j u hu => ?_⟩
  have hj : j < (qcells xs).length := (List.getElem?_eq_some_iff.1 hu).1
  rw [qcells_len] at hj
  obtain ⟨x, hx⟩ : ∃ x, xs[j / 3]? = some x := ⟨xs[j / 3]'(by omega), List.getElem?_eq_getElem (by omega)⟩
  obtain ⟨a0, a1, a2⟩ := qcells_at xs (j / 3) x hx
  obtain ⟨c0, c1, c2⟩ := hc (j / 3) x hx
  have hr : j % 3 < 3 := Nat.mod_lt _ (by omega)
  have hj3 : j = j / 3 * 3 + j % 3 := by omega
  obtain ⟨r, hrr⟩ : ∃ r, r = j % 3 := ⟨_, rfl⟩
  rw [← hrr] at hr hj3
  rw [hj3] at hu ⊢
  rcases (show r = 0 ∨ r = 1 ∨ r = 2 by omega) with rfl | rfl | rfl
  · rw [Nat.add_zero] at hu ⊢; rw [a0] at hu; injection hu with hu; subst hu; exact c0
  · rw [a1] at hu; injection hu with hu; subst hu; exact c1
  · rw [a2] at hu; injection hu with hu; subst hu; exact c2
theorem SeesQ.own {w : World} {base : Nat} {v : Value} {n : Nat} {xs : List Qrd} (h : w.ownsRow base 45 3 v n (qcells xs)) :
    ∃ A c, v = .slice A n c ∧ SeesQ w w.heap.size A n xs := by
  have hl : xs.length = n := by have := h.1; rw [qcells_len] at this; omega
  rcases h.2 with ⟨rfl, rfl⟩ | ⟨g, cap, cur, rfl, hb, hg, h1, h2, h3, h4⟩
  · exact ⟨none, 0, rfl, hl, fun h => absurd h (by omega)⟩
  · refine ⟨some ⟨g, 0, none⟩, cap, rfl, hl, fun _ => ⟨g, 0, rfl, (Array.getElem?_eq_some_iff.1 hg).1, fun j x hx => ?_⟩⟩
    obtain ⟨a0, a1, a2⟩ := qcells_at xs j x hx
    have hj : j < n := by rw [← hl]; exact (List.getElem?_eq_some_iff.1 hx).1
    rw [Nat.zero_add]
    exact ⟨(h.cellAt _ (by omega)).trans a0, (h.cellAt _ (by omega)).trans a1, (h.cellAt _ (by omega)).trans a2⟩
theorem que_info : (Tryz.prog.info? 45).map (fun i => (i.zero, i.size, i.bytes)) = some (some (.agg #[.string ⟨#[]⟩, .int .i64 0, .int .i64 0]), 3, 32) := by kernel_rfl
theorem own_noneQ (w : World) (base : Nat) (hb : base ≤ w.heap.size) : (w.alloc (.cells #[] 45)).ownsRow base 45 3 (.slice (some ⟨w.heap.size, 0, none⟩) 0 0) 0 [] :=
  ⟨rfl, .inr ⟨w.heap.size, 0, #[], rfl, hb, heap_alloc_new w _, Nat.le_refl _, by unfold maxLen; omega, rfl, rfl⟩⟩

theorem putAll_cell {w : World} {g : Nat} {p : Addr} (hp : p.block ≠ g) : ∀ (l : List Value) (i : Nat), (putAll w g i l).cell? p = w.cell? p := by
  intro l
  induction l generalizing w with
  | nil => intro i; rfl
  | cons u r ih =>
    intro i
    exact (ih (w := w.setCell ⟨g, i, none⟩ u) (i + 1)).trans (World.cell?_setCell_other w ⟨g, i, none⟩ p u (fun e => hp (by rw [← e])))
theorem putAll_size {w : World} {g : Nat} : ∀ (l : List Value) (i : Nat), (putAll w g i l).heap.size = w.heap.size := by
  intro l
  induction l generalizing w with
  | nil => intro i; rfl
  | cons u r ih => intro i; exact (ih (w := w.setCell ⟨g, i, none⟩ u) (i + 1)).trans (size_put _ _ _)
theorem SeesQ.puts {w : World} {B g n : Nat} {A : Option Addr} {xs : List Qrd} (h : SeesQ w B A n xs) (hA : ∀ a, A = some a → a.block ≠ g) (l : List Value) (i : Nat) : SeesQ (putAll w g i l) B A n xs :=
  ⟨h.1, fun hn => by
    obtain ⟨b, off, e, hb, hc⟩ := h.2 hn
    have hne : b ≠ g := hA _ e
    refine ⟨b, off, e, hb, fun j x hx => ?_⟩
    obtain ⟨c0, c1, c2⟩ := hc j x hx
    exact ⟨(putAll_cell (p := ⟨b, off + j * 3, none⟩) hne l i).trans c0, (putAll_cell (p := ⟨b, off + j * 3 + 1, none⟩) hne l i).trans c1, (putAll_cell (p := ⟨b, off + j * 3 + 2, none⟩) hne l i).trans c2⟩⟩
def msL (h : Hd) (q a n d : Value) : List Value := [.int .i64 h.id, .bool h.qr, .int .i64 h.op, .bool h.aa, .bool h.tc, .bool h.rd, .bool h.ra, .int .i64 h.z, .int .i64 h.rc, q, a, n, d]
theorem ms_size : (Tryz.prog.info? msT).map (·.size) = some 13 := by kernel_rfl
def zeroH : Hd := ⟨0, false, 0, false, false, false, false, 0, 0⟩
theorem ms_frozen {w : World} {g t : Nat} {cs : Array Value} (h : Whole w g t cs) : w.frozen? ⟨g, 0, none⟩ = false ∧ w.frozen? ⟨g, 1, none⟩ = false ∧ w.frozen? ⟨g, 2, none⟩ = false ∧ w.frozen? ⟨g, 3, none⟩ = false ∧ w.frozen? ⟨g, 4, none⟩ = false ∧ w.frozen? ⟨g, 5, none⟩ = false ∧
    w.frozen? ⟨g, 6, none⟩ = false ∧ w.frozen? ⟨g, 7, none⟩ = false ∧ w.frozen? ⟨g, 8, none⟩ = false ∧ w.frozen? ⟨g, 9, none⟩ = false ∧ w.frozen? ⟨g, 10, none⟩ = false ∧ w.frozen? ⟨g, 11, none⟩ = false ∧ w.frozen? ⟨g, 12, none⟩ = false :=
  ⟨h.frozen 0, h.frozen 1, h.frozen 2, h.frozen 3, h.frozen 4, h.frozen 5, h.frozen 6, h.frozen 7, h.frozen 8, h.frozen 9, h.frozen 10, h.frozen 11, h.frozen 12⟩
end Go.Proofs.YtokjmefleanjaaaGreat
