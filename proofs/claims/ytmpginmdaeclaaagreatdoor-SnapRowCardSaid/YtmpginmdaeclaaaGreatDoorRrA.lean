/- Parts of the proofs of the statements of image. No statement of the seat is proved here. -/
import Derived.Test.YtmpginmdaeclaaaGreatDoorReE
import Derived.Test.YtmpginmdaeclaaaGreatDoorOcJ
import Derived.Lib.SmallJoins
import Derived.Deep.Fields
import Derived.Deep.AppendSrc
import Derived.Deep.RegionHeld3
import Derived.Test.YtmpginmdaeclaaaGreatDoorReM
import Derived.Laws.StructEq
set_option maxHeartbeats 32000000
set_option maxRecDepth 20000
namespace Go.Proofs.YtmpginmdaeclaaaGreatDoor
open Go.ChangeShapes Go.WideShapes Go.ChangeAt Go.RowKit Go.Deep Go.Op
structure Rrd where
  s : ByteArray
  t : Int
  c : Int
  l : Int
  d : ByteArray
def Rrd.toRec (x : Rrd) : Rec := recOf x.s x.d x.t x.c x.l
def SeesR (W : World) (B : Nat) (A : Option Addr) (n : Nat) (xs : List Rrd) : Prop :=
  xs.length = n /\ (0 < n -> ∃ b off, A = some ⟨b, off, none⟩ /\ b < B /\ ∀ j x, xs[j]? = some x ->
    W.cell? ⟨b, off + j * 5, none⟩ = some (.string x.s) /\ W.cell? ⟨b, off + j * 5 + 1, none⟩ = some (.int .i64 x.t) /\ W.cell? ⟨b, off + j * 5 + 2, none⟩ = some (.int .i64 x.c) /\
    W.cell? ⟨b, off + j * 5 + 3, none⟩ = some (.int .i64 x.l) /\ W.cell? ⟨b, off + j * 5 + 4, none⟩ = some (.string x.d))
theorem SeesR.keep {W W' : World} {B n : Nat} {A : Option Addr} {xs : List Rrd} (h : SeesR W B A n xs) (hb : Below B W W') : SeesR W' B A n xs :=
  ⟨h.1, fun hn => by
    obtain ⟨b, off, e, hlt, hc⟩ := h.2 hn
    exact ⟨b, off, e, hlt, fun j x hx => by
      obtain ⟨x0, x1, x2, x3, x4⟩ := hc j x hx
      exact ⟨(hb.cell hlt).trans x0, (hb.cell hlt).trans x1, (hb.cell hlt).trans x2, (hb.cell hlt).trans x3, (hb.cell hlt).trans x4⟩⟩⟩
def Five (W : World) (b o : Nat) (x : Rrd) : Prop :=
  W.cell? ⟨b, o, none⟩ = some (.string x.s) /\ W.cell? ⟨b, o + 1, none⟩ = some (.int .i64 x.t) /\ W.cell? ⟨b, o + 2, none⟩ = some (.int .i64 x.c) /\ W.cell? ⟨b, o + 3, none⟩ = some (.int .i64 x.l) /\ W.cell? ⟨b, o + 4, none⟩ = some (.string x.d)
theorem Five.keep {W W' : World} {B b o : Nat} {x : Rrd} (h : Five W b o x) (hb : Below B W W') (hlt : b < B) : Five W' b o x := by
  obtain ⟨x0, x1, x2, x3, x4⟩ := h
  exact ⟨(hb.cell hlt).trans x0, (hb.cell hlt).trans x1, (hb.cell hlt).trans x2, (hb.cell hlt).trans x3, (hb.cell hlt).trans x4⟩
theorem SeesR.at {W : World} {B : Nat} {A : Option Addr} {n : Nat} {xs : List Rrd} (h : SeesR W B A n xs) {j : Nat} (hj : j < n) :
    ∃ b off x, A = some ⟨b, off, none⟩ /\ b < B /\ xs[j]? = some x /\ Five W b (off + j * 5) x := by
  obtain ⟨h1, h3⟩ := h
  obtain ⟨b, off, e, hb, hc⟩ := h3 (by omega)
  have hl : j < xs.length := by omega
  exact ⟨b, off, xs[j], e, hb, List.getElem?_eq_getElem hl, hc j xs[j] (List.getElem?_eq_getElem hl)⟩
theorem SeesR.more {W : World} {B B' n : Nat} {A : Option Addr} {xs : List Rrd} (h : SeesR W B A n xs) (hB : B <= B') : SeesR W B' A n xs :=
  ⟨h.1, fun hn => by
    obtain ⟨b, off, e, hlt, hc⟩ := h.2 hn
    exact ⟨b, off, e, Nat.lt_of_lt_of_le hlt hB, hc⟩⟩
theorem rrd_name (x : Rrd) : x.s = mk x.toRec.n := (mk_toList x.s).symm
theorem rrd_data (x : Rrd) : x.d = mk x.toRec.d := (mk_toList x.d).symm
def Upto {α : Type} (f : α -> Bool) (xs : List α) (k : Nat) : Prop := ∀ x ∈ xs.take k, f x = true
theorem Upto.zero {α : Type} (f : α -> Bool) (xs : List α) : Upto f xs 0 := fun x h => by simp at h
theorem Upto.succ {α : Type} {f : α -> Bool} {xs : List α} {k : Nat} {x : α} (h : Upto f xs k) (hx : xs[k]? = some x) (hf : f x = true) : Upto f xs (k + 1) := by
  intro y hy
  rw [List.take_add_one, hx] at hy
  rcases List.mem_append.1 hy with hy | hy
  · exact h y hy
  · obtain rfl : y = x := by simpa using hy
    exact hf
theorem Upto.all {α : Type} {f : α -> Bool} {xs : List α} (h : Upto f xs xs.length) : xs.all f = true := by
  rw [List.all_eq_true]
  intro x hx
  exact h x (by rw [List.take_length]; exact hx)
theorem not_all {α : Type} {f : α -> Bool} {xs : List α} {k : Nat} {x : α} (hx : xs[k]? = some x) (hf : f x = false) : xs.all f = false := by
  rw [List.all_eq_false]
  exact ⟨x, List.mem_of_getElem? hx, by rw [hf]; simp⟩
def rcells (xs : List Rrd) : List Value := xs.flatMap fun x => [.string x.s, .int .i64 x.t, .int .i64 x.c, .int .i64 x.l, .string x.d]
theorem rcells_cons (x : Rrd) (xs : List Rrd) : rcells (x :: xs) = [.string x.s, .int .i64 x.t, .int .i64 x.c, .int .i64 x.l, .string x.d] ++ rcells xs := by simp [rcells]
theorem rcells_append (xs ys : List Rrd) : rcells (xs ++ ys) = rcells xs ++ rcells ys := by simp [rcells]
theorem rcells_len (xs : List Rrd) : (rcells xs).length = xs.length * 5 := by
  induction xs with
  | nil => rfl
  | cons x xs ih => rw [rcells_cons, List.length_append, ih, List.length_cons]; simp; omega
theorem rcells_one (xs : List Rrd) : ∀ u ∈ rcells xs, u.oneCell' = true := by
  intro u hu
  simp only [rcells, List.mem_flatMap] at hu
  obtain ⟨k, _, hu⟩ := hu
  simp only [List.mem_cons, List.not_mem_nil, or_false] at hu
  rcases hu with rfl | rfl | rfl | rfl | rfl <;> rfl
theorem rcells_at : ∀ (xs : List Rrd) (j : Nat) (x : Rrd), xs[j]? = some x -> (rcells xs)[j * 5]? = some (.string x.s) /\ (rcells xs)[j * 5 + 1]? = some (.int .i64 x.t) /\ (rcells xs)[j * 5 + 2]? = some (.int .i64 x.c) /\ (rcells xs)[j * 5 + 3]? = some (.int .i64 x.l) /\ (rcells xs)[j * 5 + 4]? = some (.string x.d) := by
  intro xs
  induction xs with
  | nil => intro j x h; simp at h
  | cons y xs ih =>
    intro j x h
    rw [rcells_cons]
    cases j with
    | zero => simp only [List.getElem?_cons_zero, Option.some.injEq] at h; subst h; exact ⟨rfl, rfl, rfl, rfl, rfl⟩
    | succ j =>
      rw [List.getElem?_cons_succ] at h
      obtain ⟨a0, a1, a2, a3, a4⟩ := ih j x h
      have e : ∀ r, ([Value.string y.s, .int .i64 y.t, .int .i64 y.c, .int .i64 y.l, .string y.d] ++ rcells xs)[(j + 1) * 5 + r]? = (rcells xs)[j * 5 + r]? := by
        intro r
        rw [List.getElem?_append_right (by simp; omega)]
        congr 1
        simp; omega
      exact ⟨(e 0).trans a0, (e 1).trans a1, (e 2).trans a2, (e 3).trans a3, (e 4).trans a4⟩
theorem SeesR.cells {w : World} {B : Nat} {A : Option Addr} {n : Nat} {xs : List Rrd} (h : SeesR w B A n xs) (hn : 0 < n) : ∃ b off, A = some ⟨b, off, none⟩ /\ b < B /\ ∀ j u, (rcells xs)[j]? = some u -> w.cell? ⟨b, off + j, none⟩ = some u := by
  obtain ⟨hl, h2⟩ := h
  obtain ⟨b, off, e, hb, hc⟩ := h2 hn
  refine ⟨b, off, e, hb, fun j u hu => ?_⟩
  have hj : j < (rcells xs).length := (List.getElem?_eq_some_iff.1 hu).1
  rw [rcells_len] at hj
  obtain ⟨x, hx⟩ : ∃ x, xs[j / 5]? = some x := ⟨xs[j / 5]'(by omega), List.getElem?_eq_getElem (by omega)⟩
  obtain ⟨a0, a1, a2, a3, a4⟩ := rcells_at xs (j / 5) x hx
  obtain ⟨c0, c1, c2, c3, c4⟩ := hc (j / 5) x hx
  have hr : j % 5 < 5 := Nat.mod_lt _ (by omega)
  have hj5 : j = j / 5 * 5 + j % 5 := by omega
  obtain ⟨r, hrr⟩ : ∃ r, r = j % 5 := ⟨_, rfl⟩
  rw [<-hrr] at hr hj5
  rw [hj5] at hu ⊢
  rcases (show r = 0 \/ r = 1 \/ r = 2 \/ r = 3 \/ r = 4 by omega) with rfl | rfl | rfl | rfl | rfl
  · rw [Nat.add_zero] at hu ⊢; rw [a0] at hu; injection hu with hu; subst hu; exact c0
  · rw [a1] at hu; injection hu with hu; subst hu; exact c1
  · rw [a2] at hu; injection hu with hu; subst hu; exact c2
  · rw [a3] at hu; injection hu with hu; subst hu; exact c3
  · rw [a4] at hu; injection hu with hu; subst hu; exact c4
theorem SeesR.own {w : World} {base : Nat} {v : Value} {n : Nat} {xs : List Rrd} (h : w.ownsRow base 46 5 v n (rcells xs)) :
    ∃ A c, v = .slice A n c /\ SeesR w w.heap.size A n xs := by
  have hl : xs.length = n := by have := h.1; rw [rcells_len] at this; omega
  rcases h.2 with ⟨rfl, rfl⟩ | ⟨g, cap, cur, rfl, hb, hg, h1, h2, h3, h4⟩
  · exact ⟨none, 0, rfl, hl, fun h => absurd h (by omega)⟩
  · refine ⟨some ⟨g, 0, none⟩, cap, rfl, hl, fun _ => ⟨g, 0, rfl, (Array.getElem?_eq_some_iff.1 hg).1, fun j x hx => ?_⟩⟩
    obtain ⟨a0, a1, a2, a3, a4⟩ := rcells_at xs j x hx
    have hj : j < n := by rw [<-hl]; exact (List.getElem?_eq_some_iff.1 hx).1
    rw [Nat.zero_add]
    exact ⟨(h.cellAt _ (by omega)).trans a0, (h.cellAt _ (by omega)).trans a1, (h.cellAt _ (by omega)).trans a2, (h.cellAt _ (by omega)).trans a3, (h.cellAt _ (by omega)).trans a4⟩
theorem rec_info : (Tryz.prog.info? 46).map (fun i => (i.zero, i.size, i.bytes)) = some (some (.agg #[.string ⟨#[]⟩, .int .i64 0, .int .i64 0, .int .i64 0, .string ⟨#[]⟩]), 5, 56) := by kernel_rfl
theorem own_noneR (w : World) (base : Nat) (hb : base <= w.heap.size) : (w.alloc (.cells #[] 46)).ownsRow base 46 5 (.slice (some ⟨w.heap.size, 0, none⟩) 0 0) 0 [] :=
  ⟨rfl, .inr ⟨w.heap.size, 0, #[], rfl, hb, heap_alloc_new w _, Nat.le_refl _, by unfold maxLen; omega, rfl, rfl⟩⟩
end Go.Proofs.YtmpginmdaeclaaaGreatDoor
namespace Go.Proofs.YtmpginmdaeclaaaGreatDoor
structure OrdOn {α : Type} (cmp : α -> α -> Int) (Ok : α -> Prop) : Prop where
  range : ∀ x y, cmp x y = -1 \/ cmp x y = 0 \/ cmp x y = 1
  flip : ∀ x y, cmp y x = - cmp x y
  three : ∀ x y z, Ok x -> Ok y -> Ok z -> Ord3 (cmp x y) (cmp y z) (cmp x z)
section
variable {α : Type} (cmp : α -> α -> Int)
def putX (r : α) : List α -> List α
  | [] => [r]
  | x :: l => if cmp x r < 0 then x :: putX r l else if cmp x r = 0 then r :: l else r :: x :: l
def refP (r : α) : List α -> Bool -> List α
  | [], d => if d = true then [] else [r]
  | x :: l, d => (if cmp r x <= 0 /\ d = false then [r] else []) ++ ((if cmp r x = 0 then [] else [x]) ++ refP r l (d || decide (cmp r x <= 0)))
def SetL (l : List α) : Prop := l.Pairwise fun x y => cmp x y = -1
end
section
variable {α : Type} {cmp : α -> α -> Int} {Ok : α -> Prop}
theorem OrdOn.lt_trans (h : OrdOn cmp Ok) {x y z : α} (hx : Ok x) (hy : Ok y) (hz : Ok z) (h1 : cmp x y = -1) (h2 : cmp y z = -1) : cmp x z = -1 := by
  obtain ⟨_, _, _, k⟩ := h.three x y z hx hy hz
  rw [h1, h2] at k; omega
theorem OrdOn.eq_lt (h : OrdOn cmp Ok) {x y z : α} (hx : Ok x) (hy : Ok y) (hz : Ok z) (h1 : cmp x y = 0) (h2 : cmp y z = -1) : cmp x z = -1 := by
  obtain ⟨_, _, _, k⟩ := h.three x y z hx hy hz
  rw [h1, h2] at k; omega
theorem refP_rest (h : OrdOn cmp Ok) (r : α) : ∀ l : List α, (∀ x ∈ l, cmp r x = -1) -> refP cmp r l true = l
  | [], _ => by simp [refP]
  | x :: l, hl => by
    have e := hl x (by simp)
    rw [refP, show (true || decide (cmp r x <= 0)) = true from rfl, refP_rest h r l fun y hy => hl y (by simp [hy])]
    simp [e]
theorem refP_set (h : OrdOn cmp Ok) {r : α} (hr : Ok r) : ∀ l : List α, (∀ x ∈ l, Ok x) -> SetL cmp l -> refP cmp r l false = putX cmp r l
  | [], _, _ => by simp [refP, putX]
  | x :: l, hl, hs => by
    obtain ⟨h1, h2⟩ := List.pairwise_cons.1 hs
    have hf := h.flip x r
    have hox := hl x (by simp)
    have hol : ∀ y ∈ l, Ok y := fun y hy => hl y (by simp [hy])
    unfold refP putX
    by_cases g : cmp x r < 0
    · have e1 : cmp x r = -1 := by have := h.range x r; omega
      rw [if_pos g, if_neg (by omega), if_neg (by omega), show (false || decide (cmp r x <= 0)) = false by simp; omega, refP_set h hr l hol h2]
      rfl
    · rw [if_neg g]
      by_cases e : cmp x r = 0
      · have e2 : cmp r x = 0 := by omega
        rw [if_pos e, if_pos ⟨by omega, rfl⟩, if_pos e2, show (false || decide (cmp r x <= 0)) = true by simp; omega, refP_rest h r l fun y hy => h.eq_lt hr hox (hol y hy) e2 (h1 y hy)]
        rfl
      · have e1 : cmp r x = -1 := by have := h.range x r; omega
        rw [if_neg e, if_pos ⟨by omega, rfl⟩, if_neg (by omega), show (false || decide (cmp r x <= 0)) = true by simp; omega, refP_rest h r l fun y hy => h.lt_trans hr hox (hol y hy) e1 (h1 y hy)]
        rfl
theorem putX_mem (r : α) : ∀ l : List α, ∀ y ∈ putX cmp r l, y = r \/ y ∈ l
  | [], y, hy => by simp [putX] at hy; exact .inl hy
  | x :: l, y, hy => by
    unfold putX at hy
    by_cases g : cmp x r < 0
    · rw [if_pos g] at hy
      rcases List.mem_cons.1 hy with rfl | hy
      · exact .inr (by simp)
      · rcases putX_mem r l y hy with rfl | k
        · exact .inl rfl
        · exact .inr (by simp [k])
    · rw [if_neg g] at hy
      by_cases e : cmp x r = 0
      · rw [if_pos e] at hy
        rcases List.mem_cons.1 hy with rfl | hy
        · exact .inl rfl
        · exact .inr (by simp [hy])
      · rw [if_neg e] at hy
        rcases List.mem_cons.1 hy with rfl | hy
        · exact .inl rfl
        · exact .inr hy
theorem putX_set (h : OrdOn cmp Ok) {r : α} (hr : Ok r) : ∀ l : List α, (∀ x ∈ l, Ok x) -> SetL cmp l -> SetL cmp (putX cmp r l)
  | [], _, _ => by simp [putX, SetL]
  | x :: l, hl, hs => by
    obtain ⟨h1, h2⟩ := List.pairwise_cons.1 hs
    have hf := h.flip x r
    have hox := hl x (by simp)
    have hol : ∀ y ∈ l, Ok y := fun y hy => hl y (by simp [hy])
    unfold putX
    by_cases g : cmp x r < 0
    · have e1 : cmp x r = -1 := by have := h.range x r; omega
      rw [if_pos g]
      refine List.pairwise_cons.2 ⟨fun y hy => ?_, putX_set h hr l hol h2⟩
      rcases putX_mem r l y hy with rfl | k
      · exact e1
      · exact h1 y k
    · rw [if_neg g]
      by_cases e : cmp x r = 0
      · rw [if_pos e]
        exact List.pairwise_cons.2 ⟨fun y hy => h.eq_lt hr hox (hol y hy) (by omega) (h1 y hy), h2⟩
      · rw [if_neg e]
        have e1 : cmp r x = -1 := by have := h.range x r; omega
        refine List.pairwise_cons.2 ⟨fun y hy => ?_, hs⟩
        rcases List.mem_cons.1 hy with rfl | hy
        · exact e1
        · exact h.lt_trans hr hox (hol y hy) e1 (h1 y hy)
end
end Go.Proofs.YtmpginmdaeclaaaGreatDoor
namespace Go.Proofs.YtmpginmdaeclaaaGreatDoor
open Go.RowKit Go.Op Go.ChangeShapes Go.WideShapes Go.ChangeAt Go.Deep
def cmpX (x y : Rrd) : Int := cmpR x.toRec y.toRec
def OkX (x : Rrd) : Prop := okR x.toRec = true /\ x.d.size <= 40000
theorem ordX : OrdOn cmpX OkX where
  range x y := cmpR_range _ _
  flip x y := cmpR_flip _ _
  three x y z hx hy hz := by
    obtain ⟨⟨L, h1⟩, _⟩ := ok_parts hx.1
    obtain ⟨⟨M, h2⟩, _⟩ := ok_parts hy.1
    obtain ⟨⟨N, h3⟩, _⟩ := ok_parts hz.1
    exact cmpR_three h1 h2 h3
theorem oneX {x y : Rrd} (hx : OkX x) (hy : OkX y) : oneR x.toRec y.toRec = decide (cmpX x y = 0) := by
  obtain ⟨⟨L, h1⟩, _⟩ := ok_parts hx.1
  obtain ⟨⟨M, h2⟩, _⟩ := ok_parts hy.1
  exact cmpR_one h1 h2
theorem data_len (x : Rrd) : x.toRec.d.length = x.d.size := by
  unfold Rrd.toRec recOf
  exact Array.length_toList
theorem name_len (x : Rrd) : x.toRec.n.length = x.s.size := by
  unfold Rrd.toRec recOf
  exact Array.length_toList
theorem OkX.name {x : Rrd} (h : OkX x) : x.toRec.n.length <= 255 := by
  obtain ⟨⟨L, h1⟩, _⟩ := ok_parts h.1
  exact (nameL_is h1).2.2
theorem OkX.data {x : Rrd} (h : OkX x) : x.toRec.d.length <= 40000 := by rw [data_len]; exact h.2
def OkL (xs : List Rrd) : Prop := ∀ x ∈ xs, OkX x
theorem OkL.at {xs : List Rrd} (h : OkL xs) {k : Nat} {x : Rrd} (hx : xs[k]? = some x) : OkX x := h x (List.mem_of_getElem? hx)
theorem Five.later {W : World} {b o : Nat} {x : Rrd} (h : Five W b o x) (hb : b < W.heap.size) :
    (∀ q : Later W, q.val.cell? ⟨b, o, none⟩ = some (.string x.s)) /\ (∀ q : Later W, q.val.cell? ⟨b, o + 1, none⟩ = some (.int .i64 x.t)) /\ (∀ q : Later W, q.val.cell? ⟨b, o + 2, none⟩ = some (.int .i64 x.c)) /\
    (∀ q : Later W, q.val.cell? ⟨b, o + 3, none⟩ = some (.int .i64 x.l)) /\ (∀ q : Later W, q.val.cell? ⟨b, o + 4, none⟩ = some (.string x.d)) :=
  ⟨fun q => (h.keep q.below hb).1, fun q => (h.keep q.below hb).2.1, fun q => (h.keep q.below hb).2.2.1, fun q => (h.keep q.below hb).2.2.2.1, fun q => (h.keep q.below hb).2.2.2.2⟩
theorem refcmp_any {x y : Rrd} (hx : OkX x) (hy : OkX y) (w : World) :
    Calls Tryz.prog 185 #[.agg #[.string x.s, .int .i64 x.t, .int .i64 x.c, .int .i64 x.l, .string x.d], .agg #[.string y.s, .int .i64 y.t, .int .i64 y.c, .int .i64 y.l, .string y.d]] w fun e w' => e = .returned (.int .i64 (cmpX x y)) /\ Below w.heap.size w w' :=
  RefRCompare_any x.s x.d y.s y.d x.toRec y.toRec w (rrd_name x) (rrd_data x) (rrd_name y) (rrd_data y) (by have := hx.data; omega) (by have := hy.data; omega)
theorem cmp_any {x y : Rrd} (hx : OkX x) (hy : OkX y) (w : World) :
    Calls Tryz.prog 126 #[.agg #[.string x.s, .int .i64 x.t, .int .i64 x.c, .int .i64 x.l, .string x.d], .agg #[.string y.s, .int .i64 y.t, .int .i64 y.c, .int .i64 y.l, .string y.d]] w fun e w' => e = .returned (.int .i64 (cmpX x y)) /\ Below w.heap.size w w' :=
  RCompare_any x.s x.d y.s y.d x.toRec y.toRec w (rrd_name x) (rrd_data x) (rrd_name y) (rrd_data y) (by have := hx.name; omega) (by have := hy.name; omega) (by have := hx.data; omega) (by have := hy.data; omega)
end Go.Proofs.YtmpginmdaeclaaaGreatDoor
namespace Go.Proofs.YtmpginmdaeclaaaGreatDoor
open Go.RowKit Go.Op
theorem Rrd.ext' {x y : Rrd} (h : x.s = y.s /\ x.t = y.t /\ x.c = y.c /\ x.l = y.l /\ x.d = y.d) : x = y := by
  obtain ⟨a, b, c, d, e⟩ := x
  obtain ⟨a', b', c', d', e'⟩ := y
  obtain ⟨h1, h2, h3, h4, h5⟩ := h
  simp only at h1 h2 h3 h4 h5
  subst h1 h2 h3 h4 h5
  rfl
def eqX (x y : Rrd) : Bool := x.s.toList == y.s.toList && (x.t == y.t && (x.c == y.c && (x.l == y.l && x.d.toList == y.d.toList)))
def sameX : List Rrd -> List Rrd -> Bool
  | [], [] => true
  | x :: xs, y :: ys => eqX x y && sameX xs ys
  | _, _ => false
theorem toList_same {a b : ByteArray} : a.toList = b.toList ↔ a = b := by
  rw [ByteArray.toList_eq, ByteArray.toList_eq]
  obtain ⟨⟨x⟩⟩ := a
  obtain ⟨⟨y⟩⟩ := b
  simp
theorem eqX_is {x y : Rrd} : eqX x y = true ↔ x = y := by
  unfold eqX
  simp only [Bool.and_eq_true, beq_iff_eq, toList_same]
  constructor
  · rintro ⟨h1, h2, h3, h4, h5⟩; exact Rrd.ext' ⟨h1, h2, h3, h4, h5⟩
  · rintro rfl; exact ⟨rfl, rfl, rfl, rfl, rfl⟩
theorem rr_eqIn (x y : Rrd) (w : World) : (Op.equalIn 10000 46 (.agg #[.string x.s, .int .i64 x.t, .int .i64 x.c, .int .i64 x.l, .string x.d]) (.agg #[.string y.s, .int .i64 y.t, .int .i64 y.c, .int .i64 y.l, .string y.d])).run Tryz.prog w = .ok (eqX x y) w := by
  have u9 := Tryz.underlying9
  have a9 := Tryz.isAgg9
  have z9 := Tryz.sizeOf9
  have u3 := Tryz.underlying3
  have a3 := Tryz.isAgg3
  have z3 := Tryz.sizeOf3
  have hS : Tryz.prog.underlying 46 = some (.struct (Tryz.prog.fieldsOf 46)) := by kernel_rfl
  have hp : Tryz.prog.stoodInHeld 46 = false := by kernel_rfl
  unfold eqX
  rw [show (10000 : Nat) = 9999 + 1 from rfl, run_equalIn_agg w 9999 46 _ _ hS hp]
  simp only [Program.fieldsOf, Tryz.underlying46]
  go_simp
  by_cases h1 : x.s.toList = y.s.toList <;> by_cases h2 : x.t = y.t <;> by_cases h3 : x.c = y.c <;> by_cases h4 : x.l = y.l <;> by_cases h5 : x.d.toList = y.d.toList <;> simp [h1, h2, h3, h4, h5]
theorem rr_neq (x y : Rrd) (w : World) : (binOp .neq 46 (.agg #[.string x.s, .int .i64 x.t, .int .i64 x.c, .int .i64 x.l, .string x.d]) (.agg #[.string y.s, .int .i64 y.t, .int .i64 y.c, .int .i64 y.l, .string y.d])).run Tryz.prog w = .ok (.bool (!eqX x y)) w := by
  rw [run_neq_struct, rr_eqIn]
  rfl
theorem rr_guard (op : BinOp) (a b : Operand) (x y : Rrd) (w : World) : (eqGuard op 46 a b (.agg #[.string x.s, .int .i64 x.t, .int .i64 x.c, .int .i64 x.l, .string x.d]) (.agg #[.string y.s, .int .i64 y.t, .int .i64 y.c, .int .i64 y.l, .string y.d])).run Tryz.prog w = .ok () w :=
  run_eqGuard_agg w op 46 a b _ _ (by kernel_rfl)
theorem sameX_is : ∀ {xs ys : List Rrd}, sameX xs ys = true ↔ xs = ys
  | [], [] => by simp [sameX]
  | [], y :: ys => by simp [sameX]
  | x :: xs, [] => by simp [sameX]
  | x :: xs, y :: ys => by
    rw [sameX, Bool.and_eq_true, eqX_is, sameX_is, List.cons.injEq]
theorem sameX_step {xs ys : List Rrd} {k : Nat} {x y : Rrd} (hx : xs[k]? = some x) (hy : ys[k]? = some y) : sameX (xs.drop k) (ys.drop k) = (eqX x y && sameX (xs.drop (k + 1)) (ys.drop (k + 1))) := by
  obtain ⟨l1, rfl⟩ := List.getElem?_eq_some_iff.1 hx
  obtain ⟨l2, rfl⟩ := List.getElem?_eq_some_iff.1 hy
  rw [List.drop_eq_getElem_cons l1, List.drop_eq_getElem_cons l2, sameX]
theorem sameX_end {xs ys : List Rrd} {k : Nat} (h : xs.length = k) (h' : ys.length = k) : sameX (xs.drop k) (ys.drop k) = true := by
  rw [List.drop_of_length_le (by omega), List.drop_of_length_le (by omega), sameX]
theorem Same_any (A A' : Option Addr) (n c n' c' : Nat) (xs ys : List Rrd) (w : World) (hx : SeesR w w.heap.size A n xs) (hy : SeesR w w.heap.size A' n' ys) (hn : n <= 1073741824) :
    Calls Tryz.prog 23 #[.slice A n c, .slice A' n' c'] w fun e w' => e = .returned (.bool (sameX xs ys)) /\ Below w.heap.size w w' := by
  have HX := Ha hx
  have HY := Ha hy
  have HN := Ha hx.1
  have HM := Ha hy.1
  clear hx hy
  by_cases hnn : n = n'
  · subst hnn
    go_enter Tryz.func23, Tryz.ntmps23
    go_wp2_with fail
    go_loopw [5] (fun i wr => ∃ k : Nat, k <= n /\ i = .int .i64 (k : Nat) /\ sameX xs ys = sameX (xs.drop k) (ys.drop k) /\ Below w.heap.size w wr) (fun i _ => n - (intOf i).toNat)
    case atStart => exact ⟨0, Nat.zero_le _, rfl, rfl, Below.refl _ _⟩
    case round =>
      obtain ⟨k, hk, rfl, hup, hB⟩ := hrel
      have HU := Ha hup
      have HB := Ha hB
      clear hup
      by_cases hkn : k < n
      · have g2 : (k : Int) < (n : Int) := by omega
        have g0 : (0 : Int) <= (k : Int) := by omega
        obtain ⟨b, off, x, rfl, hb, hxk, ht⟩ := (HX.out.keep hB).at hkn
        obtain ⟨b', off', y, rfl, hb', hyk, ht'⟩ := (HY.out.keep hB).at hkn
        have HXK := Ha hxk
        have HYK := Ha hyk
        obtain ⟨x0, x1, x2, x3, x4⟩ := ht
        obtain ⟨y0, y1, y2, y3, y4⟩ := ht'
        clear hB hxk hyk; have hne := rr_neq x y
        have hgd := fun op a b => rr_guard op a b x y
        cases hxy : eqX x y with
        | true =>
          have HS := Ha (show sameX xs ys = sameX (xs.drop (k + 1)) (ys.drop (k + 1)) by rw [HU.out, sameX_step HXK.out HYK.out, hxy, Bool.true_and])
          rw [hxy] at hne
          go_wp2_with fail
          go_quiet (fail)
          go_wp2_with fail
          go_roundw
          case rel => exact ⟨k + 1, by omega, by go_num, HS.out, below_drewN HB.out _⟩
          case measure => simp [intOf]; omega
        | false =>
          have HS := Ha (show sameX xs ys = false by rw [HU.out, sameX_step HXK.out HYK.out, hxy, Bool.false_and])
          rw [hxy] at hne
          go_wp2_with fail
          go_quiet (fail)
          go_wp2_with fail
          go_ret
          exact ⟨by rw [HS.out]; rfl, below_drewN HB.out _⟩
      · obtain rfl : k = n := by omega
        have HS := Ha (show sameX xs ys = true by rw [HU.out, sameX_end HN.out HM.out])
        clear hB; go_wp2_with fail
        go_ret
        exact ⟨by rw [HS.out]; rfl, HB.out⟩
  · have gn : ((n : Int) == (n' : Int)) = false := by rw [beq_eq_false_iff_ne]; omega
    have HS := Ha (show sameX xs ys = false by
      have h1 := HN.out
      have h2 := HM.out
      rw [Bool.eq_false_iff]
      intro e
      rw [sameX_is] at e
      subst e
      omega)
    go_enter Tryz.func23, Tryz.ntmps23
    go_wp2_with fail
    go_ret
    exact ⟨by rw [HS.out]; rfl, Below.refl _ _⟩
end Go.Proofs.YtmpginmdaeclaaaGreatDoor
