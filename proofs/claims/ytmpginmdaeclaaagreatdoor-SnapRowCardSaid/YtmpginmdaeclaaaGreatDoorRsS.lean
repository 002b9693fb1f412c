/- Parts of the proofs of the statements of image. No statement of the seat is proved here. -/
import Derived.Test.YtmpginmdaeclaaaGreatDoorRrA
import Derived.Test.YtmpginmdaeclaaaGreatDoorRrE
import Derived.Deep.QuietTactic
import Derived.WalkMore
set_option maxHeartbeats 32000000
set_option maxRecDepth 20000
namespace Go.Proofs.YtmpginmdaeclaaaGreatDoor
structure Cmp3 {α : Type} (c : α -> α -> Int) : Prop where
  range : ∀ x y, c x y = -1 \/ c x y = 0 \/ c x y = 1
  flip : ∀ x y, c y x = - c x y
  same : ∀ x y z, c x y = 0 -> c x z = c y z
  trans : ∀ x y z, c x y = -1 -> c y z = -1 -> c x z = -1
section
variable {α : Type} {c : α -> α -> Int}
theorem Cmp3.self (O : Cmp3 c) (x : α) : c x x = 0 := by have := O.flip x x; omega
theorem Cmp3.same' (O : Cmp3 c) {x y : α} (z : α) (h : c x y = 0) : c z x = c z y := by
  have := O.same x y z h
  rw [O.flip x z, O.flip y z, this]
theorem Cmp3.le_trans (O : Cmp3 c) {x y z : α} (h : c y x ≠ -1) (k : c z y ≠ -1) : c z x ≠ -1 := by
  intro e
  rcases O.range y x with h1 | h1 | h1
  · exact h h1
  · exact k (by rw [<-e, O.same' z h1])
  · have h2 : c x y = -1 := by rw [O.flip y x, h1]
    exact k (O.trans z x y e h2)
theorem Cmp3.lt_le (O : Cmp3 c) {x y z : α} (h : c x y = -1) (k : c z y ≠ -1) : c x z = -1 := by
  rcases O.range z y with h1 | h1 | h1
  · exact absurd h1 k
  · rw [O.same' x h1]; exact h
  · have h2 : c y z = -1 := by rw [O.flip z y, h1]
    exact O.trans x y z h h2
theorem Cmp3.le_lt (O : Cmp3 c) {x y z : α} (h : c y x ≠ -1) (k : c y z = -1) : c x z = -1 := by
  rcases O.range y x with h1 | h1 | h1
  · exact absurd h1 h
  · rw [<-O.same y x z h1]; exact k
  · have h2 : c x y = -1 := by rw [O.flip y x, h1]
    exact O.trans x y z h2 k
theorem Cmp3.lt_not (O : Cmp3 c) {x y : α} (h : c x y = -1) : c y x ≠ -1 /\ c y x ≠ 0 := by rw [O.flip x y, h]; decide
def Fi (c : α -> α -> Int) (x : α) (l : List α) : List α := l.filter fun y => c x y == 0
def StS (c : α -> α -> Int) (a b : List α) : Prop := a.Perm b /\ ∀ x, Fi c x a = Fi c x b
theorem Fi_append (x : α) (a b : List α) : Fi c x (a ++ b) = Fi c x a ++ Fi c x b := by simp [Fi]
theorem StS.refl (a : List α) : StS c a a := ⟨.refl _, fun _ => rfl⟩
theorem StS.symm {a b : List α} (h : StS c a b) : StS c b a := ⟨h.1.symm, fun x => (h.2 x).symm⟩
theorem StS.trans {a b d : List α} (h : StS c a b) (k : StS c b d) : StS c a d := ⟨h.1.trans k.1, fun x => (h.2 x).trans (k.2 x)⟩
theorem StS.append {a b a' b' : List α} (h : StS c a b) (k : StS c a' b') : StS c (a ++ a') (b ++ b') :=
  ⟨h.1.append k.1, fun x => by rw [Fi_append, Fi_append, h.2, k.2]⟩
theorem StS.mem {a b : List α} (h : StS c a b) {x : α} : x ∈ a ↔ x ∈ b := h.1.mem_iff
theorem StS.swap (O : Cmp3 c) {A B : List α} (h : ∀ x ∈ A, ∀ y ∈ B, c x y ≠ 0) : StS c (A ++ B) (B ++ A) := by
  refine ⟨List.perm_append_comm, fun x => ?_⟩
  rw [Fi_append, Fi_append]
  by_cases hA : Fi c x A = []
  · rw [hA]; simp
  · have hB : Fi c x B = [] := by
      obtain ⟨a, ha⟩ := List.exists_mem_of_ne_nil _ hA
      obtain ⟨ha1, ha2⟩ := List.mem_filter.1 ha
      unfold Fi; rw [List.filter_eq_nil_iff]
      intro b hb hb2
      have e1 : c x a = 0 := by simpa using ha2
      have e2 : c x b = 0 := by simpa using hb2
      exact h a ha1 b hb (by rw [<-O.same x a b e1]; exact e2)
    rw [hB]; simp
def Srt (c : α -> α -> Int) (l : List α) : Prop := l.Pairwise fun x y => c y x ≠ -1
theorem Srt.one (x : α) : Srt c [x] := by simp [Srt]
theorem Srt.nil : Srt c ([] : List α) := by simp [Srt]
theorem Srt.unique (O : Cmp3 c) : ∀ {a b : List α}, Srt c a -> Srt c b -> StS c a b -> a = b := by
  intro a
  induction a with
  | nil => intro b _ _ h; exact (List.nil_perm.1 h.1).symm
  | cons x s ih =>
    intro b ha hb h
    cases b with
    | nil => have := h.1.length_eq; simp at this
    | cons y t =>
      have hy : y ∈ x :: s := h.mem.2 (by simp)
      have hx : x ∈ y :: t := h.mem.1 (by simp)
      obtain ⟨ha1, ha2⟩ := List.pairwise_cons.1 ha
      obtain ⟨hb1, hb2⟩ := List.pairwise_cons.1 hb
      have h1 : c y x ≠ -1 := by
        rcases List.mem_cons.1 hy with h | h
        · subst h; rw [O.self]; decide
        · exact ha1 y h
      have h2 : c x y ≠ -1 := by
        rcases List.mem_cons.1 hx with h | h
        · subst h; rw [O.self]; decide
        · exact hb1 x h
      have h0 : c x y = 0 := by
        rcases O.range x y with h | h | h
        · exact absurd h h2
        · exact h
        · exact absurd (by rw [O.flip x y, h]) h1
      have hf := h.2 x
      unfold Fi at hf
      rw [List.filter_cons_of_pos (by simp [O.self]), List.filter_cons_of_pos (by simp [h0])] at hf
      injection hf with hxy _
      subst hxy
      congr 1
      refine ih ha2 hb2 ⟨h.1.cons_inv, fun z => ?_⟩
      have hz := h.2 z
      unfold Fi at hz ⊢
      by_cases hc : c z x = 0
      · rw [List.filter_cons_of_pos (by simp [hc]), List.filter_cons_of_pos (by simp [hc])] at hz
        injection hz
      · rw [List.filter_cons_of_neg (by simp [hc]), List.filter_cons_of_neg (by simp [hc])] at hz
        exact hz
theorem ins_done (O : Cmp3 c) {A B : List α} {x : α} (hs : Srt c (A ++ B)) (hB : ∀ y ∈ B, c x y = -1) (hA : ∀ A' y, A = A' ++ [y] -> c x y ≠ -1) :
    Srt c (A ++ x :: B) /\ StS c ((A ++ B) ++ [x]) (A ++ x :: B) := by
  obtain ⟨h1, h2, h3⟩ := List.pairwise_append.1 hs
  refine ⟨List.pairwise_append.2 ⟨h1, List.pairwise_cons.2 ⟨fun y hy => (O.lt_not (hB y hy)).1, h2⟩, fun a ha z hz => ?_⟩, ?_⟩
  · rcases List.mem_cons.1 hz with h | h
    · subst h
      rcases List.eq_nil_or_concat A with h0 | ⟨A', y, h0⟩
      · subst h0; cases ha
      · have hxy := hA A' y (by simpa using h0)
        have h0' : A = A' ++ [y] := by simpa using h0
        rw [h0'] at ha h1
        rcases List.mem_append.1 ha with h | h
        · have := (List.pairwise_append.1 h1).2.2 a h y (by simp)
          exact O.le_trans this hxy
        · rw [List.mem_singleton] at h; subst h; exact hxy
    · exact h3 a ha z h
  · rw [List.append_assoc]
    exact (StS.refl A).append (StS.swap O fun y hy z hz => by rw [List.mem_singleton] at hz; subst hz; exact (O.lt_not (hB y hy)).2)
theorem merge_done (O : Cmp3 c) {L1 L2 R1 R2 M1 M2 : List α} (hL : Srt c (L1 ++ L2)) (hR : Srt c (R1 ++ R2))
    (h1 : ∀ x ∈ R1, ∀ y ∈ L2, c x y = -1) (h2 : ∀ x ∈ L1, ∀ y ∈ R2, c y x ≠ -1)
    (k1 : Srt c M1) (s1 : StS c (L1 ++ R1) M1) (k2 : Srt c M2) (s2 : StS c (L2 ++ R2) M2) :
    Srt c (M1 ++ M2) /\ StS c ((L1 ++ L2) ++ (R1 ++ R2)) (M1 ++ M2) := by
  obtain ⟨a1, a2, a3⟩ := List.pairwise_append.1 hL
  obtain ⟨b1, b2, b3⟩ := List.pairwise_append.1 hR
  refine ⟨List.pairwise_append.2 ⟨k1, k2, fun x hx y hy => ?_⟩, ?_⟩
  · rcases List.mem_append.1 (s1.mem.2 hx) with hx | hx <;> rcases List.mem_append.1 (s2.mem.2 hy) with hy | hy
    · exact a3 x hx y hy
    · exact h2 x hx y hy
    · exact (O.lt_not (h1 x hx y hy)).1
    · exact b3 x hx y hy
  · have e1 : (L1 ++ L2) ++ (R1 ++ R2) = L1 ++ ((L2 ++ R1) ++ R2) := by simp
    have e2 : (L1 ++ R1) ++ (L2 ++ R2) = L1 ++ ((R1 ++ L2) ++ R2) := by simp
    have hs : StS c (L2 ++ R1) (R1 ++ L2) := StS.swap O fun y hy x hx => (O.lt_not (h1 x hx y hy)).2
    rw [e1]
    refine StS.trans ((StS.refl L1).append (hs.append (StS.refl R2))) ?_
    rw [<-e2]
    exact s1.append s2
theorem all_lt (O : Cmp3 c) {R1 L2 : List α} (hR : Srt c R1) (hL : Srt c L2) (h : ∀ R' x, R1 = R' ++ [x] -> ∀ y L', L2 = y :: L' -> c x y = -1) : ∀ x ∈ R1, ∀ y ∈ L2, c x y = -1 := by
  intro x hx y hy
  rcases List.eq_nil_or_concat R1 with h0 | ⟨R', z, h0⟩
  · subst h0; cases hx
  · cases L2 with
    | nil => cases hy
    | cons u L' =>
      have h0' : R1 = R' ++ [z] := by simpa using h0
      have hzu := h R' z h0' u L' rfl
      rw [h0'] at hx hR
      have hxu : c x u = -1 := by
        rcases List.mem_append.1 hx with h | h
        · exact O.le_lt ((List.pairwise_append.1 hR).2.2 x h z (by simp)) hzu
        · rw [List.mem_singleton] at h; subst h; exact hzu
      rcases List.mem_cons.1 hy with h | h
      · subst h; exact hxu
      · exact O.lt_le hxu ((List.pairwise_cons.1 hL).1 y h)
theorem all_le (O : Cmp3 c) {L1 R2 : List α} (hL : Srt c L1) (hR : Srt c R2) (h : ∀ L' x, L1 = L' ++ [x] -> ∀ y R', R2 = y :: R' -> c y x ≠ -1) : ∀ x ∈ L1, ∀ y ∈ R2, c y x ≠ -1 := by
  intro x hx y hy
  rcases List.eq_nil_or_concat L1 with h0 | ⟨L', z, h0⟩
  · subst h0; cases hx
  · cases R2 with
    | nil => cases hy
    | cons u R' =>
      have h0' : L1 = L' ++ [z] := by simpa using h0
      have hzu := h L' z h0' u R' rfl
      rw [h0'] at hx hL
      have hxu : c u x ≠ -1 := by
        rcases List.mem_append.1 hx with h | h
        · exact O.le_trans ((List.pairwise_append.1 hL).2.2 x h z (by simp)) hzu
        · rw [List.mem_singleton] at h; subst h; exact hzu
      rcases List.mem_cons.1 hy with h | h
      · subst h; exact hxu
      · exact O.le_trans hxu ((List.pairwise_cons.1 hR).1 y h)
theorem Srt.left {a b : List α} (h : Srt c (a ++ b)) : Srt c a := (List.pairwise_append.1 h).1
theorem Srt.right {a b : List α} (h : Srt c (a ++ b)) : Srt c b := (List.pairwise_append.1 h).2.1
end
section
variable {α : Type}
theorem set_two (U V W : List α) (x y : α) : ((U ++ x :: (V ++ y :: W)).set U.length y).set (U.length + 1 + V.length) x = U ++ y :: (V ++ x :: W) := by
  rw [List.set_append_right _ _ (Nat.le_refl _), Nat.sub_self, List.set_cons_zero, List.set_append_right _ _ (by omega)]
  congr 1
  rw [show U.length + 1 + V.length - U.length = V.length + 1 by omega, List.set_cons_succ, List.set_append_right _ _ (Nat.le_refl _), Nat.sub_self, List.set_cons_zero]
theorem at_one (U W : List α) (x : α) : (U ++ x :: W)[U.length]? = some x := by rw [List.getElem?_append_right (Nat.le_refl _)]; simp
theorem at_two (U V W : List α) (x y : α) : (U ++ x :: (V ++ y :: W))[U.length + 1 + V.length]? = some y := by
  rw [List.getElem?_append_right (by omega), show U.length + 1 + V.length - U.length = V.length + 1 by omega, List.getElem?_cons_succ]
  exact at_one V W y
end
def keyN (s : List UInt8) : List (List UInt8) := match nameL s with | none => [] | some L => (L.map lowS).reverse
def cK (a b : List UInt8) : Int := cmpL (keyN a) (keyN b)
theorem cK_ord : Cmp3 cK := {
  range := fun x y => cmpL_range _ _
  flip := fun x y => cmpL_flip _ _
  same := fun x y z h => by unfold cK at h ⊢; rw [cmpL_eq h]
  trans := fun x y z h k => cmpL_trans h k }
theorem cmpN_key {a b : List UInt8} (h : (nameL a).isSome = true) (k : (nameL b).isSome = true) : cmpN a b = cK a b := by
  unfold cmpN cK keyN
  cases ha : nameL a with
  | none => rw [ha] at h; cases h
  | some L =>
    cases hb : nameL b with
    | none => rw [hb] at k; cases k
    | some M => rfl
theorem cK_three (a b c : List UInt8) : Ord3 (cK a b) (cK b c) (cK a c) := by
  have ht : cK a b = -1 -> cK b c = -1 -> cK a c = -1 := cK_ord.trans a b c
  have h0 : cK a b = 0 -> cK a c = cK b c := cK_ord.same a b c
  have h1 : cK b c = 0 -> cK a c = cK a b := fun e => (cK_ord.same' a e).symm
  have r1 := cK_ord.range a b
  have r2 := cK_ord.range b c
  have r3 := cK_ord.range a c
  unfold Ord3
  omega
def cX (x y : Rrd) : Int := orI (orI (cK x.toRec.n y.toRec.n) (orI (sgn x.t y.t) (sgn x.c y.c))) (cmpB (saidR x.t x.toRec.d) (saidR y.t y.toRec.d))
theorem cX_three (x y z : Rrd) : Ord3 (cX x y) (cX y z) (cX x z) := ord3_or (ord3_or (cK_three _ _ _) (ord3_or (sgn_three _ _ _) (sgn_three _ _ _))) (cmpB_three _ _ _)
theorem cX_flip (x y : Rrd) : cX y x = - cX x y := by
  unfold cX
  rw [cK_ord.flip x.toRec.n y.toRec.n, sgn_flip x.t y.t, sgn_flip x.c y.c, cmpB_flip (saidR x.t x.toRec.d), orI_neg, orI_neg, orI_neg]
theorem cX_ord : Cmp3 cX := {
  range := fun x y => (cX_three x y y).1
  flip := cX_flip
  same := fun x y z h => by
    have h1 := cX_three x y z
    have h2 := cX_three y x z
    have h3 := cX_flip x y
    unfold Ord3 at h1 h2
    omega
  trans := fun x y z h k => by
    have h1 := cX_three x y z
    unfold Ord3 at h1
    omega }
theorem cX_is {x y : Rrd} (hx : OkX x) (hy : OkX y) : cmpX x y = cX x y := by
  obtain ⟨⟨L, h1⟩, _⟩ := ok_parts hx.1
  obtain ⟨⟨M, h2⟩, _⟩ := ok_parts hy.1
  have h := cmpN_key (a := x.toRec.n) (b := y.toRec.n) (by rw [h1]; rfl) (by rw [h2]; rfl)
  unfold cmpX cmpR headO cX
  rw [h]
  rfl
end Go.Proofs.YtmpginmdaeclaaaGreatDoor
namespace Go.Proofs.YtmpginmdaeclaaaGreatDoor
open Go.RowKit
theorem rcells_set : ∀ (D : List Rrd) (k : Nat) (x : Rrd),
    (((((rcells D).set (k * 5) (.string x.s)).set (k * 5 + 1) (.int .i64 x.t)).set (k * 5 + 2) (.int .i64 x.c)).set (k * 5 + 3) (.int .i64 x.l)).set (k * 5 + 4) (.string x.d) = rcells (D.set k x)
  | [], k, x => by simp [rcells]
  | y :: D, 0, x => by simp [rcells]
  | y :: D, k + 1, x => by
    have ih := rcells_set D k x
    rw [List.set_cons_succ, rcells_cons, rcells_cons, <-ih]
    have e : ∀ (r : Nat) (v : Value) (l : List Value), ([Value.string y.s, .int .i64 y.t, .int .i64 y.c, .int .i64 y.l, .string y.d] ++ l).set ((k + 1) * 5 + r) v = [Value.string y.s, .int .i64 y.t, .int .i64 y.c, .int .i64 y.l, .string y.d] ++ l.set (k * 5 + r) v := by
      intro r v l
      rw [List.set_append_right _ _ (by simp; omega)]
      congr 2
      simp; omega
    have e0 := e 0
    simp only [Nat.add_zero] at e0
    rw [e0, e, e, e, e]
def RowX (base g n c : Nat) (D : List Rrd) (W : World) : Prop := W.ownsRow base 46 5 (.slice (some ⟨g, 0, none⟩) n c) n (rcells D)
abbrev put5 (W : World) (g o : Nat) (x : Rrd) : World :=
  ((((W.setCell ⟨g, o, none⟩ (.string x.s)).setCell ⟨g, o + 1, none⟩ (.int .i64 x.t)).setCell ⟨g, o + 2, none⟩ (.int .i64 x.c)).setCell ⟨g, o + 3, none⟩ (.int .i64 x.l)).setCell ⟨g, o + 4, none⟩ (.string x.d)
theorem RowX.len {base g n c : Nat} {D : List Rrd} {W : World} (h : RowX base g n c D W) : D.length = n := by have := h.1; rw [rcells_len] at this; omega
theorem RowX.five {base g n c : Nat} {D : List Rrd} {W : World} (h : RowX base g n c D W) {k : Nat} {x : Rrd} (hx : D[k]? = some x) : Five W g (k * 5) x := by
  have hk : k < D.length := (List.getElem?_eq_some_iff.1 hx).1
  have hl := h.len
  obtain ⟨a0, a1, a2, a3, a4⟩ := rcells_at D k x hx
  exact ⟨(World.ownsRow.cellAt h _ (by omega)).trans a0, (World.ownsRow.cellAt h _ (by omega)).trans a1, (World.ownsRow.cellAt h _ (by omega)).trans a2, (World.ownsRow.cellAt h _ (by omega)).trans a3, (World.ownsRow.cellAt h _ (by omega)).trans a4⟩
theorem RowX.soft {base g n c : Nat} {D : List Rrd} {W : World} (h : RowX base g n c D W) (k : Nat) : W.frozen? ⟨g, k, none⟩ = false := World.ownsRow.frozenAt h k
theorem RowX.softs {base g n c : Nat} {D : List Rrd} {W : World} (h : RowX base g n c D W) (o : Nat) :
    W.frozen? ⟨g, o, none⟩ = false /\ W.frozen? ⟨g, o + 1, none⟩ = false /\ W.frozen? ⟨g, o + 2, none⟩ = false /\ W.frozen? ⟨g, o + 3, none⟩ = false /\ W.frozen? ⟨g, o + 4, none⟩ = false :=
  ⟨h.soft _, h.soft _, h.soft _, h.soft _, h.soft _⟩
theorem RowX.put {base g n c : Nat} {D : List Rrd} {W : World} (h : RowX base g n c D W) (k : Nat) (x : Rrd) : RowX base g n c (D.set k x) (put5 W g (k * 5) x) /\ W.grownBy (put5 W g (k * 5) x) (some g) := by
  obtain ⟨o1, g1⟩ := World.ownsRow.stored h (k * 5) (.string x.s)
  obtain ⟨o2, g2⟩ := World.ownsRow.stored o1 (k * 5 + 1) (.int .i64 x.t)
  obtain ⟨o3, g3⟩ := World.ownsRow.stored o2 (k * 5 + 2) (.int .i64 x.c)
  obtain ⟨o4, g4⟩ := World.ownsRow.stored o3 (k * 5 + 3) (.int .i64 x.l)
  obtain ⟨o5, g5⟩ := World.ownsRow.stored o4 (k * 5 + 4) (.string x.d)
  rw [rcells_set] at o5
  exact ⟨o5, grown_trans g1 (grown_trans g2 (grown_trans g3 (grown_trans g4 g5)))⟩
theorem RowX.drew {base g n c : Nat} {D : List Rrd} {W : World} (h : RowX base g n c D W) : RowX base g n c D W.drew := h
theorem RowX.two {base g n c : Nat} {U V Z : List Rrd} {x y : Rrd} {W : World} (h : RowX base g n c (U ++ x :: (V ++ y :: Z)) W) {p q : Nat} (hp : p = U.length) (hq : q = U.length + 1 + V.length) :
    Five W g (p * 5) x /\ Five W g (q * 5) y /\ p < n /\ q < n /\
      RowX base g n c (U ++ y :: (V ++ x :: Z)) (put5 (put5 W g (p * 5) y) g (q * 5) x) /\ W.grownBy (put5 (put5 W g (p * 5) y) g (q * 5) x) (some g) := by
  subst hp; subst hq
  have hl := h.len
  simp only [List.length_append, List.length_cons] at hl
  refine ⟨h.five (at_one _ _ _), h.five (at_two _ _ _ _ _), by omega, by omega, ?_, ?_⟩
  · obtain ⟨o1, _⟩ := h.put U.length y
    obtain ⟨o2, _⟩ := o1.put (U.length + 1 + V.length) x
    rw [set_two] at o2
    exact o2
  · obtain ⟨o1, g1⟩ := h.put U.length y
    obtain ⟨_, g2⟩ := o1.put (U.length + 1 + V.length) x
    exact grown_trans g1 g2
theorem RowX.two' {base g n c : Nat} {U V Z : List Rrd} {x y : Rrd} {W : World} (h : RowX base g n c (U ++ x :: (V ++ y :: Z)) W) {p q : Nat} (hp : p = U.length) (hq : q = U.length + 1 + V.length) :
    RowX base g n c (U ++ y :: (V ++ x :: Z)) (put5 (put5 W g (q * 5) x) g (p * 5) y) /\ W.grownBy (put5 (put5 W g (q * 5) x) g (p * 5) y) (some g) := by
  subst hp; subst hq
  obtain ⟨o1, g1⟩ := h.put (U.length + 1 + V.length) x
  obtain ⟨o2, g2⟩ := o1.put U.length y
  refine ⟨?_, grown_trans g1 g2⟩
  rw [List.set_comm _ _ (by omega), set_two] at o2
  exact o2
theorem far5 (g : Nat) {p q : Nat} (h : p ≠ q) : ∀ i j, i < 5 -> j < 5 -> (⟨g, q * 5 + j, none⟩ : Addr) ≠ ⟨g, p * 5 + i, none⟩ := by
  intro i j hi hj e
  injection e with _ e _
  omega
def SR (P X M Y Q : List Rrd) (i : Nat) : List Rrd := (P ++ Y.take i) ++ (X.drop i ++ ((M ++ X.take i) ++ (Y.drop i ++ Q)))
theorem SR.start (P X M Y Q : List Rrd) : SR P X M Y Q 0 = P ++ X ++ M ++ Y ++ Q := by simp [SR]
theorem SR.ends {P X M Y Q : List Rrd} {k : Nat} (hX : X.length = k) (hY : Y.length = k) : SR P X M Y Q k = P ++ Y ++ M ++ X ++ Q := by
  unfold SR
  rw [List.take_of_length_le (by omega), List.take_of_length_le (by omega), List.drop_of_length_le (by omega), List.drop_of_length_le (by omega)]
  simp
theorem SR.step {P X M Y Q : List Rrd} {k i : Nat} (hX : X.length = k) (hY : Y.length = k) (hi : i < k) :
    ∃ U V Z x y, SR P X M Y Q i = U ++ x :: (V ++ y :: Z) /\ SR P X M Y Q (i + 1) = U ++ y :: (V ++ x :: Z) /\ U.length = P.length + i /\ U.length + 1 + V.length = P.length + k + M.length + i := by
  have h1 : i < X.length := by omega
  have h2 : i < Y.length := by omega
  refine ⟨P ++ Y.take i, X.drop (i + 1) ++ (M ++ X.take i), Y.drop (i + 1) ++ Q, X[i], Y[i], ?_, ?_, ?_, ?_⟩
  · unfold SR
    rw [List.drop_eq_getElem_cons h1, List.drop_eq_getElem_cons h2]
    simp only [List.append_assoc, List.cons_append]
  · unfold SR
    rw [List.take_succ_eq_append_getElem h1, List.take_succ_eq_append_getElem h2]
    simp only [List.append_assoc, List.cons_append, List.nil_append]
  · simp; omega
  · simp; omega
theorem swapRange_any (base g n c a b k : Nat) (F : Value) (P X M Y Q : List Rrd) (w : World) (hX : X.length = k) (hY : Y.length = k) (ha : a = P.length) (hb : b = P.length + k + M.length) (hn : n <= 1000000)
    (h : RowX base g n c (P ++ X ++ M ++ Y ++ Q) w) :
    Calls Tryz.prog 276 #[.slice (some ⟨g, 0, none⟩) n c, .int .i64 (a : Nat), .int .i64 (b : Nat), .int .i64 (k : Nat), F] w fun e w' =>
      e = .returned (.tuple #[]) /\ RowX base g n c (P ++ Y ++ M ++ X ++ Q) w' /\ w.grownBy w' (some g) := by
  have hl := h.len
  simp only [List.length_append] at hl
  have hk : k <= n := by omega
  have H := Ha h
  have HX := Ha hX
  have HY := Ha hY
  have HA := Ha ha
  have HB := Ha hb
  have HL := Ha hl
  clear h hX hY ha hb hl
  go_enter Tryz.func276, Tryz.ntmps276
  go_wp2_with fail
  go_loopw [10] (fun j wr => ∃ i : Nat, j = .int .i64 (i : Nat) /\ i <= k /\ RowX base g n c (SR P X M Y Q i) wr /\ w.grownBy wr (some g)) (fun j _ => k - (intOf j).toNat)
  case atStart => exact ⟨0, rfl, Nat.zero_le _, by rw [SR.start]; exact H.out, World.grownBy.refl _ _⟩
  case round =>
    obtain ⟨i, rfl, hi, hrow, hgr⟩ := hrel
    have HR := Ha hrow
    have HG := Ha hgr
    clear hrow hgr
    by_cases hlt : i < k
    · have g1 : (i : Int) < (k : Int) := by omega
      obtain ⟨U, V, Z, x, y, e1, e2, l1, l2⟩ := SR.step (P := P) (M := M) (Q := Q) HX.out HY.out hlt
      obtain ⟨p, hp⟩ : ∃ p, p = a + i := ⟨_, rfl⟩
      obtain ⟨q, hq⟩ : ∃ q, q = b + i := ⟨_, rfl⟩
      have hrow := HR.out
      rw [e1] at hrow
      obtain ⟨⟨a0, a1, a2, a3, a4⟩, ⟨b0, b1, b2, b3, b4⟩, p1, q1, o2, g2⟩ := hrow.two (p := p) (q := q) (by rw [hp, HA.out, l1]) (by rw [hq, HB.out, l2])
      obtain ⟨d0, d1, d2, d3, d4⟩ := hrow.softs (p * 5)
      obtain ⟨e0, e1', e2', e3, e4⟩ := hrow.softs (q * 5)
      rw [<-e2] at o2
      have HO2 := Ha o2
      have HG2 := Ha (grown_trans HG.out g2)
      have z1 : (a : Int) + (i : Int) = (p : Int) := by omega
      have z2 : (b : Int) + (i : Int) = (q : Int) := by omega
      have hpq : p < q := by have := HA.out; have := HB.out; omega
      have hfar := far5 g (p := p) (q := q) (by omega)
      have n00 : (⟨g, q * 5, none⟩ : Addr) ≠ ⟨g, p * 5, none⟩ := hfar 0 0 (by decide) (by decide)
      have n01 : (⟨g, q * 5 + 1, none⟩ : Addr) ≠ ⟨g, p * 5, none⟩ := hfar 0 1 (by decide) (by decide)
      have n02 : (⟨g, q * 5 + 2, none⟩ : Addr) ≠ ⟨g, p * 5, none⟩ := hfar 0 2 (by decide) (by decide)
      have n03 : (⟨g, q * 5 + 3, none⟩ : Addr) ≠ ⟨g, p * 5, none⟩ := hfar 0 3 (by decide) (by decide)
      have n04 : (⟨g, q * 5 + 4, none⟩ : Addr) ≠ ⟨g, p * 5, none⟩ := hfar 0 4 (by decide) (by decide)
      have n10 : (⟨g, q * 5, none⟩ : Addr) ≠ ⟨g, p * 5 + 1, none⟩ := hfar 1 0 (by decide) (by decide)
      have n11 : (⟨g, q * 5 + 1, none⟩ : Addr) ≠ ⟨g, p * 5 + 1, none⟩ := hfar 1 1 (by decide) (by decide)
      have n12 : (⟨g, q * 5 + 2, none⟩ : Addr) ≠ ⟨g, p * 5 + 1, none⟩ := hfar 1 2 (by decide) (by decide)
      have n13 : (⟨g, q * 5 + 3, none⟩ : Addr) ≠ ⟨g, p * 5 + 1, none⟩ := hfar 1 3 (by decide) (by decide)
      have n14 : (⟨g, q * 5 + 4, none⟩ : Addr) ≠ ⟨g, p * 5 + 1, none⟩ := hfar 1 4 (by decide) (by decide)
      have n20 : (⟨g, q * 5, none⟩ : Addr) ≠ ⟨g, p * 5 + 2, none⟩ := hfar 2 0 (by decide) (by decide)
      have n21 : (⟨g, q * 5 + 1, none⟩ : Addr) ≠ ⟨g, p * 5 + 2, none⟩ := hfar 2 1 (by decide) (by decide)
      have n22 : (⟨g, q * 5 + 2, none⟩ : Addr) ≠ ⟨g, p * 5 + 2, none⟩ := hfar 2 2 (by decide) (by decide)
      have n23 : (⟨g, q * 5 + 3, none⟩ : Addr) ≠ ⟨g, p * 5 + 2, none⟩ := hfar 2 3 (by decide) (by decide)
      have n24 : (⟨g, q * 5 + 4, none⟩ : Addr) ≠ ⟨g, p * 5 + 2, none⟩ := hfar 2 4 (by decide) (by decide)
      have n30 : (⟨g, q * 5, none⟩ : Addr) ≠ ⟨g, p * 5 + 3, none⟩ := hfar 3 0 (by decide) (by decide)
      have n31 : (⟨g, q * 5 + 1, none⟩ : Addr) ≠ ⟨g, p * 5 + 3, none⟩ := hfar 3 1 (by decide) (by decide)
      have n32 : (⟨g, q * 5 + 2, none⟩ : Addr) ≠ ⟨g, p * 5 + 3, none⟩ := hfar 3 2 (by decide) (by decide)
      have n33 : (⟨g, q * 5 + 3, none⟩ : Addr) ≠ ⟨g, p * 5 + 3, none⟩ := hfar 3 3 (by decide) (by decide)
      have n34 : (⟨g, q * 5 + 4, none⟩ : Addr) ≠ ⟨g, p * 5 + 3, none⟩ := hfar 3 4 (by decide) (by decide)
      have n40 : (⟨g, q * 5, none⟩ : Addr) ≠ ⟨g, p * 5 + 4, none⟩ := hfar 4 0 (by decide) (by decide)
      have n41 : (⟨g, q * 5 + 1, none⟩ : Addr) ≠ ⟨g, p * 5 + 4, none⟩ := hfar 4 1 (by decide) (by decide)
      have n42 : (⟨g, q * 5 + 2, none⟩ : Addr) ≠ ⟨g, p * 5 + 4, none⟩ := hfar 4 2 (by decide) (by decide)
      have n43 : (⟨g, q * 5 + 3, none⟩ : Addr) ≠ ⟨g, p * 5 + 4, none⟩ := hfar 4 3 (by decide) (by decide)
      have n44 : (⟨g, q * 5 + 4, none⟩ : Addr) ≠ ⟨g, p * 5 + 4, none⟩ := hfar 4 4 (by decide) (by decide)
      clear hfar; clear e1 e2 l1 l2 hrow o2 g2 hp hq; go_wp2_with fail
      go_region
      go_wp2_with fail
      go_roundw
      case rel => exact ⟨i + 1, by go_num, by omega, HO2.out.drew, grown_drew HG2.out⟩
      case measure => simp [intOf]; omega
    · obtain rfl : i = k := by omega
      go_wp2_with fail
      go_end0
      exact ⟨rfl, by have := HR.out; rwa [SR.ends HX.out HY.out] at this, HG.out⟩
theorem rotate_any (base g n c a m b : Nat) (F : Value) (P A B Q : List Rrd) (w : World) (ha : a = P.length) (hm : m = P.length + A.length) (hb : b = P.length + A.length + B.length) (hA : A ≠ []) (hB : B ≠ []) (hn : n <= 1000000)
    (h : RowX base g n c (P ++ A ++ B ++ Q) w) :
    Calls Tryz.prog 257 #[.slice (some ⟨g, 0, none⟩) n c, .int .i64 (a : Nat), .int .i64 (m : Nat), .int .i64 (b : Nat), F] w fun e w' =>
      e = .returned (.tuple #[]) /\ RowX base g n c (P ++ B ++ A ++ Q) w' /\ w.grownBy w' (some g) := by
  have hl := h.len
  simp only [List.length_append] at hl
  have hA0 := List.length_pos_iff.2 hA
  have hB0 := List.length_pos_iff.2 hB
  obtain ⟨i0, hi0⟩ : ∃ i, i = A.length := ⟨_, rfl⟩
  obtain ⟨j0, hj0⟩ : ∃ j, j = B.length := ⟨_, rfl⟩
  have z1 : (m : Int) - (a : Int) = (i0 : Int) := by omega
  have z2 : (b : Int) - (m : Int) = (j0 : Int) := by omega
  have hbn : b <= n := by omega
  have hmb : m <= b := by omega
  have ham : a <= m := by omega
  have H := Ha h
  have HP := Ha (show P.length + i0 = m by omega)
  have HI := Ha hi0
  have HJ := Ha hj0
  have hi1 : 0 < i0 := by omega
  have hj1 : 0 < j0 := by omega
  have HIJ := Ha (show i0 + j0 <= n by omega)
  clear h hl hA hB hA0 hB0 hi0 hj0 ha hm hb
  go_enter Tryz.func257, Tryz.ntmps257
  go_wp2_with fail
  go_loopw [10, 11] (fun u v wr => ∃ (i j : Nat) (P' X Y Q' : List Rrd), u = .int .i64 (i : Nat) /\ v = .int .i64 (j : Nat) /\ 0 < i /\ 0 < j /\ i + j <= n /\ m + j <= n /\ i = X.length /\ j = Y.length /\ P'.length + i = m /\ P ++ B ++ A ++ Q = P' ++ Y ++ X ++ Q' /\ RowX base g n c (P' ++ X ++ Y ++ Q') wr /\ w.grownBy wr (some g)) (fun u v _ => (intOf u).toNat + (intOf v).toNat)
  case atStart => exact ⟨i0, j0, P, A, B, Q, rfl, rfl, hi1, hj1, HIJ.out, by omega, HI.out, HJ.out, HP.out, rfl, H.out, World.grownBy.refl _ _⟩
  case round =>
    obtain ⟨i, j, P', X, Y, Q', rfl, rfl, hi, hj, hij, hmj, hX, hY, hP, htg, hrow, hgr⟩ := hrel
    have HR := Ha hrow
    have HG := Ha hgr
    have HT := Ha htg
    have HX := Ha hX
    have HY := Ha hY
    obtain ⟨p, hp⟩ : ∃ p, p = P'.length := ⟨_, rfl⟩
    have z3 : (m : Int) - (i : Int) = (p : Int) := by omega
    have hpn : p <= n := by omega
    have HPP := Ha hP
    have HP2 := Ha hp
    clear hrow hgr htg hX hY hP hp
    by_cases heq : i = j
    · subst heq
      have g1 : ((i : Int) != (i : Int)) = false := by simp
      have hrow : RowX base g n c (P' ++ X ++ [] ++ Y ++ Q') wr := by simpa using HR.out
      go_wp2_with fail
      refine (swapRange_any base g n c p m i _ P' X [] Y Q' _ HX.out.symm HY.out.symm HP2.out (by have := HPP.out; simp; omega) hn hrow).mono ?_
      rintro e w' ⟨rfl, hrow', hgr'⟩; have HO' := Ha hrow'
      have HG' := Ha hgr'
      clear hrow' hgr' hrow; go_wp2_with fail
      go_end0
      exact ⟨rfl, by rw [HT.out]; simpa using HO'.out, grown_trans HG.out HG'.out⟩
    · have g1 : ((i : Int) != (j : Int)) = true := by rw [bne_iff_ne]; omega
      by_cases hlt : j < i
      · have g2 : (j : Int) < (i : Int) := by omega
        have hsp : X = X.take j ++ X.drop j := (List.take_append_drop j X).symm
        have l1 : (X.take j).length = j := by rw [List.length_take]; have := HX.out; omega
        have l2 : (X.drop j).length = i - j := by rw [List.length_drop, <-HX.out]
        obtain ⟨X1, hX1⟩ : ∃ X1, X1 = X.take j := ⟨_, rfl⟩
        obtain ⟨X2, hX2⟩ : ∃ X2, X2 = X.drop j := ⟨_, rfl⟩
        rw [<-hX1, <-hX2] at hsp
        rw [<-hX1] at l1
        rw [<-hX2] at l2
        have hrow : RowX base g n c (P' ++ X1 ++ X2 ++ Y ++ Q') wr := by have := HR.out; rw [hsp] at this; simpa using this
        have htg : P ++ B ++ A ++ Q = (P' ++ Y) ++ X1 ++ X2 ++ Q' := by rw [HT.out, hsp]; simp
        have HT2 := Ha htg
        have HL1 := Ha l1
        have HL2 := Ha l2
        obtain ⟨i2, hi2⟩ : ∃ i2, i2 = i - j := ⟨_, rfl⟩
        have z4 : (i : Int) - (j : Int) = (i2 : Int) := by omega
        have HI2 := Ha hi2
        clear hsp hX1 hX2 l1 l2 htg hi2; go_wp2_with fail
        refine (swapRange_any base g n c p m j _ P' X1 X2 Y Q' _ HL1.out HY.out.symm HP2.out (by have := HPP.out; have := HL2.out; omega) hn hrow).mono ?_
        rintro e w' ⟨rfl, hrow', hgr'⟩; have HO' := Ha hrow'
        have HG' := Ha (grown_trans HG.out hgr')
        clear hrow' hgr' hrow; go_wp2_with fail
        go_roundw
        case rel => exact ⟨i2, j, P' ++ Y, X2, X1, Q', by go_num, rfl, by have := HI2.out; omega, hj, by have := HI2.out; omega, hmj, by have := HL2.out; have := HI2.out; omega, HL1.out.symm, by have := HPP.out; have := HI2.out; have := HY.out; simp; omega, HT2.out, by have := HO'.out; simpa using this, HG'.out⟩
        case measure => simp [intOf]; omega
      · have g2 : ¬ (j : Int) < (i : Int) := by omega
        have hsp : Y = Y.take (j - i) ++ Y.drop (j - i) := (List.take_append_drop (j - i) Y).symm
        have l1 : (Y.take (j - i)).length = j - i := by rw [List.length_take]; have := HY.out; omega
        have l2 : (Y.drop (j - i)).length = i := by rw [List.length_drop, <-HY.out]; omega
        obtain ⟨Y1, hY1⟩ : ∃ Y1, Y1 = Y.take (j - i) := ⟨_, rfl⟩
        obtain ⟨Y2, hY2⟩ : ∃ Y2, Y2 = Y.drop (j - i) := ⟨_, rfl⟩
        rw [<-hY1, <-hY2] at hsp
        rw [<-hY1] at l1
        rw [<-hY2] at l2
        have hrow : RowX base g n c (P' ++ X ++ Y1 ++ Y2 ++ Q') wr := by have := HR.out; rw [hsp] at this; simpa using this
        have htg : P ++ B ++ A ++ Q = P' ++ Y1 ++ Y2 ++ (X ++ Q') := by rw [HT.out, hsp]; simp
        have HT2 := Ha htg
        have HL1 := Ha l1
        have HL2 := Ha l2
        obtain ⟨j2, hj2⟩ : ∃ j2, j2 = j - i := ⟨_, rfl⟩
        obtain ⟨q, hq⟩ : ∃ q, q = m + j - i := ⟨_, rfl⟩
        have z4 : (j : Int) - (i : Int) = (j2 : Int) := by omega
        have z5 : (m : Int) + (j : Int) - (i : Int) = (q : Int) := by omega
        have HJ2 := Ha hj2
        have HQ := Ha hq
        clear hsp hY1 hY2 l1 l2 htg hj2 hq; go_wp2_with fail
        refine (swapRange_any base g n c p q i _ P' X Y1 Y2 Q' _ HX.out.symm HL2.out HP2.out (by have := HPP.out; have := HL1.out; have := HQ.out; omega) hn hrow).mono ?_
        rintro e w' ⟨rfl, hrow', hgr'⟩; have HO' := Ha hrow'
        have HG' := Ha (grown_trans HG.out hgr')
        clear hrow' hgr' hrow; go_wp2_with fail
        go_roundw
        case rel => exact ⟨i, j2, P', Y2, Y1, X ++ Q', rfl, by go_num, hi, by have := HJ2.out; omega, by have := HJ2.out; omega, by have := HJ2.out; omega, HL2.out.symm, by have := HL1.out; have := HJ2.out; omega, HPP.out, HT2.out, by have := HO'.out; simpa using this, HG'.out⟩
        case measure => simp [intOf]; omega
end Go.Proofs.YtmpginmdaeclaaaGreatDoor
namespace Go.Proofs.YtmpginmdaeclaaaGreatDoor
open Go.RowKit
abbrev cmpF : Value := .func (.func 126) #[] #[]
theorem OkL.left {A B : List Rrd} (h : OkL (A ++ B)) : OkL A := fun x hx => h x (List.mem_append.2 (.inl hx))
theorem OkL.right {A B : List Rrd} (h : OkL (A ++ B)) : OkL B := fun x hx => h x (List.mem_append.2 (.inr hx))
theorem OkL.st {A B : List Rrd} (h : OkL A) (k : StS cX A B) : OkL B := fun x hx => h x (k.mem.2 hx)
theorem grown_below {w w' : World} (h : Below w.heap.size w w') (r : Option Nat) : w.grownBy w' r := ⟨h.os, h.tape, h.output, h.size, fun k hk _ => h.block k hk⟩
theorem RowX.below {base g n c : Nat} {D : List Rrd} {w w' : World} (h : RowX base g n c D w) (hb : Below w.heap.size w w') : RowX base g n c D w' := own_keep h hb
theorem RowX.lt {base g n c : Nat} {D : List Rrd} {w : World} (h : RowX base g n c D w) : g < w.heap.size := by
  rcases h.2 with ⟨e, _⟩ | ⟨g', cap, cur, e, _, hg, _⟩
  · cases e
  · have e' : g = g' := by simp only [Value.slice.injEq, Option.some.injEq, Addr.mk.injEq] at e; exact e.1.1
    rw [e']
    exact (Array.getElem?_eq_some_iff.1 hg).1
theorem cmpC_any {x y : Rrd} (hx : OkX x) (hy : OkX y) (w : World) :
    Calls Tryz.prog 126 #[.agg #[.string x.s, .int .i64 x.t, .int .i64 x.c, .int .i64 x.l, .string x.d], .agg #[.string y.s, .int .i64 y.t, .int .i64 y.c, .int .i64 y.l, .string y.d]] w fun e w' => e = .returned (.int .i64 (cX x y)) /\ Below w.heap.size w w' := by
  rw [<-cX_is hx hy]
  exact cmp_any hx hy w
theorem ins_next {M M1 M2 A B : List Rrd} {x : Rrd} (hs : Srt cX M1) (hst : StS cX M (M1 ++ x :: M2)) (hAB : M1 = A ++ B) (hB : ∀ y ∈ B, cX x y = -1) (hA : ∀ A' y, A = A' ++ [y] -> cX x y ≠ -1) :
    Srt cX (A ++ x :: B) /\ StS cX M ((A ++ x :: B) ++ M2) := by
  subst hAB
  obtain ⟨h1, h2⟩ := ins_done cX_ord hs hB hA
  refine ⟨h1, hst.trans ?_⟩
  have e : A ++ B ++ x :: M2 = ((A ++ B) ++ [x]) ++ M2 := by simp
  rw [e]
  exact h2.append (StS.refl M2)
theorem insertion_any (base g n c a b : Nat) (P M Q : List Rrd) (w : World) (ha : a = P.length) (hb : b = P.length + M.length) (hM : M ≠ []) (hN : OkL M) (hn : n <= 1000000) (h : RowX base g n c (P ++ M ++ Q) w) :
    Calls Tryz.prog 219 #[.slice (some ⟨g, 0, none⟩) n c, .int .i64 (a : Nat), .int .i64 (b : Nat), cmpF] w fun e w' =>
      e = .returned (.tuple #[]) /\ ∃ M', Srt cX M' /\ StS cX M M' /\ RowX base g n c (P ++ M' ++ Q) w' /\ w.grownBy w' (some g) := by
  have hl := h.len
  simp only [List.length_append] at hl
  have hM0 := List.length_pos_iff.2 hM
  have hbn : b <= n := by omega
  have hab : a < b := by omega
  have H := Ha h
  have HA := Ha ha
  have HB := Ha hb
  have HN := Ha hN
  have HM := Ha hM
  clear h hl hM hN ha hb hM0
  go_enter Tryz.func219, Tryz.ntmps219
  go_wp2_with fail
  go_loopw [8] (fun u wr => ∃ (i : Nat) (M1 M2 : List Rrd), u = .int .i64 (i : Nat) /\ a < i /\ i <= b /\ i = P.length + M1.length /\ Srt cX M1 /\ StS cX M (M1 ++ M2) /\ RowX base g n c (P ++ M1 ++ M2 ++ Q) wr /\ w.grownBy wr (some g)) (fun u _ => b - (intOf u).toNat)
  case atStart =>
    cases M with
    | nil => exact absurd rfl HM.out
    | cons x M2 => exact ⟨a + 1, [x], M2, by go_num, by omega, by omega, by have := HA.out; simp; omega, Srt.one x, StS.refl _, by have := H.out; simpa using this, World.grownBy.refl _ _⟩
  case round =>
    obtain ⟨i, M1, M2, rfl, hai, hib, hi, hs, hst, hrow, hgr⟩ := hrel
    have hlen := hst.1.length_eq
    simp only [List.length_append] at hlen
    by_cases hlt : i < b
    · have g1 : (i : Int) < (b : Int) := by omega
      cases M2 with
      | nil => have := HB.out; simp at hlen; omega
      | cons x M2 =>
        have HR := Ha hrow
        have HG := Ha hgr
        have HI := Ha hi
        have HS := Ha hs
        have HST := Ha hst
        have hNx : OkX x := HN.out x (hst.mem.2 (by simp))
        have hN1 : OkL M1 := fun y hy => HN.out y (hst.mem.2 (by simp [hy]))
        have HNx := Ha hNx
        have HN1 := Ha hN1
        clear hrow hgr hi hs hst hNx hN1 hlen; go_wp2_with fail
        go_loopw [9] (fun u wr2 => ∃ (j : Nat) (A B : List Rrd), u = .int .i64 (j : Nat) /\ j = P.length + A.length /\ M1 = A ++ B /\ (∀ y ∈ B, cX x y = -1) /\ RowX base g n c (P ++ A ++ x :: (B ++ M2 ++ Q)) wr2 /\ w.grownBy wr2 (some g)) (fun u _ => (intOf u).toNat)
        case atStart => exact ⟨i, M1, [], rfl, HI.out, (List.append_nil _).symm, (fun y hy => by cases hy), (by have := HR.out; simpa using this), HG.out⟩
        case round =>
          obtain ⟨j, A, B, rfl, hj, hAB, hB, hrow, hgr⟩ := hrel
          have hl := hrow.len
          simp only [List.length_append, List.length_cons] at hl
          have hjn : j < n := by omega
          have HJ := Ha hj
          have HAB := Ha hAB
          have HBB := Ha hB
          have HR2 := Ha hrow
          have HG2 := Ha hgr
          clear hj hAB hB hrow hgr hl
          rcases List.eq_nil_or_concat A with h0 | ⟨A', y, h0⟩
          · have hja : j = a := by have h1 := HJ.out; rw [h0] at h1; simp at h1; have := HA.out; omega
            have g2 : ¬ (a : Int) < (j : Int) := by omega
            have g3 : decide ((a : Int) < (j : Int)) = false := decide_eq_false (by omega)
            go_wp2_with fail
            go_region
            go_wp2_with fail
            obtain ⟨k1, k2⟩ := ins_next HS.out HST.out HAB.out HBB.out (fun A' y e => by rw [h0] at e; simp at e)
            go_roundw
            case rel => exact ⟨i + 1, A ++ x :: B, M2, by go_num, by omega, by omega, by have := HI.out; rw [HAB.out] at this; simp at this ⊢; omega, k1, k2, by have := HR2.out.drew; simpa using this, grown_drew HG2.out⟩
            case measure => simp [intOf]; omega
          · have hAy : A = A' ++ [y] := by simpa using h0
            have hJ2 : j = P.length + A'.length + 1 := by have := HJ.out; rw [hAy] at this; simp at this; omega
            obtain ⟨p, hp⟩ : ∃ p, p + 1 = j := ⟨j - 1, by omega⟩
            have hrow : RowX base g n c ((P ++ A') ++ y :: ([] ++ x :: (B ++ M2 ++ Q))) wr := by have := HR2.out; rw [hAy] at this; simpa using this
            have hNy : OkX y := HN1.out y (by rw [HAB.out, hAy]; simp)
            obtain ⟨hf1, hf2, _, _, _, _⟩ := hrow.two (p := p) (q := j) (by simp; omega) (by simp; omega)
            have hlt : g < wr.heap.size := hrow.lt
            obtain ⟨d0, d1, d2, d3, d4⟩ := hf1.later hlt
            obtain ⟨e0, e1, e2, e3, e4⟩ := hf2.later hlt
            have g2 : (a : Int) < (j : Int) := by have := HA.out; omega
            have z1 : (j : Int) - 1 = (p : Int) := by omega
            have r1 : IntKind.i64.wrap (p : Int) = (p : Int) := by rw [IntKind.wrap_i64]; omega
            have hpn : p < n := by omega
            have HROW := Ha hrow
            have HAY := Ha hAy
            have HNy := Ha hNy
            obtain ⟨v, hv⟩ : ∃ v, v = cX x y := ⟨_, rfl⟩
            have HC := Ha (show ∀ q : Later wr, Calls Tryz.prog 126 #[.agg #[.string x.s, .int .i64 x.t, .int .i64 x.c, .int .i64 x.l, .string x.d], .agg #[.string y.s, .int .i64 y.t, .int .i64 y.c, .int .i64 y.l, .string y.d]] q.val fun e w'' => e = .returned (.int .i64 v) /\ ∃ q' : Later wr, w'' = q'.val from
              fun q => later_call (by rw [hv]; exact cmpC_any HNx.out HNy.out _))
            have HV := Ha hv
            have HP2 := Ha (show p = (P ++ A').length by simp; omega)
            have HJ3 := Ha (show j = (P ++ A').length + 1 + ([] : List Rrd).length by simp; omega)
            clear hrow hAy hNy h0 hv hJ2 hf1 hf2; go_wp2_with fail
            refine region_later (by kernel_rfl) ?_
            repeat (go_big_quiet_step ((go_at_call 126; with_reducible exact HC.out _)))
            refine wpQuiet_nil ?_
            rintro _ ⟨q2, rfl⟩; obtain ⟨W2, hB2⟩ := q2
            simp only []
            have hrow2 := HROW.out.below hB2
            have HG3 := Ha (grown_trans HG2.out (grown_below hB2 (some g)))
            clear d0 d1 d2 d3 d4 e0 e1 e2 e3 e4
            by_cases hv : v < 0
            · obtain ⟨⟨a0, a1, a2, a3, a4⟩, ⟨b0, b1, b2, b3, b4⟩, _, _, _, _⟩ := hrow2.two (p := p) (q := j) HP2.out HJ3.out
              obtain ⟨o2, g2'⟩ := hrow2.two' (p := p) (q := j) HP2.out HJ3.out
              obtain ⟨s0, s1, s2, s3, s4⟩ := hrow2.softs (p * 5)
              obtain ⟨t0, t1, t2, t3, t4⟩ := hrow2.softs (j * 5)
              have HO2 := Ha o2
              have HG4 := Ha (grown_trans HG3.out g2')
              have hfar := far5 g (p := j) (q := p) (by omega)
              have n00 : (⟨g, p * 5, none⟩ : Addr) ≠ ⟨g, j * 5, none⟩ := hfar 0 0 (by decide) (by decide)
              have n01 : (⟨g, p * 5 + 1, none⟩ : Addr) ≠ ⟨g, j * 5, none⟩ := hfar 0 1 (by decide) (by decide)
              have n02 : (⟨g, p * 5 + 2, none⟩ : Addr) ≠ ⟨g, j * 5, none⟩ := hfar 0 2 (by decide) (by decide)
              have n03 : (⟨g, p * 5 + 3, none⟩ : Addr) ≠ ⟨g, j * 5, none⟩ := hfar 0 3 (by decide) (by decide)
              have n04 : (⟨g, p * 5 + 4, none⟩ : Addr) ≠ ⟨g, j * 5, none⟩ := hfar 0 4 (by decide) (by decide)
              have n10 : (⟨g, p * 5, none⟩ : Addr) ≠ ⟨g, j * 5 + 1, none⟩ := hfar 1 0 (by decide) (by decide)
              have n11 : (⟨g, p * 5 + 1, none⟩ : Addr) ≠ ⟨g, j * 5 + 1, none⟩ := hfar 1 1 (by decide) (by decide)
              have n12 : (⟨g, p * 5 + 2, none⟩ : Addr) ≠ ⟨g, j * 5 + 1, none⟩ := hfar 1 2 (by decide) (by decide)
              have n13 : (⟨g, p * 5 + 3, none⟩ : Addr) ≠ ⟨g, j * 5 + 1, none⟩ := hfar 1 3 (by decide) (by decide)
              have n14 : (⟨g, p * 5 + 4, none⟩ : Addr) ≠ ⟨g, j * 5 + 1, none⟩ := hfar 1 4 (by decide) (by decide)
              have n20 : (⟨g, p * 5, none⟩ : Addr) ≠ ⟨g, j * 5 + 2, none⟩ := hfar 2 0 (by decide) (by decide)
              have n21 : (⟨g, p * 5 + 1, none⟩ : Addr) ≠ ⟨g, j * 5 + 2, none⟩ := hfar 2 1 (by decide) (by decide)
              have n22 : (⟨g, p * 5 + 2, none⟩ : Addr) ≠ ⟨g, j * 5 + 2, none⟩ := hfar 2 2 (by decide) (by decide)
              have n23 : (⟨g, p * 5 + 3, none⟩ : Addr) ≠ ⟨g, j * 5 + 2, none⟩ := hfar 2 3 (by decide) (by decide)
              have n24 : (⟨g, p * 5 + 4, none⟩ : Addr) ≠ ⟨g, j * 5 + 2, none⟩ := hfar 2 4 (by decide) (by decide)
              have n30 : (⟨g, p * 5, none⟩ : Addr) ≠ ⟨g, j * 5 + 3, none⟩ := hfar 3 0 (by decide) (by decide)
              have n31 : (⟨g, p * 5 + 1, none⟩ : Addr) ≠ ⟨g, j * 5 + 3, none⟩ := hfar 3 1 (by decide) (by decide)
              have n32 : (⟨g, p * 5 + 2, none⟩ : Addr) ≠ ⟨g, j * 5 + 3, none⟩ := hfar 3 2 (by decide) (by decide)
              have n33 : (⟨g, p * 5 + 3, none⟩ : Addr) ≠ ⟨g, j * 5 + 3, none⟩ := hfar 3 3 (by decide) (by decide)
              have n34 : (⟨g, p * 5 + 4, none⟩ : Addr) ≠ ⟨g, j * 5 + 3, none⟩ := hfar 3 4 (by decide) (by decide)
              have n40 : (⟨g, p * 5, none⟩ : Addr) ≠ ⟨g, j * 5 + 4, none⟩ := hfar 4 0 (by decide) (by decide)
              have n41 : (⟨g, p * 5 + 1, none⟩ : Addr) ≠ ⟨g, j * 5 + 4, none⟩ := hfar 4 1 (by decide) (by decide)
              have n42 : (⟨g, p * 5 + 2, none⟩ : Addr) ≠ ⟨g, j * 5 + 4, none⟩ := hfar 4 2 (by decide) (by decide)
              have n43 : (⟨g, p * 5 + 3, none⟩ : Addr) ≠ ⟨g, j * 5 + 4, none⟩ := hfar 4 3 (by decide) (by decide)
              have n44 : (⟨g, p * 5 + 4, none⟩ : Addr) ≠ ⟨g, j * 5 + 4, none⟩ := hfar 4 4 (by decide) (by decide)
              clear hfar; have hvm : cX x y = -1 := by
                have := HV.out
                rcases cX_ord.range x y with h | h | h <;> omega
              have HVM := Ha hvm
              clear hrow2 o2 g2' hvm; go_wp2_with fail
              go_region
              go_wp2_with fail
              go_roundw
              case rel => exact ⟨p, A', y :: B, by go_num, by have := HP2.out; simp at this; omega, by rw [HAB.out, HAY.out]; simp, by
                intro z hz
                rcases List.mem_cons.1 hz with h | h
                · subst h; exact HVM.out
                · exact HBB.out z h, by have := HO2.out.drew; simpa using this, grown_drew HG4.out⟩
              case measure => simp [intOf]; omega
            · have hnv : cX x y ≠ -1 := by have := HV.out; omega
              have hA : ∀ A'' z, A = A'' ++ [z] -> cX x z ≠ -1 := by
                intro A'' z e
                rw [HAY.out] at e
                obtain ⟨_, e2⟩ := List.append_inj' e rfl
                injection e2 with e2 _
                rw [<-e2]; exact hnv
              obtain ⟨k1, k2⟩ := ins_next HS.out HST.out HAB.out HBB.out hA
              have K1 := Ha k1
              have K2 := Ha k2
              have HR3 := Ha hrow2
              clear hrow2 hnv hA k1 k2; go_wp2_with fail
              go_roundw
              case rel => exact ⟨i + 1, A ++ x :: B, M2, by go_num, by omega, by omega, by have := HI.out; rw [HAB.out] at this; simp at this ⊢; omega, K1.out, K2.out, by have := HR3.out; rw [HAY.out]; simpa using this, HG3.out⟩
              case measure => simp [intOf]; omega
    · obtain rfl : i = b := by omega
      have g1 : ¬ ((i : Nat) : Int) < (i : Int) := by omega
      cases M2 with
      | cons x M2 => have := HB.out; simp at hlen; omega
      | nil =>
        rw [List.append_nil] at hst
        go_wp2_with fail
        go_end0
        exact ⟨rfl, M1, hs, hst, by simpa using hrow, hgr⟩
end Go.Proofs.YtmpginmdaeclaaaGreatDoor
namespace Go.Proofs.YtmpginmdaeclaaaGreatDoor
open Go.RowKit
theorem at_mid {α : Type} (U R Q : List α) {t : Nat} (h : t < R.length) : (U ++ R ++ Q)[U.length + t]? = some R[t] := by
  rw [List.append_assoc, List.getElem?_append_right (by omega), show U.length + t - U.length = t by omega, List.getElem?_append_left h, List.getElem?_eq_getElem h]
def Bef (x : Rrd) (R : List Rrd) (u v : Nat) : Prop := u <= v /\ v <= R.length /\ (∀ y, 0 < u -> R[u - 1]? = some y -> cX y x = -1) /\ (∀ y, R[v]? = some y -> cX y x ≠ -1)
theorem Bef.start (x : Rrd) (R : List Rrd) : Bef x R 0 R.length := ⟨Nat.zero_le _, Nat.le_refl _, fun _ h => absurd h (by omega), fun y h => by rw [List.getElem?_eq_none (Nat.le_refl _)] at h; cases h⟩
theorem Bef.up {x y : Rrd} {R : List Rrd} {u v t : Nat} (h : Bef x R u v) (ht : t < v) (hy : R[t]? = some y) (hc : cX y x = -1) : Bef x R (t + 1) v :=
  ⟨ht, h.2.1, fun z _ hz => by rw [Nat.add_sub_cancel, hy] at hz; injection hz with hz; rw [<-hz]; exact hc, h.2.2.2⟩
theorem Bef.down {x y : Rrd} {R : List Rrd} {u v t : Nat} (h : Bef x R u v) (h1 : u <= t) (ht : t < v) (hy : R[t]? = some y) (hc : cX y x ≠ -1) : Bef x R u t :=
  ⟨h1, by have := h.2.1; omega, h.2.2.1, fun z hz => by rw [hy] at hz; injection hz with hz; rw [<-hz]; exact hc⟩
theorem Bef.done {x : Rrd} {R : List Rrd} {u : Nat} (h : Bef x R u u) (hs : Srt cX R) : Srt cX (R.take u ++ x :: R.drop u) /\ StS cX ([x] ++ R) (R.take u ++ x :: R.drop u) := by
  have hsp := List.take_append_drop u R
  have hs' := hs
  rw [<-hsp] at hs'
  have h1 : ∀ z ∈ R.take u, ∀ y ∈ [x], cX z y = -1 := by
    refine all_lt cX_ord hs'.left (Srt.one x) ?_
    intro R' z e y L' e2
    injection e2 with e2 _
    subst e2; have hl : R'.length + 1 = u := by
      have := congrArg List.length e
      rw [List.length_take] at this
      simp at this
      have := h.2.1
      omega
    refine h.2.2.1 z (by omega) ?_
    rw [<-hsp, e, show u - 1 = R'.length by omega, List.append_assoc, List.getElem?_append_right (Nat.le_refl _)]
    simp
  have h2 : ∀ z ∈ [x], ∀ y ∈ R.drop u, cX y z ≠ -1 := by
    refine all_le cX_ord (Srt.one x) hs'.right ?_
    intro L' z e y R' e2
    have hz : x = z := by
      cases L' with
      | nil => injection e
      | cons _ t => injection e with _ e; cases t <;> cases e
    subst hz; refine h.2.2.2 y ?_
    have := congrArg (·[0]?) e2
    simpa using this
  have := merge_done cX_ord (L1 := []) (L2 := [x]) (R1 := R.take u) (R2 := R.drop u) (M1 := R.take u) (M2 := [x] ++ R.drop u) (Srt.one x) hs' h1 (fun z hz => by cases hz) hs'.left (StS.refl _)
    (List.pairwise_append.2 ⟨Srt.one x, hs'.right, h2⟩) (StS.refl _)
  rw [hsp] at this
  simpa using this
theorem sym_left (base g n c a m b : Nat) (P R Q : List Rrd) (x : Rrd) (w : World) (ha : a = P.length) (hm : m = P.length + 1) (hb : b = P.length + 1 + R.length) (hs : Srt cX R) (hNx : OkX x) (hNR : OkL R) (hn : n <= 1000000)
    (h : RowX base g n c (P ++ [x] ++ R ++ Q) w) :
    Calls Tryz.prog 220 #[.slice (some ⟨g, 0, none⟩) n c, .int .i64 (a : Nat), .int .i64 (m : Nat), .int .i64 (b : Nat), cmpF] w fun e w' =>
      e = .returned (.tuple #[]) /\ ∃ M', Srt cX M' /\ StS cX ([x] ++ R) M' /\ RowX base g n c (P ++ M' ++ Q) w' /\ w.grownBy w' (some g) := by
  have hl := h.len
  simp only [List.length_append, List.length_cons, List.length_nil] at hl
  have z0 : (m : Int) - (a : Int) = 1 := by omega
  have hbn : b <= n := by omega
  have hmb : m <= b := by omega
  have hmn : m <= n := by omega
  have han : a < n := by omega
  have H := Ha h
  have HA := Ha ha
  have HM := Ha hm
  have HB := Ha hb
  have HS := Ha hs
  have HNx := Ha hNx
  have HNR := Ha hNR
  clear h hl ha hm hb hs hNx hNR
  go_enter Tryz.func220, Tryz.ntmps220
  go_wp2_with fail
  go_loopw [10, 11] (fun i' j' wr => ∃ (i j u v : Nat), i' = .int .i64 (i : Nat) /\ j' = .int .i64 (j : Nat) /\ i = m + u /\ j = m + v /\ Bef x R u v /\ RowX base g n c (P ++ [x] ++ R ++ Q) wr /\ w.grownBy wr (some g)) (fun i' j' _ => (intOf j').toNat - (intOf i').toNat)
  case atStart => exact ⟨m, b, 0, R.length, rfl, rfl, rfl, by have := HM.out; have := HB.out; omega, Bef.start x R, H.out, World.grownBy.refl _ _⟩
  case round =>
    obtain ⟨i, j, u, v, rfl, rfl, hi, hj, hbf, hrow, hgr⟩ := hrel
    have HR := Ha hrow
    have HG := Ha hgr
    have HBF := Ha hbf
    have HI := Ha hi
    have HJ := Ha hj
    have hvR := hbf.2.1
    have huv := hbf.1
    have hjb : j <= b := by have := HM.out; have := HB.out; omega
    have hij : i <= j := by omega
    clear hrow hgr hbf hi hj
    by_cases hlt : i < j
    · have g1 : (i : Int) < (j : Int) := by omega
      obtain ⟨k, hk⟩ : ∃ k, k = (i + j) / 2 := ⟨_, rfl⟩
      have hk1 : i <= k := by omega
      have hk2 : k < j := by omega
      have zk : ((i : Int) + (j : Int)) / 2 = (k : Int) := by omega
      clear hk; have hkm : ∃ s, k = m + s /\ s < R.length := ⟨k - m, by have := HI.out; omega, by have := HI.out; have := HM.out; have := HB.out; omega⟩
      obtain ⟨s, hs, hsR⟩ := hkm
      obtain ⟨y, hy⟩ : ∃ y, y = R[s] := ⟨_, rfl⟩
      have hyR : R[s]? = some y := by rw [List.getElem?_eq_getElem hsR, hy]
      have hf1 := HR.out.five (k := k) (x := y) (by have := at_mid (P ++ [x]) R Q hsR; rw [<-hy] at this; rw [hs, HM.out]; simpa using this)
      have hf2 := HR.out.five (k := a) (x := x) (by rw [HA.out]; simp)
      have hkn : k < n := by omega
      have hglt : g < wr.heap.size := HR.out.lt
      have HNy := Ha (HNR.out y (by rw [hy]; exact List.getElem_mem hsR))
      obtain ⟨d0, d1, d2, d3, d4⟩ := hf1.later hglt
      obtain ⟨e0, e1, e2, e3, e4⟩ := hf2.later hglt
      have r1 : IntKind.i64.wrap (k : Int) = (k : Int) := by rw [IntKind.wrap_i64]; omega
      have r2 : IntKind.i64.wrap (a : Int) = (a : Int) := by rw [IntKind.wrap_i64]; omega
      obtain ⟨q', hq'⟩ : ∃ v, v = cX y x := ⟨_, rfl⟩
      have HC := Ha (show ∀ q : Later wr, Calls Tryz.prog 126 #[.agg #[.string y.s, .int .i64 y.t, .int .i64 y.c, .int .i64 y.l, .string y.d], .agg #[.string x.s, .int .i64 x.t, .int .i64 x.c, .int .i64 x.l, .string x.d]] q.val fun e w'' => e = .returned (.int .i64 q') /\ ∃ q'' : Later wr, w'' = q''.val from
        fun q => later_call (by rw [hq']; exact cmpC_any HNy.out HNx.out _))
      have HV := Ha hq'
      have HK := Ha hs
      have HYR := Ha hyR
      clear hy hq' hf1 hf2 hs hyR; go_wp2_with fail
      refine region_later (by kernel_rfl) ?_
      repeat (go_big_quiet_step ((go_at_call 126; with_reducible exact HC.out _)))
      refine wpQuiet_nil ?_
      rintro _ ⟨q2, rfl⟩; obtain ⟨W2, hB2⟩ := q2
      simp only []
      have HR2 := Ha (HR.out.below hB2)
      have HG2 := Ha (grown_trans HG.out (grown_below hB2 (some g)))
      clear d0 d1 d2 d3 d4 e0 e1 e2 e3 e4 r1 r2
      by_cases hv : q' < 0
      · have hvm : cX y x = -1 := by
          have := HV.out
          rcases cX_ord.range y x with h | h | h <;> omega
        have HBF2 := Ha (HBF.out.up (t := s) (by have := HK.out; have := HJ.out; omega) HYR.out hvm)
        clear hvm; go_wp2_with fail
        go_roundw
        case rel => exact ⟨k + 1, j, s + 1, v, by go_num, rfl, by have := HK.out; omega, HJ.out, HBF2.out, HR2.out, HG2.out⟩
        case measure => simp [intOf]; omega
      · have hvm : cX y x ≠ -1 := by have := HV.out; omega
        have HBF2 := Ha (HBF.out.down (t := s) (by have := HK.out; have := HI.out; omega) (by have := HK.out; have := HJ.out; omega) HYR.out hvm)
        clear hvm; go_wp2_with fail
        go_roundw
        case rel => exact ⟨i, k, u, s, rfl, rfl, HI.out, HK.out, HBF2.out, HR2.out, HG2.out⟩
        case measure => simp [intOf]; omega
    · obtain rfl : i = j := by omega
      obtain rfl : u = v := by have := HI.out; have := HJ.out; omega
      obtain ⟨k1, k2⟩ := HBF.out.done HS.out
      have K1 := Ha k1
      have K2 := Ha k2
      obtain ⟨lim, hlim⟩ : ∃ lim, lim = a + u := ⟨_, rfl⟩
      have z2 : (i : Int) - 1 = (lim : Int) := by have := HI.out; have := HM.out; have := HA.out; omega
      have HLIM := Ha hlim
      clear k1 k2 hlim; go_wp2_with fail
      go_loopw [13] (fun k' wr2 => ∃ (k t : Nat), k' = .int .i64 (k : Nat) /\ k = a + t /\ t <= u /\ RowX base g n c (P ++ (R.take t ++ x :: R.drop t) ++ Q) wr2 /\ w.grownBy wr2 (some g)) (fun k' _ => a + u - (intOf k').toNat)
      case atStart => exact ⟨a, 0, rfl, rfl, Nat.zero_le _, by have := HR.out; simpa using this, HG.out⟩
      case round =>
        obtain ⟨k, t, rfl, hk, htu, hrow, hgr⟩ := hrel
        have HR2 := Ha hrow
        have HG2 := Ha hgr
        have HK := Ha hk
        have hkn : k < n := by have := HM.out; have := HB.out; omega
        clear hrow hgr hk
        by_cases hlt2 : t < u
        · have htR : t < R.length := by omega
          have hkn1 : k + 1 < n := by have := HK.out; have := HM.out; have := HB.out; have := HA.out; omega
          have g2 : (k : Int) < (lim : Int) := by have := HK.out; have := HLIM.out; omega
          obtain ⟨y, hy⟩ : ∃ y, y = R[t] := ⟨_, rfl⟩
          have hrow : RowX base g n c ((P ++ R.take t) ++ x :: ([] ++ y :: (R.drop (t + 1) ++ Q))) wr := by
            have := HR2.out
            rw [List.drop_eq_getElem_cons htR, <-hy] at this
            simpa only [List.append_assoc, List.cons_append, List.nil_append] using this
          have hlen : (P ++ R.take t).length = k := by have := HK.out; have := HA.out; rw [List.length_append, List.length_take]; omega
          obtain ⟨k', hk'⟩ : ∃ k', k' = k + 1 := ⟨_, rfl⟩
          obtain ⟨⟨a0, a1, a2, a3, a4⟩, ⟨b0, b1, b2, b3, b4⟩, _, _, o2, g3⟩ := hrow.two (p := k) (q := k') hlen.symm (by rw [hlen, hk']; rfl)
          have o3 : RowX base g n c (P ++ (R.take (t + 1) ++ x :: R.drop (t + 1)) ++ Q) (put5 (put5 wr g (k * 5) y) g (k' * 5) x) := by
            rw [List.take_succ_eq_append_getElem htR, <-hy]
            simpa only [List.append_assoc, List.cons_append, List.nil_append] using o2
          obtain ⟨s0, s1, s2, s3, s4⟩ := hrow.softs (k * 5)
          obtain ⟨t0, t1, t2, t3, t4⟩ := hrow.softs (k' * 5)
          rw [<-hk'] at hkn1
          have z3 : (k : Int) + 1 = (k' : Int) := by omega
          have HO3 := Ha o3
          have HG3 := Ha (grown_trans HG2.out g3)
          have hkk : k < k' := by omega
          have hfar := far5 g (p := k) (q := k') (by omega)
          have n00 : (⟨g, k' * 5, none⟩ : Addr) ≠ ⟨g, k * 5, none⟩ := hfar 0 0 (by decide) (by decide)
          have n01 : (⟨g, k' * 5 + 1, none⟩ : Addr) ≠ ⟨g, k * 5, none⟩ := hfar 0 1 (by decide) (by decide)
          have n02 : (⟨g, k' * 5 + 2, none⟩ : Addr) ≠ ⟨g, k * 5, none⟩ := hfar 0 2 (by decide) (by decide)
          have n03 : (⟨g, k' * 5 + 3, none⟩ : Addr) ≠ ⟨g, k * 5, none⟩ := hfar 0 3 (by decide) (by decide)
          have n04 : (⟨g, k' * 5 + 4, none⟩ : Addr) ≠ ⟨g, k * 5, none⟩ := hfar 0 4 (by decide) (by decide)
          have n10 : (⟨g, k' * 5, none⟩ : Addr) ≠ ⟨g, k * 5 + 1, none⟩ := hfar 1 0 (by decide) (by decide)
          have n11 : (⟨g, k' * 5 + 1, none⟩ : Addr) ≠ ⟨g, k * 5 + 1, none⟩ := hfar 1 1 (by decide) (by decide)
          have n12 : (⟨g, k' * 5 + 2, none⟩ : Addr) ≠ ⟨g, k * 5 + 1, none⟩ := hfar 1 2 (by decide) (by decide)
          have n13 : (⟨g, k' * 5 + 3, none⟩ : Addr) ≠ ⟨g, k * 5 + 1, none⟩ := hfar 1 3 (by decide) (by decide)
          have n14 : (⟨g, k' * 5 + 4, none⟩ : Addr) ≠ ⟨g, k * 5 + 1, none⟩ := hfar 1 4 (by decide) (by decide)
          have n20 : (⟨g, k' * 5, none⟩ : Addr) ≠ ⟨g, k * 5 + 2, none⟩ := hfar 2 0 (by decide) (by decide)
          have n21 : (⟨g, k' * 5 + 1, none⟩ : Addr) ≠ ⟨g, k * 5 + 2, none⟩ := hfar 2 1 (by decide) (by decide)
          have n22 : (⟨g, k' * 5 + 2, none⟩ : Addr) ≠ ⟨g, k * 5 + 2, none⟩ := hfar 2 2 (by decide) (by decide)
          have n23 : (⟨g, k' * 5 + 3, none⟩ : Addr) ≠ ⟨g, k * 5 + 2, none⟩ := hfar 2 3 (by decide) (by decide)
          have n24 : (⟨g, k' * 5 + 4, none⟩ : Addr) ≠ ⟨g, k * 5 + 2, none⟩ := hfar 2 4 (by decide) (by decide)
          have n30 : (⟨g, k' * 5, none⟩ : Addr) ≠ ⟨g, k * 5 + 3, none⟩ := hfar 3 0 (by decide) (by decide)
          have n31 : (⟨g, k' * 5 + 1, none⟩ : Addr) ≠ ⟨g, k * 5 + 3, none⟩ := hfar 3 1 (by decide) (by decide)
          have n32 : (⟨g, k' * 5 + 2, none⟩ : Addr) ≠ ⟨g, k * 5 + 3, none⟩ := hfar 3 2 (by decide) (by decide)
          have n33 : (⟨g, k' * 5 + 3, none⟩ : Addr) ≠ ⟨g, k * 5 + 3, none⟩ := hfar 3 3 (by decide) (by decide)
          have n34 : (⟨g, k' * 5 + 4, none⟩ : Addr) ≠ ⟨g, k * 5 + 3, none⟩ := hfar 3 4 (by decide) (by decide)
          have n40 : (⟨g, k' * 5, none⟩ : Addr) ≠ ⟨g, k * 5 + 4, none⟩ := hfar 4 0 (by decide) (by decide)
          have n41 : (⟨g, k' * 5 + 1, none⟩ : Addr) ≠ ⟨g, k * 5 + 4, none⟩ := hfar 4 1 (by decide) (by decide)
          have n42 : (⟨g, k' * 5 + 2, none⟩ : Addr) ≠ ⟨g, k * 5 + 4, none⟩ := hfar 4 2 (by decide) (by decide)
          have n43 : (⟨g, k' * 5 + 3, none⟩ : Addr) ≠ ⟨g, k * 5 + 4, none⟩ := hfar 4 3 (by decide) (by decide)
          have n44 : (⟨g, k' * 5 + 4, none⟩ : Addr) ≠ ⟨g, k * 5 + 4, none⟩ := hfar 4 4 (by decide) (by decide)
          clear hfar; have HKK := Ha hk'
          clear o2 o3 g3 hrow hlen hy hk'; go_wp2_with fail
          go_region
          go_wp2_with fail
          go_roundw
          case rel => exact ⟨k', t + 1, by go_num, by have := HK.out; have := HKK.out; omega, by omega, HO3.out.drew, grown_drew HG3.out⟩
          case measure => simp [intOf]; have := HK.out; omega
        · obtain rfl : t = u := by omega
          have g2 : ¬ (k : Int) < (lim : Int) := by have := HK.out; have := HLIM.out; omega
          go_wp2_with fail
          refine bodyPost_ret (results_none rfl _ _ _) rfl ?_
          exact ⟨rfl, _, K1.out, K2.out, by simpa using HR2.out, HG2.out⟩
def Aft (y : Rrd) (L : List Rrd) (u v : Nat) : Prop := u <= v /\ v <= L.length /\ (∀ z, 0 < u -> L[u - 1]? = some z -> cX y z ≠ -1) /\ (∀ z, L[v]? = some z -> cX y z = -1)
theorem Aft.start (y : Rrd) (L : List Rrd) : Aft y L 0 L.length := ⟨Nat.zero_le _, Nat.le_refl _, fun _ h => absurd h (by omega), fun z h => by rw [List.getElem?_eq_none (Nat.le_refl _)] at h; cases h⟩
theorem Aft.up {y z : Rrd} {L : List Rrd} {u v t : Nat} (h : Aft y L u v) (ht : t < v) (hz : L[t]? = some z) (hc : cX y z ≠ -1) : Aft y L (t + 1) v :=
  ⟨ht, h.2.1, fun z' _ hz' => by rw [Nat.add_sub_cancel, hz] at hz'; injection hz' with hz'; rw [<-hz']; exact hc, h.2.2.2⟩
theorem Aft.down {y z : Rrd} {L : List Rrd} {u v t : Nat} (h : Aft y L u v) (h1 : u <= t) (ht : t < v) (hz : L[t]? = some z) (hc : cX y z = -1) : Aft y L u t :=
  ⟨h1, by have := h.2.1; omega, h.2.2.1, fun z' hz' => by rw [hz] at hz'; injection hz' with hz'; rw [<-hz']; exact hc⟩
theorem Aft.done {y : Rrd} {L : List Rrd} {u : Nat} (h : Aft y L u u) (hs : Srt cX L) : Srt cX (L.take u ++ y :: L.drop u) /\ StS cX (L ++ [y]) (L.take u ++ y :: L.drop u) := by
  have hsp := List.take_append_drop u L
  have hs' := hs
  rw [<-hsp] at hs'
  have h1 : ∀ z ∈ [y], ∀ x ∈ L.drop u, cX z x = -1 := by
    refine all_lt cX_ord (Srt.one y) hs'.right ?_
    intro R' z e x L' e2
    have hz : y = z := by
      cases R' with
      | nil => injection e
      | cons _ t => injection e with _ e; cases t <;> cases e
    subst hz; refine h.2.2.2 x ?_
    have := congrArg (·[0]?) e2
    simpa using this
  have h2 : ∀ z ∈ L.take u, ∀ x ∈ [y], cX x z ≠ -1 := by
    refine all_le cX_ord hs'.left (Srt.one y) ?_
    intro L' z e x R' e2
    injection e2 with e2 _
    subst e2; have hl : L'.length + 1 = u := by
      have := congrArg List.length e
      rw [List.length_take] at this
      simp at this
      have := h.2.1
      omega
    refine h.2.2.1 z (by omega) ?_
    rw [<-hsp, e, show u - 1 = L'.length by omega, List.append_assoc, List.getElem?_append_right (Nat.le_refl _)]
    simp
  have := merge_done cX_ord (L1 := L.take u) (L2 := L.drop u) (R1 := [y]) (R2 := []) (M1 := L.take u ++ [y]) (M2 := L.drop u) hs' (Srt.one y) h1 (fun z _ x hx => by cases hx)
    (List.pairwise_append.2 ⟨hs'.left, Srt.one y, h2⟩) (StS.refl _) hs'.right (by rw [List.append_nil]; exact StS.refl _)
  rw [hsp] at this
  simpa using this
theorem sym_right (base g n c a m b : Nat) (P L Q : List Rrd) (y : Rrd) (w : World) (ha : a = P.length) (hm : m = P.length + L.length) (hb : b = P.length + L.length + 1) (hL1 : L.length ≠ 1) (hs : Srt cX L) (hNy : OkX y) (hNL : OkL L) (hn : n <= 1000000)
    (h : RowX base g n c (P ++ L ++ [y] ++ Q) w) :
    Calls Tryz.prog 220 #[.slice (some ⟨g, 0, none⟩) n c, .int .i64 (a : Nat), .int .i64 (m : Nat), .int .i64 (b : Nat), cmpF] w fun e w' =>
      e = .returned (.tuple #[]) /\ ∃ M', Srt cX M' /\ StS cX (L ++ [y]) M' /\ RowX base g n c (P ++ M' ++ Q) w' /\ w.grownBy w' (some g) := by
  have hl := h.len
  simp only [List.length_append, List.length_cons, List.length_nil] at hl
  obtain ⟨L0, hL0⟩ : ∃ L0, L0 = L.length := ⟨_, rfl⟩
  have z0 : (m : Int) - (a : Int) = (L0 : Int) := by omega
  have g0 : ((L0 : Int) == 1) = false := by rw [beq_eq_false_iff_ne]; omega
  have z1 : (b : Int) - (m : Int) = 1 := by omega
  have hbn : b <= n := by omega
  have hmb : m <= b := by omega
  have hmn : m <= n := by omega
  have han : a < n := by omega
  have H := Ha h
  have HA := Ha ha
  have HM := Ha hm
  have HB := Ha hb
  have HS := Ha hs
  have ham : a <= m := by omega
  have hmn' : m < n := by omega
  have HNy := Ha hNy
  have HNL := Ha hNL
  clear h hl ha hm hb hs hNy hNL hL1 hL0
  go_enter Tryz.func220, Tryz.ntmps220
  go_wp2_with fail
  go_loopw [14, 15] (fun i' j' wr => ∃ (i j u v : Nat), i' = .int .i64 (i : Nat) /\ j' = .int .i64 (j : Nat) /\ i = a + u /\ j = a + v /\ Aft y L u v /\ RowX base g n c (P ++ L ++ [y] ++ Q) wr /\ w.grownBy wr (some g)) (fun i' j' _ => (intOf j').toNat - (intOf i').toNat)
  case atStart => exact ⟨a, m, 0, L.length, rfl, rfl, rfl, by have := HM.out; have := HA.out; omega, Aft.start y L, H.out, World.grownBy.refl _ _⟩
  case round =>
    obtain ⟨i, j, u, v, rfl, rfl, hi, hj, hbf, hrow, hgr⟩ := hrel
    have HR := Ha hrow
    have HG := Ha hgr
    have HBF := Ha hbf
    have HI := Ha hi
    have HJ := Ha hj
    have hvR := hbf.2.1
    have huv := hbf.1
    have hjb : j <= m := by have := HM.out; have := HA.out; omega
    have hij : i <= j := by omega
    clear hrow hgr hbf hi hj
    by_cases hlt : i < j
    · have g1 : (i : Int) < (j : Int) := by omega
      obtain ⟨k, hk⟩ : ∃ k, k = (i + j) / 2 := ⟨_, rfl⟩
      have hk1 : i <= k := by omega
      have hk2 : k < j := by omega
      have zk : ((i : Int) + (j : Int)) / 2 = (k : Int) := by omega
      clear hk; have hkm : ∃ s, k = a + s /\ s < L.length := ⟨k - a, by have := HI.out; omega, by have := HI.out; have := HM.out; have := HA.out; omega⟩
      obtain ⟨s, hs, hsR⟩ := hkm
      obtain ⟨x, hx⟩ : ∃ x, x = L[s] := ⟨_, rfl⟩
      have hxL : L[s]? = some x := by rw [List.getElem?_eq_getElem hsR, hx]
      have hf1 := HR.out.five (k := k) (x := x) (by have := at_mid P L ([y] ++ Q) hsR; rw [<-hx] at this; rw [hs, HA.out]; simpa using this)
      have hf2 := HR.out.five (k := m) (x := y) (by rw [HM.out]; simp)
      have hkn : k < n := by omega
      have hglt : g < wr.heap.size := HR.out.lt
      have HNx := Ha (HNL.out x (by rw [hx]; exact List.getElem_mem hsR))
      obtain ⟨d0, d1, d2, d3, d4⟩ := hf1.later hglt
      obtain ⟨e0, e1, e2, e3, e4⟩ := hf2.later hglt
      have r1 : IntKind.i64.wrap (k : Int) = (k : Int) := by rw [IntKind.wrap_i64]; omega
      have r2 : IntKind.i64.wrap (m : Int) = (m : Int) := by rw [IntKind.wrap_i64]; omega
      obtain ⟨q', hq'⟩ : ∃ v, v = cX y x := ⟨_, rfl⟩
      have HC := Ha (show ∀ q : Later wr, Calls Tryz.prog 126 #[.agg #[.string y.s, .int .i64 y.t, .int .i64 y.c, .int .i64 y.l, .string y.d], .agg #[.string x.s, .int .i64 x.t, .int .i64 x.c, .int .i64 x.l, .string x.d]] q.val fun e w'' => e = .returned (.int .i64 q') /\ ∃ q'' : Later wr, w'' = q''.val from
        fun q => later_call (by rw [hq']; exact cmpC_any HNy.out HNx.out _))
      have HV := Ha hq'
      have HK := Ha hs
      have HXL := Ha hxL
      clear hx hq' hf1 hf2 hs hxL; go_wp2_with fail
      refine region_later (by kernel_rfl) ?_
      repeat (go_big_quiet_step ((go_at_call 126; with_reducible exact HC.out _)))
      refine wpQuiet_nil ?_
      rintro _ ⟨q2, rfl⟩; obtain ⟨W2, hB2⟩ := q2
      simp only []
      have HR2 := Ha (HR.out.below hB2)
      have HG2 := Ha (grown_trans HG.out (grown_below hB2 (some g)))
      clear d0 d1 d2 d3 d4 e0 e1 e2 e3 e4 r1 r2
      by_cases hv : q' < 0
      · have gq : (!decide (q' < 0)) = false := by simp [hv]
        have hvm : cX y x = -1 := by
          have := HV.out
          rcases cX_ord.range y x with h | h | h <;> omega
        have HBF2 := Ha (HBF.out.down (t := s) (by have := HK.out; have := HI.out; omega) (by have := HK.out; have := HJ.out; omega) HXL.out hvm)
        clear hvm; rw [gq]
        clear gq; go_wp2_with fail
        go_roundw
        case rel => exact ⟨i, k, u, s, rfl, rfl, HI.out, HK.out, HBF2.out, HR2.out, HG2.out⟩
        case measure => simp [intOf]; omega
      · have gq : (!decide (q' < 0)) = true := by simp [hv]
        have hvm : cX y x ≠ -1 := by have := HV.out; omega
        have HBF2 := Ha (HBF.out.up (t := s) (by have := HK.out; have := HJ.out; omega) HXL.out hvm)
        clear hvm; rw [gq]
        clear gq; go_wp2_with fail
        go_roundw
        case rel => exact ⟨k + 1, j, s + 1, v, by go_num, rfl, by have := HK.out; omega, HJ.out, HBF2.out, HR2.out, HG2.out⟩
        case measure => simp [intOf]; omega
    · obtain rfl : i = j := by omega
      obtain rfl : u = v := by have := HI.out; have := HJ.out; omega
      obtain ⟨k1, k2⟩ := HBF.out.done HS.out
      have K1 := Ha k1
      have K2 := Ha k2
      clear k1 k2; go_wp2_with fail
      go_loopw [17] (fun k' wr2 => ∃ (k t : Nat), k' = .int .i64 (k : Nat) /\ k = a + t /\ u <= t /\ t <= L.length /\ RowX base g n c (P ++ (L.take t ++ y :: L.drop t) ++ Q) wr2 /\ w.grownBy wr2 (some g)) (fun k' _ => (intOf k').toNat)
      case atStart => exact ⟨m, L.length, rfl, by have := HM.out; have := HA.out; omega, hvR, Nat.le_refl _, by have := HR.out; rw [List.take_of_length_le (Nat.le_refl _), List.drop_of_length_le (Nat.le_refl _)]; simpa using this, HG.out⟩
      case round =>
        obtain ⟨k, t, rfl, hk, htu, htL, hrow, hgr⟩ := hrel
        have HR2 := Ha hrow
        have HG2 := Ha hgr
        have HK := Ha hk
        have hkn : k < n := by have := HM.out; have := HA.out; omega
        clear hrow hgr hk
        by_cases hlt2 : u < t
        · have g2 : (i : Int) < (k : Int) := by have := HK.out; have := HI.out; omega
          obtain ⟨t', ht'⟩ : ∃ t', t' + 1 = t := ⟨t - 1, by omega⟩
          have htR : t' < L.length := by omega
          obtain ⟨z, hz⟩ : ∃ z, z = L[t'] := ⟨_, rfl⟩
          obtain ⟨p, hp⟩ : ∃ p, p + 1 = k := ⟨k - 1, by have := HK.out; omega⟩
          have hrow : RowX base g n c ((P ++ L.take t') ++ z :: ([] ++ y :: (L.drop t ++ Q))) wr := by
            have := HR2.out
            rw [<-ht', List.take_succ_eq_append_getElem htR, <-hz, ht'] at this
            simpa only [List.append_assoc, List.cons_append, List.nil_append] using this
          have hlen : (P ++ L.take t').length = p := by have := HK.out; have := HA.out; rw [List.length_append, List.length_take]; omega
          obtain ⟨⟨a0, a1, a2, a3, a4⟩, ⟨b0, b1, b2, b3, b4⟩, hpn, _, _, _⟩ := hrow.two (p := p) (q := k) hlen.symm (by rw [hlen]; simp; omega)
          obtain ⟨o2, g3⟩ := hrow.two' (p := p) (q := k) hlen.symm (by rw [hlen]; simp; omega)
          have o3 : RowX base g n c (P ++ (L.take t' ++ y :: L.drop t') ++ Q) (put5 (put5 wr g (k * 5) z) g (p * 5) y) := by
            rw [List.drop_eq_getElem_cons htR, <-hz, ht']
            simpa only [List.append_assoc, List.cons_append, List.nil_append] using o2
          obtain ⟨s0, s1, s2, s3, s4⟩ := hrow.softs (k * 5)
          obtain ⟨t0, t1, t2, t3, t4⟩ := hrow.softs (p * 5)
          have z3 : (k : Int) - 1 = (p : Int) := by omega
          have HO3 := Ha o3
          have HG3 := Ha (grown_trans HG2.out g3)
          have hkk : p < k := by omega
          have hfar := far5 g (p := k) (q := p) (by omega)
          have n00 : (⟨g, p * 5, none⟩ : Addr) ≠ ⟨g, k * 5, none⟩ := hfar 0 0 (by decide) (by decide)
          have n01 : (⟨g, p * 5 + 1, none⟩ : Addr) ≠ ⟨g, k * 5, none⟩ := hfar 0 1 (by decide) (by decide)
          have n02 : (⟨g, p * 5 + 2, none⟩ : Addr) ≠ ⟨g, k * 5, none⟩ := hfar 0 2 (by decide) (by decide)
          have n03 : (⟨g, p * 5 + 3, none⟩ : Addr) ≠ ⟨g, k * 5, none⟩ := hfar 0 3 (by decide) (by decide)
          have n04 : (⟨g, p * 5 + 4, none⟩ : Addr) ≠ ⟨g, k * 5, none⟩ := hfar 0 4 (by decide) (by decide)
          have n10 : (⟨g, p * 5, none⟩ : Addr) ≠ ⟨g, k * 5 + 1, none⟩ := hfar 1 0 (by decide) (by decide)
          have n11 : (⟨g, p * 5 + 1, none⟩ : Addr) ≠ ⟨g, k * 5 + 1, none⟩ := hfar 1 1 (by decide) (by decide)
          have n12 : (⟨g, p * 5 + 2, none⟩ : Addr) ≠ ⟨g, k * 5 + 1, none⟩ := hfar 1 2 (by decide) (by decide)
          have n13 : (⟨g, p * 5 + 3, none⟩ : Addr) ≠ ⟨g, k * 5 + 1, none⟩ := hfar 1 3 (by decide) (by decide)
          have n14 : (⟨g, p * 5 + 4, none⟩ : Addr) ≠ ⟨g, k * 5 + 1, none⟩ := hfar 1 4 (by decide) (by decide)
          have n20 : (⟨g, p * 5, none⟩ : Addr) ≠ ⟨g, k * 5 + 2, none⟩ := hfar 2 0 (by decide) (by decide)
          have n21 : (⟨g, p * 5 + 1, none⟩ : Addr) ≠ ⟨g, k * 5 + 2, none⟩ := hfar 2 1 (by decide) (by decide)
          have n22 : (⟨g, p * 5 + 2, none⟩ : Addr) ≠ ⟨g, k * 5 + 2, none⟩ := hfar 2 2 (by decide) (by decide)
          have n23 : (⟨g, p * 5 + 3, none⟩ : Addr) ≠ ⟨g, k * 5 + 2, none⟩ := hfar 2 3 (by decide) (by decide)
          have n24 : (⟨g, p * 5 + 4, none⟩ : Addr) ≠ ⟨g, k * 5 + 2, none⟩ := hfar 2 4 (by decide) (by decide)
          have n30 : (⟨g, p * 5, none⟩ : Addr) ≠ ⟨g, k * 5 + 3, none⟩ := hfar 3 0 (by decide) (by decide)
          have n31 : (⟨g, p * 5 + 1, none⟩ : Addr) ≠ ⟨g, k * 5 + 3, none⟩ := hfar 3 1 (by decide) (by decide)
          have n32 : (⟨g, p * 5 + 2, none⟩ : Addr) ≠ ⟨g, k * 5 + 3, none⟩ := hfar 3 2 (by decide) (by decide)
          have n33 : (⟨g, p * 5 + 3, none⟩ : Addr) ≠ ⟨g, k * 5 + 3, none⟩ := hfar 3 3 (by decide) (by decide)
          have n34 : (⟨g, p * 5 + 4, none⟩ : Addr) ≠ ⟨g, k * 5 + 3, none⟩ := hfar 3 4 (by decide) (by decide)
          have n40 : (⟨g, p * 5, none⟩ : Addr) ≠ ⟨g, k * 5 + 4, none⟩ := hfar 4 0 (by decide) (by decide)
          have n41 : (⟨g, p * 5 + 1, none⟩ : Addr) ≠ ⟨g, k * 5 + 4, none⟩ := hfar 4 1 (by decide) (by decide)
          have n42 : (⟨g, p * 5 + 2, none⟩ : Addr) ≠ ⟨g, k * 5 + 4, none⟩ := hfar 4 2 (by decide) (by decide)
          have n43 : (⟨g, p * 5 + 3, none⟩ : Addr) ≠ ⟨g, k * 5 + 4, none⟩ := hfar 4 3 (by decide) (by decide)
          have n44 : (⟨g, p * 5 + 4, none⟩ : Addr) ≠ ⟨g, k * 5 + 4, none⟩ := hfar 4 4 (by decide) (by decide)
          clear hfar; have HPK := Ha hp
          have HTT := Ha ht'
          clear o2 o3 g3 hrow hlen hz hp ht'; go_wp2_with fail
          go_region
          go_wp2_with fail
          go_roundw
          case rel => exact ⟨p, t', by go_num, by have := HK.out; have := HPK.out; have := HTT.out; omega, by have := HTT.out; omega, by have := HTT.out; omega, HO3.out.drew, grown_drew HG3.out⟩
          case measure => simp [intOf]; omega
        · obtain rfl : t = u := by omega
          have g2 : ¬ (i : Int) < (k : Int) := by have := HK.out; have := HI.out; omega
          go_wp2_with fail
          refine bodyPost_ret (results_none rfl _ _ _) rfl ?_
          exact ⟨rfl, _, K1.out, K2.out, by simpa using HR2.out, HG2.out⟩
end Go.Proofs.YtmpginmdaeclaaaGreatDoor
