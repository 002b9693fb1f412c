/- Parts of the proofs of the statements of image. No statement of the seat is proved here. -/
import Derived.Test.YtmpginmdaeclaaaGreatDoorNaM
set_option maxHeartbeats 32000000
set_option maxRecDepth 20000
namespace Go.Proofs.YtmpginmdaeclaaaGreatDoor
theorem nat_beq (a b : Nat) : ((a : Int) == (b : Int)) = (a == b) := by
  by_cases h : a = b
  · subst h; simp
  · rw [beq_eq_false_iff_ne.2 h, beq_eq_false_iff_ne]; omega
theorem labs_put (L : List (List UInt8)) (x : List UInt8) : labs (L ++ [x]) = labs L ++ lab x := by rw [labs_append]; simp [labs]
theorem good_put {L : List (List UInt8)} {x : List UInt8} (h : Good L) (h1 : x ≠ []) (h2 : x.length <= 63) : Good (L ++ [x]) := by
  intro y hy
  rcases List.mem_append.1 hy with hy | hy
  · exact h y hy
  · rw [List.mem_singleton] at hy; subst hy; exact ⟨h1, h2⟩
theorem read_gives (M : List UInt8) : ∀ (N : Nat) (L : List (List UInt8)) (s p : Nat) (nx : Option Nat) (r : List UInt8 × Nat), s + (255 - (labs L).length) <= N -> Good L -> readR M (labs L) s p nx = some r ->
    (∃ L', r.1 = enc L' /\ Good L' /\ (enc L').length <= 255) /\ (∀ k, nx = some k -> r.2 = k) /\ (nx = none -> p < r.2 /\ r.2 <= M.length) := by
  intro N
  induction N with
  | zero =>
    intro L s p nx r hN hg h
    rw [rd_full (by omega)] at h
    cases h
  | succ N ih =>
    intro L s p nx r hN hg h
    by_cases hl : (labs L).length < 255
    · cases hd : M.drop p with
      | nil => rw [rd_end hd] at h; cases h
      | cons c q =>
        have hlen : q.length + 1 + p = M.length := by
          have := congrArg List.length hd
          simp at this
          have : p < M.length := by
            rcases Nat.lt_or_ge p M.length with h' | h'
            · exact h'
            · rw [List.drop_eq_nil_of_le h'] at hd; cases hd
          omega
        by_cases h0 : c.toNat = 0
        · rw [rd_zero hl hd h0] at h
          injection h with h
          subst h; refine ⟨⟨L, rfl, hg, by unfold enc; simp; omega⟩, fun k hk => by rw [hk]; rfl, fun hk => by rw [hk]; simp; omega⟩
        · by_cases h1 : 192 <= c.toNat
          · cases q with
            | nil => rw [rd_ptr1 hd h1] at h; cases h
            | cons d q =>
              by_cases ht : (c.toNat - 192) * 256 + d.toNat < s
              · rw [rd_ptr hl hd h1 ht] at h
                obtain ⟨a1, a2, _⟩ := ih L _ _ _ r (by omega) hg h
                have a3 := a2 _ rfl
                simp only [List.length_cons] at hlen
                refine ⟨a1, fun k hk => by rw [a3, hk]; rfl, fun hk => by rw [a3, hk]; simp; omega⟩
              · rw [rd_fore hd h1 (by omega)] at h; cases h
          · by_cases h3 : c.toNat < 64 /\ c.toNat <= q.length
            · have hx : (q.take c.toNat).length = c.toNat := by simp; omega
              rw [rd_lab hl hd h0 h3.1 h3.2] at h
              have e : labs L ++ c :: q.take c.toNat = labs (L ++ [q.take c.toNat]) := by
                rw [labs_put]; unfold lab; rw [hx]; simp
              rw [e] at h
              have hgo : Good (L ++ [q.take c.toNat]) := good_put hg (by intro e; rw [e] at hx; simp at hx; omega) (by omega)
              have hm : s + (255 - (labs (L ++ [q.take c.toNat])).length) <= N := by
                rw [labs_put, List.length_append, lab_len]; omega
              obtain ⟨a1, a2, a3⟩ := ih _ _ _ _ r hm hgo h
              exact ⟨a1, a2, fun hk => ⟨by have := (a3 hk).1; omega, (a3 hk).2⟩⟩
            · rw [rd_bad hd h0 (by omega) h3] at h; cases h
    · rw [rd_full (by omega)] at h
      cases h
theorem read_name {M : List UInt8} {p : Nat} {r : List UInt8 × Nat} (h : readR M [] p p none = some r) : (∃ L, nameL r.1 = some L) /\ p < r.2 /\ r.2 <= M.length := by
  obtain ⟨⟨L, h1, h2, h3⟩, _, h4⟩ := read_gives M _ [] p p none r (Nat.le_refl _) (fun _ h => by cases h) h
  exact ⟨⟨L, by rw [h1]; exact nameL_enc h2 h3⟩, h4 rfl⟩
def partsP (t : Int) : List Int :=
  if t = 1 then [4] else if t = 28 then [16] else if t = 2 \/ t = 5 \/ t = 12 then [-1] else if t = 15 then [2, -1] else if t = 6 then [-1, -1, 20] else if t = 16 then [-3] else if t = 33 then [6, -2] else [-4]
def kindsR (t : Int) : List Int :=
  if t = 1 then [4] else if t = 28 then [16] else if t = 2 \/ t = 5 \/ t = 12 then [-1] else if t = 15 then [2, -1] else if t = 6 then [-1, -1, 4, 4, 4, 4, 4] else if t = 16 then [-3] else if t = 33 then [2, 2, 2, -2] else [-4]
abbrev Vis := List (Int × List UInt8)
def seg (M : List UInt8) (p e : Nat) : List UInt8 := (M.take e).drop p
theorem seg_len {M : List UInt8} {p e : Nat} (h : e <= M.length) : (seg M p e).length = e - p := by simp [seg]; omega
theorem seg_append {M : List UInt8} {a b c : Nat} (h1 : a <= b) (h2 : b <= c) : seg M a b ++ seg M b c = seg M a c := by
  unfold seg
  rw [List.drop_take, List.drop_take, List.drop_take]
  have e : M.drop b = (M.drop a).drop (b - a) := by rw [List.drop_drop]; congr 1; omega
  rw [e, show c - a = (b - a) + (c - b) by omega, List.take_add]
theorem seg_mid (a b c : List UInt8) : seg (a ++ b ++ c) a.length (a ++ b).length = b := by
  unfold seg
  rw [List.take_left' rfl, List.drop_left' rfl]
def pcs (s : List UInt8) : Bool := (piecesR (mk s) 1).2 == 0 && !(piecesR (mk s) 1).1.isEmpty
def nm (M : List UInt8) (e p : Nat) : Option (List UInt8 × Nat) :=
  match readR M [] p p none with
  | some r => if r.2 <= e then some r else none
  | none => none
def cutP (M : List UInt8) (e : Nat) (k : Int) (p : Nat) : Option (List UInt8 × Nat) :=
  if k = -1 then nm M e p
  else if k = -2 then match nm M e p with | some r => if r.1 = seg M p r.2 then some r else none | none => none
  else if k = -3 then if pcs (seg M p e) = true then some (seg M p e, e) else none
  else if k = -4 then some (seg M p e, e)
  else if p + k.toNat <= e then some (seg M p (p + k.toNat), p + k.toNat) else none
theorem nm_is {M : List UInt8} {e p : Nat} {r : List UInt8 × Nat} (h : nm M e p = some r) : (∃ L, nameL r.1 = some L) /\ p < r.2 /\ r.2 <= e /\ readR M [] p p none = some r := by
  unfold nm at h
  split at h
  · rename_i r' hr
    split at h
    · injection h with h; subst h
      obtain ⟨h1, h2, h3⟩ := read_name hr
      exact ⟨h1, h2, by assumption, hr⟩
    · cases h
  · cases h
def Okp (k : Int) (b : List UInt8) : Prop :=
  ((k = -1 \/ k = -2) -> ∃ L, nameL b = some L) /\ (k = -3 -> pcs b = true) /\ (0 <= k -> (b.length : Int) = k)
def Part (k : Int) : Prop := -4 <= k /\ k <= 65535
theorem cut_ok {M : List UInt8} {e p : Nat} {k : Int} {r : List UInt8 × Nat} (hk : Part k) (hp : p <= e) (he : e <= M.length) (h : cutP M e k p = some r) : Okp k r.1 /\ p <= r.2 /\ r.2 <= e /\ ((k = -3 \/ k = -4) -> r.2 = e) /\ (k ≠ -1 -> r.1 = seg M p r.2) := by
  unfold cutP at h
  unfold Part at hk
  split at h
  · rename_i hk1
    obtain ⟨h1, h2, h3, _⟩ := nm_is h
    exact ⟨⟨fun _ => h1, by omega, by omega⟩, by omega, h3, by omega, by omega⟩
  · split at h
    · rename_i hk2
      split at h
      · rename_i r' hr
        split at h
        · rename_i hs
          injection h with h; subst h; obtain ⟨h1, h2, h3, _⟩ := nm_is hr
          exact ⟨⟨fun _ => h1, by omega, by omega⟩, by omega, h3, by omega, fun _ => hs⟩
        · cases h
      · cases h
    · split at h
      · split at h
        · rename_i hpc
          injection h with h; subst h; exact ⟨⟨by omega, fun _ => hpc, by omega⟩, hp, Nat.le_refl _, fun _ => rfl, fun _ => rfl⟩
        · cases h
      · split at h
        · injection h with h; subst h
          exact ⟨⟨by omega, by omega, by omega⟩, hp, Nat.le_refl _, fun _ => rfl, fun _ => rfl⟩
        · split at h
          · injection h with h; subst h
            refine ⟨⟨by omega, by omega, fun _ => ?_⟩, by simp, by assumption, by omega, fun _ => rfl⟩
            rw [seg_len (by omega)]; omega
          · cases h
def steps (M : List UInt8) (e : Nat) : List Int -> Nat -> Vis × Option Nat
  | [], p => ([], some p)
  | k :: ks, p => match cutP M e k p with
    | none => ([], none)
    | some r => ((k, r.1) :: (steps M e ks r.2).1, (steps M e ks r.2).2)
theorem steps_nil (M : List UInt8) (e p : Nat) : steps M e [] p = ([], some p) := rfl
theorem steps_no {M : List UInt8} {e p : Nat} {k : Int} {ks : List Int} (h : cutP M e k p = none) : steps M e (k :: ks) p = ([], none) := by
  unfold steps; rw [h]
theorem steps_yes {M : List UInt8} {e p : Nat} {k : Int} {ks : List Int} {r : List UInt8 × Nat} (h : cutP M e k p = some r) :
    steps M e (k :: ks) p = ((k, r.1) :: (steps M e ks r.2).1, (steps M e ks r.2).2) := by
  rw [steps, h]
def cat (V : Vis) : List UInt8 := V.flatMap (·.2)
theorem cat_cons (k : Int) (b : List UInt8) (V : Vis) : cat ((k, b) :: V) = b ++ cat V := by simp [cat]
theorem cat_snoc (V : Vis) (k : Int) (b : List UInt8) : cat (V ++ [(k, b)]) = cat V ++ b := by simp [cat]
def okS (M : List UInt8) (e : Nat) (ks : List Int) (p : Nat) : Bool := (steps M e ks p).2 == some e
def dataR (M : List UInt8) (p e : Nat) (t : Int) : Option (List UInt8) := if okS M e (partsP t) p = true then some (cat (steps M e (partsP t) p).1) else none
def rightR (t : Int) (D : List UInt8) : Bool := decide (D.length <= 65535) && (dataR D 0 D.length t == some D)
def Nice {σ : Type} (f : σ -> Int × List UInt8 -> σ) : Prop := ∀ (s : σ) (a b c : Int) (x y : List UInt8), 0 <= a -> 0 <= b -> 0 <= c -> f (f s (a, x)) (b, y) = f s (c, x ++ y)
def Eqv (ks ks' : List Int) : Prop := ∀ (M : List UInt8) (e p : Nat), (steps M e ks p).2 = (steps M e ks' p).2 /\
  ((steps M e ks p).2 ≠ none -> ∀ (σ : Type) (f : σ -> Int × List UInt8 -> σ), Nice f -> ∀ s, (steps M e ks p).1.foldl f s = (steps M e ks' p).1.foldl f s)
theorem Eqv.refl (ks : List Int) : Eqv ks ks := fun _ _ _ => ⟨rfl, fun _ _ _ _ _ => rfl⟩
theorem Eqv.trans {a b c : List Int} (h : Eqv a b) (g : Eqv b c) : Eqv a c := fun M e p => by
  obtain ⟨h1, h2⟩ := h M e p
  obtain ⟨g1, g2⟩ := g M e p
  exact ⟨h1.trans g1, fun hn σ f hf s => (h2 hn σ f hf s).trans (g2 (by rw [<-h1]; exact hn) σ f hf s)⟩
theorem Eqv.cons {a b : List Int} (k : Int) (h : Eqv a b) : Eqv (k :: a) (k :: b) := fun M e p => by
  cases hc : cutP M e k p with
  | none => rw [steps_no hc, steps_no hc]; exact ⟨rfl, fun h => absurd rfl h⟩
  | some r =>
    rw [steps_yes hc, steps_yes hc]
    obtain ⟨h1, h2⟩ := h M e r.2
    exact ⟨h1, fun hn σ f hf s => by simp only [List.foldl_cons]; exact h2 hn σ f hf _⟩
theorem cut_num {M : List UInt8} {e p n : Nat} : cutP M e (n : Int) p = if p + n <= e then some (seg M p (p + n), p + n) else none := by
  unfold cutP
  rw [if_neg (by omega), if_neg (by omega), if_neg (by omega), if_neg (by omega)]
  simp
theorem Eqv.split (a b : Nat) (ks : List Int) : Eqv (((a + b : Nat) : Int) :: ks) ((a : Int) :: (b : Int) :: ks) := fun M e p => by
  by_cases h : p + (a + b) <= e
  · have h1 : cutP M e ((a + b : Nat) : Int) p = some (seg M p (p + (a + b)), p + (a + b)) := by rw [cut_num, if_pos h]
    have h2 : cutP M e (a : Int) p = some (seg M p (p + a), p + a) := by rw [cut_num, if_pos (by omega)]
    have h3 : cutP M e (b : Int) (p + a) = some (seg M (p + a) (p + a + b), p + a + b) := by rw [cut_num, if_pos (by omega)]
    rw [steps_yes h1, steps_yes h2, steps_yes h3]
    rw [show p + a + b = p + (a + b) by omega]
    refine ⟨rfl, fun _ σ f hf s => ?_⟩
    simp only [List.foldl_cons]
    rw [hf s a b ((a + b : Nat) : Int) _ _ (by omega) (by omega) (by omega), seg_append (by omega) (by omega)]
  · have h1 : cutP M e ((a + b : Nat) : Int) p = none := by rw [cut_num, if_neg h]
    rw [steps_no h1]
    by_cases h4 : p + a <= e
    · have h2 : cutP M e (a : Int) p = some (seg M p (p + a), p + a) := by rw [cut_num, if_pos h4]
      have h3 : cutP M e (b : Int) (p + a) = none := by rw [cut_num, if_neg (by omega)]
      rw [steps_yes h2, steps_no h3]
      exact ⟨rfl, fun h => absurd rfl h⟩
    · have h2 : cutP M e (a : Int) p = none := by rw [cut_num, if_neg h4]
      rw [steps_no h2]
      exact ⟨rfl, fun h => absurd rfl h⟩
theorem eqv_parts (t : Int) : Eqv (partsP t) (kindsR t) := by
  have h20 : Eqv [20] [4, 4, 4, 4, 4] :=
    (Eqv.split 4 16 []).trans (.cons 4 ((Eqv.split 4 12 []).trans (.cons 4 ((Eqv.split 4 8 []).trans (.cons 4 (Eqv.split 4 4 []))))))
  have h6 : Eqv [6, -2] [2, 2, 2, -2] := (Eqv.split 2 4 [-2]).trans (.cons 2 (Eqv.split 2 2 [-2]))
  unfold partsP kindsR
  repeat' split
  all_goals first | exact Eqv.refl _ | exact .cons _ (.cons _ h20) | exact h6
theorem nice_cat : Nice (fun (s : List UInt8) (x : Int × List UInt8) => s ++ x.2) := fun s a b c x y _ _ _ => by simp
theorem cat_fold (V : Vis) (s : List UInt8) : V.foldl (fun (s : List UInt8) (x : Int × List UInt8) => s ++ x.2) s = s ++ cat V := by
  induction V generalizing s with
  | nil => simp [cat]
  | cons x V ih => rw [List.foldl_cons, ih]; simp [cat]
theorem eqv_ok (M : List UInt8) (e p : Nat) (t : Int) : okS M e (kindsR t) p = okS M e (partsP t) p := by
  unfold okS; rw [(eqv_parts t M e p).1]
theorem eqv_fold {M : List UInt8} {e p : Nat} {t : Int} (h : okS M e (partsP t) p = true) {σ : Type} {f : σ -> Int × List UInt8 -> σ} (hf : Nice f) (s : σ) :
    (steps M e (partsP t) p).1.foldl f s = (steps M e (kindsR t) p).1.foldl f s :=
  (eqv_parts t M e p).2 (by unfold okS at h; intro hn; rw [hn] at h; cases h) σ f hf s
theorem eqv_cat {M : List UInt8} {e p : Nat} {t : Int} (h : okS M e (partsP t) p = true) : cat (steps M e (kindsR t) p).1 = cat (steps M e (partsP t) p).1 := by
  have := eqv_fold h nice_cat []
  rw [cat_fold, cat_fold] at this
  simpa using this.symm
def Lst : List Int -> Prop
  | [] => True
  | k :: ks => Part k /\ ((k = -3 \/ k = -4) -> ks = []) /\ Lst ks
theorem lst_parts (t : Int) : Lst (partsP t) := by
  unfold partsP
  repeat' split
  all_goals simp [Lst, Part]
def WF : Vis -> Prop
  | [] => True
  | (k, b) :: r => Part k /\ Okp k b /\ ((k = -3 \/ k = -4) -> r = []) /\ WF r
theorem steps_wf {M : List UInt8} {e : Nat} (he : e <= M.length) : ∀ (ks : List Int) (p q : Nat), Lst ks -> p <= e -> (steps M e ks p).2 = some q -> WF (steps M e ks p).1 /\ (steps M e ks p).1.map (·.1) = ks /\ q <= e := by
  intro ks
  induction ks with
  | nil => intro p q _ hp h; rw [steps_nil] at h ⊢; injection h with h; exact ⟨trivial, rfl, by omega⟩
  | cons k ks ih =>
    intro p q hl hp h
    obtain ⟨hk, hlast, hrest⟩ := hl
    cases hc : cutP M e k p with
    | none => rw [steps_no hc] at h; cases h
    | some r =>
      rw [steps_yes hc] at h ⊢
      obtain ⟨c1, c2, c3, _, _⟩ := cut_ok hk hp he hc
      obtain ⟨i1, i2, i3⟩ := ih r.2 q hrest c3 h
      refine ⟨⟨hk, c1, fun h' => ?_, i1⟩, by simp [i2], i3⟩
      have := hlast h'
      subst this
      rfl
abbrev WSt := List UInt8 × Kn
def putV (may : Bool) (st : WSt) (x : Int × List UInt8) : WSt :=
  if x.1 = -1 then match nameL x.2 with | some L => putL may L st.1 st.2 | none => st
  else if x.1 = -2 then match nameL x.2 with | some L => putL false L st.1 st.2 | none => st
  else (st.1 ++ x.2, st.2)
def writeV (may : Bool) (V : Vis) (st : WSt) : WSt := V.foldl (putV may) st
theorem write_cons (may : Bool) (x : Int × List UInt8) (V : Vis) (st : WSt) : writeV may (x :: V) st = writeV may V (putV may st x) := rfl
theorem put_part (may : Bool) {st : WSt} (hi : InvK st.1 st.2) {k : Int} {b : List UInt8} (hk : Part k) (ho : Okp k b) :
    InvK (putV may st (k, b)).1 (putV may st (k, b)).2 /\ (∃ z, (putV may st (k, b)).1 = st.1 ++ z /\ z.length <= b.length) /\
    ∀ suf E, (putV may st (k, b)).1.length <= E -> ((k = -3 \/ k = -4) -> E = (putV may st (k, b)).1.length) -> cutP ((putV may st (k, b)).1 ++ suf) E k st.1.length = some (b, (putV may st (k, b)).1.length) := by
  have hname : ∀ (m : Bool) (L : List (List UInt8)), nameL b = some L -> InvK (putL m L st.1 st.2).1 (putL m L st.1 st.2).2 /\ (∃ z, (putL m L st.1 st.2).1 = st.1 ++ z /\ z.length <= b.length) /\
      ∀ suf E, (putL m L st.1 st.2).1.length <= E -> nm ((putL m L st.1 st.2).1 ++ suf) E st.1.length = some (b, (putL m L st.1 st.2).1.length) := by
    intro m L hN
    obtain ⟨he, hg, hl⟩ := nameL_is hN
    obtain ⟨h1, ⟨z, hz, _, hz2⟩, h3⟩ := put_inv (may := m) hg (by rw [<-he]; exact hl) hi
    refine ⟨h1, ⟨z, hz, by rw [he]; exact hz2⟩, fun suf E hE => ?_⟩
    unfold nm; rw [h3 suf]
    simp only
    rw [if_pos hE, he]
  unfold Part at hk
  obtain ⟨o1, o2, o3⟩ := ho
  by_cases k1 : k = -1
  · obtain ⟨L, hN⟩ := o1 (.inl k1)
    have hp : putV may st (k, b) = putL may L st.1 st.2 := by unfold putV; simp only; rw [if_pos k1, hN]
    rw [hp]
    obtain ⟨h1, h2, h3⟩ := hname may L hN
    refine ⟨h1, h2, fun suf E hE _ => ?_⟩
    unfold cutP; rw [if_pos k1, h3 suf E hE]
  · by_cases k2 : k = -2
    · obtain ⟨L, hN⟩ := o1 (.inr k2)
      have hp : putV may st (k, b) = putL false L st.1 st.2 := by unfold putV; simp only; rw [if_neg k1, if_pos k2, hN]
      rw [hp]
      obtain ⟨h1, h2, h3⟩ := hname false L hN
      refine ⟨h1, h2, fun suf E hE _ => ?_⟩
      unfold cutP; rw [if_neg k1, if_pos k2, h3 suf E hE]
      simp only
      rw [if_pos]
      rw [put_plain, (nameL_is hN).1, seg_mid]
    · have hp : putV may st (k, b) = (st.1 ++ b, st.2) := by unfold putV; simp only; rw [if_neg k1, if_neg k2]
      rw [hp]
      refine ⟨hi.raw b, ⟨b, rfl, Nat.le_refl _⟩, fun suf E hE hE2 => ?_⟩
      simp only at hE hE2 ⊢
      unfold cutP; rw [if_neg k1, if_neg k2]
      by_cases k3 : k = -3
      · rw [if_pos k3, hE2 (.inl k3), seg_mid, if_pos (o2 k3)]
      · rw [if_neg k3]
        by_cases k4 : k = -4
        · rw [if_pos k4, hE2 (.inr k4), seg_mid]
        · have hl := o3 (by omega)
          have hb : st.1.length + k.toNat = (st.1 ++ b).length := by rw [List.length_append]; omega
          rw [if_neg k4, if_pos (by omega), hb, seg_mid]
theorem steps_write (may : Bool) : ∀ (V : Vis) (st : WSt), InvK st.1 st.2 -> WF V ->
    InvK (writeV may V st).1 (writeV may V st).2 /\ (∃ z, (writeV may V st).1 = st.1 ++ z /\ z.length <= (cat V).length) /\
    ∀ suf, steps ((writeV may V st).1 ++ suf) (writeV may V st).1.length (V.map (·.1)) st.1.length = (V, some (writeV may V st).1.length) := by
  intro V
  induction V with
  | nil => intro st hi _; exact ⟨hi, ⟨[], by simp [writeV], by simp⟩, fun suf => rfl⟩
  | cons x V ih =>
    obtain ⟨k, b⟩ := x
    intro st hi hw
    obtain ⟨hk, ho, hlast, hrest⟩ := hw
    obtain ⟨p1, ⟨z, hz, hzl⟩, p3⟩ := put_part may hi hk ho
    obtain ⟨i1, ⟨z2, hz2, hz2l⟩, i3⟩ := ih (putV may st (k, b)) p1 hrest
    rw [write_cons]
    refine ⟨i1, ⟨z ++ z2, by rw [hz2, hz, List.append_assoc], by rw [cat_cons, List.length_append, List.length_append]; omega⟩, fun suf => ?_⟩
    have hlen : (putV may st (k, b)).1.length <= (writeV may V (putV may st (k, b))).1.length := by rw [hz2, List.length_append]; omega
    have hc : cutP ((writeV may V (putV may st (k, b))).1 ++ suf) (writeV may V (putV may st (k, b))).1.length k st.1.length = some (b, (putV may st (k, b)).1.length) := by
      have := p3 (z2 ++ suf) (writeV may V (putV may st (k, b))).1.length hlen (fun h' => by have := hlast h'; subst this; rfl)
      rwa [<-List.append_assoc, <-hz2] at this
    rw [List.map_cons, steps_yes hc, i3 suf]
theorem write_plain : ∀ (V : Vis) (st : WSt), WF V -> (writeV false V st).1 = st.1 ++ cat V := by
  intro V
  induction V with
  | nil => intro st _; simp [writeV, cat]
  | cons x V ih =>
    obtain ⟨k, b⟩ := x
    intro st hw
    obtain ⟨hk, ⟨o1, _, _⟩, _, hrest⟩ := hw
    have hp : (putV false st (k, b)).1 = st.1 ++ b := by
      unfold putV
      simp only
      split
      · rename_i k1
        obtain ⟨L, hN⟩ := o1 (.inl k1)
        rw [hN]; simp only
        rw [put_plain, <- (nameL_is hN).1]
      · split
        · rename_i k2
          obtain ⟨L, hN⟩ := o1 (.inr k2)
          rw [hN]; simp only
          rw [put_plain, <- (nameL_is hN).1]
        · rfl
    rw [write_cons, ih _ hrest, hp, cat_cons, List.append_assoc]
theorem steps_cat {V : Vis} (h : WF V) : steps (cat V) (cat V).length (V.map (·.1)) 0 = (V, some (cat V).length) := by
  obtain ⟨_, _, h3⟩ := steps_write false V ([], noneK) InvK.none h
  have := h3 []
  rw [write_plain V _ h] at this
  simpa using this
def visR (t : Int) (D : List UInt8) : Vis := (steps D D.length (partsP t) 0).1
theorem right_is {t : Int} {D : List UInt8} (h : rightR t D = true) : D.length <= 65535 /\ okS D D.length (partsP t) 0 = true /\ cat (visR t D) = D /\ WF (visR t D) /\ (visR t D).map (·.1) = partsP t := by
  unfold rightR dataR at h
  simp only [Bool.and_eq_true, decide_eq_true_eq] at h
  obtain ⟨h1, h2⟩ := h
  split at h2
  · rename_i ho
    have h3 : cat (visR t D) = D := by simpa [visR] using h2
    have ho' : (steps D D.length (partsP t) 0).2 = some D.length := by simpa [okS] using ho
    obtain ⟨w1, w2, _⟩ := steps_wf (Nat.le_refl _) (partsP t) 0 _ (lst_parts t) (Nat.zero_le _) ho'
    exact ⟨h1, ho, h3, w1, w2⟩
  · cases h2
theorem right_of {t : Int} {V : Vis} (hw : WF V) (hk : V.map (·.1) = partsP t) (hl : (cat V).length <= 65535) : rightR t (cat V) = true /\ visR t (cat V) = V := by
  have h := steps_cat hw
  rw [hk] at h
  unfold rightR dataR okS visR
  rw [h]
  simp [hl]
theorem write_back {t : Int} {D : List UInt8} (h : rightR t D = true) {st : WSt} (hi : InvK st.1 st.2) (suf : List UInt8) :
    dataR ((writeV true (visR t D) st).1 ++ suf) st.1.length (writeV true (visR t D) st).1.length t = some D := by
  obtain ⟨_, _, h3, h4, h5⟩ := right_is h
  obtain ⟨_, _, w3⟩ := steps_write true (visR t D) st hi h4
  have := w3 suf
  rw [h5] at this
  unfold dataR okS
  rw [this]
  simp [h3]
def foldB1 (x : Int × List UInt8) : Int × List UInt8 := if x.1 = -1 \/ x.1 = -2 then (x.1, foldL x.2) else x
def foldD (t : Int) (D : List UInt8) : List UInt8 := if rightR t D = true then cat ((visR t D).map foldB1) else []
theorem fold_ok {k : Int} {b : List UInt8} (h : Okp k b) : Okp k (foldB1 (k, b)).2 /\ (foldB1 (k, b)).1 = k /\ (foldB1 (k, b)).2.length = b.length /\ foldB1 (foldB1 (k, b)) = foldB1 (k, b) := by
  obtain ⟨o1, o2, o3⟩ := h
  unfold foldB1
  by_cases hk : k = -1 \/ k = -2
  · obtain ⟨L, hN⟩ := o1 hk
    obtain ⟨f1, f2, f3⟩ := foldL_some hN
    simp only [if_pos hk]
    refine ⟨⟨fun _ => ⟨_, f3⟩, by omega, by omega⟩, trivial, by rw [f1, lowS_len], ?_⟩
    have g := (foldL_some f3).1
    rw [g, f1, lowS_lowS]
  · simp only [if_neg hk]
    exact ⟨⟨fun h => absurd h hk, o2, o3⟩, trivial, trivial, trivial⟩
theorem fold_wf : ∀ (V : Vis), WF V -> WF (V.map foldB1) /\ (V.map foldB1).map (·.1) = V.map (·.1) /\ (cat (V.map foldB1)).length = (cat V).length /\ (V.map foldB1).map foldB1 = V.map foldB1
  | [], _ => ⟨trivial, rfl, rfl, rfl⟩
  | (k, b) :: V, ⟨hk, ho, hl, hw⟩ => by
    obtain ⟨i1, i2, i3, i4⟩ := fold_wf V hw
    obtain ⟨f1, f2, f3, f4⟩ := fold_ok ho
    have e : foldB1 (k, b) = (k, (foldB1 (k, b)).2) := Prod.ext f2 rfl
    refine ⟨?_, ?_, ?_, ?_⟩
    · rw [List.map_cons, e]
      exact ⟨hk, f1, fun h => by rw [hl h]; rfl, i1⟩
    · simp only [List.map_cons, f2, i2]
    · rw [List.map_cons, e, cat_cons, cat_cons, List.length_append, List.length_append, f3, i3]
    · simp only [List.map_cons, f4, i4]
theorem fold_right {t : Int} {D : List UInt8} (h : rightR t D = true) : rightR t (foldD t D) = true /\ (foldD t D).length = D.length /\ foldD t (foldD t D) = foldD t D := by
  obtain ⟨h1, _, h3, h4, h5⟩ := right_is h
  obtain ⟨w1, w2, w3, w4⟩ := fold_wf _ h4
  have e : foldD t D = cat ((visR t D).map foldB1) := by unfold foldD; rw [if_pos h]
  have hl : (foldD t D).length = D.length := by rw [e, w3, h3]
  obtain ⟨r1, r2⟩ := right_of w1 (w2.trans h5) (by rw [w3, h3]; exact h1)
  refine ⟨by rw [e]; exact r1, hl, ?_⟩
  rw [e]
  unfold foldD
  rw [if_pos r1, r2, w4]
theorem nice_fold : Nice (fun (s : List UInt8) (x : Int × List UInt8) => s ++ (foldB1 x).2) := fun s a b c x y ha hb hc => by
  unfold foldB1
  simp only
  rw [if_neg (by omega), if_neg (by omega), if_neg (by omega), List.append_assoc]
theorem fold_fold (V : Vis) (s : List UInt8) : V.foldl (fun (s : List UInt8) (x : Int × List UInt8) => s ++ (foldB1 x).2) s = s ++ cat (V.map foldB1) := by
  induction V generalizing s with
  | nil => simp [cat]
  | cons x V ih => rw [List.foldl_cons, ih]; simp [cat]
end Go.Proofs.YtmpginmdaeclaaaGreatDoor
