/- Parts of the proofs of the statements of image. No statement of the seat is proved here. -/
import Derived.Test.YtmpginmdaeclaaaGreatDoorOcJ
import GoSem.Op.String
set_option maxHeartbeats 32000000
set_option maxRecDepth 20000
namespace Go.Proofs.YtmpginmdaeclaaaGreatDoor
open Go.Op
def cutL : List UInt8 -> Option (List UInt8 × List UInt8)
  | [] => none
  | c :: t => if t.length < c.toNat then none else some (t.take c.toNat, t.drop c.toNat)
theorem cut_none {l : List UInt8} (h : cutL l = none) : cutR (mk l) 1 = (empty, empty, 2) := by
  unfold cutR
  rw [if_pos (by rfl)]
  cases l with
  | nil => rw [if_pos (.inl (by rw [mk_size]; simp))]
  | cons c t =>
    simp only [cutL] at h
    split at h
    · rw [if_pos]
      right
      rw [mk_size, mk_extract, mk_num]
      simpa [num] using by assumption
    · cases h
theorem cut_some {l a b : List UInt8} (h : cutL l = some (a, b)) : cutR (mk l) 1 = (mk a, mk b, 0) := by
  unfold cutR
  rw [if_pos (by rfl)]
  cases l with
  | nil => cases h
  | cons c t =>
    simp only [cutL] at h
    split at h
    · cases h
    · rename_i hc
      injection h with h
      injection h with h1 h2
      subst h1; subst h2; have e0 : (mk (c :: t)).extract 0 (1 : Int).toNat = mk [c] := by rw [mk_extract]; simp
      have e1 : (mk (c :: t)).extract (1 : Int).toNat (mk (c :: t)).size = mk t := by rw [mk_extract, mk_size]; simp
      have e2 : numOf (mk [c]) = c.toNat := by rw [mk_num]; simp [num]
      rw [e0, e1, e2, mk_size, if_neg (by simp; omega), mk_extract, mk_extract]
      simp
theorem cutL_lt {l a b : List UInt8} (h : cutL l = some (a, b)) : b.length + a.length + 1 = l.length := by
  cases l with
  | nil => cases h
  | cons c t =>
    simp only [cutL] at h
    split at h
    · cases h
    · injection h with h
      injection h with h1 h2
      subst h1; subst h2
      simp
      omega
def pairs (l : List UInt8) : List (List UInt8 × List UInt8) :=
  match _h : cutL l with
  | none => []
  | some (a, b) => if a = [] then [] else (a, b) :: pairs b
termination_by l.length
decreasing_by have := cutL_lt _h; omega
theorem pairs_none {l : List UInt8} (h : cutL l = none) : pairs l = [] := by
  rw [pairs]; split
  · rfl
  · rename_i h'; rw [h] at h'; cases h'
theorem pairs_empty {l b : List UInt8} (h : cutL l = some ([], b)) : pairs l = [] := by
  rw [pairs]; split
  · rfl
  · rename_i h'; rw [h] at h'; injection h' with h'; injection h' with h1 h2; subst h1; simp
theorem pairs_some {l a b : List UInt8} (h : cutL l = some (a, b)) (ha : a ≠ []) : pairs l = (a, b) :: pairs b := by
  rw [pairs]; split
  · rename_i h'; rw [h] at h'; cases h'
  · rename_i h'; rw [h] at h'; injection h' with h'; injection h' with h1 h2; subst h1; subst h2; simp [ha]
theorem pairs_len (l : List UInt8) : (pairs l).length <= l.length := by
  induction hn : l.length using Nat.strongRecOn generalizing l with
  | ind n ih =>
    cases hc : cutL l with
    | none => rw [pairs_none hc]; simp
    | some p =>
      obtain ⟨a, b⟩ := p
      have := cutL_lt hc
      by_cases ha : a = []
      · subst ha; rw [pairs_empty hc]; simp
      · rw [pairs_some hc ha]
        have := ih b.length (by omega) b rfl
        simp; omega
def parse (l : List UInt8) : Option (List (List UInt8)) :=
  match _h : cutL l with
  | none => none
  | some (a, b) => if a = [] then (if b = [] then some [] else none) else if 63 < a.length then none else (parse b).map (a :: ·)
termination_by l.length
decreasing_by have := cutL_lt _h; omega
theorem parse_none {l : List UInt8} (h : cutL l = none) : parse l = none := by
  rw [parse]; split
  · rfl
  · rename_i h'; rw [h] at h'; cases h'
theorem parse_some {l a b : List UInt8} (h : cutL l = some (a, b)) : parse l = if a = [] then (if b = [] then some [] else none) else if 63 < a.length then none else (parse b).map (a :: ·) := by
  rw [parse]; split
  · rename_i h'; rw [h] at h'; cases h'
  · rename_i h'; rw [h] at h'; injection h' with h'; injection h' with h1 h2; subst h1; subst h2; rfl
def nameL (l : List UInt8) : Option (List (List UInt8)) := if 255 < l.length then none else parse l
def lab (x : List UInt8) : List UInt8 := UInt8.ofNat x.length :: x
def labs : List (List UInt8) -> List UInt8
  | [] => []
  | x :: L => lab x ++ labs L
def enc (L : List (List UInt8)) : List UInt8 := labs L ++ [0]
def Good (L : List (List UInt8)) : Prop := ∀ x ∈ L, x ≠ [] /\ x.length <= 63
theorem Good.tail {x : List UInt8} {L : List (List UInt8)} (h : Good (x :: L)) : Good L := fun y hy => h y (List.mem_cons_of_mem _ hy)
theorem enc_nil : enc [] = [0] := rfl
theorem enc_cons (x : List UInt8) (L : List (List UInt8)) : enc (x :: L) = lab x ++ enc L := by simp [enc, labs]
theorem labs_append (L M : List (List UInt8)) : labs (L ++ M) = labs L ++ labs M := by
  induction L with
  | nil => rfl
  | cons x L ih => simp [labs, ih]
theorem lab_len (x : List UInt8) : (lab x).length = x.length + 1 := by simp [lab]
theorem cut_lab {x r : List UInt8} (h : x.length <= 255) : cutL (lab x ++ r) = some (x, r) := by
  have e : (UInt8.ofNat x.length).toNat = x.length := by rw [UInt8.toNat_ofNat']; omega
  simp only [lab, List.cons_append, cutL, e]
  rw [if_neg (by simp)]
  simp
theorem cut_zero (r : List UInt8) : cutL (0 :: r) = some ([], r) := by simp [cutL]
theorem cut_is {l a b : List UInt8} (h : cutL l = some (a, b)) : l = lab a ++ b /\ a.length <= 255 := by
  cases l with
  | nil => cases h
  | cons c t =>
    simp only [cutL] at h
    split at h
    · cases h
    · injection h with h
      injection h with h1 h2
      subst h1; subst h2; have hc := c.toNat_lt
      have e : (t.take c.toNat).length = c.toNat := by rw [List.length_take]; omega
      refine ⟨?_, by rw [e]; omega⟩
      simp only [lab, e, UInt8.ofNat_toNat, List.cons_append, List.take_append_drop]
theorem parse_enc {L : List (List UInt8)} (h : Good L) : parse (enc L) = some L := by
  induction L with
  | nil => rw [enc_nil, parse_some (cut_zero [])]; simp
  | cons x L ih =>
    obtain ⟨h1, h2⟩ := h x (by simp)
    rw [enc_cons, parse_some (cut_lab (by omega)), if_neg h1, if_neg (by omega), ih h.tail]
    rfl
theorem parse_is : ∀ {l : List UInt8} {L : List (List UInt8)}, parse l = some L -> l = enc L /\ Good L := by
  intro l
  induction hn : l.length using Nat.strongRecOn generalizing l with
  | ind n ih =>
    intro L h
    cases hc : cutL l with
    | none => rw [parse_none hc] at h; cases h
    | some p =>
      obtain ⟨a, b⟩ := p
      rw [parse_some hc] at h
      have hl := cutL_lt hc
      obtain ⟨e, _⟩ := cut_is hc
      split at h
      · rename_i ha
        split at h
        · rename_i hb
          injection h with h
          subst h; subst ha; subst hb; exact ⟨by rw [e]; rfl, fun x hx => by cases hx⟩
        · cases h
      · rename_i ha
        split at h
        · cases h
        · rename_i h63
          cases hp : parse b with
          | none => rw [hp] at h; cases h
          | some M =>
            rw [hp] at h
            injection h with h
            subst h; obtain ⟨e2, g⟩ := ih b.length (by omega) rfl hp
            refine ⟨by rw [e, enc_cons, <-e2], fun x hx => ?_⟩
            rcases List.mem_cons.1 hx with hx | hx
            · subst hx; exact ⟨ha, by omega⟩
            · exact g x hx
theorem nameL_is {l : List UInt8} {L : List (List UInt8)} (h : nameL l = some L) : l = enc L /\ Good L /\ l.length <= 255 := by
  unfold nameL at h
  split at h
  · cases h
  · obtain ⟨h1, h2⟩ := parse_is h
    exact ⟨h1, h2, by omega⟩
theorem nameL_enc {L : List (List UInt8)} (h : Good L) (hl : (enc L).length <= 255) : nameL (enc L) = some L := by
  unfold nameL
  rw [if_neg (by omega), parse_enc h]
theorem enc_inj {L M : List (List UInt8)} (h : Good L) (g : Good M) (e : enc L = enc M) : L = M := by
  have := parse_enc h
  rw [e, parse_enc g] at this
  injection this with this
  exact this.symm
def prs : List (List UInt8) -> List (List UInt8 × List UInt8)
  | [] => []
  | x :: L => (x, enc L) :: prs L
theorem pairs_enc {L : List (List UInt8)} (h : Good L) : pairs (enc L) = prs L := by
  induction L with
  | nil => rw [enc_nil, pairs_empty (cut_zero [])]; rfl
  | cons x L ih =>
    obtain ⟨h1, h2⟩ := h x (by simp)
    rw [enc_cons, pairs_some (cut_lab (by omega)) h1, ih h.tail]
    rfl
theorem prs_snd (L : List (List UInt8)) (r : List UInt8) : (∃ p ∈ prs L, p.2 = r) ↔ ∃ k, k < L.length /\ enc (L.drop (k + 1)) = r := by
  induction L with
  | nil => simp [prs]
  | cons x L ih =>
    constructor
    · rintro ⟨p, hp, hr⟩
      rcases List.mem_cons.1 hp with hp | hp
      · subst hp; exact ⟨0, by simp, by simpa using hr⟩
      · obtain ⟨k, hk, e⟩ := ih.1 ⟨p, hp, hr⟩
        exact ⟨k + 1, by simp; omega, by simpa using e⟩
    · rintro ⟨k, hk, e⟩
      cases k with
      | zero => exact ⟨(x, enc L), by simp [prs], by simpa using e⟩
      | succ k =>
        obtain ⟨p, hp, hr⟩ := ih.2 ⟨k, by simp at hk; omega, by simpa using e⟩
        exact ⟨p, List.mem_cons_of_mem _ hp, hr⟩
def lastR (l : List UInt8) : List (List UInt8 × List UInt8) -> List UInt8
  | [] => l
  | p :: ps => lastR p.2 ps
theorem lastR_snoc (l : List UInt8) (ps : List (List UInt8 × List UInt8)) (p : List UInt8 × List UInt8) : lastR l (ps ++ [p]) = p.2 := by
  induction ps generalizing l with
  | nil => rfl
  | cons q ps ih => exact ih q.2
theorem right_parse (l : List UInt8) : (parse l).isSome = true ↔ (∀ p ∈ pairs l, p.1.length <= 63) /\ lastR l (pairs l) = [0] := by
  induction hn : l.length using Nat.strongRecOn generalizing l with
  | ind n ih =>
    cases hc : cutL l with
    | none =>
      rw [parse_none hc, pairs_none hc]
      simp only [Option.isSome_none, Bool.false_eq_true, List.not_mem_nil, false_implies, implies_true, true_and, lastR, false_iff]
      rintro rfl; rw [cut_zero] at hc
      cases hc
    | some p =>
      obtain ⟨a, b⟩ := p
      have hl := cutL_lt hc
      obtain ⟨e, _⟩ := cut_is hc
      by_cases ha : a = []
      · subst ha
        rw [parse_some hc, pairs_empty hc, if_pos rfl]
        simp only [List.not_mem_nil, false_implies, implies_true, true_and, lastR]
        rw [e]
        by_cases hb : b = []
        · subst hb; simp [lab]
        · rw [if_neg hb]
          simp [lab, hb]
      · rw [parse_some hc, pairs_some hc ha, if_neg ha]
        have hi := ih b.length (by omega) b rfl
        by_cases h63 : 63 < a.length
        · rw [if_pos h63]
          constructor
          · intro h; cases h
          · rintro ⟨h, _⟩
            have := h (a, b) (by simp)
            simp at this
            omega
        · rw [if_neg h63]
          have : ((parse b).map (a :: ·)).isSome = (parse b).isSome := by cases parse b <;> rfl
          rw [this, hi]
          simp only [lastR, List.mem_cons, forall_eq_or_imp]
          constructor
          · rintro ⟨h1, h2⟩; exact ⟨⟨by omega, h1⟩, h2⟩
          · rintro ⟨⟨_, h1⟩, h2⟩; exact ⟨h1, h2⟩
def low (c : UInt8) : UInt8 := if 65 <= c.toNat /\ c.toNat <= 90 then UInt8.ofNat (c.toNat + 32) else c
def lowS (x : List UInt8) : List UInt8 := x.map low
theorem low_small {c : UInt8} (h : c.toNat <= 63) : low c = c := by unfold low; rw [if_neg (by omega)]
theorem low_low (c : UInt8) : low (low c) = low c := by
  by_cases h : 65 <= c.toNat /\ c.toNat <= 90
  · have e : low c = UInt8.ofNat (c.toNat + 32) := by unfold low; rw [if_pos h]
    have e2 : (low c).toNat = c.toNat + 32 := by rw [e, UInt8.toNat_ofNat']; omega
    unfold low; rw [if_neg (by change ¬ (65 <= (low c).toNat /\ (low c).toNat <= 90); omega)]
  · have e : low c = c := by unfold low; rw [if_neg h]
    rw [e, e]
theorem lowS_lowS (x : List UInt8) : lowS (lowS x) = lowS x := by simp [lowS, low_low]
theorem lowS_len (x : List UInt8) : (lowS x).length = x.length := by simp [lowS]
theorem lowS_lab {x : List UInt8} (h : x.length <= 63) : lowS (lab x) = lab (lowS x) := by
  have e : (UInt8.ofNat x.length).toNat = x.length := by rw [UInt8.toNat_ofNat']; omega
  simp only [lab, lowS, List.map_cons, List.length_map]
  rw [low_small (by omega)]
theorem lowS_enc {L : List (List UInt8)} (h : Good L) : lowS (enc L) = enc (L.map lowS) := by
  induction L with
  | nil => rfl
  | cons x L ih =>
    obtain ⟨h1, h2⟩ := h x (by simp)
    rw [enc_cons, List.map_cons, enc_cons, <-ih h.tail, <-lowS_lab h2]
    simp [lowS]
theorem Good.low {L : List (List UInt8)} (h : Good L) : Good (L.map lowS) := by
  intro y hy
  obtain ⟨x, hx, rfl⟩ := List.mem_map.1 hy
  obtain ⟨h1, h2⟩ := h x hx
  refine ⟨fun e => h1 ?_, by rw [lowS_len]; exact h2⟩
  have := congrArg List.length e
  rw [lowS_len] at this
  exact List.eq_nil_of_length_eq_zero (by simpa using this)
def foldL (l : List UInt8) : List UInt8 := match nameL l with | none => [] | some L => enc (L.map lowS)
theorem foldL_some {l : List UInt8} {L : List (List UInt8)} (h : nameL l = some L) : foldL l = lowS l /\ foldL l = enc (L.map lowS) /\ nameL (foldL l) = some (L.map lowS) := by
  obtain ⟨h1, h2, h3⟩ := nameL_is h
  have e : foldL l = enc (L.map lowS) := by unfold foldL; rw [h]
  have e2 : lowS l = enc (L.map lowS) := by rw [h1, lowS_enc h2]
  refine ⟨by rw [e, e2], e, ?_⟩
  rw [e]
  exact nameL_enc h2.low (by rw [<-e2, lowS_len]; exact h3)
theorem foldL_none {l : List UInt8} (h : nameL l = none) : foldL l = [] := by unfold foldL; rw [h]
theorem nameL_nil : nameL [] = none := by unfold nameL; rw [if_neg (by simp), parse_none rfl]
theorem nameL_fold (l : List UInt8) : nameL (foldL l) = (nameL l).map (·.map lowS) := by
  cases h : nameL l with
  | none => rw [foldL_none h, nameL_nil]; rfl
  | some L => rw [(foldL_some h).2.2]; rfl
theorem enc_ne (L : List (List UInt8)) : enc L ≠ [] := by unfold enc; simp
theorem foldL_ne {l : List UInt8} {L : List (List UInt8)} (h : nameL l = some L) : foldL l ≠ [] := by rw [(foldL_some h).2.1]; exact enc_ne _
theorem less_irrefl (a : List UInt8) : bytesLess a a = false := by
  induction a with
  | nil => rfl
  | cons c a ih => simp [bytesLess, ih]
theorem less_cons (a b : UInt8) (x y : List UInt8) : bytesLess (a :: x) (b :: y) = true ↔ a.toNat < b.toNat \/ (a = b /\ bytesLess x y = true) := by
  simp [bytesLess, UInt8.lt_iff_toNat_lt]
theorem less_trans : ∀ {a b c : List UInt8}, bytesLess a b = true -> bytesLess b c = true -> bytesLess a c = true
  | _, [], _, h, _ => by simp [bytesLess] at h
  | _, _ :: _, [], _, h => by simp [bytesLess] at h
  | [], _ :: _, _ :: _, _, _ => by simp [bytesLess]
  | a :: x, b :: y, c :: z, h, k => by
    rw [less_cons] at h k ⊢
    rcases h with h | ⟨rfl, h⟩ <;> rcases k with k | ⟨rfl, k⟩
    · exact .inl (by omega)
    · exact .inl h
    · exact .inl k
    · exact .inr ⟨rfl, less_trans h k⟩
theorem less_total : ∀ (a b : List UInt8), bytesLess a b = false -> bytesLess b a = false -> a = b
  | [], [], _, _ => rfl
  | [], _ :: _, h, _ => by simp [bytesLess] at h
  | _ :: _, [], _, h => by simp [bytesLess] at h
  | a :: x, b :: y, h, k => by
    have h' : ¬ (a.toNat < b.toNat \/ (a = b /\ bytesLess x y = true)) := by rw [<-less_cons, h]; simp
    have k' : ¬ (b.toNat < a.toNat \/ (b = a /\ bytesLess y x = true)) := by rw [<-less_cons, k]; simp
    have e : a = b := UInt8.toNat_inj.1 (by omega)
    subst e; have h2 : bytesLess x y = false := by cases hh : bytesLess x y <;> simp_all
    have k2 : bytesLess y x = false := by cases hh : bytesLess y x <;> simp_all
    rw [less_total x y h2 k2]
theorem less_asymm {a b : List UInt8} (h : bytesLess a b = true) : bytesLess b a = false := by
  cases k : bytesLess b a with
  | false => rfl
  | true => have := less_trans h k; rw [less_irrefl] at this; cases this
def cmpL : List (List UInt8) -> List (List UInt8) -> Int
  | [], [] => 0
  | [], _ :: _ => -1
  | _ :: _, [] => 1
  | x :: X, y :: Y => if bytesLess x y then -1 else if bytesLess y x then 1 else cmpL X Y
theorem cmpL_self (X : List (List UInt8)) : cmpL X X = 0 := by
  induction X with
  | nil => rfl
  | cons x X ih => simp [cmpL, less_irrefl, ih]
theorem cmpL_range (X Y : List (List UInt8)) : cmpL X Y = -1 \/ cmpL X Y = 0 \/ cmpL X Y = 1 := by
  induction X generalizing Y with
  | nil => cases Y <;> simp [cmpL]
  | cons x X ih =>
    cases Y with
    | nil => simp [cmpL]
    | cons y Y =>
      rw [cmpL]
      split
      · simp
      · split
        · simp
        · exact ih Y
theorem cmpL_flip (X Y : List (List UInt8)) : cmpL Y X = - cmpL X Y := by
  induction X generalizing Y with
  | nil => cases Y <;> simp [cmpL]
  | cons x X ih =>
    cases Y with
    | nil => simp [cmpL]
    | cons y Y =>
      rw [cmpL, cmpL]
      by_cases h1 : bytesLess x y = true
      · rw [if_pos h1, if_neg (by rw [less_asymm h1]; simp), if_pos h1]; simp
      · by_cases h2 : bytesLess y x = true
        · simp [h1, h2]
        · simp [h1, h2, ih]
theorem cmpL_eq {X Y : List (List UInt8)} (h : cmpL X Y = 0) : X = Y := by
  induction X generalizing Y with
  | nil => cases Y <;> simp [cmpL] at h ⊢
  | cons x X ih =>
    cases Y with
    | nil => simp [cmpL] at h
    | cons y Y =>
      rw [cmpL] at h
      split at h
      · cases h
      · split at h
        · cases h
        · rename_i h1 h2
          have e := less_total x y (by simpa using h1) (by simpa using h2)
          rw [e, ih h]
theorem cmpL_zero (X Y : List (List UInt8)) : cmpL X Y = 0 ↔ X = Y := ⟨cmpL_eq, fun h => by rw [h, cmpL_self]⟩
theorem cmpL_trans : ∀ {X Y Z : List (List UInt8)}, cmpL X Y = -1 -> cmpL Y Z = -1 -> cmpL X Z = -1
  | _, [], [], _, k => by simp [cmpL] at k
  | [], [], _ :: _, h, _ => by simp [cmpL] at h
  | _ :: _, [], _ :: _, h, _ => by simp [cmpL] at h
  | _, _ :: _, [], _, k => by simp [cmpL] at k
  | [], _ :: _, _ :: _, _, _ => by simp [cmpL]
  | x :: X, y :: Y, z :: Z, h, k => by
    rw [cmpL] at h k ⊢
    by_cases h1 : bytesLess x y = true
    · by_cases k1 : bytesLess y z = true
      · rw [if_pos (less_trans h1 k1)]
      · rw [if_neg k1] at k
        by_cases k2 : bytesLess z y = true
        · rw [if_pos k2] at k; cases k
        · have e := less_total y z (by simpa using k1) (by simpa using k2)
          subst e; rw [if_pos h1]
    · rw [if_neg h1] at h
      by_cases h2 : bytesLess y x = true
      · rw [if_pos h2] at h; cases h
      · rw [if_neg h2] at h
        have e := less_total x y (by simpa using h1) (by simpa using h2)
        subst e
        by_cases k1 : bytesLess x z = true
        · rw [if_pos k1]
        · rw [if_neg k1] at k ⊢
          by_cases k2 : bytesLess z x = true
          · rw [if_pos k2] at k; cases k
          · rw [if_neg k2] at k ⊢
            exact cmpL_trans h k
def cmpN (a b : List UInt8) : Int :=
  match nameL a, nameL b with
  | some L, some M => cmpL (L.map lowS).reverse (M.map lowS).reverse
  | _, _ => 0
def underN (a b : List UInt8) : Bool :=
  match nameL a, nameL b with
  | some L, some M => decide ((M.map lowS) <:+ (L.map lowS))
  | _, _ => false
def alikeN (a b : List UInt8) : Bool :=
  match nameL a, nameL b with
  | some L, some M => decide (L.map lowS = M.map lowS)
  | _, _ => false
end Go.Proofs.YtmpginmdaeclaaaGreatDoor
namespace Go.Proofs.YtmpginmdaeclaaaGreatDoor
set_option linter.unusedVariables false in
def readR (m n : List UInt8) (s p : Nat) (nx : Option Nat) : Option (List UInt8 × Nat) :=
  if h : n.length < 255 then
    match m.drop p with
    | [] => none
    | c :: r =>
      if h0 : c.toNat = 0 then some (n ++ [0], nx.getD (p + 1))
      else if h1 : 192 <= c.toNat then
        match r with
        | [] => none
        | d :: _ => if h2 : (c.toNat - 192) * 256 + d.toNat < s then readR m n ((c.toNat - 192) * 256 + d.toNat) ((c.toNat - 192) * 256 + d.toNat) (some (nx.getD (p + 2))) else none
      else if h3 : c.toNat < 64 /\ c.toNat <= r.length then readR m (n ++ c :: r.take c.toNat) s (p + 1 + c.toNat) nx
      else none
  else none
termination_by s + (255 - n.length)
decreasing_by
  · exact Nat.add_lt_add_right h2 _
  · simp only [List.length_append, List.length_cons]; omega
section
variable {m n r : List UInt8} {c d : UInt8} {s p : Nat} {nx : Option Nat}
theorem rd_full (h : 255 <= n.length) : readR m n s p nx = none := by
  rw [readR, dif_neg (by omega)]
theorem rd_end (h : m.drop p = []) : readR m n s p nx = none := by
  rw [readR]
  split
  · rw [h]
  · rfl
theorem rd_zero (h : n.length < 255) (hd : m.drop p = c :: r) (hc : c.toNat = 0) : readR m n s p nx = some (n ++ [0], nx.getD (p + 1)) := by
  rw [readR, dif_pos h, hd]
  simp [hc]
theorem rd_ptr1 (hd : m.drop p = [c]) (hc : 192 <= c.toNat) : readR m n s p nx = none := by
  by_cases h : n.length < 255
  · rw [readR, dif_pos h, hd]
    simp [hc, show ¬ c.toNat = 0 by omega]
  · exact rd_full (by omega)
theorem rd_ptr (h : n.length < 255) (hd : m.drop p = c :: d :: r) (hc : 192 <= c.toNat) (ht : (c.toNat - 192) * 256 + d.toNat < s) :
    readR m n s p nx = readR m n ((c.toNat - 192) * 256 + d.toNat) ((c.toNat - 192) * 256 + d.toNat) (some (nx.getD (p + 2))) := by
  rw [readR, dif_pos h, hd]
  simp [hc, ht, show ¬ c.toNat = 0 by omega]
theorem rd_fore (hd : m.drop p = c :: d :: r) (hc : 192 <= c.toNat) (ht : s <= (c.toNat - 192) * 256 + d.toNat) : readR m n s p nx = none := by
  by_cases h : n.length < 255
  · rw [readR, dif_pos h, hd]
    simp [hc, show ¬ c.toNat = 0 by omega, show ¬ ((c.toNat - 192) * 256 + d.toNat < s) by omega]
  · exact rd_full (by omega)
theorem rd_lab (h : n.length < 255) (hd : m.drop p = c :: r) (h0 : c.toNat ≠ 0) (h6 : c.toNat < 64) (hr : c.toNat <= r.length) :
    readR m n s p nx = readR m (n ++ c :: r.take c.toNat) s (p + 1 + c.toNat) nx := by
  rw [readR, dif_pos h, hd]
  simp [h0, h6, hr, show ¬ 192 <= c.toNat by omega]
theorem rd_bad (hd : m.drop p = c :: r) (h0 : c.toNat ≠ 0) (h1 : c.toNat < 192) (h : ¬ (c.toNat < 64 /\ c.toNat <= r.length)) : readR m n s p nx = none := by
  by_cases hn : n.length < 255
  · rw [readR, dif_pos hn, hd]
    simp [h0, show ¬ 192 <= c.toNat by omega, h]
  · exact rd_full (by omega)
end
abbrev Kn := List UInt8 -> Option Nat
def noneK : Kn := fun _ => none
def learnK (K : Kn) (r : List UInt8) (p : Nat) : Kn := if (K r).isNone = true /\ p < 16384 then fun k => if k = r then some p else K k else K
def ptrB (t : Nat) : List UInt8 := [UInt8.ofNat (192 + t / 256), UInt8.ofNat (t % 256)]
def knownK (may : Bool) (K : Kn) (r : List UInt8) : Option Nat := if may then K r else none
def putL (may : Bool) : List (List UInt8) -> List UInt8 -> Kn -> List UInt8 × Kn
  | [], l, K => (l ++ [0], K)
  | x :: L, l, K => match knownK may K (enc (x :: L)) with
    | some t => (l ++ ptrB t, K)
    | none => putL may L (l ++ lab x) (learnK K (enc (x :: L)) l.length)
theorem put_nil (may : Bool) (l : List UInt8) (K : Kn) : putL may [] l K = (l ++ [0], K) := rfl
theorem put_ptr {may : Bool} {x : List UInt8} {L : List (List UInt8)} {l : List UInt8} {K : Kn} {t : Nat} (h : knownK may K (enc (x :: L)) = some t) : putL may (x :: L) l K = (l ++ ptrB t, K) := by
  rw [putL, h]
theorem put_on {may : Bool} {x : List UInt8} {L : List (List UInt8)} {l : List UInt8} {K : Kn} (h : knownK may K (enc (x :: L)) = none) : putL may (x :: L) l K = putL may L (l ++ lab x) (learnK K (enc (x :: L)) l.length) := by
  rw [putL, h]
theorem known_some {may : Bool} {K : Kn} {r : List UInt8} {t : Nat} (h : knownK may K r = some t) : may = true /\ K r = some t := by
  unfold knownK at h
  split at h
  · exact ⟨by assumption, h⟩
  · cases h
theorem learn_is {K : Kn} {r k : List UInt8} {p t : Nat} (h : learnK K r p k = some t) : K k = some t \/ (k = r /\ t = p /\ p < 16384) := by
  unfold learnK at h
  split at h
  · rename_i h1
    by_cases hk : k = r
    · simp only [if_pos hk, Option.some.injEq] at h
      exact .inr ⟨hk, h.symm, h1.2⟩
    · simp only [if_neg hk] at h
      exact .inl h
  · exact .inl h
def Tells (l : List UInt8) (t : Nat) (r : List UInt8) : Prop := ∀ e n k, n.length + r.length <= 255 -> readR (l ++ e) n t t (some k) = some (n ++ r, k)
theorem Tells.more {l : List UInt8} {t : Nat} {r : List UInt8} (h : Tells l t r) (z : List UInt8) : Tells (l ++ z) t r := by
  intro e n k hn
  rw [List.append_assoc]; exact h _ _ _ hn
def InvK (l : List UInt8) (K : Kn) : Prop := ∀ r t, K r = some t -> t < l.length /\ t < 16384 /\ Tells l t r
theorem InvK.none : InvK [] noneK := fun _ _ h => by cases h
theorem InvK.raw {l : List UInt8} {K : Kn} (h : InvK l K) (z : List UInt8) : InvK (l ++ z) K := fun r t hk => by
  obtain ⟨h1, h2, h3⟩ := h r t hk
  exact ⟨by simp; omega, h2, h3.more z⟩
theorem enc_len_cons (x : List UInt8) (L : List (List UInt8)) : (enc (x :: L)).length = x.length + 1 + (enc L).length := by
  rw [enc_cons, List.length_append, lab_len]
theorem enc_pos (L : List (List UInt8)) : 1 <= (enc L).length := by unfold enc; simp
theorem ptr_len (t : Nat) : (ptrB t).length = 2 := rfl
theorem put_reads (may : Bool) : ∀ (L : List (List UInt8)) (l : List UInt8) (K : Kn) (a : Nat), Good L -> (enc L).length <= 255 -> a <= l.length -> (∀ r t, K r = some t -> r.length <= (enc L).length -> t < a /\ t < 16384 /\ Tells l t r) ->
    (∃ z, (putL may L l K).1 = l ++ z /\ 1 <= z.length /\ z.length <= (enc L).length) /\
    (∀ s e n nx, a <= s -> n.length + (enc L).length <= 255 -> readR ((putL may L l K).1 ++ e) n s l.length nx = some (n ++ enc L, nx.getD (putL may L l K).1.length)) /\
    (∀ r t, (putL may L l K).2 r = some t -> K r = some t \/ (t < (putL may L l K).1.length /\ t < 16384 /\ Tells (putL may L l K).1 t r)) := by
  intro L
  induction L with
  | nil =>
    intro l K a _ _ _ _
    refine ⟨⟨[0], rfl, by simp, by simp [enc, labs]⟩, ?_, fun r t h => .inl h⟩
    intro s e n nx _ hn
    rw [put_nil]
    have hn' : n.length < 255 := by have := enc_pos []; omega
    rw [rd_zero (c := 0) (r := e) hn' (by simp) rfl]
    simp [enc, labs]
  | cons x L ih =>
    intro l K a hg hlen ha hK
    have hxl := enc_len_cons x L
    have hx := hg x (by simp)
    have hx1 : 1 <= x.length := List.length_pos_iff.2 hx.1
    have hep := enc_pos L
    cases hk : knownK may K (enc (x :: L)) with
    | some t =>
      rw [put_ptr hk]
      obtain ⟨_, hk'⟩ := known_some hk
      obtain ⟨h1, h2, h3⟩ := hK _ _ hk' (Nat.le_refl _)
      refine ⟨⟨ptrB t, rfl, by rw [ptr_len]; omega, by rw [ptr_len]; omega⟩, ?_, fun r t h => .inl h⟩
      intro s e n nx hs hn
      have hc : (UInt8.ofNat (192 + t / 256)).toNat = 192 + t / 256 := by rw [UInt8.toNat_ofNat']; omega
      have hd : (UInt8.ofNat (t % 256)).toNat = t % 256 := by rw [UInt8.toNat_ofNat']; omega
      have hto : (192 + t / 256 - 192) * 256 + t % 256 = t := by omega
      have hn' : n.length < 255 := by omega
      show readR ((l ++ ptrB t) ++ e) n s l.length nx = _
      rw [rd_ptr (c := UInt8.ofNat (192 + t / 256)) (d := UInt8.ofNat (t % 256)) (r := e) hn' (by simp [ptrB]) (by rw [hc]; omega) (by rw [hc, hd, hto]; omega)]
      rw [hc, hd, hto, List.append_assoc, h3 _ _ _ hn]
      simp [ptrB]
    | none =>
      rw [put_on hk]
      have hl1 : (l ++ lab x).length = l.length + (x.length + 1) := by rw [List.length_append, lab_len]
      have hK1 : ∀ r t, learnK K (enc (x :: L)) l.length r = some t -> r.length <= (enc L).length -> t < a /\ t < 16384 /\ Tells (l ++ lab x) t r := by
        intro r t h hr
        rcases learn_is h with h' | ⟨rfl, _, _⟩
        · obtain ⟨h1, h2, h3⟩ := hK r t h' (by omega)
          exact ⟨h1, h2, h3.more _⟩
        · omega
      obtain ⟨⟨z, hz, hz1, hz2⟩, hR, hN⟩ := ih (l ++ lab x) (learnK K (enc (x :: L)) l.length) a hg.tail (by omega) (by omega) hK1
      generalize putL may L (l ++ lab x) (learnK K (enc (x :: L)) l.length) = R at hz hR hN ⊢
      have hR' : ∀ s e n nx, a <= s -> n.length + (enc (x :: L)).length <= 255 -> readR (R.1 ++ e) n s l.length nx = some (n ++ enc (x :: L), nx.getD R.1.length) := by
        intro s e n nx hs hn
        have hc : (UInt8.ofNat x.length).toNat = x.length := by rw [UInt8.toNat_ofNat']; have := hx.2; omega
        have hdrop : (R.1 ++ e).drop l.length = UInt8.ofNat x.length :: (x ++ (z ++ e)) := by
          rw [hz, List.append_assoc, List.append_assoc, List.drop_left]
          rfl
        rw [rd_lab (by omega) hdrop (by rw [hc]; omega) (by rw [hc]; have := hx.2; omega) (by rw [hc]; simp)]
        rw [hc, List.take_left, show l.length + 1 + x.length = (l ++ lab x).length by rw [hl1]; omega]
        have hnl : (n ++ UInt8.ofNat x.length :: x).length = n.length + (x.length + 1) := by simp
        rw [hR s e (n ++ UInt8.ofNat x.length :: x) nx hs (by rw [hnl]; omega)]
        rw [enc_cons, lab, List.append_assoc]
      refine ⟨⟨lab x ++ z, by rw [hz, List.append_assoc], by rw [List.length_append, lab_len]; omega, by rw [List.length_append, lab_len]; omega⟩, hR', fun r t h => ?_⟩
      rcases hN r t h with h' | h'
      · rcases learn_is h' with h'' | ⟨rfl, rfl, hp⟩
        · exact .inl h''
        · refine .inr ⟨by rw [hz, List.length_append, hl1]; omega, hp, ?_⟩
          intro e n k hn
          rw [hR' l.length e n (some k) ha hn]
          rfl
      · exact .inr h'
theorem put_inv {may : Bool} {L : List (List UInt8)} {l : List UInt8} {K : Kn} (hg : Good L) (hl : (enc L).length <= 255) (h : InvK l K) :
    InvK (putL may L l K).1 (putL may L l K).2 /\ (∃ z, (putL may L l K).1 = l ++ z /\ 1 <= z.length /\ z.length <= (enc L).length) /\
    ∀ e, readR ((putL may L l K).1 ++ e) [] l.length l.length none = some (enc L, (putL may L l K).1.length) := by
  obtain ⟨⟨z, hz, h1, h2⟩, hR, hN⟩ := put_reads may L l K l.length hg hl (Nat.le_refl _) (fun r t hk _ => h r t hk)
  refine ⟨?_, ⟨z, hz, h1, h2⟩, fun e => ?_⟩
  · intro r t hk
    rcases hN r t hk with h' | h'
    · obtain ⟨a1, a2, a3⟩ := h r t h'
      exact ⟨by rw [hz, List.length_append]; omega, a2, by rw [hz]; exact a3.more z⟩
    · exact h'
  · rw [hR l.length e [] none (Nat.le_refl _) (by simpa using hl)]
    rfl
theorem put_plain : ∀ (L : List (List UInt8)) (l : List UInt8) (K : Kn), (putL false L l K).1 = l ++ enc L := by
  intro L
  induction L with
  | nil => intro l K; rfl
  | cons x L ih => intro l K; rw [put_on rfl, ih, enc_cons, List.append_assoc]
end Go.Proofs.YtmpginmdaeclaaaGreatDoor
