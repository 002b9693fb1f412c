/- LkA: texts LokM, LokN, LokB, LokA of our own, joined. No statement of the seat is proved here. -/
import Derived.Test.YtkgihfoknpimfaaGreatZoM
import Derived.Test.YtkgihfoknpimfaaGreatNaI
import Derived.Test.YtkgihfoknpimfaaGreatZoF
import Derived.Test.YtkgihfoknpimfaaGreatNaF
import Derived.Test.YtkgihfoknpimfaaGreatNaG
namespace Go.Proofs.YtkgihfoknpimfaaGreat
open Go.Op

structure GoodZ (nn : List UInt8) (D : List Rrd) : Prop where
  ok : OkL D
  ks : KS D
  isz : isZ nn D = true
  nm : (nameL nn).isSome = true
  len : D.length ≤ 1000

def labsZ (n : List UInt8) : List (List UInt8) := (nameL n).getD []
/-- how many labels a name has more than the apex -/
def depZ (nn n : List UInt8) : Nat := (labsZ n).length - (labsZ nn).length
/-- the name i labels further up -/
def upZ (n : List UInt8) (i : Nat) : List UInt8 := enc ((labsZ n).drop i)

structure Dep (nn n : List UInt8) (k : Nat) : Prop where
  under : underN n nn = true
  name : nameL n = some (labsZ n)
  apex : nameL nn = some (labsZ nn)
  len : (labsZ n).length = (labsZ nn).length + k
  suf : (labsZ nn).map lowS <:+ (labsZ n).map lowS
theorem dep_of {nn n : List UInt8} (h : underN n nn = true) : Dep nn n (depZ nn n) := by
  have h' := h
  unfold underN at h'
  cases hn : nameL n with
  | none => rw [hn] at h'; cases h'
  | some L =>
    cases hm : nameL nn with
    | none => rw [hn, hm] at h'; cases h'
    | some M =>
      rw [hn, hm] at h'
      have hs : M.map lowS <:+ L.map lowS := of_decide_eq_true h'
      have hl := hs.length_le
      simp only [List.length_map] at hl
      have e1 : labsZ n = L := by unfold labsZ; rw [hn]; rfl
      have e2 : labsZ nn = M := by unfold labsZ; rw [hm]; rfl
      exact ⟨h, by rw [e1]; exact hn, by rw [e2]; exact hm, by unfold depZ; rw [e1, e2]; omega, by rw [e1, e2]; exact hs⟩
theorem under_small {nn n : List UInt8} (h : underN n nn = true) : n.length ≤ 255 := (nameL_is (dep_of h).name).2.2
theorem labs_drop_le (L : List (List UInt8)) : ∀ i, (enc (L.drop i)).length ≤ (enc L).length := by
  intro i
  have h : labs L = labs (L.take i) ++ labs (L.drop i) := by rw [← labs_append, List.take_append_drop]
  unfold enc
  rw [List.length_append, List.length_append, h, List.length_append]
  omega
theorem nameL_drop {n : List UInt8} {L : List (List UInt8)} (h : nameL n = some L) (i : Nat) : nameL (enc (L.drop i)) = some (L.drop i) := by
  obtain ⟨h1, h2, h3⟩ := nameL_is h
  refine nameL_enc (fun x hx => h2 x (List.mem_of_mem_drop hx)) ?_
  have := labs_drop_le L i
  rw [← h1] at this
  omega
namespace Dep
variable {nn n : List UInt8} {k : Nat}
theorem up_name (h : Dep nn n k) (i : Nat) : nameL (upZ n i) = some ((labsZ n).drop i) := nameL_drop h.name i
theorem up_zero (h : Dep nn n k) : upZ n 0 = n := ((nameL_is h.name).1).symm
theorem up_small (h : Dep nn n k) (i : Nat) : (upZ n i).length ≤ 255 := (nameL_is (h.up_name i)).2.2
theorem up_suf (h : Dep nn n k) {i : Nat} (hi : i ≤ k) : (labsZ nn).map lowS <:+ ((labsZ n).drop i).map lowS := by
  obtain ⟨T, hT⟩ := h.suf
  have hl := congrArg List.length hT
  simp only [List.length_append, List.length_map] at hl
  have := h.len
  refine ⟨T.drop i, ?_⟩
  rw [List.map_drop, ← hT, List.drop_append_of_le_length (by omega)]
theorem up_under (h : Dep nn n k) {i : Nat} (hi : i ≤ k) : underN (upZ n i) nn = true := by
  unfold underN
  rw [h.up_name, h.apex]
  exact decide_eq_true (h.up_suf hi)
theorem up_alike (h : Dep nn n k) {i : Nat} (hi : i ≤ k) : alikeN (upZ n i) nn = decide (i = k) := by
  unfold alikeN
  rw [h.up_name, h.apex]
  refine decide_eq_decide.2 ?_
  have hl := h.len
  constructor
  · intro e
    have := congrArg List.length e
    simp only [List.length_map, List.length_drop] at this
    omega
  · intro e
    refine (List.IsSuffix.eq_of_length (h.up_suf hi) ?_).symm
    simp only [List.length_map, List.length_drop]
    omega
theorem up_parent (h : Dep nn n k) {i : Nat} (hi : i < k) : parentN (upZ n i) = (upZ n (i + 1), true) := by
  have hl := h.len
  have hlt : i < (labsZ n).length := by omega
  unfold parentN
  rw [h.up_name, List.drop_eq_getElem_cons hlt]
  rfl
theorem up_few (h : Dep nn n k) : k ≤ 255 := by
  have hl := h.len
  have hs := (nameL_is h.name)
  have : (labsZ n).length ≤ (enc (labsZ n)).length := by
    have : ∀ L : List (List UInt8), L.length ≤ (labs L).length := by
      intro L
      induction L with
      | nil => simp
      | cons x L ih =>
        have : labs (x :: L) = lab x ++ labs L := rfl
        rw [this, List.length_append, lab_len, List.length_cons]
        omega
    have h2 := this (labsZ n)
    unfold enc
    rw [List.length_append]
    omega
  rw [← hs.1] at this
  omega
end Dep
theorem up_labs {nn n : List UInt8} {k : Nat} (h : Dep nn n k) (i : Nat) : labsZ (upZ n i) = (labsZ n).drop i := by unfold labsZ; rw [show nameL (upZ n i) = _ from h.up_name i]; rfl
theorem up_up {nn n : List UInt8} {k : Nat} (h : Dep nn n k) (i j : Nat) : upZ (upZ n i) j = upZ n (i + j) := by
  show enc ((labsZ (upZ n i)).drop j) = _
  rw [up_labs h, List.drop_drop]; rfl
theorem up_dep {nn n : List UInt8} {k : Nat} (h : Dep nn n k) {i : Nat} (hi : i ≤ k) : Dep nn (upZ n i) (k - i) := by
  refine ⟨h.up_under hi, ?_, h.apex, ?_, ?_⟩
  · rw [h.up_name, up_labs h]
  · have := h.len; rw [up_labs h, List.length_drop]; omega
  · rw [up_labs h]; exact h.up_suf hi

/-- the records of a name and a type -/
def setZ (D : List Rrd) (t : Int) (n : List UInt8) : List Rrd := typX t (atX n D)
def knownZ (D : List Rrd) (n : List UInt8) : Bool := thereX n D || emptyX n D
/-- the cut of a name k labels below the apex; the next one looked at is i labels up -/
def cutF (D : List Rrd) (n : List UInt8) : Nat → Nat → Option (List UInt8)
  | 0, _ => none
  | k + 1, i => match cutF D n k (i + 1) with
    | some c => some c
    | none => if (setZ D 2 (upZ n i)).isEmpty then none else some (upZ n i)
def clsF (D : List Rrd) (n : List UInt8) : Nat → Nat → Option (List UInt8)
  | 0, _ => none
  | k + 1, i => if knownZ D (upZ n (i + 1)) then some (upZ n (i + 1)) else clsF D n k (i + 1)
def cutZ (D : List Rrd) (nn n : List UInt8) : Option (List UInt8) := if underN n nn = true then cutF D n (depZ nn n) 0 else none
def clsZ (D : List Rrd) (nn n : List UInt8) : Option (List UInt8) := if underN n nn = true then clsF D n (depZ nn n) 0 else none
theorem cutF_none {D : List Rrd} {n : List UInt8} : ∀ {k i : Nat}, (∀ j, i ≤ j → j < i + k → (setZ D 2 (upZ n j)).isEmpty = true) → cutF D n k i = none
  | 0, _, _ => rfl
  | k + 1, i, h => by
    rw [cutF, cutF_none (fun j h1 h2 => h j (by omega) (by omega))]
    show (if (setZ D 2 (upZ n i)).isEmpty = true then none else some (upZ n i)) = none
    rw [if_pos (h i (Nat.le_refl _) (by omega))]
theorem cutF_some {D : List Rrd} {n : List UInt8} : ∀ {k i j : Nat}, i ≤ j → j < i + k → (setZ D 2 (upZ n j)).isEmpty = false → (∀ q, j < q → q < i + k → (setZ D 2 (upZ n q)).isEmpty = true) → cutF D n k i = some (upZ n j)
  | 0, _, _, h1, h2, _, _ => by omega
  | k + 1, i, j, h1, h2, h3, h4 => by
    rw [cutF]
    by_cases e : j = i
    · subst e
      rw [cutF_none (fun q a b => h4 q (by omega) (by omega))]
      show (if (setZ D 2 (upZ n j)).isEmpty = true then none else some (upZ n j)) = _
      rw [if_neg (by rw [h3]; simp)]
    · rw [cutF_some (k := k) (i := i + 1) (j := j) (by omega) (by omega) h3 (fun q a b => h4 q a (by omega))]
theorem clsF_none {D : List Rrd} {n : List UInt8} : ∀ {k i : Nat}, (∀ j, i < j → j ≤ i + k → knownZ D (upZ n j) = false) → clsF D n k i = none
  | 0, _, _ => rfl
  | k + 1, i, h => by
    rw [clsF, if_neg (by rw [h (i + 1) (by omega) (by omega)]; simp)]
    exact clsF_none (fun j a b => h j (by omega) (by omega))
theorem clsF_some {D : List Rrd} {n : List UInt8} : ∀ {k i j : Nat}, i < j → j ≤ i + k → knownZ D (upZ n j) = true → (∀ q, i < q → q < j → knownZ D (upZ n q) = false) → clsF D n k i = some (upZ n j)
  | 0, _, _, h1, h2, _, _ => by omega
  | k + 1, i, j, h1, h2, h3, h4 => by
    rw [clsF]
    by_cases e : j = i + 1
    · subst e; rw [if_pos h3]
    · rw [if_neg (by rw [h4 (i + 1) (by omega) (by omega)]; simp)]
      exact clsF_some (by omega) (by omega) h3 (fun q a b => h4 q (by omega) b)
theorem cutF_up {D : List Rrd} {n c : List UInt8} : ∀ {k i : Nat}, cutF D n k i = some c → ∃ j, i ≤ j ∧ j < i + k ∧ c = upZ n j ∧ (setZ D 2 c).isEmpty = false
  | 0, _, h => by cases h
  | k + 1, i, h => by
    rw [cutF] at h
    cases hc : cutF D n k (i + 1) with
    | some c' =>
      rw [hc] at h
      obtain rfl : c' = c := by simpa using h
      obtain ⟨j, h1, h2, h3, h4⟩ := cutF_up hc
      exact ⟨j, by omega, by omega, h3, h4⟩
    | none =>
      rw [hc] at h
      by_cases e : (setZ D 2 (upZ n i)).isEmpty = true
      · simp [e] at h
      · simp only [e] at h
        obtain rfl : upZ n i = c := by simpa using h
        exact ⟨i, Nat.le_refl _, by omega, rfl, by simpa using e⟩
theorem clsF_up {D : List Rrd} {n c : List UInt8} : ∀ {k i : Nat}, clsF D n k i = some c → ∃ j, i < j ∧ j ≤ i + k ∧ c = upZ n j ∧ knownZ D c = true
  | 0, _, h => by cases h
  | k + 1, i, h => by
    rw [clsF] at h
    by_cases e : knownZ D (upZ n (i + 1)) = true
    · rw [if_pos e] at h
      obtain rfl : upZ n (i + 1) = c := by simpa using h
      exact ⟨i + 1, by omega, by omega, rfl, e⟩
    · rw [if_neg e] at h
      obtain ⟨j, h1, h2, h3, h4⟩ := clsF_up h
      exact ⟨j, by omega, by omega, h3, h4⟩
theorem cutF_shift {D : List Rrd} {nn n : List UInt8} {k0 : Nat} (hd : Dep nn n k0) : ∀ {k i : Nat}, cutF D n k (i + 1) = cutF D (upZ n 1) k i
  | 0, _ => rfl
  | k + 1, i => by
    rw [cutF, cutF, cutF_shift hd (k := k) (i := i + 1), up_up hd, Nat.add_comm 1 i]
theorem clsF_shift {D : List Rrd} {nn n : List UInt8} {k0 : Nat} (hd : Dep nn n k0) : ∀ {k i : Nat}, clsF D n k (i + 1) = clsF D (upZ n 1) k i
  | 0, _ => rfl
  | k + 1, i => by
    rw [clsF, clsF, clsF_shift hd (k := k) (i := i + 1), up_up hd, Nat.add_comm 1 (i + 1)]
theorem cutZ_no {D : List Rrd} {nn n : List UInt8} (h : underN n nn = false) : cutZ D nn n = none := by unfold cutZ; rw [if_neg (by rw [h]; simp)]
theorem clsZ_no {D : List Rrd} {nn n : List UInt8} (h : underN n nn = false) : clsZ D nn n = none := by unfold clsZ; rw [if_neg (by rw [h]; simp)]
theorem dep_alike {nn n : List UInt8} {k : Nat} (h : Dep nn n k) : alikeN n nn = decide (k = 0) := by
  have := h.up_alike (Nat.zero_le _)
  rw [h.up_zero] at this
  rw [this]
  exact decide_eq_decide.2 eq_comm
theorem depZ_is {nn n : List UInt8} {k : Nat} (h : Dep nn n k) : depZ nn n = k := by have := h.len; unfold depZ; omega
theorem cutZ_apex {D : List Rrd} {nn n : List UInt8} (h : alikeN n nn = true) : cutZ D nn n = none := by
  cases hu : underN n nn with
  | false => exact cutZ_no hu
  | true =>
    have hd := dep_of hu
    rw [dep_alike hd] at h
    unfold cutZ
    rw [if_pos hu, of_decide_eq_true h]
    rfl
theorem clsZ_apex {D : List Rrd} {nn n : List UInt8} (h : alikeN n nn = true) : clsZ D nn n = none := by
  cases hu : underN n nn with
  | false => exact clsZ_no hu
  | true =>
    have hd := dep_of hu
    rw [dep_alike hd] at h
    unfold clsZ
    rw [if_pos hu, of_decide_eq_true h]
    rfl
/-- the parent of a name below the apex -/
theorem dep_parent {nn n : List UInt8} (hu : underN n nn = true) (ha : alikeN n nn = false) : ∃ p, parentN n = (p, true) ∧ p = upZ n 1 ∧ Dep nn p (depZ nn n - 1) ∧ 0 < depZ nn n := by
  have hd := dep_of hu
  rw [dep_alike hd] at ha
  have h0 : 0 < depZ nn n := by have := of_decide_eq_false ha; omega
  have hp := hd.up_parent h0
  rw [hd.up_zero] at hp
  exact ⟨_, hp, rfl, up_dep hd (by omega), h0⟩
theorem cutZ_step {D : List Rrd} {nn n : List UInt8} (hu : underN n nn = true) (ha : alikeN n nn = false) :
    cutZ D nn n = match cutZ D nn (parentN n).1 with
      | some c => some c
      | none => if (setZ D 2 n).isEmpty then none else some n := by
  obtain ⟨p, hp, he, hd, h0⟩ := dep_parent hu ha
  rw [hp]
  obtain ⟨k, hk⟩ : ∃ k, depZ nn n = k + 1 := ⟨depZ nn n - 1, by omega⟩
  have hn := dep_of hu
  unfold cutZ
  rw [if_pos hu, if_pos hd.under, depZ_is hd, hk, cutF, cutF_shift hn, hn.up_zero, he]
  rfl
theorem clsZ_step {D : List Rrd} {nn n : List UInt8} (hu : underN n nn = true) (ha : alikeN n nn = false) :
    clsZ D nn n = if knownZ D (parentN n).1 then some (parentN n).1 else clsZ D nn (parentN n).1 := by
  obtain ⟨p, hp, he, hd, h0⟩ := dep_parent hu ha
  rw [hp]
  obtain ⟨k, hk⟩ : ∃ k, depZ nn n = k + 1 := ⟨depZ nn n - 1, by omega⟩
  have hn := dep_of hu
  unfold clsZ
  rw [if_pos hu, if_pos hd.under, depZ_is hd, hk, clsF, clsF_shift hn, he]
  rfl

/-! ### the negative SOA, what a name has, the answer -/
def minZ (d : List UInt8) : Int := (num (d.drop (d.length - 4)) : Nat)
def negR (s : Rrd) : Rrd := { s with l := if minZ s.toRec.d < s.l then minZ s.toRec.d else s.l }
def noZ (D : List Rrd) : Rrd := match typX 6 D with | [s] => negR s | _ => ⟨⟨#[]⟩, 0, 0, 0, ⟨#[]⟩⟩
def renZ (n : List UInt8) (x : Rrd) : Rrd := { x with s := mk n }
def starZ (D : List Rrd) (nn n : List UInt8) : List UInt8 := (ofN ([42] :: labsZ ((clsZ D nn n).getD []))).1
def fndZ (D : List Rrd) (nn n : List UInt8) : List Rrd × Bool :=
  if underN n nn = true then
    if knownZ D n = true then (atX n D, true) else ((atX (starZ D nn n) D).map (renZ n), !(atX (starZ D nn n) D).isEmpty)
  else ([], false)
structure Ans where
  rc : Int
  aa : Bool
  an : List Rrd
  ns : List Rrd
  ad : List Rrd
/-- the addresses of the name in a record's data, if it is under the cut -/
def hostZ (D : List Rrd) (c : List UInt8) (r : Rrd) : List Rrd := if underN r.toRec.d c = true then setZ D 1 r.toRec.d ++ setZ D 28 r.toRec.d else []
def referZ (D : List Rrd) (c : List UInt8) (a : Ans) : Ans := { a with aa := decide (0 < a.an.length), ns := setZ D 2 c, ad := (setZ D 2 c).flatMap (hostZ D c) }
def followZ (nn : List UInt8) (all : List (List UInt8)) (to : List UInt8) : Bool := underN to nn && (!(all.any fun m => alikeN m to) && decide (all.length < 8))
def aliasZ (l : List Rrd) : List UInt8 := match l with | x :: _ => x.toRec.d | [] => []
/-- one visit: the answer, and the name with which it continues -/
def stepZ (D : List Rrd) (nn : List UInt8) (t : Int) (a : Ans) (asked : List (List UInt8)) (n : List UInt8) : Ans × (List UInt8 × Bool) :=
  match cutZ D nn n with
  | some c => (referZ D c a, [], false)
  | none =>
    if (fndZ D nn n).2 = true then
      if t = 255 then ({ a with aa := true, an := a.an ++ (fndZ D nn n).1 }, [], false)
      else if t ≠ 5 ∧ 0 < (typX 5 (fndZ D nn n).1).length then
        ({ a with aa := true, an := a.an ++ typX 5 (fndZ D nn n).1 }, aliasZ (typX 5 (fndZ D nn n).1), followZ nn (asked ++ [n]) (aliasZ (typX 5 (fndZ D nn n).1)))
      else ({ a with aa := true, an := a.an ++ typX t (fndZ D nn n).1, ns := if (typX t (fndZ D nn n).1).length = 0 then [noZ D] else a.ns }, [], false)
    else ({ a with rc := 3, aa := true, ns := [noZ D] }, [], false)
def askF (D : List Rrd) (nn : List UInt8) (t : Int) : Nat → Ans → List (List UInt8) → List UInt8 → Ans
  | 0, a, _, _ => a
  | f + 1, a, asked, n => if (stepZ D nn t a asked n).2.2 = true then askF D nn t f (stepZ D nn t a asked n).1 (asked ++ [n]) (stepZ D nn t a asked n).2.1 else (stepZ D nn t a asked n).1
def ansO : Ans := ⟨0, false, [], [], []⟩
def askZ (D : List Rrd) (nn : List UInt8) (n : List UInt8) (t : Int) : Ans := if underN n nn = true then askF D nn t 8 ansO [] n else { ansO with rc := 5 }
end Go.Proofs.YtkgihfoknpimfaaGreat
namespace Go.Proofs.YtkgihfoknpimfaaGreat
open Go.Op

theorem name_labs {n : List UInt8} (h : (nameL n).isSome = true) : nameL n = some (labsZ n) := by
  unfold labsZ
  cases e : nameL n with
  | none => rw [e] at h; cases h
  | some L => rfl
theorem alike_sym' {a b : List UInt8} (h : alikeN a b = true) : alikeN b a = true := by
  unfold alikeN at h ⊢
  cases ha : nameL a with
  | none => rw [ha] at h; cases h
  | some L =>
    cases hb : nameL b with
    | none => rw [ha, hb] at h; cases h
    | some M =>
      rw [ha, hb] at h
      exact decide_eq_true (of_decide_eq_true h).symm
theorem alike_is {a b : List UInt8} (h : alikeN a b = true) : (nameL a).isSome = true ∧ (nameL b).isSome = true ∧ keyN a = keyN b := by
  have h' := h
  unfold alikeN at h'
  cases ha : nameL a with
  | none => rw [ha] at h'; cases h'
  | some L =>
    cases hb : nameL b with
    | none => rw [ha, hb] at h'; cases h'
    | some M =>
      refine ⟨rfl, rfl, ?_⟩
      rw [alike_key (by rw [ha]; rfl) (by rw [hb]; rfl)] at h
      exact of_decide_eq_true h
theorem alike_to {a b : List UInt8} (h : alikeN a b = true) (x : List UInt8) : alikeN x a = alikeN x b := by
  obtain ⟨h1, h2, h3⟩ := alike_is h
  cases hx : (nameL x).isSome with
  | false =>
    unfold alikeN
    cases e : nameL x with
    | none => rfl
    | some L => rw [e] at hx; cases hx
  | true => rw [alike_key hx h1, alike_key hx h2, h3]
theorem at_alike {a b : List UInt8} (h : alikeN a b = true) (D : List Rrd) : atX a D = atX b D := by
  unfold atX
  exact List.filter_congr fun x _ => alike_to h (nmX x)
theorem apex_known {nn : List UInt8} {D : List Rrd} (gz : GoodZ nn D) {m : List UInt8} (h : alikeN m nn = true) : knownZ D m = true := by
  have hz := gz.isz
  unfold isZ at hz
  rw [Bool.and_eq_true, Bool.and_eq_true, Bool.and_eq_true, decide_eq_true_eq, decide_eq_true_eq] at hz
  have h1 := hz.2.2.1
  unfold knownZ
  rw [there_is gz.ks gz.ok, at_alike h]
  have : atX nn D ≠ [] := by
    intro e
    rw [e] at h1
    simp [typX] at h1
  cases hc : atX nn D with
  | nil => exact absurd hc this
  | cons x l => rfl
theorem clsF_all {D : List Rrd} {n : List UInt8} : ∀ {k i : Nat}, clsF D n k i = none → ∀ j, i < j → j ≤ i + k → knownZ D (upZ n j) = false
  | 0, _, _, j, h1, h2 => by omega
  | k + 1, i, h, j, h1, h2 => by
    rw [clsF] at h
    by_cases e : knownZ D (upZ n (i + 1)) = true
    · rw [if_pos e] at h; cases h
    · rw [if_neg e] at h
      by_cases hj : j = i + 1
      · subst hj; simpa using e
      · exact clsF_all h j (by omega) (by omega)
theorem cls_there {nn n : List UInt8} {D : List Rrd} (gz : GoodZ nn D) (hu : underN n nn = true) (hk : knownZ D n = false) :
    ∃ j, 0 < j ∧ j ≤ depZ nn n ∧ clsZ D nn n = some (upZ n j) := by
  have hd := dep_of hu
  have h0 : depZ nn n ≠ 0 := by
    intro e
    have ha : alikeN n nn = true := by rw [dep_alike hd]; exact decide_eq_true e
    rw [apex_known gz ha] at hk
    cases hk
  unfold clsZ
  rw [if_pos hu]
  cases hc : clsF D n (depZ nn n) 0 with
  | some c =>
    obtain ⟨j, h1, h2, h3, _⟩ := clsF_up hc
    exact ⟨j, h1, by omega, by rw [h3]⟩
  | none =>
    have h1 := clsF_all hc (depZ nn n) (by omega) (by omega)
    rw [apex_known gz (by rw [hd.up_alike (Nat.le_refl _)]; exact decide_eq_true rfl)] at h1
    cases h1
theorem star_is {nn n : List UInt8} {D : List Rrd} (gz : GoodZ nn D) (hu : underN n nn = true) (hk : knownZ D n = false) :
    ∃ c, clsZ D nn n = some c ∧ nameL c = some (labsZ c) ∧ c.length ≤ 255 ∧ ofN ([42] :: labsZ c) = (starZ D nn n, 0) ∧ nameL (starZ D nn n) = some ([42] :: labsZ c) ∧ (starZ D nn n).length ≤ 255 := by
  obtain ⟨j, h1, h2, h3⟩ := cls_there gz hu hk
  have hd := dep_of hu
  have hl := hd.len
  have hc : labsZ (upZ n j) = (labsZ n).drop j := up_labs hd j
  have hg : Good (labsZ n) := (nameL_is hd.name).2.1
  have hgood : Good ([42] :: (labsZ n).drop j) := by
    intro x hx
    rcases List.mem_cons.1 hx with rfl | hx
    · exact ⟨by simp, by simp⟩
    · exact hg x (List.mem_of_mem_drop hx)
  have hlen : (enc ([42] :: (labsZ n).drop j)).length ≤ 255 := by
    obtain ⟨i, hi⟩ : ∃ i, j = i + 1 := ⟨j - 1, by omega⟩
    have hlt : i < (labsZ n).length := by omega
    have h4 : (enc ((labsZ n).drop i)).length ≤ 255 := hd.up_small i
    rw [List.drop_eq_getElem_cons hlt, enc_cons, List.length_append, lab_len] at h4
    have h5 : (labsZ n)[i] ≠ [] := (hg _ (List.getElem_mem hlt)).1
    have h6 : 0 < (labsZ n)[i].length := List.length_pos_iff.2 h5
    rw [enc_cons, List.length_append, lab_len, hi]
    simp only [List.length_singleton]
    omega
  have hof : ofN ([42] :: (labsZ n).drop j) = (enc ([42] :: (labsZ n).drop j), 0) := by
    refine ofN_ok (fun h => (hgood _ h).1 rfl) ?_
    rintro (⟨x, hx, h⟩ | h)
    · have := (hgood x hx).2; omega
    · omega
  have hs : starZ D nn n = enc ([42] :: (labsZ n).drop j) := by
    unfold starZ
    rw [h3]
    show (ofN ([42] :: labsZ (upZ n j))).1 = _
    rw [hc, hof]
  refine ⟨_, h3, by rw [hc]; exact hd.up_name j, hd.up_small j, by rw [hc, hof, hs], by rw [hs, hc]; exact nameL_enc hgood hlen, by rw [hs]; exact hlen⟩
end Go.Proofs.YtkgihfoknpimfaaGreat
namespace Go.Proofs.YtkgihfoknpimfaaGreat
open Go.RowKit Go.Op
set_option linter.unusedVariables false

def optE (o : Option (List UInt8)) : Ending := .returned (.tuple #[.string (mk (o.getD [])), .bool o.isSome])
theorem known_ref {nn : List UInt8} {D : List Rrd} (gz : GoodZ nn D) (n : List UInt8) : knownZ D n = (!(atX n D).isEmpty || ((atX n D).isEmpty && D.any fun x => underN (nmX x) n)) := by
  unfold knownZ
  rw [there_is gz.ks gz.ok, empty_is gz.ks gz.ok]
set_option maxHeartbeats 8000000 in
set_option maxRecDepth 20000 in
theorem ZRefSet_any (N : ByteArray) (D : List Rrd) (v : Value) (w : World) (hz : ZRefAt w w.heap.size N D v) (P : ByteArray) (n : List UInt8) (t : Int) (hP : P = mk n) (hn : D.length ≤ 1000000) :
    Calls Tryz.prog 51 #[v, .string P, .int .i64 t] w fun e w' => ∃ u, e = .returned u ∧ w'.ownsRow w.heap.size 26 5 u (typX t (atX n D)).length (rcells (typX t (atX n D))) ∧ Below w.heap.size w w' := by
  obtain ⟨A, c, rfl, hs, hcap⟩ := hz
  exact RefSet_any A D.length c N n P D t w hP hs hn
theorem empty_len {α : Type} (l : List α) : l.isEmpty = decide (l.length = 0) := by cases l <;> simp
set_option maxHeartbeats 8000000 in
set_option maxRecDepth 20000 in
theorem RZCut_any (N : ByteArray) (nn : List UInt8) (D : List Rrd) (gz : GoodZ nn D) (hN : N = mk nn) : ∀ (k : Nat) (P : ByteArray) (n : List UInt8) (v : Value) (w : World), P = mk n → ZRefAt w w.heap.size N D v → depZ nn n ≤ k →
    Calls Tryz.prog 16 #[v, .string P] w fun e w' => e = optE (cutZ D nn n) ∧ Below w.heap.size w w' := by
  intro k
  induction k using Nat.strongRecOn with
  | _ k ih =>
  intro P n v w hP hz hk
  have HZV := Lib.hid hz
  obtain ⟨A, c, rfl, hs, hcap⟩ := hz
  have hw0 := Whole.new w rzT #[.string N, .slice A D.length c]
  have hB0 : Below w.heap.size w (w.alloc (.cells #[.string N, .slice A D.length c] rzT)) := (Below.refl _ _).alloc (Nat.le_refl _) _
  have c0 := (hw0.cell 0).trans rfl
  have c1 := (hw0.cell 1).trans rfl
  have HW0 := Lib.hid hw0
  have HZ0 := Lib.hid (HZV.out.later hB0)
  have HB0 := Lib.hid hB0
  have GZ := Lib.hid gz
  have HN := Lib.hid hN
  clear hw0 hB0 hs hcap
  clear hN
  clear gz
  have HP := Lib.hid hP
  have HK := Lib.hid hk
  clear hP hk
  cases hu : underN n nn with
  | false =>
    have HU := Lib.hid (show cutZ D nn n = none from cutZ_no hu)
    go_enter Tryz.func16, Tryz.ntmps16
    go_wp2_with fail
    refine (RefUnder_any P N n nn _ HP.out HN.out).mono ?_
    rw [hu]
    clear hu
    rintro e w1 ⟨rfl, hB⟩
    have hw1 := HW0.out.below hB HW0.out.lt
    have c0 := (hw1.cell 0).trans rfl
    have c1 := (hw1.cell 1).trans rfl
    have HW1 := Lib.hid hw1
    have HZ1 := Lib.hid (HZ0.out.later hB)
    have HB1 := Lib.hid (HB0.out.trans (hB.mono HB0.out.size))
    clear hB hw1
    go_wp2_with fail
    go_ret2
    exact ⟨by rw [HU.out]; rfl, HB1.out⟩
  | true =>
    have HU := Lib.hid hu
    cases ha : alikeN n nn with
    | true =>
      have HC := Lib.hid (show cutZ D nn n = none from cutZ_apex ha)
      go_enter Tryz.func16, Tryz.ntmps16
      go_wp2_with fail
      refine (RefUnder_any P N n nn _ HP.out HN.out).mono ?_
      rw [hu]
      clear hu
      rintro e w1 ⟨rfl, hB⟩
      have hw1 := HW0.out.below hB HW0.out.lt
      have c0 := (hw1.cell 0).trans rfl
      have c1 := (hw1.cell 1).trans rfl
      have HW1 := Lib.hid hw1
      have HZ1 := Lib.hid (HZ0.out.later hB)
      have HB1 := Lib.hid (HB0.out.trans (hB.mono HB0.out.size))
      clear hB hw1
      go_wp2_with fail
      refine (RefAlike_any P N n nn _ HP.out HN.out).mono ?_
      rw [ha]
      clear ha
      rintro e w2 ⟨rfl, hB⟩
      have hw2 := HW1.out.below hB HW1.out.lt
      have c0 := (hw2.cell 0).trans rfl
      have c1 := (hw2.cell 1).trans rfl
      have HW2 := Lib.hid hw2
      have HZ2 := Lib.hid (HZ1.out.later hB)
      have HB2 := Lib.hid (HB1.out.trans (hB.mono HB1.out.size))
      clear hB hw2
      go_wp2_with fail
      go_ret2
      exact ⟨by rw [HC.out]; rfl, HB2.out⟩
    | false =>
      have HSTEP := Lib.hid (cutZ_step (D := D) hu ha)
      obtain ⟨p, hp, hpe, hdp, h0⟩ := dep_parent hu ha
      have hpk : depZ nn p ≤ k - 1 := by rw [depZ_is hdp]; have := HK.out; omega
      have hk1 : k - 1 < k := by have := HK.out; omega
      have HIH := Lib.hid (fun (w : World) (h : ZRefAt w w.heap.size N D (.agg #[.string N, .slice A D.length c])) => ih (k - 1) hk1 (mk p) p (.agg #[.string N, .slice A D.length c]) w rfl h hpk)
      have HPP := Lib.hid hp
      obtain ⟨M, hM⟩ : ∃ M, M = mk p := ⟨_, rfl⟩
      rw [← hM] at HIH
      have HM := Lib.hid hM
      clear hp hpe hdp h0 hpk hk1 hM
      clear ih
      go_enter Tryz.func16, Tryz.ntmps16
      go_wp2_with fail
      refine (RefUnder_any P N n nn _ HP.out HN.out).mono ?_
      rw [hu]
      clear hu
      rintro e w1 ⟨rfl, hB⟩
      have hw1 := HW0.out.below hB HW0.out.lt
      have c0 := (hw1.cell 0).trans rfl
      have c1 := (hw1.cell 1).trans rfl
      have HW1 := Lib.hid hw1
      have HZ1 := Lib.hid (HZ0.out.later hB)
      have HB1 := Lib.hid (HB0.out.trans (hB.mono HB0.out.size))
      clear hB hw1
      go_wp2_with fail
      refine (RefAlike_any P N n nn _ HP.out HN.out).mono ?_
      rw [ha]
      clear ha
      rintro e w2 ⟨rfl, hB⟩
      have hw2 := HW1.out.below hB HW1.out.lt
      have c0 := (hw2.cell 0).trans rfl
      have c1 := (hw2.cell 1).trans rfl
      have HW2 := Lib.hid hw2
      have HZ2 := Lib.hid (HZ1.out.later hB)
      have HB2 := Lib.hid (HB1.out.trans (hB.mono HB1.out.size))
      clear hB hw2
      go_wp2_with fail
      refine (RefParent_any P n _ HP.out).mono ?_
      rw [HPP.out]
      rw [← HM.out]
      rintro e w3 ⟨rfl, hB⟩
      have hw3 := HW2.out.below hB HW2.out.lt
      have c0 := (hw3.cell 0).trans rfl
      have c1 := (hw3.cell 1).trans rfl
      have HW3 := Lib.hid hw3
      have HZ3 := Lib.hid (HZ2.out.later hB)
      have HB3 := Lib.hid (HB2.out.trans (hB.mono HB2.out.size))
      clear hB hw3
      go_wp2_with fail
      refine (HIH.out _ HZ3.out).mono ?_
      unfold optE
      cases hc : cutZ D nn p with
      | some c' =>
        have HC := Lib.hid (show cutZ D nn n = some c' by rw [HSTEP.out, HPP.out, hc])
        obtain ⟨C, hC⟩ : ∃ C, C = mk ((some c' : Option (List UInt8)).getD []) := ⟨_, rfl⟩
        rw [← hC]
        have HCC := Lib.hid hC
        clear hC hc
        rintro e w4 ⟨rfl, hB⟩
        have hw4 := HW3.out.below hB HW3.out.lt
        have c0 := (hw4.cell 0).trans rfl
        have c1 := (hw4.cell 1).trans rfl
        have HW4 := Lib.hid hw4
        have HZ4 := Lib.hid (HZ3.out.later hB)
        have HB4 := Lib.hid (HB3.out.trans (hB.mono HB3.out.size))
        clear hB hw4
        go_wp2_with fail
        go_ret2
        exact ⟨by rw [HC.out, HCC.out]; rfl, HB4.out⟩
      | none =>
        have HC := Lib.hid (show cutZ D nn n = if (setZ D 2 n).isEmpty then none else some n by rw [HSTEP.out, HPP.out, hc])
        clear hc
        rintro e w4 ⟨rfl, hB⟩
        have hw4 := HW3.out.below hB HW3.out.lt
        have c0 := (hw4.cell 0).trans rfl
        have c1 := (hw4.cell 1).trans rfl
        have HW4 := Lib.hid hw4
        have HZ4 := Lib.hid (HZ3.out.later hB)
        have HB4 := Lib.hid (HB3.out.trans (hB.mono HB3.out.size))
        clear hB hw4
        go_wp2_with fail
        refine (ZRefSet_any N D _ _ HZ4.out P n 2 HP.out (by have := GZ.out.len; omega)).mono ?_
        obtain ⟨z, hz⟩ : ∃ z, z = (typX 2 (atX n D)).length := ⟨_, rfl⟩
        have HZE := Lib.hid (show (setZ D 2 n).isEmpty = decide (z = 0) by rw [hz]; exact empty_len _)
        rw [← hz]
        rintro e w5 ⟨v5, rfl, ho, hB⟩
        rw [hz] at ho
        obtain ⟨A5, c5, rfl, _, _⟩ := own_sees ho
        try rw [← hz]
        clear hz ho
        have hw5 := HW4.out.below hB HW4.out.lt
        have c0 := (hw5.cell 0).trans rfl
        have c1 := (hw5.cell 1).trans rfl
        have HW5 := Lib.hid hw5
        have HZ5 := Lib.hid (HZ4.out.later hB)
        have HB5 := Lib.hid (HB4.out.trans (hB.mono HB4.out.size))
        clear hB hw5
        by_cases hz0 : z = 0
        · subst hz0
          go_wp2_with fail
          go_ret2
          exact ⟨by rw [HC.out, HZE.out]; rfl, HB5.out⟩
        · have hzp : (0 : Int) < (z : Int) := by omega
          have HZF := Lib.hid (show (setZ D 2 n).isEmpty = false by rw [HZE.out]; exact decide_eq_false hz0)
          go_wp2_with fail
          go_ret2
          exact ⟨by rw [HC.out, HZF.out, HP.out]; rfl, HB5.out⟩
set_option maxHeartbeats 8000000 in
set_option maxRecDepth 20000 in
theorem RZClosest_any (N : ByteArray) (nn : List UInt8) (D : List Rrd) (gz : GoodZ nn D) (hN : N = mk nn) : ∀ (k : Nat) (P : ByteArray) (n : List UInt8) (v : Value) (w : World), P = mk n → ZRefAt w w.heap.size N D v → depZ nn n ≤ k →
    Calls Tryz.prog 18 #[v, .string P] w fun e w' => e = optE (clsZ D nn n) ∧ Below w.heap.size w w' := by
  intro k
  induction k using Nat.strongRecOn with
  | _ k ih =>
  intro P n v w hP hz hk
  have HZV := Lib.hid hz
  obtain ⟨A, c, rfl, hs, hcap⟩ := hz
  have hw0 := Whole.new w rzT #[.string N, .slice A D.length c]
  have hB0 : Below w.heap.size w (w.alloc (.cells #[.string N, .slice A D.length c] rzT)) := (Below.refl _ _).alloc (Nat.le_refl _) _
  have c0 := (hw0.cell 0).trans rfl
  have c1 := (hw0.cell 1).trans rfl
  have HW0 := Lib.hid hw0
  have HZ0 := Lib.hid (HZV.out.later hB0)
  have HB0 := Lib.hid hB0
  have GZ := Lib.hid gz
  have HN := Lib.hid hN
  clear hw0 hB0 hs hcap
  clear hN
  clear gz
  have HP := Lib.hid hP
  have HK := Lib.hid hk
  clear hP hk
  cases hu : underN n nn with
  | false =>
    have HU := Lib.hid (show clsZ D nn n = none from clsZ_no hu)
    go_enter Tryz.func18, Tryz.ntmps18
    go_wp2_with fail
    refine (RefUnder_any P N n nn _ HP.out HN.out).mono ?_
    rw [hu]
    clear hu
    rintro e w1 ⟨rfl, hB⟩
    have hw1 := HW0.out.below hB HW0.out.lt
    have c0 := (hw1.cell 0).trans rfl
    have c1 := (hw1.cell 1).trans rfl
    have HW1 := Lib.hid hw1
    have HZ1 := Lib.hid (HZ0.out.later hB)
    have HB1 := Lib.hid (HB0.out.trans (hB.mono HB0.out.size))
    clear hB hw1
    go_wp2_with fail
    go_ret2
    exact ⟨by rw [HU.out]; rfl, HB1.out⟩
  | true =>
    have HU := Lib.hid hu
    cases ha : alikeN n nn with
    | true =>
      have HC := Lib.hid (show clsZ D nn n = none from clsZ_apex ha)
      go_enter Tryz.func18, Tryz.ntmps18
      go_wp2_with fail
      refine (RefUnder_any P N n nn _ HP.out HN.out).mono ?_
      rw [hu]
      clear hu
      rintro e w1 ⟨rfl, hB⟩
      have hw1 := HW0.out.below hB HW0.out.lt
      have c0 := (hw1.cell 0).trans rfl
      have c1 := (hw1.cell 1).trans rfl
      have HW1 := Lib.hid hw1
      have HZ1 := Lib.hid (HZ0.out.later hB)
      have HB1 := Lib.hid (HB0.out.trans (hB.mono HB0.out.size))
      clear hB hw1
      go_wp2_with fail
      refine (RefAlike_any P N n nn _ HP.out HN.out).mono ?_
      rw [ha]
      clear ha
      rintro e w2 ⟨rfl, hB⟩
      have hw2 := HW1.out.below hB HW1.out.lt
      have c0 := (hw2.cell 0).trans rfl
      have c1 := (hw2.cell 1).trans rfl
      have HW2 := Lib.hid hw2
      have HZ2 := Lib.hid (HZ1.out.later hB)
      have HB2 := Lib.hid (HB1.out.trans (hB.mono HB1.out.size))
      clear hB hw2
      go_wp2_with fail
      go_ret2
      exact ⟨by rw [HC.out]; rfl, HB2.out⟩
    | false =>
      have HSTEP := Lib.hid (clsZ_step (D := D) hu ha)
      obtain ⟨p, hp, hpe, hdp, h0⟩ := dep_parent hu ha
      have hpk : depZ nn p ≤ k - 1 := by rw [depZ_is hdp]; have := HK.out; omega
      have hk1 : k - 1 < k := by have := HK.out; omega
      have HIH := Lib.hid (fun (w : World) (h : ZRefAt w w.heap.size N D (.agg #[.string N, .slice A D.length c])) => ih (k - 1) hk1 (mk p) p (.agg #[.string N, .slice A D.length c]) w rfl h hpk)
      have HPP := Lib.hid hp
      obtain ⟨M, hM⟩ : ∃ M, M = mk p := ⟨_, rfl⟩
      rw [← hM] at HIH
      have HM := Lib.hid hM
      clear hp hpe hdp h0 hpk hk1 hM
      clear ih
      go_enter Tryz.func18, Tryz.ntmps18
      go_wp2_with fail
      refine (RefUnder_any P N n nn _ HP.out HN.out).mono ?_
      rw [hu]
      clear hu
      rintro e w1 ⟨rfl, hB⟩
      have hw1 := HW0.out.below hB HW0.out.lt
      have c0 := (hw1.cell 0).trans rfl
      have c1 := (hw1.cell 1).trans rfl
      have HW1 := Lib.hid hw1
      have HZ1 := Lib.hid (HZ0.out.later hB)
      have HB1 := Lib.hid (HB0.out.trans (hB.mono HB0.out.size))
      clear hB hw1
      go_wp2_with fail
      refine (RefAlike_any P N n nn _ HP.out HN.out).mono ?_
      rw [ha]
      clear ha
      rintro e w2 ⟨rfl, hB⟩
      have hw2 := HW1.out.below hB HW1.out.lt
      have c0 := (hw2.cell 0).trans rfl
      have c1 := (hw2.cell 1).trans rfl
      have HW2 := Lib.hid hw2
      have HZ2 := Lib.hid (HZ1.out.later hB)
      have HB2 := Lib.hid (HB1.out.trans (hB.mono HB1.out.size))
      clear hB hw2
      go_wp2_with fail
      refine (RefParent_any P n _ HP.out).mono ?_
      rw [HPP.out]
      rw [← HM.out]
      rintro e w3 ⟨rfl, hB⟩
      have hw3 := HW2.out.below hB HW2.out.lt
      have c0 := (hw3.cell 0).trans rfl
      have c1 := (hw3.cell 1).trans rfl
      have HW3 := Lib.hid hw3
      have HZ3 := Lib.hid (HZ2.out.later hB)
      have HB3 := Lib.hid (HB2.out.trans (hB.mono HB2.out.size))
      clear hB hw3
      cases ht : (atX p D).isEmpty with
      | false =>
        have HC := Lib.hid (show clsZ D nn n = some p by rw [HSTEP.out, HPP.out, known_ref GZ.out, ht]; rfl)
        go_wp2_with fail
        refine (RefThere_any N D _ _ HZ3.out M p HM.out (by have := GZ.out.len; omega)).mono ?_
        rw [ht]
        clear ht
        rintro e w4 ⟨rfl, hB⟩
        have hw4 := HW3.out.below hB HW3.out.lt
        have c0 := (hw4.cell 0).trans rfl
        have c1 := (hw4.cell 1).trans rfl
        have HW4 := Lib.hid hw4
        have HZ4 := Lib.hid (HZ3.out.later hB)
        have HB4 := Lib.hid (HB3.out.trans (hB.mono HB3.out.size))
        clear hB hw4
        go_wp2_with fail
        go_ret2
        exact ⟨by rw [HC.out, HM.out]; rfl, HB4.out⟩
      | true =>
        have HKN := Lib.hid (show knownZ D p = D.any fun x => underN (nmX x) p by rw [known_ref GZ.out, ht]; rfl)
        go_wp2_with fail
        refine (RefThere_any N D _ _ HZ3.out M p HM.out (by have := GZ.out.len; omega)).mono ?_
        rw [ht]
        rintro e w4 ⟨rfl, hB⟩
        have hw4 := HW3.out.below hB HW3.out.lt
        have c0 := (hw4.cell 0).trans rfl
        have c1 := (hw4.cell 1).trans rfl
        have HW4 := Lib.hid hw4
        have HZ4 := Lib.hid (HZ3.out.later hB)
        have HB4 := Lib.hid (HB3.out.trans (hB.mono HB3.out.size))
        clear hB hw4
        go_wp2_with fail
        refine (RefEmpty_any N D _ _ HZ4.out M p HM.out (by have := GZ.out.len; omega)).mono ?_
        rw [ht, Bool.true_and]
        rw [← HKN.out]
        clear ht
        cases hk : knownZ D p with
        | true =>
          have HC := Lib.hid (show clsZ D nn n = some p by rw [HSTEP.out, HPP.out]; show (if knownZ D p = true then _ else _) = _; rw [if_pos hk])
          rintro e w5 ⟨rfl, hB⟩
          clear hk
          have hw5 := HW4.out.below hB HW4.out.lt
          have c0 := (hw5.cell 0).trans rfl
          have c1 := (hw5.cell 1).trans rfl
          have HW5 := Lib.hid hw5
          have HZ5 := Lib.hid (HZ4.out.later hB)
          have HB5 := Lib.hid (HB4.out.trans (hB.mono HB4.out.size))
          clear hB hw5
          go_wp2_with fail
          go_ret2
          exact ⟨by rw [HC.out, HM.out]; rfl, HB5.out⟩
        | false =>
          have HC := Lib.hid (show clsZ D nn n = clsZ D nn p by rw [HSTEP.out, HPP.out]; show (if knownZ D p = true then _ else _) = _; rw [if_neg (by rw [hk]; simp)])
          rintro e w5 ⟨rfl, hB⟩
          clear hk
          have hw5 := HW4.out.below hB HW4.out.lt
          have c0 := (hw5.cell 0).trans rfl
          have c1 := (hw5.cell 1).trans rfl
          have HW5 := Lib.hid hw5
          have HZ5 := Lib.hid (HZ4.out.later hB)
          have HB5 := Lib.hid (HB4.out.trans (hB.mono HB4.out.size))
          clear hB hw5
          go_wp2_with fail
          refine (HIH.out _ HZ5.out).mono ?_
          rw [← HC.out]
          unfold optE
          rintro e w6 ⟨rfl, hB⟩
          have hw6 := HW5.out.below hB HW5.out.lt
          have c0 := (hw6.cell 0).trans rfl
          have c1 := (hw6.cell 1).trans rfl
          have HW6 := Lib.hid hw6
          have HZ6 := Lib.hid (HZ5.out.later hB)
          have HB6 := Lib.hid (HB5.out.trans (hB.mono HB5.out.size))
          clear hB hw6
          go_wp2_with fail
          go_ret2
          exact ⟨rfl, HB6.out⟩
end Go.Proofs.YtkgihfoknpimfaaGreat
namespace Go.Proofs.YtkgihfoknpimfaaGreat
open Go.RowKit Go.Op
set_option linter.unusedVariables false

set_option maxHeartbeats 8000000 in
set_option maxRecDepth 20000 in
theorem known_any (N : ByteArray) (nn : List UInt8) (D : List Rrd) (v : Value) (w : World) (hz : ZoneAt w w.heap.size N D v) (gz : GoodZ nn D) (P : ByteArray) (n : List UInt8) (hP : P = mk n) (hl : n.length ≤ 1000000) :
    Calls Tryz.prog 52 #[v, .string P] w fun e w' => e = .returned (.bool (knownZ D n)) ∧ Below w.heap.size w w' := by
  have HZV := Lib.hid hz
  obtain ⟨A, c, s, rfl, hs, hcap, hsoa⟩ := hz
  have hw0 := Whole.new w zoT #[.string N, .slice A D.length c, .string s.s, .int .i64 s.t, .int .i64 s.c, .int .i64 s.l, .string s.d]
  have hB0 : Below w.heap.size w (w.alloc (.cells #[.string N, .slice A D.length c, .string s.s, .int .i64 s.t, .int .i64 s.c, .int .i64 s.l, .string s.d] zoT)) := (Below.refl _ _).alloc (Nat.le_refl _) _
  obtain ⟨c0, c1, c2, c3, c4, c5, c6⟩ := zo_facts hw0
  have HW0 := Lib.hid hw0
  have HZ0 := Lib.hid (HZV.out.later hB0)
  have HB0 := Lib.hid hB0
  have GZ := Lib.hid gz
  clear hw0 hB0 hs hcap hsoa
  clear gz
  have HP := Lib.hid hP
  clear hP
  cases ht : thereX n D with
  | true =>
    have HK := Lib.hid (show knownZ D n = true by unfold knownZ; rw [ht]; rfl)
    go_enter Tryz.func52, Tryz.ntmps52
    go_wp2_with fail
    refine (There_any N D _ _ HZ0.out P n HP.out hl GZ.out.ok GZ.out.ks (by have := GZ.out.len; omega)).mono ?_
    rw [ht]
    clear ht
    rintro e w1 ⟨rfl, hB⟩
    have hw1 := HW0.out.below hB HW0.out.lt
    obtain ⟨c0, c1, c2, c3, c4, c5, c6⟩ := zo_facts hw1
    have HW1 := Lib.hid hw1
    have HZ1 := Lib.hid (HZ0.out.later hB)
    have HB1 := Lib.hid (HB0.out.trans (hB.mono HB0.out.size))
    clear hB hw1
    go_wp2_with fail
    go_ret
    exact ⟨by rw [HK.out]; rfl, HB1.out⟩
  | false =>
    have HK := Lib.hid (show knownZ D n = emptyX n D by unfold knownZ; rw [ht]; rfl)
    go_enter Tryz.func52, Tryz.ntmps52
    go_wp2_with fail
    refine (There_any N D _ _ HZ0.out P n HP.out hl GZ.out.ok GZ.out.ks (by have := GZ.out.len; omega)).mono ?_
    rw [ht]
    clear ht
    rintro e w1 ⟨rfl, hB⟩
    have hw1 := HW0.out.below hB HW0.out.lt
    obtain ⟨c0, c1, c2, c3, c4, c5, c6⟩ := zo_facts hw1
    have HW1 := Lib.hid hw1
    have HZ1 := Lib.hid (HZ0.out.later hB)
    have HB1 := Lib.hid (HB0.out.trans (hB.mono HB0.out.size))
    clear hB hw1
    go_wp2_with fail
    refine (ZEmpty_any N D _ _ HZ1.out P n HP.out hl GZ.out.ok GZ.out.ks (by have := GZ.out.len; omega)).mono ?_
    rintro e w2 ⟨rfl, hB⟩
    have HB2 := Lib.hid (HB1.out.trans (hB.mono HB1.out.size))
    clear hB
    go_wp2_with fail
    go_ret
    exact ⟨by rw [HK.out]; rfl, HB2.out⟩

/-- the first i names on the way up -/
def upsL (n : List UInt8) (i : Nat) : List (List UInt8) := (List.range i).map (upZ n)
theorem upsL_len (n : List UInt8) (i : Nat) : (upsL n i).length = i := by simp [upsL]
theorem upsL_snoc (n : List UInt8) (i : Nat) : upsL n (i + 1) = upsL n i ++ [upZ n i] := by simp [upsL, List.range_succ]
theorem upsL_at (n : List UInt8) {i j : Nat} (h : j < i) : (upsL n i)[j]? = some (upZ n j) := by simp [upsL, h]
def upList (nn n : List UInt8) : List (List UInt8) := if underN n nn = true then upsL n (depZ nn n + 1) else []
theorem textL_snoc1 (L : List (List UInt8)) (x : List UInt8) : textL (L ++ [x]) = textL L ++ [.string (mk x)] := by simp [textL, texts]
def slLen : Value → Nat | .slice _ n _ => n | _ => 0
set_option maxHeartbeats 8000000 in
set_option maxRecDepth 20000 in
theorem upward_any (N : ByteArray) (nn : List UInt8) (D : List Rrd) (v : Value) (w : World) (hz : ZoneAt w w.heap.size N D v) (gz : GoodZ nn D) (P : ByteArray) (n : List UInt8) (hN : N = mk nn) (hP : P = mk n) (hl : n.length ≤ 1000000) :
    Calls Tryz.prog 46 #[v, .string P] w fun e w' => ∃ u, e = .returned u ∧ w'.ownsRow w.heap.size 9 1 u (upList nn n).length (textL (upList nn n)) ∧ Below w.heap.size w w' := by
  have HZV := Lib.hid hz
  obtain ⟨A, c, s, rfl, hs, hcap, hsoa⟩ := hz
  have hw0 := Whole.new w zoT #[.string N, .slice A D.length c, .string s.s, .int .i64 s.t, .int .i64 s.c, .int .i64 s.l, .string s.d]
  have hB0 : Below w.heap.size w (w.alloc (.cells #[.string N, .slice A D.length c, .string s.s, .int .i64 s.t, .int .i64 s.c, .int .i64 s.l, .string s.d] zoT)) := (Below.refl _ _).alloc (Nat.le_refl _) _
  obtain ⟨c0, c1, c2, c3, c4, c5, c6⟩ := zo_facts hw0
  have HW0 := Lib.hid hw0
  have HZ0 := Lib.hid (HZV.out.later hB0)
  have HB0 := Lib.hid hB0
  have GZ := Lib.hid gz
  clear hw0 hB0 hs hcap hsoa
  clear gz
  have HP := Lib.hid hP
  have HN := Lib.hid hN
  have HNL := Lib.hid (right_len GZ.out.nm)
  clear hP hN
  cases hu : underN n nn with
  | false =>
    have HU := Lib.hid (show upList nn n = [] by unfold upList; rw [hu]; rfl)
    go_enter Tryz.func46, Tryz.ntmps46
    go_wp2_with fail
    refine (Apex_any N D _ _ HZ0.out).mono ?_
    rintro e w1 ⟨rfl, hB⟩
    have hw1 := HW0.out.below hB HW0.out.lt
    obtain ⟨c0, c1, c2, c3, c4, c5, c6⟩ := zo_facts hw1
    have HW1 := Lib.hid hw1
    have HZ1 := Lib.hid (HZ0.out.later hB)
    have HB1 := Lib.hid (HB0.out.trans (hB.mono HB0.out.size))
    clear hB hw1
    go_wp2_with fail
    refine (Under_any P N n nn _ HP.out HN.out (by omega) (by have := HNL.out; omega)).mono ?_
    rw [hu]
    clear hu
    rintro e w2 ⟨rfl, hB⟩
    have HB2 := Lib.hid (HB1.out.trans (hB.mono HB1.out.size))
    clear hB
    go_wp2_with fail
    go_ret
    refine ⟨_, rfl, ?_, HB2.out⟩
    rw [HU.out]
    exact own_nil _ _ _ _
  | true =>
    have HD := Lib.hid (dep_of hu)
    have HU := Lib.hid (show upList nn n = upsL n (depZ nn n + 1) by unfold upList; rw [hu]; rfl)
    obtain ⟨k, hk⟩ : ∃ k, k = depZ nn n := ⟨_, rfl⟩
    rw [← hk] at HD HU
    have hk255 := HD.out.up_few
    clear hk
    obtain ⟨i0, hi0, hz0, hz1, hz2⟩ := info_parts text_info
    go_enter Tryz.func46, Tryz.ntmps46
    go_wp2_with fail
    refine (Apex_any N D _ _ HZ0.out).mono ?_
    rintro e w1 ⟨rfl, hB⟩
    have hw1 := HW0.out.below hB HW0.out.lt
    obtain ⟨c0, c1, c2, c3, c4, c5, c6⟩ := zo_facts hw1
    have HW1 := Lib.hid hw1
    have HZ1 := Lib.hid (HZ0.out.later hB)
    have HB1 := Lib.hid (HB0.out.trans (hB.mono HB0.out.size))
    clear hB hw1
    go_wp2_with fail
    refine (Under_any P N n nn _ HP.out HN.out (by omega) (by have := HNL.out; omega)).mono ?_
    rw [hu]
    clear hu
    rintro e w2 ⟨rfl, hB⟩
    have hw2 := HW1.out.below hB HW1.out.lt
    obtain ⟨c0, c1, c2, c3, c4, c5, c6⟩ := zo_facts hw2
    have HW2 := Lib.hid hw2
    have HZ2 := Lib.hid (HZ1.out.later hB)
    have HB2 := Lib.hid (HB1.out.trans (hB.mono HB1.out.size))
    clear hB hw2
    have hone : (w2.alloc (.cells #[.string P] 9)).ownsRow w2.heap.size 9 1 (.slice (some ⟨w2.heap.size, 0, none⟩) 1 1) 1 [.string P] := own_one _ _ _ (Nat.le_refl _)
    have HO0 := Lib.hid hone
    have HPE := Lib.hid (show P = mk (upZ n 0) by rw [HD.out.up_zero]; exact HP.out)
    clear hone
    go_wp2_with fail
    go_loopw [1, 5] (fun i x wr => ∃ (j : Nat) (X : ByteArray), j ≤ k ∧ i = .string X ∧ X = mk (upZ n j) ∧ wr.ownsRow w2.heap.size 9 1 x (j + 1) (textL (upsL n (j + 1))) ∧ Below w2.heap.size w2 wr) (fun _ x _ => k + 1 - slLen x)
    case atStart =>
      refine ⟨0, P, Nat.zero_le _, rfl, HPE.out, ?_, (Below.refl _ _).alloc (Nat.le_refl _) _⟩
      rw [show textL (upsL n (0 + 1)) = [.string P] by rw [HPE.out]; rfl]
      exact HO0.out
    case round =>
      obtain ⟨j, X, hj, rfl, hX, hown, hB⟩ := hrel
      obtain ⟨AX, cX, rfl, _⟩ := Sees.own hown
      have HX := Lib.hid hX
      have HO := Lib.hid hown
      have HB23 := Lib.hid hB
      have HXL := Lib.hid (HD.out.up_small j)
      clear hX hown
      have hw3 := HW2.out.below hB HW2.out.lt
      obtain ⟨c0, c1, c2, c3, c4, c5, c6⟩ := zo_facts hw3
      have HW3 := Lib.hid hw3
      have HZ3 := Lib.hid (HZ2.out.later hB)
      have HB3 := Lib.hid (HB2.out.trans (hB.mono HB2.out.size))
      clear hB hw3
      go_wp2_with fail
      refine (Apex_any N D _ _ HZ3.out).mono ?_
      rintro e w4 ⟨rfl, hB⟩
      have HO4 := Lib.hid (own_below HO.out hB)
      have HB24 := Lib.hid (HB23.out.trans (hB.mono HB23.out.size))
      have hw4 := HW3.out.below hB HW3.out.lt
      obtain ⟨c0, c1, c2, c3, c4, c5, c6⟩ := zo_facts hw4
      have HW4 := Lib.hid hw4
      have HZ4 := Lib.hid (HZ3.out.later hB)
      have HB4 := Lib.hid (HB3.out.trans (hB.mono HB3.out.size))
      clear hB hw4
      go_wp2_with fail
      refine (Alike_any X N (upZ n j) nn _ HX.out HN.out (by have := HXL.out; omega) (by have := HNL.out; omega)).mono ?_
      rw [HD.out.up_alike hj]
      rintro e w5 ⟨rfl, hB⟩
      have HO5 := Lib.hid (own_below HO4.out hB)
      have HB25 := Lib.hid (HB24.out.trans (hB.mono HB24.out.size))
      have hw5 := HW4.out.below hB HW4.out.lt
      obtain ⟨c0, c1, c2, c3, c4, c5, c6⟩ := zo_facts hw5
      have HW5 := Lib.hid hw5
      have HZ5 := Lib.hid (HZ4.out.later hB)
      have HB5 := Lib.hid (HB4.out.trans (hB.mono HB4.out.size))
      clear hB hw5
      by_cases hjk : j = k
      · have g : decide (j = k) = true := decide_eq_true hjk
        rw [g]
        have HJ := Lib.hid hjk
        clear hjk g
        go_wp2_with fail
        go_ret
        refine ⟨_, rfl, ?_, HB5.out⟩
        rw [HU.out, upsL_len, ← HJ.out]
        exact own_less HO5.out HB2.out.size
      · have g : decide (j = k) = false := decide_eq_false hjk
        rw [g]
        have hlt : j < k := by omega
        clear hjk g
        obtain ⟨Y, hY⟩ : ∃ Y, Y = mk (upZ n (j + 1)) := ⟨_, rfl⟩
        have HY := Lib.hid hY
        clear hY
        go_wp2_with fail
        refine (Parent_any X (upZ n j) _ HX.out (by have := HXL.out; omega)).mono ?_
        rw [HD.out.up_parent hlt]
        rw [← HY.out]
        rintro e w6 ⟨rfl, hB⟩
        have HO6 := Lib.hid (own_below HO5.out hB)
        have HB26 := Lib.hid (HB25.out.trans (hB.mono HB25.out.size))
        have hw6 := HW5.out.below hB HW5.out.lt
        obtain ⟨c0, c1, c2, c3, c4, c5, c6⟩ := zo_facts hw6
        have HW6 := Lib.hid hw6
        have HZ6 := Lib.hid (HZ5.out.later hB)
        have HB6 := Lib.hid (HB5.out.trans (hB.mono HB5.out.size))
        clear hB hw6
        have H63 : Hid ((j + 1) + 1 ≤ maxLen) := Lib.hid (by unfold maxLen; omega)
        have H47 : Hid (((j + 1) + 1) * 16 ≤ 140737488355328) := Lib.hid (by omega)
        have HS6 := Lib.hid (show w2.heap.size ≤ w6.heap.size by have := HB26.out.size; omega)
        go_wp2_with (at_builtin; refine wpList_append_own _ rfl _ _ 66 rfl w2.heap.size 9 i0 (.string ⟨#[]⟩) 1 16 Tryz.underlying66 hi0 hz0 hz1 hz2 rfl (by decide) _ _ _ rfl (HO6.out.alloc _) ⟨w6.heap.size, 0, none⟩ 1 1 [.string Y] rfl rfl (news1 _ _ _) (one1 _ rfl) H63.out H47.out (by have := HS6.out; simp; omega) ?_; intro v7 w7 hown7 hgrow _)
        have hown8 : w7.ownsRow w2.heap.size 9 1 v7 (j + 1 + 1) (textL (upsL n (j + 1 + 1))) := by
          rw [upsL_snoc, textL_snoc1, ← HY.out]; exact hown7
        obtain ⟨A7, c7, rfl, _⟩ := Sees.own hown8
        have HO8 := Lib.hid hown8
        have HB7 := Lib.hid ((HB26.out.alloc HB26.out.size _).grown hgrow (by have := HS6.out; simp; omega) (fun j hj => (HO6.out.lt j hj).1))
        clear hown7 hown8 hgrow
        go_wp2_with fail
        go_roundw
        case rel => exact ⟨j + 1, Y, by omega, rfl, HY.out, HO8.out, HB7.out⟩
        case measure => simp [slLen]; omega
set_option maxHeartbeats 8000000 in
set_option maxRecDepth 20000 in
theorem LCut_any (N : ByteArray) (nn : List UInt8) (D : List Rrd) (v : Value) (w : World) (hz : ZoneAt w w.heap.size N D v) (gz : GoodZ nn D) (P : ByteArray) (n : List UInt8) (hN : N = mk nn) (hP : P = mk n) (hl : n.length ≤ 1000000) :
    Calls Tryz.prog 15 #[v, .string P] w fun e w' => e = .returned (.tuple #[.string (mk ((cutZ D nn n).getD [])), .bool (cutZ D nn n).isSome]) ∧ Below w.heap.size w w' := by
  have HZV := Lib.hid hz
  obtain ⟨A, c, s, rfl, hs, hcap, hsoa⟩ := hz
  have hw0 := Whole.new w zoT #[.string N, .slice A D.length c, .string s.s, .int .i64 s.t, .int .i64 s.c, .int .i64 s.l, .string s.d]
  have hB0 : Below w.heap.size w (w.alloc (.cells #[.string N, .slice A D.length c, .string s.s, .int .i64 s.t, .int .i64 s.c, .int .i64 s.l, .string s.d] zoT)) := (Below.refl _ _).alloc (Nat.le_refl _) _
  obtain ⟨c0, c1, c2, c3, c4, c5, c6⟩ := zo_facts hw0
  have HW0 := Lib.hid hw0
  have HZ0 := Lib.hid (HZV.out.later hB0)
  have HB0 := Lib.hid hB0
  have GZ := Lib.hid gz
  clear hw0 hB0 hs hcap hsoa
  clear gz
  have HP := Lib.hid hP
  have HN := Lib.hid hN
  obtain ⟨L, hL⟩ : ∃ L, L = upList nn n := ⟨_, rfl⟩
  obtain ⟨m, hm⟩ : ∃ m, m = L.length := ⟨_, rfl⟩
  have HL := Lib.hid hL
  have HM := Lib.hid hm
  have hm256 : m ≤ 256 := by
    rw [hm, hL]; unfold upList
    by_cases hu : underN n nn = true
    · rw [if_pos hu, upsL_len]; have := (dep_of hu).up_few; omega
    · rw [if_neg hu]; simp
  have HIN := Lib.hid (show 0 < m → underN n nn = true ∧ m = depZ nn n + 1 ∧ Dep nn n (depZ nn n) ∧ L = upsL n m by
    intro h0
    rw [hm, hL] at h0 ⊢
    unfold upList at h0 ⊢
    by_cases hu : underN n nn = true
    · rw [if_pos hu, upsL_len]; exact ⟨hu, rfl, dep_of hu, rfl⟩
    · rw [if_neg hu] at h0; simp at h0)
  have HOUT := Lib.hid (show m = 0 → underN n nn = false by
    intro h0
    rw [hm, hL] at h0
    unfold upList at h0
    cases hu : underN n nn with
    | false => rfl
    | true => rw [if_pos hu, upsL_len] at h0; omega)
  clear hP hN hL hm
  go_enter Tryz.func15, Tryz.ntmps15
  go_wp2_with fail
  refine (upward_any N nn D _ _ HZ0.out GZ.out P n HN.out HP.out hl).mono ?_
  rw [← HL.out, ← HM.out]
  rintro e w1 ⟨u, rfl, ho, hB⟩
  obtain ⟨AX, cX, rfl, _⟩ := Sees.own ho
  have HO1 := Lib.hid ho
  have HB01 := Lib.hid hB
  clear ho
  have hw1 := HW0.out.below hB HW0.out.lt
  obtain ⟨c0, c1, c2, c3, c4, c5, c6⟩ := zo_facts hw1
  have HW1 := Lib.hid hw1
  have HZ1 := Lib.hid (HZ0.out.later hB)
  have HB1 := Lib.hid (HB0.out.trans (hB.mono HB0.out.size))
  clear hB hw1
  go_wp2_with fail
  refine (Reverse_own _ m _ L _ HO1.out (by omega)).mono ?_
  rintro e w2 ⟨rfl, ho, hg⟩
  have hB := HB01.out.grown hg HB01.out.size (fun j hj => (HO1.out.lt j hj).1)
  obtain ⟨AY, cY, e1, hsY⟩ := Sees.own ho
  injection e1 with e1 _ e2
  subst e1; subst e2
  have HSY := Lib.hid hsY
  clear ho hg hsY
  have hw2 := HW0.out.below hB HW0.out.lt
  obtain ⟨c0, c1, c2, c3, c4, c5, c6⟩ := zo_facts hw2
  have HW2 := Lib.hid hw2
  have HZ2 := Lib.hid (HZ0.out.later hB)
  have HB2 := Lib.hid (HB0.out.trans (hB.mono HB0.out.size))
  clear hB hw2
  go_wp2_with fail
  go_loopw [16] (fun i wr => ∃ j : Nat, j ≤ m ∧ i = .int .i64 (j : Nat) ∧ (∀ q, 0 < q → q < j → (setZ D 2 (upZ n (m - 1 - q))).isEmpty = true) ∧ Below w2.heap.size w2 wr) (fun i _ => m - (intOf i).toNat)
  case atStart => exact ⟨0, Nat.zero_le _, rfl, fun q h1 h2 => by omega, Below.refl _ _⟩
  case round =>
    obtain ⟨j, hj, rfl, hseen, hB⟩ := hrel
    have HSEEN := Lib.hid hseen
    have HSR := Lib.hid (HSY.out.below hB)
    have HB23 := Lib.hid hB
    clear hseen
    have hw3 := HW2.out.below hB HW2.out.lt
    obtain ⟨c0, c1, c2, c3, c4, c5, c6⟩ := zo_facts hw3
    have HW3 := Lib.hid hw3
    have HZ3 := Lib.hid (HZ2.out.later hB)
    have HB3 := Lib.hid (HB2.out.trans (hB.mono HB2.out.size))
    clear hB hw3
    by_cases hjm : j < m
    · obtain ⟨hu, hmk, hd, hLu⟩ := HIN.out (by omega)
      have HD := Lib.hid hd
      have HMK := Lib.hid hmk
      have HU := Lib.hid hu
      have hx : L.reverse[j]? = some (upZ n (m - 1 - j)) := by
        rw [hLu, List.getElem?_reverse (by rw [upsL_len]; exact hjm), upsL_len, upsL_at _ (by omega)]
      have hjl : j < L.reverse.length := (List.getElem?_eq_some_iff.1 hx).1
      obtain ⟨b, off, rfl, _, hc⟩ := textL_at HSR.out hjm hjl
      rw [(List.getElem?_eq_some_iff.1 hx).2] at hc
      obtain ⟨X, hX⟩ : ∃ X, X = mk (upZ n (m - 1 - j)) := ⟨_, rfl⟩
      rw [← hX] at hc
      have HX := Lib.hid hX
      clear hx hX hu hmk hd hLu hjl
      by_cases hj0 : j = 0
      · have gj : ¬ (0 : Int) < (j : Int) := by omega
        have HJ0 := Lib.hid hj0
        clear hj0
        go_wp2_with fail
        go_roundw
        case rel => exact ⟨j + 1, by omega, by go_num, fun q h1 h2 => by have := HJ0.out; omega, HB23.out⟩
        case measure => simp [intOf]; omega
      · have hjp : (0 : Int) < (j : Int) := by omega
        go_wp2_with fail
        refine (ZSet_any N D _ _ HZ3.out X (upZ n (m - 1 - j)) 2 HX.out (by have := HD.out.up_small (m - 1 - j); omega) GZ.out.ok GZ.out.ks (by have := GZ.out.len; omega)).mono ?_
        rintro e w4 ⟨u4, rfl, ho4, hB⟩
        obtain ⟨A4, c4', rfl, _, _⟩ := own_sees ho4
        have HB24 := Lib.hid (HB23.out.trans (hB.mono HB23.out.size))
        clear ho4
        have hw4 := HW3.out.below hB HW3.out.lt
        obtain ⟨c0, c1, c2, c3, c4, c5, c6⟩ := zo_facts hw4
        have HW4 := Lib.hid hw4
        have HZ4 := Lib.hid (HZ3.out.later hB)
        have HB4 := Lib.hid (HB3.out.trans (hB.mono HB3.out.size))
        clear hB hw4
        obtain ⟨z, hz⟩ : ∃ z, z = (typX 2 (atX (upZ n (m - 1 - j)) D)).length := ⟨_, rfl⟩
        rw [← hz]
        have HZE := Lib.hid (show (setZ D 2 (upZ n (m - 1 - j))).isEmpty = decide (z = 0) by
          rw [hz]; exact empty_len _)
        clear hz
        by_cases hz0 : z = 0
        · subst hz0
          go_wp2_with fail
          go_roundw
          case rel =>
            refine ⟨j + 1, by omega, by go_num, fun q h1 h2 => ?_, HB24.out⟩
            by_cases hq : q = j
            · subst hq; rw [HZE.out]; rfl
            · exact HSEEN.out q h1 (by omega)
          case measure => simp [intOf]; omega
        · have hzp : (0 : Int) < (z : Int) := by omega
          have HCS := Lib.hid (show cutZ D nn n = some (upZ n (m - 1 - j)) by
            unfold cutZ
            rw [if_pos HU.out]
            have := HMK.out
            refine cutF_some (Nat.zero_le _) (by omega) (by rw [HZE.out]; exact decide_eq_false hz0) (fun q h1 h2 => ?_)
            have h := HSEEN.out (m - 1 - q) (by omega) (by omega)
            rw [show m - 1 - (m - 1 - q) = q by omega] at h
            exact h)
          go_wp2_with fail
          go_ret2
          exact ⟨by rw [HCS.out, HX.out]; rfl, HB4.out⟩
    · obtain rfl : j = m := by omega
      have HCN := Lib.hid (show cutZ D nn n = none by
        by_cases h0 : j = 0
        · exact cutZ_no (HOUT.out h0)
        · obtain ⟨hu, hmk, _, _⟩ := HIN.out (by omega)
          unfold cutZ
          rw [if_pos hu]
          refine cutF_none (fun q h1 h2 => ?_)
          have h := HSEEN.out (j - 1 - q) (by omega) (by omega)
          rw [show j - 1 - (j - 1 - q) = q by omega] at h
          exact h)
      go_wp2_with fail
      go_ret2
      exact ⟨by rw [HCN.out]; rfl, HB3.out⟩
set_option maxHeartbeats 8000000 in
set_option maxRecDepth 20000 in
theorem LClosest_any (N : ByteArray) (nn : List UInt8) (D : List Rrd) (v : Value) (w : World) (hz : ZoneAt w w.heap.size N D v) (gz : GoodZ nn D) (P : ByteArray) (n : List UInt8) (hN : N = mk nn) (hP : P = mk n) (hl : n.length ≤ 1000000) :
    Calls Tryz.prog 17 #[v, .string P] w fun e w' => e = .returned (.tuple #[.string (mk ((clsZ D nn n).getD [])), .bool (clsZ D nn n).isSome]) ∧ Below w.heap.size w w' := by
  have HZV := Lib.hid hz
  obtain ⟨A, c, s, rfl, hs, hcap, hsoa⟩ := hz
  have hw0 := Whole.new w zoT #[.string N, .slice A D.length c, .string s.s, .int .i64 s.t, .int .i64 s.c, .int .i64 s.l, .string s.d]
  have hB0 : Below w.heap.size w (w.alloc (.cells #[.string N, .slice A D.length c, .string s.s, .int .i64 s.t, .int .i64 s.c, .int .i64 s.l, .string s.d] zoT)) := (Below.refl _ _).alloc (Nat.le_refl _) _
  obtain ⟨c0, c1, c2, c3, c4, c5, c6⟩ := zo_facts hw0
  have HW0 := Lib.hid hw0
  have HZ0 := Lib.hid (HZV.out.later hB0)
  have HB0 := Lib.hid hB0
  have GZ := Lib.hid gz
  clear hw0 hB0 hs hcap hsoa
  clear gz
  have HP := Lib.hid hP
  have HN := Lib.hid hN
  obtain ⟨L, hL⟩ : ∃ L, L = upList nn n := ⟨_, rfl⟩
  obtain ⟨m, hm⟩ : ∃ m, m = L.length := ⟨_, rfl⟩
  have HL := Lib.hid hL
  have HM := Lib.hid hm
  have hm256 : m ≤ 256 := by
    rw [hm, hL]; unfold upList
    by_cases hu : underN n nn = true
    · rw [if_pos hu, upsL_len]; have := (dep_of hu).up_few; omega
    · rw [if_neg hu]; simp
  have HIN := Lib.hid (show 0 < m → underN n nn = true ∧ m = depZ nn n + 1 ∧ Dep nn n (depZ nn n) ∧ L = upsL n m by
    intro h0
    rw [hm, hL] at h0 ⊢
    unfold upList at h0 ⊢
    by_cases hu : underN n nn = true
    · rw [if_pos hu, upsL_len]; exact ⟨hu, rfl, dep_of hu, rfl⟩
    · rw [if_neg hu] at h0; simp at h0)
  have HOUT := Lib.hid (show m = 0 → underN n nn = false by
    intro h0
    rw [hm, hL] at h0
    unfold upList at h0
    cases hu : underN n nn with
    | false => rfl
    | true => rw [if_pos hu, upsL_len] at h0; omega)
  clear hP hN hL hm
  go_enter Tryz.func17, Tryz.ntmps17
  go_wp2_with fail
  refine (upward_any N nn D _ _ HZ0.out GZ.out P n HN.out HP.out hl).mono ?_
  rw [← HL.out, ← HM.out]
  rintro e w1 ⟨u, rfl, ho, hB⟩
  obtain ⟨AX, cX, rfl, hsY⟩ := Sees.own ho
  have HSY := Lib.hid hsY
  clear ho hsY
  have hw1 := HW0.out.below hB HW0.out.lt
  obtain ⟨c0, c1, c2, c3, c4, c5, c6⟩ := zo_facts hw1
  have HW1 := Lib.hid hw1
  have HZ1 := Lib.hid (HZ0.out.later hB)
  have HB1 := Lib.hid (HB0.out.trans (hB.mono HB0.out.size))
  clear hB hw1
  go_wp2_with fail
  go_loopw [12] (fun i wr => ∃ j : Nat, j ≤ m ∧ i = .int .i64 (j : Nat) ∧ (∀ q, 0 < q → q < j → knownZ D (upZ n q) = false) ∧ Below w1.heap.size w1 wr) (fun i _ => m - (intOf i).toNat)
  case atStart => exact ⟨0, Nat.zero_le _, rfl, fun q h1 h2 => by omega, Below.refl _ _⟩
  case round =>
    obtain ⟨j, hj, rfl, hseen, hB⟩ := hrel
    have HSEEN := Lib.hid hseen
    have HSR := Lib.hid (HSY.out.below hB)
    have HB23 := Lib.hid hB
    clear hseen
    have hw3 := HW1.out.below hB HW1.out.lt
    obtain ⟨c0, c1, c2, c3, c4, c5, c6⟩ := zo_facts hw3
    have HW3 := Lib.hid hw3
    have HZ3 := Lib.hid (HZ1.out.later hB)
    have HB3 := Lib.hid (HB1.out.trans (hB.mono HB1.out.size))
    clear hB hw3
    by_cases hjm : j < m
    · obtain ⟨hu, hmk, hd, hLu⟩ := HIN.out (by omega)
      have HD := Lib.hid hd
      have HMK := Lib.hid hmk
      have HU := Lib.hid hu
      have hx : L[j]? = some (upZ n j) := by rw [hLu, upsL_at _ hjm]
      have hjl : j < L.length := (List.getElem?_eq_some_iff.1 hx).1
      obtain ⟨b, off, rfl, _, hc⟩ := textL_at HSR.out hjm hjl
      rw [(List.getElem?_eq_some_iff.1 hx).2] at hc
      obtain ⟨X, hX⟩ : ∃ X, X = mk (upZ n j) := ⟨_, rfl⟩
      rw [← hX] at hc
      have HX := Lib.hid hX
      clear hx hX hu hmk hd hLu hjl
      by_cases hj0 : j = 0
      · have gj : ¬ (0 : Int) < (j : Int) := by omega
        have HJ0 := Lib.hid hj0
        clear hj0
        go_wp2_with fail
        go_roundw
        case rel => exact ⟨j + 1, by omega, by go_num, fun q h1 h2 => by have := HJ0.out; omega, HB23.out⟩
        case measure => simp [intOf]; omega
      · have hjp : (0 : Int) < (j : Int) := by omega
        go_wp2_with fail
        refine (known_any N nn D _ _ HZ3.out GZ.out X (upZ n j) HX.out (by have := HD.out.up_small j; omega)).mono ?_
        cases hk : knownZ D (upZ n j) with
        | false =>
          rintro e w4 ⟨rfl, hB⟩
          have HB24 := Lib.hid (HB23.out.trans (hB.mono HB23.out.size))
          have HK := Lib.hid hk
          clear hk
          have hw4 := HW3.out.below hB HW3.out.lt
          obtain ⟨c0, c1, c2, c3, c4, c5, c6⟩ := zo_facts hw4
          have HW4 := Lib.hid hw4
          have HZ4 := Lib.hid (HZ3.out.later hB)
          have HB4 := Lib.hid (HB3.out.trans (hB.mono HB3.out.size))
          clear hB hw4
          go_wp2_with fail
          go_roundw
          case rel =>
            refine ⟨j + 1, by omega, by go_num, fun q h1 h2 => ?_, HB24.out⟩
            by_cases hq : q = j
            · subst hq; exact HK.out
            · exact HSEEN.out q h1 (by omega)
          case measure => simp [intOf]; omega
        | true =>
          rintro e w4 ⟨rfl, hB⟩
          have HCS := Lib.hid (show clsZ D nn n = some (upZ n j) by
            unfold clsZ
            rw [if_pos HU.out]
            have := HMK.out
            exact clsF_some (by omega) (by omega) hk (fun q h1 h2 => HSEEN.out q h1 h2))
          clear hk
          have hw4 := HW3.out.below hB HW3.out.lt
          obtain ⟨c0, c1, c2, c3, c4, c5, c6⟩ := zo_facts hw4
          have HW4 := Lib.hid hw4
          have HZ4 := Lib.hid (HZ3.out.later hB)
          have HB4 := Lib.hid (HB3.out.trans (hB.mono HB3.out.size))
          clear hB hw4
          go_wp2_with fail
          go_ret2
          exact ⟨by rw [HCS.out, HX.out]; rfl, HB4.out⟩
    · obtain rfl : j = m := by omega
      have HCN := Lib.hid (show clsZ D nn n = none by
        by_cases h0 : j = 0
        · exact clsZ_no (HOUT.out h0)
        · obtain ⟨hu, hmk, _, _⟩ := HIN.out (by omega)
          unfold clsZ
          rw [if_pos hu]
          exact clsF_none (fun q h1 h2 => HSEEN.out q h1 (by omega)))
      go_wp2_with fail
      go_ret2
      exact ⟨by rw [HCN.out]; rfl, HB3.out⟩
end Go.Proofs.YtkgihfoknpimfaaGreat
