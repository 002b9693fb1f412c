/- The chapter on packed names as plain functions on lists of bytes. No statement of the seat is proved here. -/
import Derived.Test.YtdanncclnhkmgaaNamM
namespace Go.Proofs.Ytdanncclnhkmgaa

set_option linter.unusedVariables false in
/-- what is read at p of m: n is read already, s is where the labels ahead were read from, nx is what follows the first pointer -/
def readR (m n : List UInt8) (s p : Nat) (nx : Option Nat) : Option (List UInt8 × Nat) :=
  if h : n.length < 255 then
    match m.drop p with
    | [] => none
    | c :: r =>
      if h0 : c.toNat = 0 then some (n ++ [0], nx.getD (p + 1))
      else if h1 : 192 ≤ c.toNat then
        match r with
        | [] => none
        | d :: _ => if h2 : (c.toNat - 192) * 256 + d.toNat < s then readR m n ((c.toNat - 192) * 256 + d.toNat) ((c.toNat - 192) * 256 + d.toNat) (some (nx.getD (p + 2))) else none
      else if h3 : c.toNat < 64 ∧ c.toNat ≤ r.length then readR m (n ++ c :: r.take c.toNat) s (p + 1 + c.toNat) nx
      else none
  else none
termination_by s + (255 - n.length)
decreasing_by
  · exact Nat.add_lt_add_right h2 _
  · simp only [List.length_append, List.length_cons]; omega

section
variable {m n r : List UInt8} {c d : UInt8} {s p : Nat} {nx : Option Nat}
theorem rd_full (h : 255 ≤ n.length) : readR m n s p nx = none := by
  rw [readR, dif_neg (by omega)]
theorem rd_end (h : m.drop p = []) : readR m n s p nx = none := by
  rw [readR]
  split
  · rw [h]
  · rfl
theorem rd_zero (h : n.length < 255) (hd : m.drop p = c :: r) (hc : c.toNat = 0) : readR m n s p nx = some (n ++ [0], nx.getD (p + 1)) := by
  rw [readR, dif_pos h, hd]
  simp [hc]
theorem rd_ptr1 (hd : m.drop p = [c]) (hc : 192 ≤ c.toNat) : readR m n s p nx = none := by
  by_cases h : n.length < 255
  · rw [readR, dif_pos h, hd]
    simp [hc, show ¬ c.toNat = 0 by omega]
  · exact rd_full (by omega)
theorem rd_ptr (h : n.length < 255) (hd : m.drop p = c :: d :: r) (hc : 192 ≤ c.toNat) (ht : (c.toNat - 192) * 256 + d.toNat < s) :
    readR m n s p nx = readR m n ((c.toNat - 192) * 256 + d.toNat) ((c.toNat - 192) * 256 + d.toNat) (some (nx.getD (p + 2))) := by
  rw [readR, dif_pos h, hd]
  simp [hc, ht, show ¬ c.toNat = 0 by omega]
theorem rd_fore (hd : m.drop p = c :: d :: r) (hc : 192 ≤ c.toNat) (ht : s ≤ (c.toNat - 192) * 256 + d.toNat) : readR m n s p nx = none := by
  by_cases h : n.length < 255
  · rw [readR, dif_pos h, hd]
    simp [hc, show ¬ c.toNat = 0 by omega, show ¬ ((c.toNat - 192) * 256 + d.toNat < s) by omega]
  · exact rd_full (by omega)
theorem rd_lab (h : n.length < 255) (hd : m.drop p = c :: r) (h0 : c.toNat ≠ 0) (h6 : c.toNat < 64) (hr : c.toNat ≤ r.length) :
    readR m n s p nx = readR m (n ++ c :: r.take c.toNat) s (p + 1 + c.toNat) nx := by
  rw [readR, dif_pos h, hd]
  simp [h0, h6, hr, show ¬ 192 ≤ c.toNat by omega]
theorem rd_bad (hd : m.drop p = c :: r) (h0 : c.toNat ≠ 0) (h1 : c.toNat < 192) (h : ¬ (c.toNat < 64 ∧ c.toNat ≤ r.length)) : readR m n s p nx = none := by
  by_cases hn : n.length < 255
  · rw [readR, dif_pos hn, hd]
    simp [h0, show ¬ 192 ≤ c.toNat by omega, h]
  · exact rd_full (by omega)
end

/-! ### packing -/
abbrev Kn := List UInt8 → Option Nat
def noneK : Kn := fun _ => none
def learnK (K : Kn) (r : List UInt8) (p : Nat) : Kn := if (K r).isNone = true ∧ p < 16384 then fun k => if k = r then some p else K k else K
def ptrB (t : Nat) : List UInt8 := [UInt8.ofNat (192 + t / 256), UInt8.ofNat (t % 256)]
/-- the offset that may stand for r -/
def knownK (may : Bool) (K : Kn) (r : List UInt8) : Option Nat := if may then K r else none
def putL (may : Bool) : List (List UInt8) → List UInt8 → Kn → List UInt8 × Kn
  | [], l, K => (l ++ [0], K)
  | x :: L, l, K => match knownK may K (enc (x :: L)) with
    | some t => (l ++ ptrB t, K)
    | none => putL may L (l ++ lab x) (learnK K (enc (x :: L)) l.length)
theorem put_nil (may : Bool) (l : List UInt8) (K : Kn) : putL may [] l K = (l ++ [0], K) := rfl
theorem put_ptr {may : Bool} {x : List UInt8} {L : List (List UInt8)} {l : List UInt8} {K : Kn} {t : Nat} (h : knownK may K (enc (x :: L)) = some t) : putL may (x :: L) l K = (l ++ ptrB t, K) := by
  rw [putL, h]
theorem put_on {may : Bool} {x : List UInt8} {L : List (List UInt8)} {l : List UInt8} {K : Kn} (h : knownK may K (enc (x :: L)) = none) : putL may (x :: L) l K = putL may L (l ++ lab x) (learnK K (enc (x :: L)) l.length) := by
  rw [putL, h]
theorem known_some {may : Bool} {K : Kn} {r : List UInt8} {t : Nat} (h : knownK may K r = some t) : may = true ∧ K r = some t := by
  unfold knownK at h
  split at h
  · exact ⟨by assumption, h⟩
  · cases h
theorem learn_is {K : Kn} {r k : List UInt8} {p t : Nat} (h : learnK K r p k = some t) : K k = some t ∨ (k = r ∧ t = p ∧ p < 16384) := by
  unfold learnK at h
  split at h
  · rename_i h1
    by_cases hk : k = r
    · simp only [if_pos hk, Option.some.injEq] at h
      exact .inr ⟨hk, h.symm, h1.2⟩
    · simp only [if_neg hk] at h
      exact .inl h
  · exact .inl h

def Tells (l : List UInt8) (t : Nat) (r : List UInt8) : Prop := ∀ e n k, n.length + r.length ≤ 255 → readR (l ++ e) n t t (some k) = some (n ++ r, k)
theorem Tells.more {l : List UInt8} {t : Nat} {r : List UInt8} (h : Tells l t r) (z : List UInt8) : Tells (l ++ z) t r := by
  intro e n k hn
  rw [List.append_assoc]; exact h _ _ _ hn
def InvK (l : List UInt8) (K : Kn) : Prop := ∀ r t, K r = some t → t < l.length ∧ t < 16384 ∧ Tells l t r
theorem InvK.none : InvK [] noneK := fun _ _ h => by cases h
theorem InvK.raw {l : List UInt8} {K : Kn} (h : InvK l K) (z : List UInt8) : InvK (l ++ z) K := fun r t hk => by
  obtain ⟨h1, h2, h3⟩ := h r t hk
  exact ⟨by simp; omega, h2, h3.more z⟩

theorem enc_len_cons (x : List UInt8) (L : List (List UInt8)) : (enc (x :: L)).length = x.length + 1 + (enc L).length := by
  rw [enc_cons, List.length_append, lab_len]
theorem enc_pos (L : List (List UInt8)) : 1 ≤ (enc L).length := by unfold enc; simp
theorem ptr_len (t : Nat) : (ptrB t).length = 2 := rfl
theorem put_reads (may : Bool) : ∀ (L : List (List UInt8)) (l : List UInt8) (K : Kn) (a : Nat), Good L → (enc L).length ≤ 255 → a ≤ l.length → (∀ r t, K r = some t → r.length ≤ (enc L).length → t < a ∧ t < 16384 ∧ Tells l t r) →
    (∃ z, (putL may L l K).1 = l ++ z ∧ 1 ≤ z.length ∧ z.length ≤ (enc L).length) ∧
    (∀ s e n nx, a ≤ s → n.length + (enc L).length ≤ 255 → readR ((putL may L l K).1 ++ e) n s l.length nx = some (n ++ enc L, nx.getD (putL may L l K).1.length)) ∧
    (∀ r t, (putL may L l K).2 r = some t → K r = some t ∨ (t < (putL may L l K).1.length ∧ t < 16384 ∧ Tells (putL may L l K).1 t r)) := by
  intro L
  induction L with
  | nil =>
    intro l K a _ _ _ _
    refine ⟨⟨[0], rfl, by simp, by simp [enc, labs]⟩, ?_, fun r t h => .inl h⟩
    intro s e n nx _ hn
    rw [put_nil]
    have hn' : n.length < 255 := by have := enc_pos []; omega
    rw [rd_zero (c := 0) (r := e) hn' (by simp) rfl]
    simp [enc, labs]
  | cons x L ih =>
    intro l K a hg hlen ha hK
    have hxl := enc_len_cons x L
    have hx := hg x (by simp)
    have hx1 : 1 ≤ x.length := List.length_pos_iff.2 hx.1
    have hep := enc_pos L
    cases hk : knownK may K (enc (x :: L)) with
    | some t =>
      rw [put_ptr hk]
      obtain ⟨_, hk'⟩ := known_some hk
      obtain ⟨h1, h2, h3⟩ := hK _ _ hk' (Nat.le_refl _)
      refine ⟨⟨ptrB t, rfl, by rw [ptr_len]; omega, by rw [ptr_len]; omega⟩, ?_, fun r t h => .inl h⟩
      intro s e n nx hs hn
      have hc : (UInt8.ofNat (192 + t / 256)).toNat = 192 + t / 256 := by rw [UInt8.toNat_ofNat']; omega
      have hd : (UInt8.ofNat (t % 256)).toNat = t % 256 := by rw [UInt8.toNat_ofNat']; omega
      have hto : (192 + t / 256 - 192) * 256 + t % 256 = t := by omega
      have hn' : n.length < 255 := by omega
      show readR ((l ++ ptrB t) ++ e) n s l.length nx = _
      rw [rd_ptr (c := UInt8.ofNat (192 + t / 256)) (d := UInt8.ofNat (t % 256)) (r := e) hn' (by simp [ptrB]) (by rw [hc]; omega) (by rw [hc, hd, hto]; omega)]
      rw [hc, hd, hto, List.append_assoc, h3 _ _ _ hn]
      simp [ptrB]
    | none =>
      rw [put_on hk]
      have hl1 : (l ++ lab x).length = l.length + (x.length + 1) := by rw [List.length_append, lab_len]
      have hK1 : ∀ r t, learnK K (enc (x :: L)) l.length r = some t → r.length ≤ (enc L).length → t < a ∧ t < 16384 ∧ Tells (l ++ lab x) t r := by
        intro r t h hr
        rcases learn_is h with h' | ⟨rfl, _, _⟩
        · obtain ⟨h1, h2, h3⟩ := hK r t h' (by omega)
          exact ⟨h1, h2, h3.more _⟩
        · omega
      obtain ⟨⟨z, hz, hz1, hz2⟩, hR, hN⟩ := ih (l ++ lab x) (learnK K (enc (x :: L)) l.length) a hg.tail (by omega) (by omega) hK1
      generalize putL may L (l ++ lab x) (learnK K (enc (x :: L)) l.length) = R at hz hR hN ⊢
      have hR' : ∀ s e n nx, a ≤ s → n.length + (enc (x :: L)).length ≤ 255 → readR (R.1 ++ e) n s l.length nx = some (n ++ enc (x :: L), nx.getD R.1.length) := by
        intro s e n nx hs hn
        have hc : (UInt8.ofNat x.length).toNat = x.length := by rw [UInt8.toNat_ofNat']; have := hx.2; omega
        have hdrop : (R.1 ++ e).drop l.length = UInt8.ofNat x.length :: (x ++ (z ++ e)) := by
          rw [hz, List.append_assoc, List.append_assoc, List.drop_left]
          rfl
        rw [rd_lab (by omega) hdrop (by rw [hc]; omega) (by rw [hc]; have := hx.2; omega) (by rw [hc]; simp)]
        rw [hc, List.take_left, show l.length + 1 + x.length = (l ++ lab x).length by rw [hl1]; omega]
        have hnl : (n ++ UInt8.ofNat x.length :: x).length = n.length + (x.length + 1) := by simp
        rw [hR s e (n ++ UInt8.ofNat x.length :: x) nx hs (by rw [hnl]; omega)]
        rw [enc_cons, lab, List.append_assoc]
      refine ⟨⟨lab x ++ z, by rw [hz, List.append_assoc], by rw [List.length_append, lab_len]; omega, by rw [List.length_append, lab_len]; omega⟩, hR', fun r t h => ?_⟩
      rcases hN r t h with h' | h'
      · rcases learn_is h' with h'' | ⟨rfl, rfl, hp⟩
        · exact .inl h''
        · refine .inr ⟨by rw [hz, List.length_append, hl1]; omega, hp, ?_⟩
          intro e n k hn
          rw [hR' l.length e n (some k) ha hn]
          rfl
      · exact .inr h'

/-- a name that is put: the message goes on, what is known is told, and the name is read at its place -/
theorem put_inv {may : Bool} {L : List (List UInt8)} {l : List UInt8} {K : Kn} (hg : Good L) (hl : (enc L).length ≤ 255) (h : InvK l K) :
    InvK (putL may L l K).1 (putL may L l K).2 ∧ (∃ z, (putL may L l K).1 = l ++ z ∧ 1 ≤ z.length ∧ z.length ≤ (enc L).length) ∧
    ∀ e, readR ((putL may L l K).1 ++ e) [] l.length l.length none = some (enc L, (putL may L l K).1.length) := by
  obtain ⟨⟨z, hz, h1, h2⟩, hR, hN⟩ := put_reads may L l K l.length hg hl (Nat.le_refl _) (fun r t hk _ => h r t hk)
  refine ⟨?_, ⟨z, hz, h1, h2⟩, fun e => ?_⟩
  · intro r t hk
    rcases hN r t hk with h' | h'
    · obtain ⟨a1, a2, a3⟩ := h r t h'
      exact ⟨by rw [hz, List.length_append]; omega, a2, by rw [hz]; exact a3.more z⟩
    · exact h'
  · rw [hR l.length e [] none (Nat.le_refl _) (by simpa using hl)]
    rfl
/-- a name that may not be a pointer -/
theorem put_plain : ∀ (L : List (List UInt8)) (l : List UInt8) (K : Kn), (putL false L l K).1 = l ++ enc L := by
  intro L
  induction L with
  | nil => intro l K; rfl
  | cons x L ih => intro l K; rw [put_on rfl, ih, enc_cons, List.append_assoc]
end Go.Proofs.Ytdanncclnhkmgaa
