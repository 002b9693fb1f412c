/- Parts of the proofs of the statements of image. No statement of the seat is proved here. -/
import Derived.Test.YtnbapaimpoobkaaGreatDoorNaM
import Derived.Lib.ItoaNum
import Derived.Lib.AtoiTie
import Derived.Lib.SplitLaws
import Derived.Lib.CountLaws
import Derived.Lib.IndexLaws
namespace Go.Proofs.YtnbapaimpoobkaaGreatDoor

/-! ### words -/
def blk : UInt8 := 32
/-- the words of a text: those that are read, the word at which the reading is -/
def wdF (out : List (List UInt8)) (cur : List UInt8) : List UInt8 → List (List UInt8)
  | [] => out ++ [cur]
  | c :: r => if c = blk then wdF (out ++ [cur]) [] r else wdF out (cur ++ [c]) r
def wordsL (s : List UInt8) : List (List UInt8) := wdF [] [] s
theorem wdF_out : ∀ (s : List UInt8) (out : List (List UInt8)) (cur : List UInt8), wdF out cur s = out ++ wdF [] cur s
  | [], out, cur => by simp [wdF]
  | c :: r, out, cur => by
    rw [wdF, wdF]
    split
    · rw [wdF_out r (out ++ [cur]), wdF_out r ([] ++ [cur])]; simp
    · rw [wdF_out r out]
theorem wdF_plain : ∀ (a : List UInt8) (cur r : List UInt8), (∀ c ∈ a, c ≠ blk) → wdF [] cur (a ++ r) = wdF [] (cur ++ a) r
  | [], cur, r, _ => by simp
  | c :: a, cur, r, h => by
    rw [List.cons_append, wdF, if_neg (h c (by simp)), wdF_plain a _ r (fun x hx => h x (List.mem_cons_of_mem _ hx))]
    simp
theorem words_none {s : List UInt8} (h : ∀ c ∈ s, c ≠ blk) : wordsL s = [s] := by
  have := wdF_plain s [] [] h
  rw [List.append_nil] at this
  unfold wordsL
  rw [this]; simp [wdF]
theorem words_some {a r : List UInt8} (h : ∀ c ∈ a, c ≠ blk) : wordsL (a ++ blk :: r) = a :: wordsL r := by
  unfold wordsL
  rw [wdF_plain a [] (blk :: r) h, wdF, if_pos rfl, wdF_out]
  simp
theorem wdF_len : ∀ (s : List UInt8) (cur : List UInt8), ∀ x ∈ wdF [] cur s, x.length ≤ cur.length + s.length
  | [], cur, x, h => by simp [wdF] at h; subst h; simp
  | c :: r, cur, x, h => by
    rw [wdF] at h
    split at h
    · rw [wdF_out] at h
      rcases List.mem_append.1 h with h | h
      · simp at h; subst h; simp
      · have := wdF_len r [] x h; simp at this ⊢; omega
    · have := wdF_len r _ x h; simp at this ⊢; omega
theorem words_len {s : List UInt8} : ∀ x ∈ wordsL s, x.length ≤ s.length := fun x h => by have := wdF_len s [] x h; simpa using this
/-- where a loop that goes through a text is: the words found, where the word began, where it is -/
def Wds (s : List UInt8) (out : List (List UInt8)) (f i : Nat) : Prop := f ≤ i ∧ i ≤ s.length ∧ wordsL s = wdF out ((s.take i).drop f) (s.drop i)
theorem Wds.start (s : List UInt8) : Wds s [] 0 0 := ⟨Nat.le_refl _, Nat.zero_le _, by simp [wordsL]⟩
theorem Wds.blank {s : List UInt8} {out : List (List UInt8)} {f i : Nat} (h : Wds s out f i) (hi : i < s.length) (hc : s[i] = blk) : Wds s (out ++ [(s.take i).drop f]) (i + 1) (i + 1) := by
  obtain ⟨h1, h2, h3⟩ := h
  refine ⟨Nat.le_refl _, hi, ?_⟩
  rw [h3, List.drop_eq_getElem_cons hi, wdF, if_pos hc]
  simp
theorem Wds.byte {s : List UInt8} {out : List (List UInt8)} {f i : Nat} (h : Wds s out f i) (hi : i < s.length) (hc : s[i] ≠ blk) : Wds s out f (i + 1) := by
  obtain ⟨h1, h2, h3⟩ := h
  refine ⟨by omega, hi, ?_⟩
  rw [h3, List.drop_eq_getElem_cons hi, wdF, if_neg hc]
  congr 1
  rw [List.take_add_one, List.getElem?_eq_getElem hi, List.drop_append_of_le_length (by simp; omega)]
  rfl
theorem Wds.ends {s : List UInt8} {out : List (List UInt8)} {f : Nat} (h : Wds s out f s.length) : wordsL s = out ++ [(s.take s.length).drop f] := by
  rw [h.2.2, List.drop_length, wdF]

/-! ### as the library splits -/
theorem occ_one (s : List UInt8) (i : Nat) (hi : i < s.length) : Lib.occAt s [blk] i = decide (s[i] = blk) := by
  rw [Lib.occAt_iff_take s [blk] i (by simp; omega)]
  have e : (s.drop i).take [blk].length = [s[i]] := by rw [List.drop_eq_getElem_cons hi]; rfl
  rw [e, Bool.beq_eq_decide_eq]
  exact decide_eq_decide.2 ⟨fun h => by injection h, fun h => by rw [h]⟩
theorem index_plain {s : List UInt8} (h : ∀ c ∈ s, c ≠ blk) : Lib.index s [blk] = -1 := by
  refine Lib.index_none fun j hj => ?_
  rcases Nat.lt_or_ge j s.length with g | g
  · rw [occ_one s j g]; exact decide_eq_false (h _ (List.getElem_mem g))
  · cases ho : Lib.occAt s [blk] j with
    | false => rfl
    | true =>
      rcases Lib.occAt_room ho with h | h
      · simp at h; omega
      · cases h
theorem index_first {a r : List UInt8} (h : ∀ c ∈ a, c ≠ blk) : Lib.index (a ++ blk :: r) [blk] = (a.length : Nat) := by
  refine Lib.index_first (by simp) ?_ fun j hj => ?_
  · rw [occ_one _ _ (by simp)]; simp
  · rw [occ_one _ _ (by simp; omega)]
    rw [List.getElem_append_left hj]
    exact decide_eq_false (h _ (List.getElem_mem hj))
theorem first_blank : ∀ s : List UInt8, (∀ c ∈ s, c ≠ blk) ∨ ∃ a r, s = a ++ blk :: r ∧ ∀ c ∈ a, c ≠ blk
  | [] => .inl (by simp)
  | c :: r => by
    by_cases hc : c = blk
    · exact .inr ⟨[], r, by simp [hc], by simp⟩
    · rcases first_blank r with h | ⟨a, t, e, h⟩
      · exact .inl (by simpa using ⟨hc, h⟩)
      · exact .inr ⟨c :: a, t, by simp [e], by simpa using ⟨hc, h⟩⟩
theorem splitK_words : ∀ (n : Nat) (s : List UInt8), s.length ≤ n → Lib.splitK [blk] 0 (Lib.count s [blk]) s = wordsL s := by
  intro n
  induction n with
  | zero =>
    intro s hs
    obtain rfl : s = [] := List.eq_nil_of_length_eq_zero (by omega)
    rw [Lib.count_miss (index_plain (by simp))]
    rfl
  | succ n ih =>
    intro s hs
    rcases first_blank s with h | ⟨a, r, rfl, h⟩
    · rw [Lib.count_miss (index_plain h), words_none h]; rfl
    · have hi := index_first (r := r) h
      have hd : (a ++ blk :: r).drop (a.length + [blk].length) = r := by
        rw [List.drop_append]; simp
      rw [Lib.count_hit (by simp) hi, hd, words_some h, Nat.add_comm, Lib.splitK]
      have hm : ¬ (Lib.index (a ++ blk :: r) [blk] == -1) = true := fun e => by have := beq_iff_eq.1 e; omega
      rw [if_neg hm, hi, Int.toNat_natCast, hd, ih r (by simp at hs; omega)]
      simp
theorem splitB_words (S : ByteArray) (s : List UInt8) (hS : S = mk s) : Lib.splitB ⟨#[32]⟩ 0 (Lib.countB S ⟨#[32]⟩) S = (wordsL s).map mk := by
  have h := Lib.splitB_data ⟨#[32]⟩ 0 (Lib.countB S ⟨#[32]⟩) S
  have hs : S.data.toList = s := by rw [hS]; simp [mk]
  have hc : Lib.countB S ⟨#[32]⟩ = Lib.count s [blk] := by unfold Lib.countB; rw [hs]; rfl
  rw [hs, hc] at h
  have h2 : (Lib.splitB ⟨#[32]⟩ 0 (Lib.countB S ⟨#[32]⟩) S).map (·.data.toList) = wordsL s := by
    rw [hc]; exact h.trans (splitK_words _ s (Nat.le_refl _))
  rw [← h2, List.map_map]
  refine (List.map_id _).symm.trans (List.map_congr_left fun x _ => ?_)
  simp [mk]

/-! ### decimal numbers -/
def valD (l : List UInt8) : Nat := l.foldl (fun n c => n * 10 + (c.toNat - 48)) 0
theorem valD_snoc (l : List UInt8) (c : UInt8) : valD (l ++ [c]) = valD l * 10 + (c.toNat - 48) := by simp [valD]
/-- the number of a word of one to ten digits; -1 -/
def numL (s : List UInt8) : Int := if s.length = 0 ∨ 10 < s.length ∨ (s.head? = some 48 ∧ 1 < s.length) ∨ s.all isD = false then -1 else (valD s : Nat)
def decI (n : Int) : List UInt8 := Lib.decDigits n.toNat
theorem dec_big {u : Nat} (h : ¬ u < 10) : Lib.decDigits u = Lib.decDigits (u / 10) ++ [UInt8.ofNat (48 + u % 10)] := by rw [Lib.decDigits, dif_neg h]
theorem dg_nat (k : Nat) (h : k < 10) : (UInt8.ofNat (48 + k)).toNat = 48 + k := by rw [UInt8.toNat_ofNat']; omega
theorem isD_dg (k : Nat) (h : k < 10) : isD (UInt8.ofNat (48 + k)) = true := by unfold isD; rw [dg_nat k h]; simp; omega
theorem dec_facts : ∀ (n u : Nat), u ≤ n → (Lib.decDigits u).all isD = true ∧ valD (Lib.decDigits u) = u ∧ 1 ≤ (Lib.decDigits u).length ∧ ((Lib.decDigits u).head? = some 48 → u = 0) := by
  intro n
  induction n with
  | zero =>
    intro u hu
    obtain rfl : u = 0 := by omega
    rw [Lib.decDigits_one (by decide)]
    exact ⟨by decide, by decide, by decide, fun _ => rfl⟩
  | succ n ih =>
    intro u hu
    by_cases h : u < 10
    · rw [Lib.decDigits_one h]
      refine ⟨by rw [List.all_cons, isD_dg u h]; rfl, ?_, Nat.le_refl _, ?_⟩
      · show (0 * 10 + ((UInt8.ofNat (48 + u)).toNat - 48)) = u
        rw [dg_nat u h]; omega
      · intro e
        rw [List.head?_cons] at e
        injection e with e
        have := congrArg UInt8.toNat e
        rw [dg_nat u h] at this
        have e48 : (48 : UInt8).toNat = 48 := rfl
        omega
    · obtain ⟨i1, i2, i3, i4⟩ := ih (u / 10) (by omega)
      rw [dec_big h]
      refine ⟨by rw [List.all_append, i1, List.all_cons, isD_dg (u % 10) (by omega)]; rfl, ?_, by simp, ?_⟩
      · rw [valD_snoc, i2, dg_nat (u % 10) (by omega)]; omega
      · intro e
        cases hd : Lib.decDigits (u / 10) with
        | nil => rw [hd] at i3; simp at i3
        | cons c r =>
          rw [hd] at e i4
          simp at e
          have := i4 (by simp [e])
          omega
theorem dec_len {u : Nat} (h : u < 10000000000) : (Lib.decDigits u).length ≤ 10 := by
  rw [Lib.decDigits_length]
  rcases Nat.lt_or_ge 10 (Lib.nDigits u) with g | g
  · exfalso
    obtain ⟨k, hk⟩ : ∃ k, Lib.nDigits u = k + 1 := ⟨Lib.nDigits u - 1, by omega⟩
    have h1 : 10 ^ 10 ≤ u := by
      have : ∀ (m v : Nat), m + 1 ≤ Lib.nDigits v → m = 0 ∨ 10 ^ m ≤ v := by
        intro m
        induction m with
        | zero => intro v _; exact .inl rfl
        | succ m ih =>
          intro v hv
          right
          by_cases hs : v < 10
          · rw [Lib.nDigits_small hs] at hv; omega
          · rw [Lib.nDigits_big hs] at hv
            rcases ih (v / 10) (by omega) with e | e
            · subst e; simp; omega
            · rw [Nat.pow_succ]; omega
      rcases this 10 u (by omega) with e | e
      · cases e
      · exact e
    simp at h1; omega
  · exact g
theorem snoc_of {s : List UInt8} (h : s ≠ []) : ∃ t c, s = t ++ [c] := ⟨s.dropLast, s.getLast h, (List.dropLast_concat_getLast h).symm⟩
theorem head_snoc {t : List UInt8} {c : UInt8} (h : t ≠ []) : (t ++ [c]).head? = t.head? := by cases t with | nil => exact absurd rfl h | cons a t => rfl
theorem val_pos : ∀ (n : Nat) (s : List UInt8), s.length ≤ n → s ≠ [] → s.all isD = true → s.head? ≠ some 48 → 0 < valD s := by
  intro n
  induction n with
  | zero => intro s hs hne; exact absurd (List.eq_nil_of_length_eq_zero (by omega)) hne
  | succ n ih =>
    intro s hs hne hd hh
    obtain ⟨t, c, rfl⟩ := snoc_of hne
    rw [valD_snoc]
    rw [List.all_append] at hd
    simp at hd
    by_cases ht : t = []
    · subst ht
      have hc := hd.2
      unfold isD at hc
      simp at hc
      have : c.toNat ≠ 48 := fun e => hh (by simp; exact UInt8.toNat_inj.1 (by rw [e]; rfl))
      simp [valD]; omega
    · have := ih t (by simp at hs; omega) ht (by simpa using hd.1) (by rw [← head_snoc (c := c) ht]; exact hh)
      omega
theorem dec_val : ∀ (n : Nat) (s : List UInt8), s.length ≤ n → s ≠ [] → s.all isD = true → (s.head? = some 48 → s.length = 1) → Lib.decDigits (valD s) = s := by
  intro n
  induction n with
  | zero => intro s hs hne; exact absurd (List.eq_nil_of_length_eq_zero (by omega)) hne
  | succ n ih =>
    intro s hs hne hd hh
    obtain ⟨t, c, rfl⟩ := snoc_of hne
    rw [List.all_append] at hd
    simp at hd
    have hc : 48 ≤ c.toNat ∧ c.toNat ≤ 57 := by have := hd.2; unfold isD at this; simpa using this
    have hc2 : UInt8.ofNat (48 + (c.toNat - 48)) = c := UInt8.toNat_inj.1 (by rw [UInt8.toNat_ofNat']; omega)
    rw [valD_snoc]
    by_cases ht : t = []
    · subst ht
      have e : valD [] * 10 + (c.toNat - 48) = c.toNat - 48 := by simp [valD]
      rw [e, Lib.decDigits_one (by omega), hc2]; rfl
    · have hta : t.all isD = true := by simpa using hd.1
      have hth : t.head? ≠ some 48 := by
        intro e
        have h1 := hh (by rw [head_snoc ht]; exact e)
        have h2 := List.length_pos_iff.2 ht
        rw [List.length_append, List.length_singleton] at h1; omega
      have hp := val_pos n t (by simp at hs; omega) ht hta hth
      have e1 : (valD t * 10 + (c.toNat - 48)) / 10 = valD t := by omega
      have e2 : (valD t * 10 + (c.toNat - 48)) % 10 = c.toNat - 48 := by omega
      rw [dec_big (by omega), e1, e2, hc2, ih t (by simp at hs; omega) ht hta (fun e => absurd e hth)]
theorem decFrom_val : ∀ (s : List UInt8) (a : Nat), s.all isD = true → Lib.decFrom a s = some (s.foldl (fun n c => n * 10 + (c.toNat - 48)) a)
  | [], a, _ => rfl
  | c :: r, a, h => by
    rw [List.all_cons, Bool.and_eq_true] at h
    have hc : 48 ≤ c.toNat ∧ c.toNat ≤ 57 := by have := h.1; unfold isD at this; simpa using this
    rw [Lib.decFrom, Lib.digitVal, if_pos hc, List.foldl_cons]
    exact decFrom_val r _ h.2
theorem atoi_digits {s : List UInt8} (hne : s ≠ []) (h : s.all isD = true) : Lib.atoi s = some ((valD s : Nat) : Int) := by
  cases s with
  | nil => exact absurd rfl hne
  | cons c r =>
    have hc : 48 ≤ c.toNat ∧ c.toNat ≤ 57 := by
      rw [List.all_cons, Bool.and_eq_true] at h
      have := h.1; unfold isD at this; simpa using this
    have h1 : ¬ (c == 45) = true := fun e => by have := beq_iff_eq.1 e; subst this; exact absurd hc (by decide)
    have h2 : ¬ (c == 43) = true := fun e => by have := beq_iff_eq.1 e; subst this; exact absurd hc (by decide)
    rw [Lib.atoi, if_neg h1, if_neg h2, Lib.decNat]
    simp only [List.isEmpty_cons]
    rw [if_neg (by simp), decFrom_val _ _ h]
    rfl
/-- a word of at most ten bytes is a number exactly if what the library reads of it is written as that word -/
theorem numL_some {s : List UInt8} (h : s.length ≤ 10) (hn : 0 ≤ numL s) : ∃ v : Nat, numL s = (v : Nat) ∧ v < 10000000000 ∧ Lib.atoi s = some ((v : Nat) : Int) ∧ Lib.decDigits v = s := by
  unfold numL at hn ⊢
  split at hn
  · omega
  · rename_i hc
    rw [if_neg hc]
    have h0 : s ≠ [] := fun e => hc (.inl (by simp [e]))
    have hd : s.all isD = true := by
      cases e : s.all isD with
      | true => rfl
      | false => exact absurd (.inr (.inr (.inr e))) hc
    have hh : s.head? = some 48 → s.length = 1 := fun e => by
      have := List.length_pos_iff.2 h0
      rcases Nat.lt_or_ge 1 s.length with g | g
      · exact absurd (.inr (.inr (.inl ⟨e, g⟩))) hc
      · omega
    have hlt : valD s < 10000000000 := by
      have := Lib.decFrom_lt s 0 (valD s) (decFrom_val s 0 hd)
      have h2 : 10 ^ s.length ≤ 10 ^ 10 := Nat.pow_le_pow_right (by decide) h
      have e10 : (10 : Nat) ^ 10 = 10000000000 := by decide
      omega
    exact ⟨valD s, rfl, hlt, atoi_digits h0 hd, dec_val _ s (Nat.le_refl _) h0 hd hh⟩
theorem numL_none {s : List UInt8} (h : s.length ≤ 10) (hn : ¬ 0 ≤ numL s) : numL s = -1 ∧ ∀ n : Int, Lib.atoi s = some n → n < 0 ∨ Lib.decDigits n.toNat ≠ s := by
  refine ⟨?_, fun n ha => ?_⟩
  · unfold numL at hn ⊢
    split at hn
    · rename_i hc; rw [if_pos hc]
    · omega
  · rcases Int.lt_or_le n 0 with g | g
    · exact .inl g
    · right
      intro e
      apply hn
      obtain ⟨h1, h2, h3, h4⟩ := dec_facts n.toNat n.toNat (Nat.le_refl _)
      rw [e] at h1 h2 h3 h4
      unfold numL
      rw [if_neg]
      · omega
      · rintro (e' | e' | ⟨e1, e2⟩ | e')
        · omega
        · omega
        · have h0 := h4 e1
          rw [h0, Lib.decDigits_one (by decide)] at e
          rw [← e] at e2; simp at e2
        · rw [h1] at e'; cases e'
theorem numL_long {s : List UInt8} (h : 10 < s.length) : numL s = -1 := by unfold numL; rw [if_pos (.inr (.inl h))]
theorem numL_lt (s : List UInt8) : numL s < 10000000000 := by
  rcases Nat.lt_or_ge 10 s.length with g | g
  · rw [numL_long g]; omega
  · by_cases h : 0 ≤ numL s
    · obtain ⟨v, h1, h2, _⟩ := numL_some g h; omega
    · omega

/-! ### pairs of digits -/
def hexD (n : Nat) : UInt8 := if n < 10 then UInt8.ofNat (48 + n) else UInt8.ofNat (87 + n)
def hexC (c : UInt8) : List UInt8 := [hexD (c.toNat / 16), hexD (c.toNat % 16)]
def hexL (d : List UInt8) : List UInt8 := d.flatMap hexC
theorem hexL_snoc (d : List UInt8) (c : UInt8) : hexL (d ++ [c]) = hexL d ++ hexC c := by simp [hexL]
theorem hexL_cons (d : List UInt8) (c : UInt8) : hexL (c :: d) = hexC c ++ hexL d := by simp [hexL]
theorem hexL_len (d : List UInt8) : (hexL d).length = 2 * d.length := by
  induction d with
  | nil => rfl
  | cons c d ih => rw [hexL_cons, List.length_append, ih]; simp [hexC]; omega
def halfI (c : UInt8) : Int := if 48 ≤ c.toNat ∧ c.toNat ≤ 57 then (c.toNat : Int) - 48 else if 97 ≤ c.toNat ∧ c.toNat ≤ 102 then (c.toNat : Int) - 87 else -1
theorem halfI_range (c : UInt8) : -1 ≤ halfI c ∧ halfI c ≤ 15 := by
  unfold halfI; split
  · omega
  · split <;> omega
def unhexL : List UInt8 → Option (List UInt8)
  | [] => some []
  | [_] => none
  | a :: b :: r => if halfI a < 0 ∨ halfI b < 0 then none else (unhexL r).map (UInt8.ofNat (halfI a * 16 + halfI b).toNat :: ·)
theorem unhex_len : ∀ (n : Nat) (s : List UInt8), s.length ≤ n → ∀ d, unhexL s = some d → 2 * d.length = s.length := by
  intro n
  induction n with
  | zero => intro s hs d h; obtain rfl : s = [] := List.eq_nil_of_length_eq_zero (by omega); simp [unhexL] at h; subst h; rfl
  | succ n ih =>
    intro s hs d h
    match s, h with
    | [], h => simp [unhexL] at h; subst h; rfl
    | [_], h => simp [unhexL] at h
    | a :: b :: r, h =>
      rw [unhexL] at h
      split at h
      · cases h
      · cases hr : unhexL r with
        | none => rw [hr] at h; cases h
        | some t =>
          rw [hr] at h
          simp at h
          have := ih r (by simp at hs; omega) t hr
          rw [← h]; simp; omega
theorem unhex_odd : ∀ (n : Nat) (s : List UInt8), s.length ≤ n → s.length % 2 = 1 → unhexL s = none := by
  intro n
  induction n with
  | zero => intro s hs h; omega
  | succ n ih =>
    intro s hs h
    match s, h with
    | [_], _ => rfl
    | a :: b :: r, h =>
      rw [unhexL]
      split
      · rfl
      · rw [ih r (by simp at hs; omega) (by simp at h; omega)]; rfl
/-- where a loop over pairs is -/
def Pairs (s d : List UInt8) (t : List UInt8) : Prop := unhexL s = (unhexL t).map (d ++ ·)
theorem Pairs.start (s : List UInt8) : Pairs s [] s := by unfold Pairs; cases unhexL s <;> simp
theorem Pairs.step {s d t : List UInt8} {a b : UInt8} (h : Pairs s d (a :: b :: t)) (ha : 0 ≤ halfI a) (hb : 0 ≤ halfI b) : Pairs s (d ++ [UInt8.ofNat (halfI a * 16 + halfI b).toNat]) t := by
  unfold Pairs at h ⊢
  rw [h, unhexL, if_neg (by omega)]
  cases unhexL t <;> simp
theorem Pairs.fails {s d t : List UInt8} {a b : UInt8} (h : Pairs s d (a :: b :: t)) (hb : halfI a < 0 ∨ halfI b < 0) : unhexL s = none := by
  unfold Pairs at h
  rw [h, unhexL, if_pos hb]; rfl
theorem Pairs.ends {s d : List UInt8} (h : Pairs s d []) : unhexL s = some d := by
  unfold Pairs at h
  rw [h, unhexL]; simp
theorem Pairs.one {s d : List UInt8} {a : UInt8} (h : Pairs s d [a]) : unhexL s = none := by
  unfold Pairs at h
  rw [h, unhexL]; rfl

end Go.Proofs.YtnbapaimpoobkaaGreatDoor
