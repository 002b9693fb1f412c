/- A zone with another serial, as mathematics. No statement of the seat is proved here. -/
import Derived.Test.YtkmmbbcmpjkmkaaGreatZonG
namespace Go.Proofs.YtkmmbbcmpjkmkaaGreat
open Go.Op
set_option linter.unusedVariables false

theorem dropX_c {r : Rrd} (hr : OkX r) : ∀ {l : List Rrd}, OkL l → dropX cmpX r l = dropX cX r l
  | [], _ => rfl
  | x :: l, h => by
    have e := cX_is (h x (by simp)) hr
    have ih := dropX_c hr (l := l) (fun y hy => h y (List.mem_cons_of_mem _ hy))
    unfold dropX
    rw [e, ih]
theorem hitX_c {r : Rrd} (hr : OkX r) : ∀ {l : List Rrd}, OkL l → hitX cmpX r l = hitX cX r l
  | [], _ => rfl
  | x :: l, h => by
    have e := cX_is (h x (by simp)) hr
    have ih := hitX_c hr (l := l) (fun y hy => h y (List.mem_cons_of_mem _ hy))
    unfold hitX
    rw [e, ih]
theorem drop_mid {s s0 : Rrd} {B : List Rrd} (h0 : cX s0 s = 0) : ∀ {A : List Rrd}, (∀ y ∈ A, cX y s = -1) → dropX cX s (A ++ s0 :: B) = A ++ B ∧ hitX cX s (A ++ s0 :: B) = true
  | [], _ => by
    rw [List.nil_append, dropX, hitX, if_neg (by omega), if_pos h0, if_neg (by omega), decide_eq_true h0]
    exact ⟨rfl, rfl⟩
  | y :: A, h => by
    have ih := drop_mid h0 (B := B) (A := A) (fun z hz => h z (List.mem_cons_of_mem _ hz))
    have e := h y (by simp)
    rw [List.cons_append, dropX, hitX, if_pos (by omega), if_pos (by omega), ih.1, ih.2]
    exact ⟨rfl, rfl⟩
theorem put_mid {s : Rrd} {B : List Rrd} (hB : ∀ y ∈ B, cX s y = -1) : ∀ {A : List Rrd}, (∀ y ∈ A, cX y s = -1) → putX cX s (A ++ B) = A ++ s :: B
  | [], _ => by
    cases B with
    | nil => rfl
    | cons y B =>
      have e := hB y (by simp)
      have f := cX_flip s y
      rw [List.nil_append, putX, if_neg (by omega), if_neg (by omega)]
      rfl
  | y :: A, h => by
    have ih := put_mid hB (A := A) (fun z hz => h z (List.mem_cons_of_mem _ hz))
    have e := h y (by simp)
    rw [List.cons_append, putX, if_pos (by omega), ih]
    rfl
/-- a record with other data -/
def withD (s : Rrd) (d : List UInt8) : Rrd := ⟨s.s, s.t, s.c, s.l, mk d⟩
theorem withD_rec (s : Rrd) (d : List UInt8) : (withD s d).toRec.d = d ∧ nmX (withD s d) = nmX s ∧ (withD s d).t = s.t ∧ (withD s d).c = s.c := by
  refine ⟨?_, rfl, rfl, rfl⟩
  unfold withD Rrd.toRec recOf
  simp [mk]
theorem withD_self (s : Rrd) : withD s s.toRec.d = s := by
  have := rrd_data s
  unfold withD
  rw [← this]
theorem cX_withD {s y : Rrd} (d : List UInt8) (h : y.t ≠ s.t) : cX y (withD s d) = cX y s ∧ cX (withD s d) y = cX s y := by
  have hs : ∀ a b : Int, a ≠ b → sgn a b ≠ 0 := by
    intro a b h
    unfold sgn
    split
    · decide
    · split
      · decide
      · omega
  have h1 : ∀ x : Int, orI x (orI (sgn y.t s.t) (sgn y.c s.c)) ≠ 0 := by
    intro x
    have := hs _ _ h
    unfold orI
    split
    · exact this
    · assumption
  have h2 : ∀ x : Int, orI x (orI (sgn s.t y.t) (sgn s.c y.c)) ≠ 0 := by
    intro x
    have := hs _ _ (Ne.symm h)
    unfold orI
    split
    · exact this
    · assumption
  have e1 : ∀ (p q r : Int), p ≠ 0 → orI p q = orI p r := by intro p q r hp; unfold orI; rw [if_neg hp, if_neg hp]
  constructor
  · exact e1 _ _ _ (h1 (cK (nmX y) (nmX s)))
  · exact e1 _ _ _ (h2 (cK (nmX s) (nmX y)))
/-- where the one record of a type stands -/
theorem typ_split {t : Int} {D : List Rrd} {s : Rrd} (h : typX t D = [s]) : ∃ A B, D = A ++ s :: B ∧ s.t = t ∧ (∀ y ∈ A, y.t ≠ t) ∧ ∀ y ∈ B, y.t ≠ t := by
  have hm : s ∈ typX t D := by rw [h]; simp
  obtain ⟨h1, h2⟩ := typX_mem.1 hm
  obtain ⟨A, B, rfl⟩ := List.append_of_mem h1
  have h3 : typX t A ++ s :: typX t B = [s] := by
    rw [← h]
    unfold typX
    rw [List.filter_append, List.filter_cons, if_pos (by simpa using h2)]
  have h4 : typX t A = [] ∧ typX t B = [] := by
    have hl := congrArg List.length h3
    simp at hl
    exact ⟨List.eq_nil_of_length_eq_zero (by omega), List.eq_nil_of_length_eq_zero (by omega)⟩
  refine ⟨A, B, rfl, h2, fun y hy e => ?_, fun y hy e => ?_⟩
  · have : y ∈ typX t A := typX_mem.2 ⟨hy, e⟩
    rw [h4.1] at this; cases this
  · have : y ∈ typX t B := typX_mem.2 ⟨hy, e⟩
    rw [h4.2] at this; cases this
theorem isZ_same {nn : List UInt8} {A B : List Rrd} {s s' : Rrd} (hn : nmX s' = nmX s) (ht : s'.t = s.t) (hc : s'.c = s.c) (hk : KS (A ++ s :: B)) (ok : OkL (A ++ s :: B)) (hk' : KS (A ++ s' :: B)) (ok' : OkL (A ++ s' :: B))
    (h : isZ nn (A ++ s :: B) = true) : isZ nn (A ++ s' :: B) = true := by
  have hg : goodR nn s' = goodR nn s := by unfold goodR; rw [hn, ht, hc]
  have hty : ∀ t, (typX t (A ++ s' :: B)).length = (typX t (A ++ s :: B)).length := by
    intro t
    unfold typX
    rw [List.filter_append, List.filter_append, List.filter_cons, List.filter_cons, ht]
    split <;> simp
  have hat : ∀ t, (typX t (atX nn (A ++ s' :: B))).length = (typX t (atX nn (A ++ s :: B))).length := by
    intro t
    unfold typX atX
    simp only [List.filter_append, List.filter_cons, List.length_append, hn]
    cases alikeN (nmX s) nn with
    | false => simp
    | true =>
      simp only [if_true, List.filter_cons, ht]
      split <;> simp
  have hp : ∀ y, pairX y s' = pairX y s ∧ pairX s' y = pairX s y := by intro y; unfold pairX; rw [hn, ht]; exact ⟨rfl, rfl⟩
  have hal : aloneX (A ++ s' :: B) = true := by
    have h1 : aloneX (A ++ s :: B) = true := by
      unfold isZ at h
      rw [Bool.and_eq_true, Bool.and_eq_true, Bool.and_eq_true, Bool.and_eq_true] at h
      exact h.2.2.2.2
    rw [alone_pair hk ok] at h1
    rw [alone_pair hk' ok']
    rw [List.pairwise_append, List.pairwise_cons] at h1 ⊢
    refine ⟨h1.1, ⟨fun y hy => ?_, h1.2.1.2⟩, fun y hy z hz => ?_⟩
    · rw [(hp y).2]; exact h1.2.1.1 y hy
    · rcases List.mem_cons.1 hz with rfl | hz
      · rw [(hp y).1]; exact h1.2.2 y hy s (by simp)
      · exact h1.2.2 y hy z (List.mem_cons_of_mem _ hz)
  unfold isZ at h ⊢
  rw [hty, hat, hat, hal]
  have h2 : (A ++ s' :: B).all (goodR nn) = (A ++ s :: B).all (goodR nn) := by simp [List.all_append, hg]
  rw [h2]
  simp only [Bool.and_eq_true] at h ⊢
  exact ⟨h.1, h.2.1, h.2.2.1, h.2.2.2.1, trivial⟩
/-- a zone with other data in its SOA record -/
structure Other (nn : List UInt8) (D : List Rrd) (s : Rrd) (D' : List Rrd) (s' : Rrd) : Prop where
  drop : dropX cmpX s D = dropX cmpX s' D'
  hit : hitX cmpX s D = true ∧ hitX cmpX s' D' = true
  put : putX cmpX s' (dropX cmpX s D) = D'
  back : putX cmpX s (dropX cmpX s' D') = D
  set : SetL cX D'
  ok : OkL D'
  okE : OkL (dropX cmpX s D)
  setE : SetL cmpX (dropX cmpX s D)
  zone : isZ nn D' = true
  typ : typX 6 D' = [s']
  len : D'.length = D.length
theorem other_of {nn : List UInt8} {D : List Rrd} {s : Rrd} {d : List UInt8} (hz : isZ nn D = true) (hset : SetL cX D) (hok : OkL D) (hs : typX 6 D = [s]) (hok' : OkX (withD s d)) : ∃ D', Other nn D s D' (withD s d) := by
  obtain ⟨A, B, rfl, ht, hA, hB⟩ := typ_split hs
  obtain ⟨s', hs'⟩ : ∃ s', s' = withD s d := ⟨_, rfl⟩
  obtain ⟨_, hn, ht', hc⟩ := withD_rec s d
  have hxA : ∀ y ∈ A, cX y s' = cX y s ∧ cX s' y = cX s y := fun y hy => by rw [hs']; exact cX_withD d (by rw [ht]; exact hA y hy)
  have hxB : ∀ y ∈ B, cX y s' = cX y s ∧ cX s' y = cX s y := fun y hy => by rw [hs']; exact cX_withD d (by rw [ht]; exact hB y hy)
  rw [← hs'] at hn ht' hc hok' ⊢
  have hset0 := hset
  unfold SetL at hset
  rw [List.pairwise_append, List.pairwise_cons] at hset
  obtain ⟨p1, ⟨p2, p3⟩, p4⟩ := hset
  have hAs : ∀ y ∈ A, cX y s = -1 := fun y hy => p4 y hy s (by simp)
  have hset' : SetL cX (A ++ s' :: B) := by
    unfold SetL
    rw [List.pairwise_append, List.pairwise_cons]
    refine ⟨p1, ⟨fun y hy => by rw [(hxB y hy).2]; exact p2 y hy, p3⟩, fun y hy z hz => ?_⟩
    rcases List.mem_cons.1 hz with rfl | hz
    · rw [(hxA y hy).1]; exact hAs y hy
    · exact p4 y hy z (List.mem_cons_of_mem _ hz)
  have hokE : OkL (A ++ B) := fun x hx => hok x (by rcases List.mem_append.1 hx with h | h <;> simp [h])
  have hokD' : OkL (A ++ s' :: B) := by
    intro x hx
    rcases List.mem_append.1 hx with h | h
    · exact hok x (by simp [h])
    · rcases List.mem_cons.1 h with rfl | h
      · exact hok'
      · exact hok x (by simp [h])
  have oks : OkX s := hok s (by simp)
  have hAs' : ∀ y ∈ A, cX y s' = -1 := fun y hy => by rw [(hxA y hy).1]; exact hAs y hy
  have hBs' : ∀ y ∈ B, cX s' y = -1 := fun y hy => by rw [(hxB y hy).2]; exact p2 y hy
  have d1 := drop_mid (s := s) (s0 := s) (B := B) (cX_ord.self s) hAs
  have d2 := drop_mid (s := s') (s0 := s') (B := B) (cX_ord.self s') hAs'
  have e1 : dropX cmpX s (A ++ s :: B) = A ++ B := (dropX_c oks hok).trans d1.1
  have e2 : dropX cmpX s' (A ++ s' :: B) = A ++ B := (dropX_c hok' hokD').trans d2.1
  refine ⟨A ++ s' :: B, ?_⟩
  exact {
    drop := e1.trans e2.symm
    hit := ⟨(hitX_c oks hok).trans d1.2, (hitX_c hok' hokD').trans d2.2⟩
    put := by rw [e1, putX_c hok' hokE]; exact put_mid hBs' hAs'
    back := by rw [e2, putX_c oks hokE]; exact put_mid p2 hAs
    set := hset'
    ok := hokD'
    okE := by rw [e1]; exact hokE
    setE := by
      rw [e1]
      refine (SetL_c hokE).2 ?_
      unfold SetL
      rw [List.pairwise_append]
      exact ⟨p1, p3, fun y hy z hz => p4 y hy z (List.mem_cons_of_mem _ hz)⟩
    zone := isZ_same hn ht' hc hset0.keys hok hset'.keys hokD' hz
    typ := by
      have hA0 : typX 6 A = [] := by unfold typX; rw [List.filter_eq_nil_iff]; intro y hy; simp [hA y hy]
      have hB0 : typX 6 B = [] := by unfold typX; rw [List.filter_eq_nil_iff]; intro y hy; simp [hB y hy]
      unfold typX at hA0 hB0 ⊢
      rw [List.filter_append, List.filter_cons, hA0, hB0, if_pos (by simp [ht', ht])]
      rfl
    len := by simp }
end Go.Proofs.YtkmmbbcmpjkmkaaGreat
