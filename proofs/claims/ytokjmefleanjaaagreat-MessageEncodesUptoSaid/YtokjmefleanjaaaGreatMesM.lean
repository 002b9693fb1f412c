/- The chapter on messages as plain functions. No statement of the seat is proved here. -/
import Derived.Test.YtokjmefleanjaaaGreatReM
namespace Go.Proofs.YtokjmefleanjaaaGreat
open Go.Op

structure Que where
  n : List UInt8
  t : Int
  c : Int
structure Hd where
  id : Int
  qr : Bool
  op : Int
  aa : Bool
  tc : Bool
  rd : Bool
  ra : Bool
  z : Int
  rc : Int
structure Mes where
  h : Hd
  q : List Que
  an : List Rec
  ns : List Rec
  ad : List Rec

def inB (n top : Int) : Bool := decide (0 ≤ n ∧ n ≤ top)
theorem inB_is {n top : Int} : inB n top = true ↔ 0 ≤ n ∧ n ≤ top := by unfold inB; rw [decide_eq_true_eq]
def okQ (q : Que) : Bool := (nameL q.n).isSome && inB q.t 65535 && inB q.c 65535
def okH (h : Hd) : Bool := inB h.id 65535 && inB h.op 15 && inB h.z 7 && inB h.rc 15
def okSec {α : Type} (f : α → Bool) (l : List α) : Bool := decide (l.length ≤ 65535) && l.all f
def okM (m : Mes) : Bool := okH m.h && (okSec okR m.an && (okSec okR m.ns && (okSec okR m.ad && okSec okQ m.q)))
theorem okSec_is {α : Type} {f : α → Bool} {l : List α} : okSec f l = true ↔ l.length ≤ 65535 ∧ ∀ x ∈ l, f x = true := by
  unfold okSec
  simp only [Bool.and_eq_true, decide_eq_true_eq, List.all_eq_true]
theorem okM_is {m : Mes} (h : okM m = true) : okH m.h = true ∧ okSec okR m.an = true ∧ okSec okR m.ns = true ∧ okSec okR m.ad = true ∧ okSec okQ m.q = true := by
  unfold okM at h
  simp only [Bool.and_eq_true] at h
  exact h
theorem okH_is {h : Hd} (k : okH h = true) : (0 ≤ h.id ∧ h.id ≤ 65535) ∧ (0 ≤ h.op ∧ h.op ≤ 15) ∧ (0 ≤ h.z ∧ h.z ≤ 7) ∧ (0 ≤ h.rc ∧ h.rc ≤ 15) := by
  unfold okH at k
  simp only [Bool.and_eq_true, inB_is] at k
  obtain ⟨⟨⟨h1, h2⟩, h3⟩, h4⟩ := k
  exact ⟨h1, h2, h3, h4⟩

/-! ### the flags -/
def bitB (b : Bool) (k : Nat) : Nat := if b then k else 0
def bitsH (h : Hd) : Nat := bitB h.qr 32768 + h.op.toNat * 2048 + bitB h.aa 1024 + bitB h.tc 512 + bitB h.rd 256 + bitB h.ra 128 + h.z.toNat * 16 + h.rc.toNat
def hdOf (id n : Nat) : Hd := ⟨id, decide (n / 32768 % 2 = 1), (n / 2048 % 16 : Nat), decide (n / 1024 % 2 = 1), decide (n / 512 % 2 = 1), decide (n / 256 % 2 = 1), decide (n / 128 % 2 = 1), (n / 16 % 8 : Nat), (n % 16 : Nat)⟩
theorem bitB_is (b : Bool) : ∃ k : Nat, k ≤ 1 ∧ (∀ K, bitB b K = k * K) ∧ decide (k = 1) = b := by
  cases b
  · exact ⟨0, by omega, fun K => by simp [bitB], rfl⟩
  · exact ⟨1, by omega, fun K => by simp [bitB], rfl⟩
theorem bits_lt {h : Hd} (k : okH h = true) : bitsH h < 65536 := by
  obtain ⟨_, h2, h3, h4⟩ := okH_is k
  obtain ⟨a, ha, ea, _⟩ := bitB_is h.qr
  obtain ⟨b, hb, eb, _⟩ := bitB_is h.aa
  obtain ⟨c, hc, ec, _⟩ := bitB_is h.tc
  obtain ⟨d, hd, ed, _⟩ := bitB_is h.rd
  obtain ⟨e, he, ee, _⟩ := bitB_is h.ra
  unfold bitsH
  rw [ea, eb, ec, ed, ee]
  omega
theorem hd_back {h : Hd} (k : okH h = true) : hdOf h.id.toNat (bitsH h) = h := by
  obtain ⟨h1, h2, h3, h4⟩ := okH_is k
  obtain ⟨a, ha, ea, da⟩ := bitB_is h.qr
  obtain ⟨b, hb, eb, db⟩ := bitB_is h.aa
  obtain ⟨c, hc, ec, dc⟩ := bitB_is h.tc
  obtain ⟨d, hd, ed, dd⟩ := bitB_is h.rd
  obtain ⟨e, he, ee, de⟩ := bitB_is h.ra
  obtain ⟨id, qr, op, aa, tc, rd, ra, z, rc⟩ := h
  simp only at *
  have key : ∀ n, n = a * 32768 + op.toNat * 2048 + b * 1024 + c * 512 + d * 256 + e * 128 + z.toNat * 16 + rc.toNat → hdOf id.toNat n = ⟨id, qr, op, aa, tc, rd, ra, z, rc⟩ := by
    intro n hn'
    have f1 : n / 32768 % 2 = a := by omega
    have f2 : n / 2048 % 16 = op.toNat := by omega
    have f3 : n / 1024 % 2 = b := by omega
    have f4 : n / 512 % 2 = c := by omega
    have f5 : n / 256 % 2 = d := by omega
    have f6 : n / 128 % 2 = e := by omega
    have f7 : n / 16 % 8 = z.toNat := by omega
    have f8 : n % 16 = rc.toNat := by omega
    unfold hdOf
    simp only [f1, f2, f3, f4, f5, f6, f7, f8, da, db, dc, dd, de]
    rw [show ((id.toNat : Nat) : Int) = id by omega, show ((op.toNat : Nat) : Int) = op by omega, show ((z.toNat : Nat) : Int) = z by omega, show ((rc.toNat : Nat) : Int) = rc by omega]
  refine key _ ?_
  unfold bitsH
  simp only [ea, eb, ec, ed, ee]
theorem hd_ok {id n : Nat} (h : id < 65536) : okH (hdOf id n) = true := by
  unfold okH hdOf
  simp only [Bool.and_eq_true, inB_is]
  omega

/-! ### a kind of element: how it is written, how it is read -/
structure Codec {α : Type} (W : α → WSt → WSt) (R : List UInt8 → Nat → Option (α × Nat)) (ok : α → Bool) : Prop where
  grows : ∀ x st, ok x = true → InvK st.1 st.2 → InvK (W x st).1 (W x st).2 ∧ ∃ z, (W x st).1 = st.1 ++ z ∧ 1 ≤ z.length ∧ z.length ≤ 65800
  back : ∀ x st, ok x = true → InvK st.1 st.2 → ∀ suf, R ((W x st).1 ++ suf) st.1.length = some (x, (W x st).1.length)
  cut : ∀ x st, ok x = true → InvK st.1 st.2 → ∀ M c, (W x st).1 = M ++ [c] → R M st.1.length = none
  reads : ∀ M p x e, M.length ≤ 60000 → R M p = some (x, e) → ok x = true ∧ e ≤ M.length

def secW {α : Type} (W : α → WSt → WSt) (l : List α) (st : WSt) : WSt := l.foldl (fun s x => W x s) st
def secR {α : Type} (R : List UInt8 → Nat → Option (α × Nat)) (M : List UInt8) : Nat → Nat → Option (List α × Nat)
  | p, 0 => some ([], p)
  | p, n + 1 => match R M p with
    | none => none
    | some (x, e) => (secR R M e n).map fun r => (x :: r.1, r.2)
section
variable {α : Type} {W : α → WSt → WSt} {R : List UInt8 → Nat → Option (α × Nat)} {ok : α → Bool}
theorem secW_nil (st : WSt) : secW W [] st = st := rfl
theorem secW_cons (x : α) (l : List α) (st : WSt) : secW W (x :: l) st = secW W l (W x st) := rfl
theorem secW_snoc (x : α) (l : List α) (st : WSt) : secW W (l ++ [x]) st = W x (secW W l st) := by simp [secW]
theorem secR_zero (M : List UInt8) (p : Nat) : secR R M p 0 = some ([], p) := rfl
theorem secR_no {M : List UInt8} {p n : Nat} (h : R M p = none) : secR R M p (n + 1) = none := by unfold secR; rw [h]
theorem secR_yes {M : List UInt8} {p n e : Nat} {x : α} (h : R M p = some (x, e)) : secR R M p (n + 1) = (secR R M e n).map fun r => (x :: r.1, r.2) := by rw [secR, h]
theorem Codec.sec_grows (C : Codec W R ok) : ∀ (l : List α) (st : WSt), (∀ x ∈ l, ok x = true) → InvK st.1 st.2 → InvK (secW W l st).1 (secW W l st).2 ∧ ∃ z, (secW W l st).1 = st.1 ++ z ∧ l.length ≤ z.length := by
  intro l
  induction l with
  | nil => intro st _ h; exact ⟨h, [], by simp [secW], by simp⟩
  | cons x l ih =>
    intro st hl h
    obtain ⟨h1, z, hz, hz1, _⟩ := C.grows x st (hl x (by simp)) h
    obtain ⟨h2, z2, hz2, hz3⟩ := ih (W x st) (fun y hy => hl y (by simp [hy])) h1
    rw [secW_cons]
    exact ⟨h2, z ++ z2, by rw [hz2, hz, List.append_assoc], by simp; omega⟩
theorem Codec.sec_back (C : Codec W R ok) : ∀ (l : List α) (st : WSt), (∀ x ∈ l, ok x = true) → InvK st.1 st.2 → ∀ suf, secR R ((secW W l st).1 ++ suf) st.1.length l.length = some (l, (secW W l st).1.length) := by
  intro l
  induction l with
  | nil => intro st _ _ suf; rfl
  | cons x l ih =>
    intro st hl h suf
    obtain ⟨h1, _⟩ := C.grows x st (hl x (by simp)) h
    obtain ⟨_, z2, hz2, _⟩ := C.sec_grows l (W x st) (fun y hy => hl y (by simp [hy])) h1
    have hb := C.back x st (hl x (by simp)) h (z2 ++ suf)
    rw [← List.append_assoc, ← hz2] at hb
    rw [secW_cons, List.length_cons, secR_yes hb, ih (W x st) (fun y hy => hl y (by simp [hy])) h1 suf]
    rfl
theorem Codec.sec_cut (C : Codec W R ok) : ∀ (l : List α) (st : WSt), l ≠ [] → (∀ x ∈ l, ok x = true) → InvK st.1 st.2 → ∀ M c, (secW W l st).1 = M ++ [c] → secR R M st.1.length l.length = none := by
  intro l
  induction l with
  | nil => intro st h; exact absurd rfl h
  | cons x l ih =>
    intro st _ hl h M c hM
    obtain ⟨h1, _⟩ := C.grows x st (hl x (by simp)) h
    rw [secW_cons] at hM
    rw [List.length_cons]
    by_cases hn : l = []
    · subst hn
      exact secR_no (C.cut x st (hl x (by simp)) h M c hM)
    · obtain ⟨_, z2, hz2, hz3⟩ := C.sec_grows l (W x st) (fun y hy => hl y (by simp [hy])) h1
      have hz : z2 ≠ [] := by
        intro e
        rw [e] at hz3
        exact hn (List.eq_nil_of_length_eq_zero (by simpa using hz3))
      have hMz : M = (W x st).1 ++ z2.dropLast := by
        have e1 : M ++ [c] = ((W x st).1 ++ z2.dropLast) ++ [z2.getLast hz] := by rw [← hM, hz2, List.append_assoc, List.dropLast_concat_getLast hz]
        exact (List.append_inj' e1 rfl).1
      have hb := C.back x st (hl x (by simp)) h z2.dropLast
      rw [← hMz] at hb
      rw [secR_yes hb, ih (W x st) hn (fun y hy => hl y (by simp [hy])) h1 M c hM]
      rfl
theorem Codec.sec_reads (C : Codec W R ok) {M : List UInt8} (hM : M.length ≤ 60000) : ∀ (n p : Nat) (l : List α) (e : Nat), p ≤ M.length → secR R M p n = some (l, e) → l.length = n ∧ (∀ x ∈ l, ok x = true) ∧ e ≤ M.length := by
  intro n
  induction n with
  | zero => intro p l e hp h; rw [secR_zero] at h; simp only [Option.some.injEq, Prod.mk.injEq] at h; obtain ⟨rfl, rfl⟩ := h; exact ⟨rfl, by simp, hp⟩
  | succ n ih =>
    intro p l e hp h
    cases hr : R M p with
    | none => rw [secR_no hr] at h; cases h
    | some q =>
      obtain ⟨x, e1⟩ := q
      rw [secR_yes hr] at h
      obtain ⟨h1, h2⟩ := C.reads M p x e1 hM hr
      cases hs : secR R M e1 n with
      | none => rw [hs] at h; cases h
      | some r =>
        obtain ⟨l1, e2⟩ := r
        rw [hs] at h
        simp only [Option.map_some, Option.some.injEq, Prod.mk.injEq] at h
        obtain ⟨rfl, rfl⟩ := h
        obtain ⟨i1, i2, i3⟩ := ih e1 l1 e2 h2 hs
        refine ⟨by simp [i1], fun y hy => ?_, i3⟩
        rcases List.mem_cons.1 hy with rfl | hy
        · exact h1
        · exact i2 y hy
end

/-! ### questions -/
def queW (q : Que) (st : WSt) : WSt := ((nameW q.n st).1 ++ (be q.t.toNat 2 ++ be q.c.toNat 2), (nameW q.n st).2)
def queR (M : List UInt8) (p : Nat) : Option (Que × Nat) :=
  match readR M [] p p none with
  | none => none
  | some (n, x) => if M.length < x + 4 then none else some (⟨n, num (seg M x (x + 2)), num (seg M (x + 2) (x + 4))⟩, x + 4)
theorem okQ_is {q : Que} (h : okQ q = true) : (∃ L, nameL q.n = some L) ∧ (0 ≤ q.t ∧ q.t ≤ 65535) ∧ (0 ≤ q.c ∧ q.c ≤ 65535) := by
  unfold okQ at h
  simp only [Bool.and_eq_true, inB_is, Option.isSome_iff_exists] at h
  exact ⟨h.1.1, h.1.2, h.2⟩
theorem name_inv {n : List UInt8} {L : List (List UInt8)} (hN : nameL n = some L) {st : WSt} (hi : InvK st.1 st.2) : InvK (nameW n st).1 (nameW n st).2 ∧ (∃ z, (nameW n st).1 = st.1 ++ z ∧ 1 ≤ z.length ∧ z.length ≤ 255) ∧
    (∀ e, readR ((nameW n st).1 ++ e) [] st.1.length st.1.length none = some (n, (nameW n st).1.length)) := by
  obtain ⟨he, hg, hl⟩ := nameL_is hN
  obtain ⟨h1, ⟨z, hz, hz1, hz2⟩, h3⟩ := put_inv (may := true) hg (by rw [← he]; exact hl) hi
  have hn : nameW n st = putL true L st.1 st.2 := by unfold nameW; rw [hN]
  refine ⟨by rw [hn]; exact h1, by rw [hn]; exact ⟨z, hz, hz1, by rw [he] at hl; omega⟩, ?_⟩
  rw [hn]; rw [← he] at h3; exact h3
theorem que_codec : Codec queW queR okQ where
  grows := by
    intro q st hq hi
    obtain ⟨⟨L, hL⟩, _, _⟩ := okQ_is hq
    obtain ⟨h1, ⟨z, hz, hz1, hz2⟩, _⟩ := name_inv hL hi
    refine ⟨h1.raw _, z ++ (be q.t.toNat 2 ++ be q.c.toNat 2), ?_, by simp; omega, by simp [be_length]; omega⟩
    show (nameW q.n st).1 ++ _ = _
    rw [hz, List.append_assoc]
  back := by
    intro q st hq hi suf
    obtain ⟨⟨L, hL⟩, ht, hc⟩ := okQ_is hq
    obtain ⟨h1, _, h3⟩ := name_inv hL hi
    obtain ⟨N, hN⟩ : ∃ N, N = (nameW q.n st).1 := ⟨_, rfl⟩
    rw [← hN] at h3
    have hw : (queW q st).1 = N ++ (be q.t.toNat 2 ++ be q.c.toNat 2) := by rw [hN]; rfl
    obtain ⟨M, hM⟩ : ∃ M, M = (queW q st).1 ++ suf := ⟨_, rfl⟩
    rw [← hM]
    have hMl : M.length = N.length + 4 + suf.length := by rw [hM, hw]; simp [be_length]; omega
    have hr : readR M [] st.1.length st.1.length none = some (q.n, N.length) := by
      have := h3 (be q.t.toNat 2 ++ be q.c.toNat 2 ++ suf)
      rwa [← List.append_assoc, ← hw, ← hM] at this
    have s1 : seg M N.length (N.length + 2) = be q.t.toNat 2 := seg_app (a := N) (c := be q.c.toNat 2 ++ suf) (by rw [hM, hw]; simp) rfl (by rw [be_length])
    have s2 : seg M (N.length + 2) (N.length + 4) = be q.c.toNat 2 := seg_app (a := N ++ be q.t.toNat 2) (c := suf) (by rw [hM, hw]; simp) (by simp [be_length]) (by simp [be_length])
    unfold queR
    rw [hr]
    simp only
    rw [if_neg (by omega), s1, s2, num_be_eq _ _ (by omega), num_be_eq _ _ (by omega), show ((q.t.toNat : Nat) : Int) = q.t by omega, show ((q.c.toNat : Nat) : Int) = q.c by omega]
    rw [hw]; simp [be_length]
  cut := by
    intro q st hq hi M c hM
    obtain ⟨⟨L, hL⟩, ht, hc⟩ := okQ_is hq
    obtain ⟨h1, _, h3⟩ := name_inv hL hi
    obtain ⟨N, hN⟩ : ∃ N, N = (nameW q.n st).1 := ⟨_, rfl⟩
    rw [← hN] at h3
    have hw : (queW q st).1 = N ++ (be q.t.toNat 2 ++ be q.c.toNat 2) := by rw [hN]; rfl
    rw [hw] at hM
    obtain ⟨B, hB⟩ : ∃ B, B = be q.t.toNat 2 ++ be q.c.toNat 2 := ⟨_, rfl⟩
    have hBl : B.length = 4 := by rw [hB]; simp [be_length]
    rw [← hB] at hM
    have hB0 : B ≠ [] := by intro e; rw [e] at hBl; simp at hBl
    have hMz : M = N ++ B.dropLast := by
      have e1 : M ++ [c] = (N ++ B.dropLast) ++ [B.getLast hB0] := by rw [← hM, List.append_assoc, List.dropLast_concat_getLast hB0]
      exact (List.append_inj' e1 rfl).1
    have hr := h3 B.dropLast
    rw [← hMz] at hr
    unfold queR
    rw [hr]
    simp only
    rw [if_pos (by rw [hMz]; simp; omega)]
  reads := by
    intro M p x e _ h
    unfold queR at h
    cases hr : readR M [] p p none with
    | none => rw [hr] at h; cases h
    | some q =>
      obtain ⟨n, y⟩ := q
      rw [hr] at h
      simp only at h
      split at h
      · cases h
      · rename_i hl
        simp only [Option.some.injEq, Prod.mk.injEq] at h
        obtain ⟨rfl, rfl⟩ := h
        obtain ⟨⟨L, hL⟩, _, _⟩ := read_name hr
        have n1 := num_lt (seg M y (y + 2))
        have n2 := num_lt (seg M (y + 2) (y + 4))
        rw [seg_len (by omega)] at n1 n2
        rw [show y + 2 - y = 2 by omega] at n1
        rw [show y + 4 - (y + 2) = 2 by omega] at n2
        refine ⟨?_, by omega⟩
        unfold okQ
        simp only at hL
        simp only [Bool.and_eq_true, inB_is, hL, Option.isSome_some, true_and]
        omega

/-! ### records -/
theorem steps_room {M : List UInt8} {e : Nat} (he : e ≤ M.length) : ∀ (ks : List Int) (p q : Nat), Lst ks → p ≤ e → (steps M e ks p).2 = some q → (cat (steps M e ks p).1).length + p ≤ 255 * ks.length + q := by
  intro ks
  induction ks with
  | nil => intro p q _ _ h; rw [steps_nil] at h ⊢; injection h with h; simp [cat]; omega
  | cons k ks ih =>
    intro p q hl hp h
    obtain ⟨hk, _, hrest⟩ := hl
    cases hc : cutP M e k p with
    | none => rw [steps_no hc] at h; cases h
    | some r =>
      obtain ⟨⟨o1, _, _⟩, c2, c3, _, c5⟩ := cut_ok hk hp he hc
      rw [steps_yes hc] at h ⊢
      have := ih r.2 q hrest c3 h
      have hr : r.1.length ≤ 255 + (r.2 - p) := by
        by_cases hk1 : k = -1
        · obtain ⟨L, hL⟩ := o1 (.inl hk1)
          have := (nameL_is hL).2.2
          omega
        · rw [c5 hk1, seg_len (by omega)]; omega
      rw [cat_cons, List.length_append, List.length_cons]
      omega
theorem steps_some {M : List UInt8} {e : Nat} (he : e ≤ M.length) : ∀ (ks : List Int) (p q : Nat), Lst ks → p ≤ e → (steps M e ks p).2 = some q → cat (steps M e ks p).1 = [] → q = p := by
  intro ks
  induction ks with
  | nil => intro p q _ _ h _; rw [steps_nil] at h; injection h with h; exact h.symm
  | cons k ks ih =>
    intro p q hl hp h h0
    obtain ⟨hk, _, hrest⟩ := hl
    cases hc : cutP M e k p with
    | none => rw [steps_no hc] at h; cases h
    | some r =>
      obtain ⟨⟨o1, _, _⟩, c2, c3, _, c5⟩ := cut_ok hk hp he hc
      rw [steps_yes hc] at h h0
      rw [cat_cons, List.append_eq_nil_iff] at h0
      have := ih r.2 q hrest c3 h h0.2
      have hr : r.2 = p := by
        by_cases hk1 : k = -1
        · obtain ⟨L, hL⟩ := o1 (.inl hk1)
          have h1 := (nameL_is hL).1
          have h2 := enc_pos L
          rw [h0.1] at h1
          rw [← h1] at h2
          simp at h2
        · have h1 := c5 hk1
          have h2 := congrArg List.length h1
          rw [h0.1, seg_len (by omega)] at h2
          simp at h2
          omega
      omega
theorem data_tyd {M : List UInt8} {p k : Nat} {t c : Int} {d : List UInt8} (he : p + k ≤ M.length) (h : dataR M p (p + k) (tyd t c k) = some d) : tyd t c d.length = tyd t c k := by
  have hd0 : dataR M p (p + k) (tyd t c k) = some d := h
  unfold dataR at h
  split at h
  · rename_i ho
    injection h with h
    have ho' : (steps M (p + k) (partsP (tyd t c k)) p).2 = some (p + k) := by simpa [okS] using ho
    by_cases hk : 0 < k
    · have hd : 0 < d.length := by
        rcases Nat.eq_zero_or_pos d.length with h' | h'
        · have := steps_some he _ _ _ (lst_parts _) (by omega) ho' (by rw [h]; exact List.eq_nil_of_length_eq_zero h')
          omega
        · exact h'
      unfold tyd
      simp [hk, hd]
    · obtain rfl : k = 0 := by omega
      by_cases hc : c = 1
      · unfold tyd; simp [hc]
      · have ht : tyd t c 0 = 0 := by unfold tyd; simp [hc]
        have e0 : (((0 : Nat) : Int)) = 0 := rfl
        rw [ht] at h
        have : d = seg M p (p + 0) := by
          rw [← h]
          simp [partsP, steps, cutP, cat]
        have hl := congrArg List.length this
        rw [seg_len (by omega)] at hl
        have : d.length = 0 := by omega
        rw [this]
  · cases h
theorem parts_few7 (t : Int) : (partsP t).length ≤ 7 := by
  unfold partsP
  repeat' split
  all_goals decide
theorem data_right {M : List UInt8} {p e : Nat} {t : Int} {d : List UInt8} (hM : M.length ≤ 60000) (he : e ≤ M.length) (hp : p ≤ e) (h : dataR M p e t = some d) : rightR t d = true ∧ d.length ≤ 65535 := by
  unfold dataR at h
  split at h
  · rename_i ho
    injection h with h
    have ho' : (steps M e (partsP t) p).2 = some e := by simpa [okS] using ho
    obtain ⟨h1, h2, _⟩ := steps_wf he (partsP t) p e (lst_parts t) hp ho'
    have hl := steps_room he (partsP t) p e (lst_parts t) hp ho'
    have hf := parts_few7 t
    have hd : d.length ≤ 65535 := by rw [← h]; omega
    exact ⟨by rw [← h]; exact (right_of h1 h2 (by rw [h]; exact hd)).1, hd⟩
  · cases h
theorem rec_codec : Codec writeW recR okR where
  grows := by
    intro r st hr hi
    obtain ⟨h1, z, hz, hz2⟩ := write_inv2 hr hi
    obtain ⟨_, _, _, _, hd⟩ := ok_parts hr
    have hd1 := (right_is hd).1
    obtain ⟨z2, K', _, _, e3⟩ := write_is r st
    obtain ⟨_, ⟨z3, hz3, _⟩, _⟩ := top_inv hr hi
    refine ⟨h1, z, hz, ?_, by omega⟩
    have e4 := congrArg (fun (s : WSt) => s.1.length) e3
    simp only at e4
    rw [hz] at e4
    have e5 : (topW r st).1.length = (nameW r.n st).1.length + 8 := by unfold topW; simp [headB_len]
    rw [hz3] at e5
    simp only [List.length_append, be_length] at e4 e5
    omega
  back := fun r st hr hi suf => back_rec hr hi suf
  cut := by
    intro r st hr hi M c hM
    obtain ⟨_, _, hrd⟩ := top_inv hr hi
    obtain ⟨z, K', _, _, e3⟩ := write_is r st
    have hsl := size_le hr hi
    obtain ⟨_, _, _, _, hd⟩ := ok_parts hr
    have hdl : r.d.length ≤ 65535 := (right_is hd).1
    obtain ⟨z', K2, _, e2, e3'⟩ := write_is r st
    obtain ⟨N, hN⟩ : ∃ N, N = (nameW r.n st).1 := ⟨_, rfl⟩
    have hT : (topW r st).1 = N ++ headB r.t r.c r.l := by rw [hN]; rfl
    rw [← hN] at hrd
    have hw : (writeW r st).1 = N ++ (headB r.t r.c r.l ++ be z'.length 2 ++ z') := by rw [e3', hT]; simp
    have hzl : z'.length ≤ 65535 := by rw [e2] at hsl; omega
    rw [hw] at hM
    obtain ⟨B, hB⟩ : ∃ B, B = headB r.t r.c r.l ++ be z'.length 2 ++ z' := ⟨_, rfl⟩
    have hBl : B.length = 10 + z'.length := by rw [hB]; simp [be_length, headB_len]; omega
    rw [← hB] at hM
    have hB0 : B ≠ [] := by intro e; rw [e] at hBl; simp at hBl; omega
    have hMz : M = N ++ B.dropLast := by
      have e1 : M ++ [c] = (N ++ B.dropLast) ++ [B.getLast hB0] := by rw [← hM, List.append_assoc, List.dropLast_concat_getLast hB0]
      exact (List.append_inj' e1 rfl).1
    have hMl : M.length = N.length + 9 + z'.length := by rw [hMz]; simp; omega
    have hread := hrd B.dropLast
    rw [← hMz] at hread
    unfold recR
    rw [hread]
    simp only
    rw [if_neg (by omega)]
    by_cases hz0 : z'.length = 0
    · rw [if_pos (by omega)]
    · have s4 : seg M (N.length + 8) (N.length + 10) = be z'.length 2 := by
        have hz1 : z' ≠ [] := by intro e; rw [e] at hz0; exact hz0 rfl
        refine seg_app (a := N ++ headB r.t r.c r.l) (c := z'.dropLast) ?_ (by simp [headB_len]) (by simp [be_length, headB_len])
        rw [hMz, hB, List.dropLast_append_of_ne_nil hz1]; simp
      rw [if_neg (by omega), s4, num_be_eq _ _ (by omega), if_pos (by omega)]
  reads := by
    intro M p x e hM h
    unfold recR at h
    cases hr : readR M [] p p none with
    | none => rw [hr] at h; cases h
    | some q =>
      obtain ⟨n, y⟩ := q
      rw [hr] at h
      simp only at h
      split at h
      · cases h
      · split at h
        · cases h
        · split at h
          · cases h
          · rename_i h1 h2 h3
            obtain ⟨k, hk⟩ : ∃ k, k = num (seg M (y + 8) (y + 10)) := ⟨_, rfl⟩
            rw [← hk] at h h3
            cases hd : dataR M (y + 10) (y + 10 + k) (tyd (num (seg M y (y + 2))) (num (seg M (y + 2) (y + 4))) k) with
            | none => rw [hd] at h; cases h
            | some d =>
              rw [hd] at h
              simp only [Option.some.injEq, Prod.mk.injEq] at h
              obtain ⟨rfl, rfl⟩ := h
              obtain ⟨⟨L, hL⟩, _, _⟩ := read_name hr
              simp only at hL
              obtain ⟨hrd, hdl⟩ := data_right hM (by omega) (by omega) hd
              have nn : ∀ a, a + 2 ≤ M.length → num (seg M a (a + 2)) < 65536 := fun a ha => by
                have := num_lt (seg M a (a + 2))
                rwa [seg_len ha, show a + 2 - a = 2 by omega] at this
              have n1 := nn y (by omega)
              have n2 := nn (y + 2) (by omega)
              rw [show y + 2 + 2 = y + 4 by omega] at n2
              refine ⟨?_, by omega⟩
              have ha : ageR (num (seg M (y + 4) (y + 8))) ≤ 2147483647 := by unfold ageR; split <;> omega
              unfold okR isNum isAge
              simp only [Bool.and_eq_true, decide_eq_true_eq, hL, Option.isSome_some, true_and]
              refine ⟨⟨⟨by omega, by omega⟩, by omega⟩, ?_⟩
              rw [data_tyd (by omega) hd]
              exact hrd

/-! ### the whole message -/
def headM (m : Mes) : List UInt8 := be m.h.id.toNat 2 ++ (be (bitsH m.h) 2 ++ (be m.q.length 2 ++ (be m.an.length 2 ++ (be m.ns.length 2 ++ be m.ad.length 2))))
theorem headM_len (m : Mes) : (headM m).length = 12 := by unfold headM; simp [be_length]
def fullW (m : Mes) : WSt := secW writeW m.ad (secW writeW m.ns (secW writeW m.an (secW queW m.q (headM m, noneK))))
def decR (M : List UInt8) : Option Mes :=
  if M.length < 12 then none
  else match secR queR M 12 (num (seg M 4 6)) with
    | none => none
    | some (q, p1) => match secR recR M p1 (num (seg M 6 8)) with
      | none => none
      | some (an, p2) => match secR recR M p2 (num (seg M 8 10)) with
        | none => none
        | some (ns, p3) => match secR recR M p3 (num (seg M 10 12)) with
          | none => none
          | some (ad, p4) => if p4 = M.length then some ⟨hdOf (num (seg M 0 2)) (num (seg M 2 4)), q, an, ns, ad⟩ else none
theorem noneK_inv (l : List UInt8) : InvK l noneK := fun _ _ h => by cases h
theorem full_inv {m : Mes} (h : okM m = true) : ∃ z1 z2 z3 z4,
    InvK (secW queW m.q (headM m, noneK)).1 (secW queW m.q (headM m, noneK)).2 ∧
    InvK (secW writeW m.an (secW queW m.q (headM m, noneK))).1 (secW writeW m.an (secW queW m.q (headM m, noneK))).2 ∧
    InvK (secW writeW m.ns (secW writeW m.an (secW queW m.q (headM m, noneK)))).1 (secW writeW m.ns (secW writeW m.an (secW queW m.q (headM m, noneK)))).2 ∧
    InvK (fullW m).1 (fullW m).2 ∧
    (secW queW m.q (headM m, noneK)).1 = headM m ++ z1 ∧
    (secW writeW m.an (secW queW m.q (headM m, noneK))).1 = (secW queW m.q (headM m, noneK)).1 ++ z2 ∧
    (secW writeW m.ns (secW writeW m.an (secW queW m.q (headM m, noneK)))).1 = (secW writeW m.an (secW queW m.q (headM m, noneK))).1 ++ z3 ∧
    (fullW m).1 = (secW writeW m.ns (secW writeW m.an (secW queW m.q (headM m, noneK)))).1 ++ z4 := by
  obtain ⟨_, ha, hn, hd, hq⟩ := okM_is h
  obtain ⟨i1, z1, e1, _⟩ := que_codec.sec_grows m.q (headM m, noneK) (okSec_is.1 hq).2 (noneK_inv _)
  obtain ⟨i2, z2, e2, _⟩ := rec_codec.sec_grows m.an _ (okSec_is.1 ha).2 i1
  obtain ⟨i3, z3, e3, _⟩ := rec_codec.sec_grows m.ns _ (okSec_is.1 hn).2 i2
  obtain ⟨i4, z4, e4, _⟩ := rec_codec.sec_grows m.ad _ (okSec_is.1 hd).2 i3
  exact ⟨z1, z2, z3, z4, i1, i2, i3, i4, e1, e2, e3, e4⟩
theorem head_segs {m : Mes} (h : okM m = true) {M s : List UInt8} (hM : M = headM m ++ s) : num (seg M 0 2) = m.h.id.toNat ∧ num (seg M 2 4) = bitsH m.h ∧ num (seg M 4 6) = m.q.length ∧ num (seg M 6 8) = m.an.length ∧ num (seg M 8 10) = m.ns.length ∧ num (seg M 10 12) = m.ad.length := by
  obtain ⟨hh, ha, hn, hd, hq⟩ := okM_is h
  have hid := (okH_is hh).1
  have hb := bits_lt hh
  have la := (okSec_is.1 ha).1
  have ln := (okSec_is.1 hn).1
  have ld := (okSec_is.1 hd).1
  have lq := (okSec_is.1 hq).1
  unfold headM at hM
  have s1 : seg M 0 2 = be m.h.id.toNat 2 := seg_app (a := []) (c := be (bitsH m.h) 2 ++ (be m.q.length 2 ++ (be m.an.length 2 ++ (be m.ns.length 2 ++ be m.ad.length 2))) ++ s) (by rw [hM]; simp) rfl (by simp [be_length])
  have s2 : seg M 2 4 = be (bitsH m.h) 2 := seg_app (a := be m.h.id.toNat 2) (c := (be m.q.length 2 ++ (be m.an.length 2 ++ (be m.ns.length 2 ++ be m.ad.length 2))) ++ s) (by rw [hM]; simp) (by simp [be_length]) (by simp [be_length])
  have s3 : seg M 4 6 = be m.q.length 2 := seg_app (a := be m.h.id.toNat 2 ++ be (bitsH m.h) 2) (c := (be m.an.length 2 ++ (be m.ns.length 2 ++ be m.ad.length 2)) ++ s) (by rw [hM]; simp) (by simp [be_length]) (by simp [be_length])
  have s4 : seg M 6 8 = be m.an.length 2 := seg_app (a := be m.h.id.toNat 2 ++ be (bitsH m.h) 2 ++ be m.q.length 2) (c := (be m.ns.length 2 ++ be m.ad.length 2) ++ s) (by rw [hM]; simp) (by simp [be_length]) (by simp [be_length])
  have s5 : seg M 8 10 = be m.ns.length 2 := seg_app (a := be m.h.id.toNat 2 ++ be (bitsH m.h) 2 ++ be m.q.length 2 ++ be m.an.length 2) (c := be m.ad.length 2 ++ s) (by rw [hM]; simp) (by simp [be_length]) (by simp [be_length])
  have s6 : seg M 10 12 = be m.ad.length 2 := seg_app (a := be m.h.id.toNat 2 ++ be (bitsH m.h) 2 ++ be m.q.length 2 ++ be m.an.length 2 ++ be m.ns.length 2) (c := s) (by rw [hM]; simp) (by simp [be_length]) (by simp [be_length])
  rw [s1, s2, s3, s4, s5, s6]
  exact ⟨num_be_eq _ _ (by omega), num_be_eq _ _ (by omega), num_be_eq _ _ (by omega), num_be_eq _ _ (by omega), num_be_eq _ _ (by omega), num_be_eq _ _ (by omega)⟩
theorem dec_on {m : Mes} (h : okM m = true) (s : List UInt8) : decR ((fullW m).1 ++ s) = if s = [] then some m else none := by
  obtain ⟨z1, z2, z3, z4, i1, i2, i3, i4, e1, e2, e3, e4⟩ := full_inv h
  obtain ⟨hh, ha, hn, hd, hq⟩ := okM_is h
  obtain ⟨M, hM⟩ : ∃ M, M = (fullW m).1 ++ s := ⟨_, rfl⟩
  rw [← hM]
  have hM1 : M = headM m ++ (z1 ++ z2 ++ z3 ++ z4 ++ s) := by rw [hM, e4, e3, e2, e1]; simp
  obtain ⟨g0, g1, g2, g3, g4, g5⟩ := head_segs h hM1
  have b1 := que_codec.sec_back m.q (headM m, noneK) (okSec_is.1 hq).2 (noneK_inv _) (z2 ++ z3 ++ z4 ++ s)
  have b2 := rec_codec.sec_back m.an _ (okSec_is.1 ha).2 i1 (z3 ++ z4 ++ s)
  have b3 := rec_codec.sec_back m.ns _ (okSec_is.1 hn).2 i2 (z4 ++ s)
  have b4 := rec_codec.sec_back m.ad _ (okSec_is.1 hd).2 i3 s
  have m1 : (secW queW m.q (headM m, noneK)).1 ++ (z2 ++ z3 ++ z4 ++ s) = M := by rw [hM, e4, e3, e2]; simp
  have m2 : (secW writeW m.an (secW queW m.q (headM m, noneK))).1 ++ (z3 ++ z4 ++ s) = M := by rw [hM, e4, e3]; simp
  have m3 : (secW writeW m.ns (secW writeW m.an (secW queW m.q (headM m, noneK)))).1 ++ (z4 ++ s) = M := by rw [hM, e4]; simp
  have m4 : (secW writeW m.ad (secW writeW m.ns (secW writeW m.an (secW queW m.q (headM m, noneK))))).1 ++ s = M := by rw [hM]; rfl
  rw [m1] at b1; rw [m2] at b2; rw [m3] at b3; rw [m4] at b4
  simp only [headM_len] at b1
  have hl : M.length = (fullW m).1.length + s.length := by rw [hM, List.length_append]
  unfold decR
  rw [if_neg (by rw [hM1, List.length_append, headM_len]; omega), g2, b1]
  simp only
  rw [g3, b2]
  simp only
  rw [g4, b3]
  simp only
  rw [g5, b4]
  simp only
  rw [g0, g1, hd_back hh]
  change (if (fullW m).1.length = M.length then _ else _) = _
  by_cases hs : s = []
  · rw [if_pos hs, if_pos (by rw [hl, hs]; simp)]
  · rw [if_neg hs, if_neg (by have := List.length_pos_iff.2 hs; omega)]
theorem dec_back {m : Mes} (h : okM m = true) : decR (fullW m).1 = some m := by
  have := dec_on h []
  rwa [List.append_nil, if_pos rfl] at this
theorem dec_more {m : Mes} (h : okM m = true) (c : UInt8) : decR ((fullW m).1 ++ [c]) = none := by
  have := dec_on h [c]
  rwa [if_neg (by simp)] at this
theorem full_long {m : Mes} (h : okM m = true) : 12 ≤ (fullW m).1.length := by
  obtain ⟨z1, z2, z3, z4, _, _, _, _, e1, e2, e3, e4⟩ := full_inv h
  rw [e4, e3, e2, e1]
  simp only [List.length_append, headM_len]
  omega
theorem cut_of {A z M : List UInt8} {c : UInt8} (h : A ++ z = M ++ [c]) (hz : z ≠ []) : M = A ++ z.dropLast := by
  have e1 : M ++ [c] = (A ++ z.dropLast) ++ [z.getLast hz] := by rw [← h, List.append_assoc, List.dropLast_concat_getLast hz]
  exact (List.append_inj' e1 rfl).1
theorem dec_cut {m : Mes} (h : okM m = true) {M : List UInt8} {c : UInt8} (hM : (fullW m).1 = M ++ [c]) : decR M = none := by
  obtain ⟨z1, z2, z3, z4, i1, i2, i3, i4, e1, e2, e3, e4⟩ := full_inv h
  obtain ⟨hh, ha, hn, hd, hq⟩ := okM_is h
  have hlen : (fullW m).1.length = M.length + 1 := by rw [hM, List.length_append]; rfl
  by_cases hs : M.length < 12
  · unfold decR; rw [if_pos hs]
  have hM1 : ∃ s, M = headM m ++ s := by
    have hz : z1 ++ z2 ++ z3 ++ z4 ≠ [] := by
      intro e
      have e' := congrArg List.length e
      have hl : (fullW m).1.length = 12 + (z1 ++ z2 ++ z3 ++ z4).length := by
        rw [e4, e3, e2, e1]; simp only [List.length_append, headM_len]; omega
      rw [e'] at hl
      simp only [List.length_nil] at hl
      omega
    exact ⟨_, cut_of (A := headM m) (z := z1 ++ z2 ++ z3 ++ z4) (c := c) (by rw [← hM, e4, e3, e2, e1]; simp) hz⟩
  obtain ⟨s, hM1⟩ := hM1
  obtain ⟨g0, g1, g2, g3, g4, g5⟩ := head_segs h hM1
  unfold decR
  rw [if_neg hs, g2, g3, g4, g5]
  have F : ∀ {A z : List UInt8}, A ++ z = M ++ [c] → z ≠ [] → ∃ y, A ++ y = M := fun e hz => ⟨_, (cut_of e hz).symm⟩
  by_cases c4 : m.ad = []
  · have q4 : z4 = [] := by
      have : (fullW m).1 = (secW writeW m.ns (secW writeW m.an (secW queW m.q (headM m, noneK)))).1 := by unfold fullW; rw [c4]; rfl
      rw [this] at e4
      simpa using e4
    rw [q4, List.append_nil] at e4
    by_cases c3 : m.ns = []
    · have q3 : z3 = [] := by
        rw [c3, secW_nil] at e3
        simpa using e3
      rw [q3, List.append_nil] at e3
      by_cases c2 : m.an = []
      · have q2 : z2 = [] := by
          rw [c2, secW_nil] at e2
          simpa using e2
        rw [q2, List.append_nil] at e2
        by_cases c1 : m.q = []
        · exfalso
          rw [c1, secW_nil] at e1
          have : z1 = [] := by simpa using e1
          rw [e4, e3, e2, c1, secW_nil] at hlen
          simp only [headM_len] at hlen
          omega
        · have b1 := que_codec.sec_cut m.q (headM m, noneK) c1 (okSec_is.1 hq).2 (noneK_inv _) M c (by rw [← e2, ← e3, ← e4, hM])
          simp only [headM_len] at b1
          rw [b1]
      · have b2 := rec_codec.sec_cut m.an _ c2 (okSec_is.1 ha).2 i1 M c (by rw [← e3, ← e4, hM])
        obtain ⟨_, y2, ey2, ly2⟩ := rec_codec.sec_grows m.an _ (okSec_is.1 ha).2 i1
        obtain ⟨s1, hs1⟩ := F (A := (secW queW m.q (headM m, noneK)).1) (z := y2) (by rw [← ey2, ← e3, ← e4, hM]) (by intro e; rw [e] at ly2; exact c2 (List.eq_nil_of_length_eq_zero (by simpa using ly2)))
        have b1 := que_codec.sec_back m.q (headM m, noneK) (okSec_is.1 hq).2 (noneK_inv _) s1
        rw [hs1] at b1
        simp only [headM_len] at b1
        rw [b1]
        simp only
        rw [b2]
    · have b3 := rec_codec.sec_cut m.ns _ c3 (okSec_is.1 hn).2 i2 M c (by rw [← e4, hM])
      obtain ⟨_, y3, ey3, ly3⟩ := rec_codec.sec_grows m.ns _ (okSec_is.1 hn).2 i2
      have n3 : y3 ≠ [] := by intro e; rw [e] at ly3; exact c3 (List.eq_nil_of_length_eq_zero (by simpa using ly3))
      obtain ⟨s2, hs2⟩ := F (A := (secW writeW m.an (secW queW m.q (headM m, noneK))).1) (z := y3) (by rw [← ey3, ← e4, hM]) n3
      obtain ⟨s1, hs1⟩ := F (A := (secW queW m.q (headM m, noneK)).1) (z := z2 ++ y3) (by rw [← List.append_assoc, ← e2, ← ey3, ← e4, hM]) (by simp [n3])
      have b1 := que_codec.sec_back m.q (headM m, noneK) (okSec_is.1 hq).2 (noneK_inv _) s1
      have b2 := rec_codec.sec_back m.an _ (okSec_is.1 ha).2 i1 s2
      rw [hs1] at b1; rw [hs2] at b2
      simp only [headM_len] at b1
      rw [b1]
      simp only
      rw [b2]
      simp only
      rw [b3]
  · have b4 := rec_codec.sec_cut m.ad _ c4 (okSec_is.1 hd).2 i3 M c hM
    obtain ⟨_, y4, ey4, ly4⟩ := rec_codec.sec_grows m.ad _ (okSec_is.1 hd).2 i3
    have n4 : y4 ≠ [] := by intro e; rw [e] at ly4; exact c4 (List.eq_nil_of_length_eq_zero (by simpa using ly4))
    have e4' : (fullW m).1 = (secW writeW m.ns (secW writeW m.an (secW queW m.q (headM m, noneK)))).1 ++ y4 := ey4
    obtain ⟨s3, hs3⟩ := F (A := (secW writeW m.ns (secW writeW m.an (secW queW m.q (headM m, noneK)))).1) (z := y4) (by rw [← e4', hM]) n4
    obtain ⟨s2, hs2⟩ := F (A := (secW writeW m.an (secW queW m.q (headM m, noneK))).1) (z := z3 ++ y4) (by rw [← List.append_assoc, ← e3, ← e4', hM]) (by simp [n4])
    obtain ⟨s1, hs1⟩ := F (A := (secW queW m.q (headM m, noneK)).1) (z := z2 ++ z3 ++ y4) (by rw [← List.append_assoc, ← List.append_assoc, ← e2, ← e3, ← e4', hM]) (by simp [n4])
    have b1 := que_codec.sec_back m.q (headM m, noneK) (okSec_is.1 hq).2 (noneK_inv _) s1
    have b2 := rec_codec.sec_back m.an _ (okSec_is.1 ha).2 i1 s2
    have b3 := rec_codec.sec_back m.ns _ (okSec_is.1 hn).2 i2 s3
    rw [hs1] at b1; rw [hs2] at b2; rw [hs3] at b3
    simp only [headM_len] at b1
    rw [b1]
    simp only
    rw [b2]
    simp only
    rw [b3]
    simp only
    rw [b4]
theorem dec_ok {M : List UInt8} {m : Mes} (hM : M.length ≤ 60000) (h : decR M = some m) : okM m = true := by
  unfold decR at h
  split at h
  · cases h
  rename_i h12
  have nn : ∀ a, a + 2 ≤ M.length → num (seg M a (a + 2)) < 65536 := fun a ha => by
    have := num_lt (seg M a (a + 2))
    rwa [seg_len ha, show a + 2 - a = 2 by omega] at this
  cases h1 : secR queR M 12 (num (seg M 4 6)) with
  | none => rw [h1] at h; cases h
  | some r1 =>
    obtain ⟨q, p1⟩ := r1
    rw [h1] at h
    simp only at h
    obtain ⟨l1, o1, e1⟩ := que_codec.sec_reads hM _ _ _ _ (by omega) h1
    cases h2 : secR recR M p1 (num (seg M 6 8)) with
    | none => rw [h2] at h; cases h
    | some r2 =>
      obtain ⟨an, p2⟩ := r2
      rw [h2] at h
      simp only at h
      obtain ⟨l2, o2, e2⟩ := rec_codec.sec_reads hM _ _ _ _ e1 h2
      cases h3 : secR recR M p2 (num (seg M 8 10)) with
      | none => rw [h3] at h; cases h
      | some r3 =>
        obtain ⟨ns, p3⟩ := r3
        rw [h3] at h
        simp only at h
        obtain ⟨l3, o3, e3⟩ := rec_codec.sec_reads hM _ _ _ _ e2 h3
        cases h4 : secR recR M p3 (num (seg M 10 12)) with
        | none => rw [h4] at h; cases h
        | some r4 =>
          obtain ⟨ad, p4⟩ := r4
          rw [h4] at h
          simp only at h
          obtain ⟨l4, o4, e4⟩ := rec_codec.sec_reads hM _ _ _ _ e3 h4
          split at h
          · injection h with h
            subst h
            have k0 : num (seg M 0 2) < 65536 := nn 0 (by omega)
            have k4 : num (seg M 4 6) < 65536 := nn 4 (by omega)
            have k6 : num (seg M 6 8) < 65536 := nn 6 (by omega)
            have k8 : num (seg M 8 10) < 65536 := nn 8 (by omega)
            have k10 : num (seg M 10 12) < 65536 := nn 10 (by omega)
            unfold okM
            simp only [Bool.and_eq_true, okSec_is]
            refine ⟨hd_ok k0, ⟨by rw [l2]; omega, o2⟩, ⟨by rw [l3]; omega, o3⟩, ⟨by rw [l4]; omega, o4⟩, ⟨by rw [l1]; omega, o1⟩⟩
          · cases h
end Go.Proofs.YtokjmefleanjaaaGreat
