/- Parts of the proofs of the statements of image. No statement of the seat is proved here. -/
import Derived.Test.YtmpginmdaeclaaaGreatDoorRdM
import Derived.Test.YtmpginmdaeclaaaGreatDoorNaE
set_option maxHeartbeats 32000000
set_option maxRecDepth 20000
namespace Go.Proofs.YtmpginmdaeclaaaGreatDoor
open Go.Op
structure Rec where
  n : List UInt8
  t : Int
  c : Int
  l : Int
  d : List UInt8
def tyd (t c : Int) (size : Nat) : Int := if c = 1 \/ (c = 254 /\ 0 < size) then t else 0
def isNum (n : Int) : Bool := decide (0 <= n /\ n <= 65535)
def isAge (n : Int) : Bool := decide (0 <= n /\ n <= 2147483647)
def okR (r : Rec) : Bool := (nameL r.n).isSome && isNum r.t && isNum r.c && isAge r.l && rightR (tyd r.t r.c r.d.length) r.d
def saidR (t : Int) (d : List UInt8) : List UInt8 := if rightR t d = true then foldD t d else d
def oneR (a b : Rec) : Bool := a.t == b.t && (a.c == b.c && (alikeN a.n b.n && saidR a.t a.d == saidR b.t b.d))
def sgn (a b : Int) : Int := if a < b then -1 else if b < a then 1 else 0
def orI (x y : Int) : Int := if x = 0 then y else x
def headO (a b : Rec) : Int := orI (cmpN a.n b.n) (orI (sgn a.t b.t) (sgn a.c b.c))
def cmpR (a b : Rec) : Int := orI (headO a b) (cmpB (saidR a.t a.d) (saidR b.t b.d))
theorem plain_right {D : List UInt8} (h : D.length <= 65535) : rightR 0 D = true /\ visR 0 D = [(-4, D)] := by
  have hw : WF [(-4, D)] := ⟨by simp [Part], ⟨by simp, by simp, by simp⟩, fun _ => rfl, trivial⟩
  have hc : cat [(-4, D)] = D := by simp [cat]
  have := right_of (t := 0) hw rfl (by rw [hc]; exact h)
  rwa [hc] at this
theorem ok_parts {r : Rec} (h : okR r = true) : (∃ L, nameL r.n = some L) /\ (0 <= r.t /\ r.t <= 65535) /\ (0 <= r.c /\ r.c <= 65535) /\ (0 <= r.l /\ r.l <= 2147483647) /\ rightR (tyd r.t r.c r.d.length) r.d = true := by
  unfold okR isNum isAge at h
  simp only [Bool.and_eq_true, decide_eq_true_eq, Option.isSome_iff_exists] at h
  obtain ⟨⟨⟨⟨h1, h2⟩, h3⟩, h4⟩, h5⟩ := h
  exact ⟨h1, h2, h3, h4, h5⟩
theorem put_same (may : Bool) : ∀ (L : List (List UInt8)) (l l' : List UInt8) (K : Kn), l.length = l'.length -> ∃ z K', putL may L l K = (l ++ z, K') /\ putL may L l' K = (l' ++ z, K') := by
  intro L
  induction L with
  | nil => intro l l' K _; exact ⟨[0], K, rfl, rfl⟩
  | cons x L ih =>
    intro l l' K h
    cases hk : knownK may K (enc (x :: L)) with
    | some t => exact ⟨ptrB t, K, put_ptr hk, put_ptr hk⟩
    | none =>
      rw [put_on hk, put_on hk, h]
      obtain ⟨z, K', h1, h2⟩ := ih (l ++ lab x) (l' ++ lab x) (learnK K (enc (x :: L)) l'.length) (by rw [List.length_append, List.length_append, h])
      exact ⟨lab x ++ z, K', by rw [h1, List.append_assoc], by rw [h2, List.append_assoc]⟩
theorem part_same (may : Bool) (x : Int × List UInt8) (l l' : List UInt8) (K : Kn) (h : l.length = l'.length) : ∃ z K', putV may (l, K) x = (l ++ z, K') /\ putV may (l', K) x = (l' ++ z, K') := by
  unfold putV
  split
  · cases nameL x.2 with
    | none => exact ⟨[], K, by simp, by simp⟩
    | some L => exact put_same may L l l' K h
  · split
    · cases nameL x.2 with
      | none => exact ⟨[], K, by simp, by simp⟩
      | some L => exact put_same false L l l' K h
    · exact ⟨x.2, K, rfl, rfl⟩
theorem write_same (may : Bool) : ∀ (V : Vis) (l l' : List UInt8) (K : Kn), l.length = l'.length -> ∃ z K', writeV may V (l, K) = (l ++ z, K') /\ writeV may V (l', K) = (l' ++ z, K') := by
  intro V
  induction V with
  | nil => intro l l' K _; exact ⟨[], K, by simp [writeV], by simp [writeV]⟩
  | cons x V ih =>
    intro l l' K h
    obtain ⟨z, K', h1, h2⟩ := part_same may x l l' K h
    obtain ⟨z2, K2, h3, h4⟩ := ih (l ++ z) (l' ++ z) K' (by rw [List.length_append, List.length_append, h])
    rw [write_cons, write_cons, h1, h2]
    exact ⟨z ++ z2, K2, by rw [h3, List.append_assoc], by rw [h4, List.append_assoc]⟩
theorem part_some (may : Bool) {st : WSt} (hi : InvK st.1 st.2) {k : Int} {b : List UInt8} (ho : Okp k b) (hb : b ≠ []) : st.1.length < (putV may st (k, b)).1.length := by
  have hname : ∀ (m : Bool) (L : List (List UInt8)), nameL b = some L -> st.1.length < (putL m L st.1 st.2).1.length := by
    intro m L hN
    obtain ⟨he, hg, hl⟩ := nameL_is hN
    obtain ⟨_, ⟨z, hz, hz1, _⟩, _⟩ := put_inv (may := m) hg (by rw [<-he]; exact hl) hi
    rw [hz, List.length_append]; omega
  obtain ⟨o1, _, _⟩ := ho
  unfold putV
  simp only
  split
  · rename_i k1
    obtain ⟨L, hN⟩ := o1 (.inl k1)
    rw [hN]; exact hname _ L hN
  · split
    · rename_i k2
      obtain ⟨L, hN⟩ := o1 (.inr k2)
      rw [hN]; exact hname _ L hN
    · have := List.length_pos_iff.2 hb
      simp only [List.length_append]; omega
theorem write_some (may : Bool) : ∀ (V : Vis) (st : WSt), InvK st.1 st.2 -> WF V -> cat V ≠ [] -> st.1.length < (writeV may V st).1.length := by
  intro V
  induction V with
  | nil => intro st _ _ h; exact absurd rfl h
  | cons x V ih =>
    obtain ⟨k, b⟩ := x
    intro st hi hw hc
    obtain ⟨hk, ho, hlast, hrest⟩ := hw
    obtain ⟨p1, ⟨z, hz, _⟩, _⟩ := put_part may hi hk ho
    rw [write_cons]
    obtain ⟨_, ⟨z2, hz2, _⟩, _⟩ := steps_write may V (putV may st (k, b)) p1 hrest
    by_cases hb : b = []
    · subst hb
      rw [cat_cons, List.nil_append] at hc
      have := ih (putV may st (k, [])) p1 hrest hc
      have h2 := congrArg List.length hz
      rw [List.length_append] at h2
      omega
    · have := part_some may hi ho hb
      rw [hz2, List.length_append]; omega
def dataW (t c : Int) (d : List UInt8) (st : WSt) : WSt := writeV true (visR (tyd t c d.length) d) st
def headB (t c l : Int) : List UInt8 := be t.toNat 2 ++ (be c.toNat 2 ++ be l.toNat 4)
theorem headB_len (t c l : Int) : (headB t c l).length = 8 := by unfold headB; simp [be_length]
def nameW (n : List UInt8) (st : WSt) : WSt := match nameL n with | some L => putL true L st.1 st.2 | none => st
def topW (r : Rec) (st : WSt) : WSt := ((nameW r.n st).1 ++ headB r.t r.c r.l, (nameW r.n st).2)
def sizeW (r : Rec) (st : WSt) : Nat := (dataW r.t r.c r.d (st.1 ++ be 0 2, st.2)).1.length - (st.1.length + 2)
def writeW (r : Rec) (st : WSt) : WSt := dataW r.t r.c r.d ((topW r st).1 ++ be (sizeW r (topW r st)) 2, (topW r st).2)
theorem data_same (t c : Int) (d : List UInt8) {l l' : List UInt8} (K : Kn) (h : l.length = l'.length) : ∃ z K', dataW t c d (l, K) = (l ++ z, K') /\ dataW t c d (l', K) = (l' ++ z, K') := write_same true _ l l' K h
theorem write_is (r : Rec) (st : WSt) : ∃ z K', dataW r.t r.c r.d ((topW r st).1 ++ be 0 2, (topW r st).2) = ((topW r st).1 ++ be 0 2 ++ z, K') /\ sizeW r (topW r st) = z.length /\ writeW r st = ((topW r st).1 ++ be z.length 2 ++ z, K') := by
  obtain ⟨z, K', h1, _⟩ := data_same r.t r.c r.d (l := (topW r st).1 ++ be 0 2) (l' := (topW r st).1 ++ be 0 2) (topW r st).2 rfl
  have hs : sizeW r (topW r st) = z.length := by
    unfold sizeW; rw [h1, List.length_append, List.length_append, be_length]
    omega
  obtain ⟨z2, K2, h2, h3⟩ := data_same r.t r.c r.d (l := (topW r st).1 ++ be 0 2) (l' := (topW r st).1 ++ be z.length 2) (topW r st).2 (by rw [List.length_append, List.length_append, be_length, be_length])
  rw [h1] at h2
  injection h2 with e1 e2
  have e1 := List.append_cancel_left e1
  refine ⟨z, K', h1, hs, ?_⟩
  unfold writeW
  rw [hs, h3, <-e1, <-e2]
theorem top_inv {r : Rec} (hr : okR r = true) {st : WSt} (hi : InvK st.1 st.2) : InvK (topW r st).1 (topW r st).2 /\ (∃ z, (nameW r.n st).1 = st.1 ++ z /\ 1 <= z.length /\ z.length <= 255) /\
    (∀ e, readR ((nameW r.n st).1 ++ e) [] st.1.length st.1.length none = some (r.n, (nameW r.n st).1.length)) := by
  obtain ⟨⟨L, hN⟩, _⟩ := ok_parts hr
  obtain ⟨he, hg, hl⟩ := nameL_is hN
  obtain ⟨h1, ⟨z, hz, hz1, hz2⟩, h3⟩ := put_inv (may := true) hg (by rw [<-he]; exact hl) hi
  have hn : nameW r.n st = putL true L st.1 st.2 := by unfold nameW; rw [hN]
  refine ⟨?_, ?_, ?_⟩
  · unfold topW; rw [hn]; exact h1.raw _
  · rw [hn]; exact ⟨z, hz, hz1, by rw [he] at hl; omega⟩
  · rw [hn]; rw [<-he] at h3; exact h3
theorem write_inv2 {r : Rec} (hr : okR r = true) {st : WSt} (hi : InvK st.1 st.2) : InvK (writeW r st).1 (writeW r st).2 /\ ∃ z, (writeW r st).1 = st.1 ++ z /\ z.length <= 265 + r.d.length := by
  obtain ⟨_, _, _, _, hd⟩ := ok_parts hr
  obtain ⟨_, _, hcat, hwf, _⟩ := right_is hd
  obtain ⟨h1, ⟨z, hz, _, hz2⟩, _⟩ := top_inv hr hi
  obtain ⟨i1, ⟨z2, hz3, hz4⟩, _⟩ := steps_write true (visR (tyd r.t r.c r.d.length) r.d) ((topW r st).1 ++ be (sizeW r (topW r st)) 2, (topW r st).2) (h1.raw _) hwf
  refine ⟨i1, z ++ headB r.t r.c r.l ++ be (sizeW r (topW r st)) 2 ++ z2, ?_, ?_⟩
  · show (writeV true _ _).1 = _
    rw [hz3]
    unfold topW
    simp only
    rw [hz]; simp
  · rw [hcat] at hz4
    simp only [List.length_append, headB_len, be_length]; omega
theorem size_le {r : Rec} (hr : okR r = true) {st : WSt} (hi : InvK st.1 st.2) : sizeW r (topW r st) <= r.d.length := by
  obtain ⟨_, _, _, _, hd⟩ := ok_parts hr
  obtain ⟨_, _, hcat, hwf, _⟩ := right_is hd
  obtain ⟨h1, _⟩ := top_inv hr hi
  obtain ⟨_, ⟨z2, hz3, hz4⟩, _⟩ := steps_write true (visR (tyd r.t r.c r.d.length) r.d) ((topW r st).1 ++ be 0 2, (topW r st).2) (h1.raw _) hwf
  unfold sizeW dataW
  rw [hz3, hcat] at *
  simp only [List.length_append, be_length]
  omega
def ageR (n : Nat) : Nat := if 2147483647 < n then 0 else n
def recR (M : List UInt8) (p : Nat) : Option (Rec × Nat) :=
  match readR M [] p p none with
  | none => none
  | some (n, x) =>
    if M.length < x + 8 then none
    else if M.length < x + 10 then none
    else if M.length < x + 10 + num (seg M (x + 8) (x + 10)) then none
    else match dataR M (x + 10) (x + 10 + num (seg M (x + 8) (x + 10))) (tyd (num (seg M x (x + 2))) (num (seg M (x + 2) (x + 4))) (num (seg M (x + 8) (x + 10)))) with
      | none => none
      | some d => some (⟨n, num (seg M x (x + 2)), num (seg M (x + 2) (x + 4)), ageR (num (seg M (x + 4) (x + 8))), d⟩, x + 10 + num (seg M (x + 8) (x + 10)))
theorem seg_app {M a b c : List UInt8} {p q : Nat} (h : M = a ++ b ++ c) (hp : p = a.length) (hq : q = a.length + b.length) : seg M p q = b := by
  have := seg_mid a b c
  rw [List.length_append] at this
  rw [h, hp, hq, this]
theorem back_rec {r : Rec} (hr : okR r = true) {st : WSt} (hi : InvK st.1 st.2) (suf : List UInt8) : recR ((writeW r st).1 ++ suf) st.1.length = some (r, (writeW r st).1.length) := by
  obtain ⟨_, ⟨ht0, ht1⟩, ⟨hc0, hc1⟩, ⟨hl0, hl1⟩, hd⟩ := ok_parts hr
  obtain ⟨_, _, hcat, hwf, _⟩ := right_is hd
  obtain ⟨h1, _, hrd⟩ := top_inv hr hi
  obtain ⟨z, K', e1, e2, e3⟩ := write_is r st
  have hsl := size_le hr hi
  rw [e2] at hsl
  have hdl : r.d.length <= 65535 := (right_is hd).1
  obtain ⟨N, hN⟩ : ∃ N, N = (nameW r.n st).1 := ⟨_, rfl⟩
  have hT : (topW r st).1 = N ++ headB r.t r.c r.l := by rw [hN]; rfl
  rw [<-hN] at hrd
  have hM : (writeW r st).1 ++ suf = N ++ (be r.t.toNat 2 ++ (be r.c.toNat 2 ++ be r.l.toNat 4)) ++ be z.length 2 ++ z ++ suf := by rw [e3, hT]; rfl
  obtain ⟨M, hMM⟩ : ∃ M, M = (writeW r st).1 ++ suf := ⟨_, rfl⟩
  rw [<-hMM]
  have hWL : (writeW r st).1.length = N.length + 10 + z.length := by rw [e3, hT]; simp [headB, be_length]; omega
  have hMl : M.length = N.length + 10 + z.length + suf.length := by rw [hMM, List.length_append, hWL]
  rw [<-hMM] at hM
  have s1 : seg M N.length (N.length + 2) = be r.t.toNat 2 := seg_app (a := N) (c := be r.c.toNat 2 ++ be r.l.toNat 4 ++ be z.length 2 ++ z ++ suf) (by rw [hM]; simp) rfl (by rw [be_length])
  have s2 : seg M (N.length + 2) (N.length + 4) = be r.c.toNat 2 := seg_app (a := N ++ be r.t.toNat 2) (c := be r.l.toNat 4 ++ be z.length 2 ++ z ++ suf) (by rw [hM]; simp) (by simp [be_length]) (by simp [be_length])
  have s3 : seg M (N.length + 4) (N.length + 8) = be r.l.toNat 4 := seg_app (a := N ++ be r.t.toNat 2 ++ be r.c.toNat 2) (c := be z.length 2 ++ z ++ suf) (by rw [hM]; simp) (by simp [be_length]) (by simp [be_length])
  have s4 : seg M (N.length + 8) (N.length + 10) = be z.length 2 := seg_app (a := N ++ be r.t.toNat 2 ++ be r.c.toNat 2 ++ be r.l.toNat 4) (c := z ++ suf) (by rw [hM]; simp) (by simp [be_length]) (by simp [be_length])
  have n1 : num (be r.t.toNat 2) = r.t.toNat := num_be_eq _ _ (by omega)
  have n2 : num (be r.c.toNat 2) = r.c.toNat := num_be_eq _ _ (by omega)
  have n3 : num (be r.l.toNat 4) = r.l.toNat := num_be_eq _ _ (by omega)
  have n4 : num (be z.length 2) = z.length := num_be_eq _ _ (by omega)
  have hread : readR M [] st.1.length st.1.length none = some (r.n, N.length) := by
    have := hrd (headB r.t r.c r.l ++ be z.length 2 ++ z ++ suf)
    rwa [show N ++ (headB r.t r.c r.l ++ be z.length 2 ++ z ++ suf) = M by rw [hM]; simp [headB]] at this
  have hty : tyd r.t r.c z.length = tyd r.t r.c r.d.length := by
    unfold tyd
    by_cases hD : r.d = []
    · have : z.length = 0 := by rw [hD] at hsl; simpa using hsl
      rw [this, hD]; rfl
    · have hlt := write_some true (visR (tyd r.t r.c r.d.length) r.d) ((topW r st).1 ++ be 0 2, (topW r st).2) (h1.raw _) hwf (by rw [hcat]; exact hD)
      have e1' : (writeV true (visR (tyd r.t r.c r.d.length) r.d) ((topW r st).1 ++ be 0 2, (topW r st).2)).1 = (topW r st).1 ++ be 0 2 ++ z := by
        have := congrArg Prod.fst e1
        exact this
      rw [e1'] at hlt
      simp only [List.length_append] at hlt
      have a1 : 0 < z.length := by omega
      have a2 : 0 < r.d.length := List.length_pos_iff.2 hD
      simp [a1, a2]
  have hdata : dataR M (N.length + 10) (N.length + 10 + z.length) (tyd r.t r.c r.d.length) = some r.d := by
    have := write_back hd (st := ((topW r st).1 ++ be z.length 2, (topW r st).2)) (h1.raw _) suf
    have e3' : (writeV true (visR (tyd r.t r.c r.d.length) r.d) ((topW r st).1 ++ be z.length 2, (topW r st).2)) = writeW r st := by
      unfold writeW; rw [e2]; rfl
    rw [e3', <-hMM, hWL] at this
    simp only at this
    rwa [show ((topW r st).1 ++ be z.length 2).length = N.length + 10 by rw [hT]; simp [headB, be_length]] at this
  unfold recR
  rw [hread]
  simp only
  rw [s1, s2, s3, s4, n1, n2, n3, n4, if_neg (by omega), if_neg (by omega), if_neg (by omega)]
  rw [show ((r.t.toNat : Nat) : Int) = r.t by omega, show ((r.c.toNat : Nat) : Int) = r.c by omega, hty, hdata]
  have ha : ((ageR r.l.toNat : Nat) : Int) = r.l := by unfold ageR; rw [if_neg (by omega)]; omega
  simp only
  rw [ha, hWL]
theorem sgn_flip (a b : Int) : sgn b a = - sgn a b := by
  unfold sgn
  repeat' split
  all_goals omega
theorem sgn_range (a b : Int) : sgn a b = -1 \/ sgn a b = 0 \/ sgn a b = 1 := by
  unfold sgn
  repeat' split
  all_goals simp
theorem sgn_zero (a b : Int) : sgn a b = 0 ↔ a = b := by
  unfold sgn
  repeat' split
  all_goals omega
theorem cmpB_flip (a b : List UInt8) : cmpB b a = - cmpB a b := by
  unfold cmpB
  by_cases h1 : bytesLess a b = true
  · rw [if_pos h1, if_neg (by rw [less_asymm h1]; simp), if_pos h1]; rfl
  · by_cases h2 : bytesLess b a = true
    · simp [h1, h2]
    · simp [h1, h2]
theorem cmpB_range (a b : List UInt8) : cmpB a b = -1 \/ cmpB a b = 0 \/ cmpB a b = 1 := by
  unfold cmpB
  repeat' split
  all_goals simp
theorem cmpB_zero (a b : List UInt8) : cmpB a b = 0 ↔ a = b := by
  unfold cmpB
  constructor
  · intro h
    split at h
    · cases h
    · split at h
      · cases h
      · rename_i h1 h2
        exact less_total a b (by simpa using h1) (by simpa using h2)
  · rintro rfl
    rw [less_irrefl]; rfl
theorem cmpB_trans {a b c : List UInt8} (h : cmpB a b = -1) (k : cmpB b c = -1) : cmpB a c = -1 := by
  have h1 : bytesLess a b = true := by
    unfold cmpB at h
    split at h
    · assumption
    · split at h <;> cases h
  have k1 : bytesLess b c = true := by
    unfold cmpB at k
    split at k
    · assumption
    · split at k <;> cases k
  unfold cmpB
  rw [if_pos (less_trans h1 k1)]
def Ord3 (x y z : Int) : Prop :=
  (x = -1 \/ x = 0 \/ x = 1) /\ (y = -1 \/ y = 0 \/ y = 1) /\ (z = -1 \/ z = 0 \/ z = 1) /\ ((x = 1) \/ (x = -1 /\ y = 1) \/ (x = 0 /\ y = 1) \/ (x = -1 /\ y = -1 /\ z = -1) \/ (x = -1 /\ y = 0 /\ z = -1) \/ (x = 0 /\ y = -1 /\ z = -1) \/ (x = 0 /\ y = 0 /\ z = 0))
theorem orI_0 (y : Int) : orI 0 y = y := by simp [orI]
theorem orI_1 (y : Int) : orI 1 y = 1 := by simp [orI]
theorem orI_m (y : Int) : orI (-1) y = -1 := by simp [orI]
theorem orI_range {x y : Int} (h : x = -1 \/ x = 0 \/ x = 1) (k : y = -1 \/ y = 0 \/ y = 1) : orI x y = -1 \/ orI x y = 0 \/ orI x y = 1 := by
  unfold orI
  split <;> assumption
theorem ord3_or {x y z x2 y2 z2 : Int} (h : Ord3 x y z) (h2 : Ord3 x2 y2 z2) : Ord3 (orI x x2) (orI y y2) (orI z z2) := by
  obtain ⟨a1, a2, a3, h⟩ := h
  obtain ⟨b1, b2, b3, k⟩ := h2
  refine ⟨orI_range a1 b1, orI_range a2 b2, orI_range a3 b3, ?_⟩
  rcases h with h | ⟨h, h'⟩ | ⟨h, h'⟩ | ⟨h, h', h''⟩ | ⟨h, h', h''⟩ | ⟨h, h', h''⟩ | ⟨h, h', h''⟩
  · subst h; rw [orI_1]; omega
  · subst h h'; rw [orI_1, orI_m]; omega
  · subst h h'; rw [orI_0, orI_1]; omega
  · subst h h' h''; rw [orI_m, orI_m, orI_m]; omega
  · subst h h' h''; rw [orI_m, orI_0, orI_m]; omega
  · subst h h' h''; rw [orI_0, orI_m, orI_m]; omega
  · subst h h' h''; rw [orI_0, orI_0, orI_0]; exact k
theorem sgn_three (a b c : Int) : Ord3 (sgn a b) (sgn b c) (sgn a c) := by
  unfold Ord3 sgn
  repeat' split
  all_goals omega
theorem cmpB_three (a b c : List UInt8) : Ord3 (cmpB a b) (cmpB b c) (cmpB a c) := by
  have ht : cmpB a b = -1 -> cmpB b c = -1 -> cmpB a c = -1 := cmpB_trans
  have h0 : cmpB a b = 0 -> cmpB a c = cmpB b c := fun e => by rw [(cmpB_zero a b).1 e]
  have h1 : cmpB b c = 0 -> cmpB a c = cmpB a b := fun e => by rw [(cmpB_zero b c).1 e]
  have r1 := cmpB_range a b
  have r2 := cmpB_range b c
  have r3 := cmpB_range a c
  unfold Ord3
  omega
theorem cmpN_flip (a b : List UInt8) : cmpN b a = - cmpN a b := by
  unfold cmpN
  cases nameL a <;> cases nameL b <;> first | exact cmpL_flip _ _ | rfl
theorem cmpN_alike {a b : List UInt8} {L M : List (List UInt8)} (h : nameL a = some L) (k : nameL b = some M) : alikeN a b = decide (cmpN a b = 0) := by
  unfold alikeN cmpN
  rw [h, k]
  simp only [cmpL_zero, List.reverse_inj]
theorem cmpN_range (a b : List UInt8) : cmpN a b = -1 \/ cmpN a b = 0 \/ cmpN a b = 1 := by
  unfold cmpN
  cases nameL a <;> cases nameL b <;> first | exact cmpL_range _ _ | simp
theorem cmpN_three {a b c : List UInt8} {L M N : List (List UInt8)} (h : nameL a = some L) (k : nameL b = some M) (l : nameL c = some N) : Ord3 (cmpN a b) (cmpN b c) (cmpN a c) := by
  have ht : cmpN a b = -1 -> cmpN b c = -1 -> cmpN a c = -1 := by
    unfold cmpN; rw [h, k, l]; exact cmpL_trans
  have h0 : cmpN a b = 0 -> cmpN a c = cmpN b c := by
    unfold cmpN; rw [h, k, l]
    intro e
    simp only at e ⊢
    rw [cmpL_eq e]
  have h1 : cmpN b c = 0 -> cmpN a c = cmpN a b := by
    unfold cmpN; rw [h, k, l]
    intro e
    simp only at e ⊢
    rw [cmpL_eq e]
  have r1 := cmpN_range a b
  have r2 := cmpN_range b c
  have r3 := cmpN_range a c
  unfold Ord3
  omega
theorem orI_neg (x y : Int) : orI (-x) (-y) = - orI x y := by
  unfold orI
  by_cases h : x = 0
  · simp [h]
  · rw [if_neg h, if_neg (by omega)]
theorem orI_zero (x y : Int) : orI x y = 0 ↔ x = 0 /\ y = 0 := by
  unfold orI
  by_cases h : x = 0
  · simp [h]
  · simp [h]
theorem cmpR_flip (a b : Rec) : cmpR b a = - cmpR a b := by
  unfold cmpR headO
  rw [cmpN_flip a.n b.n, sgn_flip a.t b.t, sgn_flip a.c b.c, cmpB_flip (saidR a.t a.d), orI_neg, orI_neg, orI_neg]
theorem cmpR_range (a b : Rec) : cmpR a b = -1 \/ cmpR a b = 0 \/ cmpR a b = 1 := by
  unfold cmpR headO
  exact orI_range (orI_range (cmpN_range _ _) (orI_range (sgn_range _ _) (sgn_range _ _))) (cmpB_range _ _)
theorem cmpR_one {a b : Rec} {L M : List (List UInt8)} (h : nameL a.n = some L) (k : nameL b.n = some M) : oneR a b = decide (cmpR a b = 0) := by
  unfold oneR cmpR headO
  rw [cmpN_alike h k]
  simp only [orI_zero, sgn_zero, cmpB_zero]
  rw [Bool.eq_iff_iff]
  simp only [Bool.and_eq_true, beq_iff_eq, decide_eq_true_eq]
  constructor
  · rintro ⟨h1, h2, h3, h4⟩; exact ⟨⟨h3, h1, h2⟩, h4⟩
  · rintro ⟨⟨h3, h1, h2⟩, h4⟩; exact ⟨h1, h2, h3, h4⟩
theorem cmpR_three {a b c : Rec} {L M N : List (List UInt8)} (h : nameL a.n = some L) (k : nameL b.n = some M) (l : nameL c.n = some N) : Ord3 (cmpR a b) (cmpR b c) (cmpR a c) := by
  unfold cmpR headO
  exact ord3_or (ord3_or (cmpN_three h k l) (ord3_or (sgn_three _ _ _) (sgn_three _ _ _))) (cmpB_three _ _ _)
end Go.Proofs.YtmpginmdaeclaaaGreatDoor
