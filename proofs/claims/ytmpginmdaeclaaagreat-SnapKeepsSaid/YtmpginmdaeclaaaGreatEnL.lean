/- Parts of the proofs of the statements of image. No statement of the seat is proved here. -/
import Derived.Test.YtmpginmdaeclaaaGreatRrE
import Derived.Test.YtmpginmdaeclaaaGreatNaI
import Derived.Test.YtmpginmdaeclaaaGreatOcJ
import Derived.Lib.SmallJoins
import Derived.Deep.Fields
import Derived.Deep.AppendSrc
import Derived.Deep.RegionHeld3
import Derived.Lib.SliceRun
import Derived.Test.YtmpginmdaeclaaaGreatReM
set_option maxHeartbeats 32000000
set_option maxRecDepth 20000
namespace Go.Proofs.YtmpginmdaeclaaaGreat
open Go.RowKit Go.Op
section
variable {P : Program} {ops : Array Oper} {Q : Exit -> Act -> World -> Prop} {md : Region.Mode} {S : World -> Prop}
end
end Go.Proofs.YtmpginmdaeclaaaGreat
namespace Go.Proofs.YtmpginmdaeclaaaGreat
open Go.Op
def rowE : List (List UInt8) -> List UInt8
  | [] => []
  | x :: xs => be x.length 4 ++ x ++ rowE xs
theorem rowE_append : ∀ xs ys : List (List UInt8), rowE (xs ++ ys) = rowE xs ++ rowE ys := by
  intro xs ys
  induction xs with
  | nil => rfl
  | cons x xs ih => rw [List.cons_append, rowE, rowE, ih]; simp [List.append_assoc]
theorem rowE_len (b : Nat) : ∀ xs : List (List UInt8), (∀ x ∈ xs, x.length <= b) -> (rowE xs).length <= xs.length * (4 + b) := by
  intro xs
  induction xs with
  | nil => intro _; simp [rowE]
  | cons x xs ih =>
    intro h
    have h1 := ih fun y hy => h y (by simp [hy])
    have h2 := h x (by simp)
    rw [rowE, List.length_append, List.length_append, be_length, List.length_cons, Nat.add_mul]
    omega
theorem piece_rowE (x : List UInt8) (hx : x.length < 4294967296) : pieceR (mk x) 4 = (mk (be x.length 4 ++ x), 0) := by
  have hf : fitB x.length 4 = true := by simp [fitB]; omega
  have e4 : ((4 : Int)).toNat = 4 := rfl
  rw [pieceR, if_pos (by decide), mk_size, e4, if_pos hf, <-mk_append]
  rfl
theorem cut_rowE (x r : List UInt8) (hx : x.length < 4294967296) : cutR (mk (be x.length 4 ++ x ++ r)) 4 = (mk x, mk r, 0) := by
  have hlt : x.length < 256 ^ 4 := by omega
  have hbl := be_length x.length 4
  have e4 : ((4 : Int)).toNat = 4 := rfl
  have e1 : (be x.length 4 ++ x ++ r).take 4 = be x.length 4 := by rw [List.append_assoc, List.take_left' hbl]
  have e2 : (be x.length 4 ++ x ++ r).drop 4 = x ++ r := by rw [List.append_assoc, List.drop_left' hbl]
  have hlen : (be x.length 4 ++ x ++ r).length = 4 + x.length + r.length := by simp [hbl]; omega
  have hn : numOf ((mk (be x.length 4 ++ x ++ r)).extract 0 4) = x.length := by rw [mk_extract, mk_num, List.drop_zero, e1, num_be_eq _ _ hlt]
  rw [cutR, if_pos (by decide), e4, hn, mk_size, hlen, if_neg (by omega), mk_extract, mk_extract, mk_extract]
  have h1 : (be x.length 4 ++ x ++ r).take (4 + x.length + r.length) = be x.length 4 ++ x ++ r := List.take_of_length_le (by omega)
  rw [h1, e2, List.drop_zero, List.take_left' rfl]
  have h2 : (x ++ r).take (4 + x.length + r.length - 4) = x ++ r := List.take_of_length_le (by simp; omega)
  rw [h2, List.drop_left' rfl]
theorem rowE_pieces : ∀ (xs : List (List UInt8)) (f : Nat), (∀ x ∈ xs, x.length < 4294967296) -> (rowE xs).length < f -> piecesF f (mk (rowE xs)) 4 = some (xs.map mk) := by
  intro xs
  induction xs with
  | nil =>
    intro f _ hf
    cases f with
    | zero => omega
    | succ f => rfl
  | cons x xs ih =>
    intro f h hf
    cases f with
    | zero => omega
    | succ f =>
      have hx := h x (by simp)
      have hbl := be_length x.length 4
      have hlen : (rowE (x :: xs)).length = 4 + x.length + (rowE xs).length := by rw [rowE]; simp [hbl]; omega
      rw [piecesF, mk_size, hlen, if_neg (by omega), rowE, cut_rowE x _ hx]
      simp only [if_true]
      rw [ih f (fun y hy => h y (by simp [hy])) (by omega)]
      rfl
theorem rowE_piecesR (xs : List (List UInt8)) (h : ∀ x ∈ xs, x.length < 4294967296) : piecesR (mk (rowE xs)) 4 = (xs.map mk, 0) :=
  piecesR_some (by decide) (rowE_pieces xs _ h (by rw [mk_size]; omega))
theorem cutR_size (s : ByteArray) (n : Int) : (cutR s n).1.size <= s.size /\ (cutR s n).2.1.size <= s.size := by
  unfold cutR
  split
  · split
    · exact ⟨Nat.zero_le _, Nat.zero_le _⟩
    · simp; omega
  · exact ⟨Nat.zero_le _, Nat.zero_le _⟩
theorem piecesF_size (n : Int) : ∀ (f : Nat) (s : ByteArray) (l : List ByteArray), piecesF f s n = some l -> ∀ p ∈ l, p.size <= s.size := by
  intro f
  induction f with
  | zero => intro s l h; simp [piecesF] at h; subst h; intro p hp; cases hp
  | succ f ih =>
    intro s l h
    rw [piecesF] at h
    split at h
    · injection h with h; subst h; intro p hp; cases hp
    · split at h
      · cases hr : piecesF f (cutR s n).2.1 n with
        | none => rw [hr] at h; cases h
        | some l' =>
          rw [hr] at h
          simp only [Option.map_some, Option.some.injEq] at h
          subst h
          intro p hp
          obtain ⟨h1, h2⟩ := cutR_size s n
          rcases List.mem_cons.1 hp with rfl | hp
          · exact h1
          · exact Nat.le_trans (ih _ l' hr p hp) h2
      · cases h
theorem piecesR_size (s : ByteArray) (n : Int) : ∀ p ∈ (piecesR s n).1, p.size <= s.size := by
  unfold piecesR
  split
  · cases hr : piecesF (s.size + 1) s n with
    | none => intro p hp; cases hp
    | some l => exact piecesF_size n _ s l hr
  · intro p hp; cases hp
theorem pieces_code (s : ByteArray) : (piecesR s 4).2 = 0 \/ piecesR s 4 = ([], 2) := by
  unfold piecesR
  rw [if_pos (by decide)]
  cases piecesF (s.size + 1) s 4 with
  | none => exact .inr rfl
  | some l => exact .inl rfl
def oneE (M : List UInt8) : Option Rec := match recR M 0 with | some (r, x) => if x = M.length then some r else none | none => none
def recsP : List ByteArray -> Option (List Rec)
  | [] => some []
  | b :: l => match oneE b.data.toList with | some r => (recsP l).map (r :: ·) | none => none
def recsE (s : ByteArray) : Option (List Rec) := if (piecesR s 4).2 = 0 then recsP (piecesR s 4).1 else none
def Recs (ps : List ByteArray) (acc : List Rec) (k : Nat) : Prop := recsP ps = (recsP (ps.drop k)).map (acc ++ ·)
theorem Recs.start (ps : List ByteArray) : Recs ps [] 0 := by unfold Recs; cases h : recsP ps <;> simp [h]
theorem Recs.step {ps : List ByteArray} {acc : List Rec} {k : Nat} {p : ByteArray} {r : Rec} (h : Recs ps acc k) (hp : ps[k]? = some p) (ho : oneE p.data.toList = some r) : Recs ps (acc ++ [r]) (k + 1) := by
  have hk : k < ps.length := (List.getElem?_eq_some_iff.1 hp).1
  have e : ps[k] = p := (List.getElem?_eq_some_iff.1 hp).2
  unfold Recs at h ⊢
  rw [h, List.drop_eq_getElem_cons hk, e, recsP, ho]
  cases recsP (ps.drop (k + 1)) <;> simp
theorem Recs.fails {ps : List ByteArray} {acc : List Rec} {k : Nat} {p : ByteArray} (h : Recs ps acc k) (hp : ps[k]? = some p) (ho : oneE p.data.toList = none) : recsP ps = none := by
  have hk : k < ps.length := (List.getElem?_eq_some_iff.1 hp).1
  have e : ps[k] = p := (List.getElem?_eq_some_iff.1 hp).2
  unfold Recs at h
  rw [h, List.drop_eq_getElem_cons hk, e, recsP, ho]
  rfl
theorem Recs.ends {ps : List ByteArray} {acc : List Rec} (h : Recs ps acc ps.length) : recsP ps = some acc := by
  unfold Recs at h
  rw [h, List.drop_length, recsP]
  simp
def u32 (n : Int) : Prop := 0 <= n /\ n < 4294967296
def ownE (r : Rec) : List UInt8 := (writeW r ([], noneK)).1
theorem own_len {r : Rec} (h : okR r = true) : 11 <= (ownE r).length /\ (ownE r).length <= 265 + r.d.length := by
  obtain ⟨_, z, hz, hl⟩ := write_inv2 h (st := ([], noneK)) InvK.none
  obtain ⟨z2, K', e1, e2, e3⟩ := write_is r ([], noneK)
  obtain ⟨_, ⟨z3, hz3, hz4, _⟩, _⟩ := top_inv h (st := ([], noneK)) InvK.none
  have h1 : (ownE r).length = ((topW r ([], noneK)).1 ++ be z2.length 2 ++ z2).length := by unfold ownE; rw [e3]
  have h2 : (topW r ([], noneK)).1 = (nameW r.n ([], noneK)).1 ++ headB r.t r.c r.l := rfl
  have h4 : (ownE r).length = z.length := by unfold ownE; rw [hz]; simp
  rw [h2, hz3] at h1
  simp only [List.length_append, headB_len, be_length, List.length_nil] at h1
  omega
theorem one_own {r : Rec} (h : okR r = true) : oneE (ownE r) = some r := by
  have := back_rec h (st := ([], noneK)) InvK.none []
  rw [List.append_nil] at this
  unfold oneE ownE
  rw [show (0 : Nat) = (([], noneK) : WSt).1.length from rfl, this]
  simp
theorem recs_own : ∀ (l : List Rec), l.all okR = true -> recsP ((l.map ownE).map mk) = some l := by
  intro l
  induction l with
  | nil => intro _; rfl
  | cons r l ih =>
    intro h
    rw [List.all_cons, Bool.and_eq_true] at h
    have e : (mk (ownE r)).data.toList = ownE r := by simp [mk]
    rw [List.map_cons, List.map_cons, recsP, e, one_own h.1, ih h.2]
    rfl
theorem own_lt {l : List Rec} (h : l.all okR = true) (hd : ∀ r ∈ l, r.d.length <= 65535) : ∀ x ∈ l.map ownE, x.length < 4294967296 := by
  intro x hx
  obtain ⟨r, hr, rfl⟩ := List.mem_map.1 hx
  have := own_len (List.all_eq_true.1 h r hr)
  have := hd r hr
  omega
theorem ok_data {r : Rec} (h : okR r = true) : r.d.length <= 65535 := (right_is (ok_parts h).2.2.2.2).1
end Go.Proofs.YtmpginmdaeclaaaGreat
