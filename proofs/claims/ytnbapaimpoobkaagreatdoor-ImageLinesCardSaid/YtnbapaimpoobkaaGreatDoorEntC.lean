/- Parts of the proofs of the statements of image. No statement of the seat is proved here. -/
import Derived.Test.YtnbapaimpoobkaaGreatDoorReM
import Derived.Test.YtnbapaimpoobkaaGreatDoorOcJ
import Derived.Test.YtnbapaimpoobkaaGreatDoorReC
import Derived.Test.YtnbapaimpoobkaaGreatDoorPaC
import Derived.Test.YtnbapaimpoobkaaGreatDoorOcD
import Derived.Deep.RegionHeld3
import Derived.Deep.DeepCutAuto
import Derived.Test.YtnbapaimpoobkaaGreatDoorRrE
import Derived.Test.YtnbapaimpoobkaaGreatDoorNaI
import Derived.Lib.SmallJoins
import Derived.Deep.Fields
import Derived.Deep.AppendSrc
import Derived.Lib.SliceRun
import Derived.Test.YtnbapaimpoobkaaGreatDoorReI
import Derived.Test.YtnbapaimpoobkaaGreatDoorRdB
namespace Go.Proofs.YtnbapaimpoobkaaGreatDoor
open Go.Op

/-! ### pieces in a row, each behind its length in four bytes -/
def rowE : List (List UInt8) → List UInt8
  | [] => []
  | x :: xs => be x.length 4 ++ x ++ rowE xs
theorem rowE_append : ∀ xs ys : List (List UInt8), rowE (xs ++ ys) = rowE xs ++ rowE ys := by
  intro xs ys
  induction xs with
  | nil => rfl
  | cons x xs ih => rw [List.cons_append, rowE, rowE, ih]; simp [List.append_assoc]
theorem piece_rowE (x : List UInt8) (hx : x.length < 4294967296) : pieceR (mk x) 4 = (mk (be x.length 4 ++ x), 0) := by
  have hf : fitB x.length 4 = true := by simp [fitB]; omega
  have e4 : ((4 : Int)).toNat = 4 := rfl
  rw [pieceR, if_pos (by decide), mk_size, e4, if_pos hf, ← mk_append]
  rfl
/-! ### the records that pieces are -/
/-- the record that a whole piece is -/
def oneE (M : List UInt8) : Option Rec := match recR M 0 with | some (r, x) => if x = M.length then some r else none | none => none
def recsP : List ByteArray → Option (List Rec)
  | [] => some []
  | b :: l => match oneE b.data.toList with | some r => (recsP l).map (r :: ·) | none => none
/-- where a loop over pieces stands -/
def Recs (ps : List ByteArray) (acc : List Rec) (k : Nat) : Prop := recsP ps = (recsP (ps.drop k)).map (acc ++ ·)
theorem Recs.start (ps : List ByteArray) : Recs ps [] 0 := by unfold Recs; cases h : recsP ps <;> simp [h]
theorem Recs.step {ps : List ByteArray} {acc : List Rec} {k : Nat} {p : ByteArray} {r : Rec} (h : Recs ps acc k) (hp : ps[k]? = some p) (ho : oneE p.data.toList = some r) : Recs ps (acc ++ [r]) (k + 1) := by
  have hk : k < ps.length := (List.getElem?_eq_some_iff.1 hp).1
  have e : ps[k] = p := (List.getElem?_eq_some_iff.1 hp).2
  unfold Recs at h ⊢
  rw [h, List.drop_eq_getElem_cons hk, e, recsP, ho]
  cases recsP (ps.drop (k + 1)) <;> simp
theorem Recs.fails {ps : List ByteArray} {acc : List Rec} {k : Nat} {p : ByteArray} (h : Recs ps acc k) (hp : ps[k]? = some p) (ho : oneE p.data.toList = none) : recsP ps = none := by
  have hk : k < ps.length := (List.getElem?_eq_some_iff.1 hp).1
  have e : ps[k] = p := (List.getElem?_eq_some_iff.1 hp).2
  unfold Recs at h
  rw [h, List.drop_eq_getElem_cons hk, e, recsP, ho]
  rfl
theorem Recs.ends {ps : List ByteArray} {acc : List Rec} (h : Recs ps acc ps.length) : recsP ps = some acc := by
  unfold Recs at h
  rw [h, List.drop_length, recsP]
  simp

/-! ### entries -/
def ownE (r : Rec) : List UInt8 := (writeW r ([], noneK)).1
theorem own_len {r : Rec} (h : okR r = true) : 11 ≤ (ownE r).length ∧ (ownE r).length ≤ 265 + r.d.length := by
  obtain ⟨_, z, hz, hl⟩ := write_inv2 h (st := ([], noneK)) InvK.none
  obtain ⟨z2, K', e1, e2, e3⟩ := write_is r ([], noneK)
  obtain ⟨_, ⟨z3, hz3, hz4, _⟩, _⟩ := top_inv h (st := ([], noneK)) InvK.none
  have h1 : (ownE r).length = ((topW r ([], noneK)).1 ++ be z2.length 2 ++ z2).length := by unfold ownE; rw [e3]
  have h2 : (topW r ([], noneK)).1 = (nameW r.n ([], noneK)).1 ++ headB r.t r.c r.l := rfl
  have h4 : (ownE r).length = z.length := by unfold ownE; rw [hz]; simp
  rw [h2, hz3] at h1
  simp only [List.length_append, headB_len, be_length, List.length_nil] at h1
  omega
theorem ok_data {r : Rec} (h : okR r = true) : r.d.length ≤ 65535 := (right_is (ok_parts h).2.2.2.2).1
end Go.Proofs.YtnbapaimpoobkaaGreatDoor
namespace Go.Proofs.YtnbapaimpoobkaaGreatDoor
open Go.RowKit Go.Op

set_option maxHeartbeats 2000000 in
set_option maxRecDepth 20000 in
theorem Own_yes (N D : ByteArray) (r : Rec) (w : World) (hN : N = mk r.n) (hD : D = mk r.d) (hn : r.n.length ≤ 1073741824) (hok : okR r = true) :
    Calls Tryz.prog 89 #[.agg (rrA N D r.t r.c r.l)] w fun e w' => e = .returned (.tuple #[.string (mk (ownE r)), .int .i64 0]) ∧ Below w.heap.size w w' := by
  have HB0 := Lib.hid (show Below w.heap.size w (w.alloc (.cells (rrA N D r.t r.c r.l) rrT)) from (Below.refl _ _).alloc (Nat.le_refl _) _)
  have HW0 := Lib.hid (Whole.new w rrT (rrA N D r.t r.c r.l))
  obtain ⟨c0, c1, c2, c3, c4⟩ := rr_facts HW0.out
  have HN := Lib.hid hN
  have HD := Lib.hid hD
  have HOK := Lib.hid hok
  have HOW := Lib.hid (show ownE r = (writeW r ([], noneK)).1 from rfl)
  clear hN hD hok
  unfold rrA at *
  go_enter Tryz.func89, Tryz.ntmps89
  go_wp2_with fail
  refine (New_any _).mono ?_
  rintro e w2 ⟨b, m, rfl, hp, hB2⟩
  have HP := Lib.hid hp
  have HB2 := Lib.hid (HB0.out.trans (hB2.mono HB0.out.size))
  have HW2 := HW0.out.below hB2 HW0.out.lt
  have HS2 := Lib.hid hB2.size
  clear c0 c1 c2 c3 c4 hp hB2
  obtain ⟨c0, c1, c2, c3, c4⟩ := rr_facts HW2
  clear HW2
  go_wp2_with fail
  refine (RWrite_yes HP.out N D r HN.out HD.out hn HOK.out (by simp) HS2.out InvK.none).mono ?_
  rintro e w3 ⟨rfl, v', hp3, hk3⟩
  have HP3 := Lib.hid hp3
  have HB3 := Lib.hid (HB2.out.trans ((hk3.below HP.out HS2.out).mono (Nat.le_trans HB0.out.size (Nat.le_refl _))))
  have HS3 := Lib.hid (Nat.le_trans HS2.out hk3.size)
  clear hp3 hk3 c0 c1 c2 c3 c4
  go_wp2_with fail
  refine (Bytes_any HP3.out).mono ?_
  rintro e w4 ⟨rfl, hp4, hk4⟩
  have HB4 := Lib.hid (HB3.out.trans ((hk4.below HP3.out HS3.out).mono HB0.out.size))
  clear hp4 hk4
  go_wp2_with fail
  go_ret2
  exact ⟨by rw [HOW.out]; rfl, HB4.out⟩

end Go.Proofs.YtnbapaimpoobkaaGreatDoor
namespace Go.Proofs.YtnbapaimpoobkaaGreatDoor
open Go.RowKit Go.Op

theorem Kp.rowB {B b : Nat} {w w' : World} {v v' : Value} {l : List UInt8} {base e size n : Nat} {x : Value} {xs : List Value} (hk : Kp b b v v' w w') (hp : Bd B w b v l) (ho : w.ownsRow base e size x n xs) (h1 : e ≠ bdT) (h2 : e ≠ 5) : w'.ownsRow base e size x n xs := by
  refine ⟨ho.1, ?_⟩
  rcases ho.2 with h3 | ⟨g, cap, cur, hx, hg, hh, r⟩
  · exact .inl h3
  · refine .inr ⟨g, cap, cur, hx, hg, ?_, r⟩
    have hgb : g ≠ b := by
      rintro rfl
      obtain ⟨p, _, hb⟩ := hp.blk
      rw [hh] at hb
      injection hb with hb
      injection hb with _ hb _
      exact absurd hb h1
    exact (hk.block g (Array.getElem?_eq_some_iff.1 hh).1 hgb hgb (Lib.ownBlock_neF hp.row hh h2)).trans hh
section
variable {B b : Nat} {w w' : World} {v v' : Value} {l : List UInt8}
end

end Go.Proofs.YtnbapaimpoobkaaGreatDoor
