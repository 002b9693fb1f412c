/- What the two laws share. No statement of the seat is proved here. (written by gen_p.py) -/
import Derived.Test.YtkgojdmjagicdaaRrsI
import Derived.Test.YtkgojdmjagicdaaRrsJ
namespace Go.Proofs.Ytkgojdmjagicdaa
open Go.RowKit Go.Op

theorem drop_le {α : Type} {cmp : α → α → Int} (r : α) (l : List α) : (dropX cmp r l).length ≤ l.length := by
  rw [dropX_is]
  have := posX_le (cmp := cmp) r l
  simp only [List.length_append, List.length_take, List.length_drop]
  omega
theorem RefDrop_any (A : Option Addr) (n c : Nat) (xs : List Rrd) (r : Rrd) (w : World) (hx : SeesR w w.heap.size A n xs) (hcap : InCap A n c) (hok : OkL xs) (hr : OkX r) (hs : SetL cmpX xs) (hn : n ≤ 1000000) :
    Calls Try.prog 12 #[.slice A n c, .agg #[.string r.s, .int .i64 r.t, .int .i64 r.c, .int .i64 r.l, .string r.d]] w fun e w' =>
      ∃ A' m c', e = .returned (.tuple #[.slice A' m c', .bool (hitX cmpX r xs)]) ∧ SeesR w' w'.heap.size A' m (dropX cmpX r xs) ∧ m ≤ 1000000 ∧ Below w.heap.size w w' := by
  obtain ⟨h1, h2, h3, h4⟩ := hcap
  cases hit : hitX cmpX r xs with
  | true =>
    have hlt := hitX_lt r xs hit
    rw [hx.1] at hlt
    rcases A with _ | ad
    · obtain ⟨b, off, e, _⟩ := hx.2 (by omega)
      cases e
    · have hsp := h4 ad rfl (by omega)
      obtain ⟨b, off, spot⟩ := ad
      simp only at hsp
      subst hsp
      refine (RefDrop_hit b off n c xs r w hx h1 hok hr hs hn hit).mono ?_
      rintro e w' ⟨v, rfl, ho, hB⟩
      obtain ⟨A', c', rfl, hsee, _⟩ := own_sees ho
      refine ⟨A', _, c', rfl, hsee, ?_, hB⟩
      have e1 := drop_le (cmp := cmpX) r xs
      rw [hx.1] at e1
      omega
  | false =>
    refine (RefDrop_miss A n c xs r w hx hok hr hs hn hit).mono ?_
    rintro e w' ⟨rfl, hB⟩
    exact ⟨A, n, c, rfl, by rw [dropX_no r xs hit]; exact (hx.keep hB).more hB.size, hn, hB⟩
theorem other_same (r : Rrd) (xs : List Rrd) : sameX xs (putX cmpX r xs) = !otherX r xs := by
  have h := putX_same (cmp := cmpX) r xs
  unfold otherX
  rw [Bool.eq_iff_iff, sameX_is]
  constructor
  · intro e
    have k := h.1 e.symm
    rw [k]
    simp [eqX_is.2 rfl]
  · intro e
    refine (h.2 ?_).symm
    cases hf : findX cmpX r xs with
    | none => rw [hf] at e; simp at e
    | some x => rw [hf] at e; simp only [Bool.not_not] at e; rw [eqX_is.1 e]
theorem rights_one (r : Rrd) : rightsX [r] = okX r := by unfold rightsX; simp
end Go.Proofs.Ytkgojdmjagicdaa
