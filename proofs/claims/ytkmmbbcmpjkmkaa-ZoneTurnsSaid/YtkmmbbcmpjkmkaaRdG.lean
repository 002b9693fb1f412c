/- RdG: texts RdaG, RdaH of our own, joined. No statement of the seat is proved here. -/
import Derived.Test.YtkmmbbcmpjkmkaaRdM
import Derived.Test.YtkmmbbcmpjkmkaaPaE
import Derived.Test.YtkmmbbcmpjkmkaaOcD
import Derived.Test.YtkmmbbcmpjkmkaaNaI
import Derived.Test.YtkmmbbcmpjkmkaaRdB
import Derived.Test.YtkmmbbcmpjkmkaaNaK
import Derived.Test.YtkmmbbcmpjkmkaaPaA
namespace Go.Proofs.Ytkmmbbcmpjkmkaa
open Go.RowKit

def chK (k : Int) : UInt8 := if k = -1 then 110 else if k = -2 then 117 else if k = -3 then 116 else if k = -4 then 111 else if k = 16 then 104 else if k = 4 then 52 else 50
def strR (t : Int) : List UInt8 := (kindsR t).map chK

/-! ### Read, of a whole message from its beginning -/
def KindR (k : Int) : Prop := k = -1 ∨ k = -2 ∨ k = -3 ∨ k = -4 ∨ k = 16 ∨ k = 4 ∨ k = 2
theorem kinds_are (t : Int) : ∀ k ∈ kindsR t, KindR k := by
  unfold kindsR KindR
  repeat' split
  all_goals (intro k hk; simp at hk; omega)
theorem kinds_few (t : Int) : (kindsR t).length ≤ 7 := by
  unfold kindsR
  repeat' split
  all_goals simp
def outR (r : Vis × Option Nat) : List (List UInt8) := match r.2 with | some _ => r.1.map (·.2) | none => []
def RefRdLeaves (M : List UInt8) (t : Int) (w : World) (en : Ending) (w' : World) : Prop :=
  ∃ A n c, en = .returned (.tuple #[.slice A n c, .bool (okS M M.length (kindsR t) 0)]) ∧ Sees w' w'.heap.size A n (textL (outR (steps M M.length (kindsR t) 0))) ∧ Below w.heap.size w w'
def RefRdOwns (M : List UInt8) (t : Int) (w : World) (en : Ending) (w' : World) : Prop :=
  ∃ A n c, en = .returned (.tuple #[.slice A n c, .bool (okS M M.length (kindsR t) 0)]) ∧ w'.ownsRow w.heap.size 9 1 (.slice A n c) n (textL (outR (steps M M.length (kindsR t) 0))) ∧ Below w.heap.size w w'
def RefRdAt (M : List UInt8) (ks : List Int) (w : World) (k p : Nat) (v : Value) (wr : World) : Prop :=
  ∃ vs : Vis, steps M M.length ks 0 = (vs ++ (steps M M.length (ks.drop k) p).1, (steps M M.length (ks.drop k) p).2) ∧ wr.ownsRow w.heap.size 9 1 v vs.length (textL (vs.map (·.2))) ∧ vs.length = k ∧ p ≤ M.length ∧ Below w.heap.size w wr

theorem mk_sg {S : ByteArray} {M : List UInt8} (hS : S = mk M) (p e : Nat) : S.extract p e = mk (seg M p e) := by
  rw [hS, mk_extract]; rfl
section
variable {M : List UInt8} {ks : List Int} {w : World} {t : Int} {k p q : Nat} {kd : Int} {vs : Vis} {b : List UInt8} {v v2 : Value} {w2 : World}
theorem rdat_step (h1 : steps M M.length ks 0 = (vs ++ (steps M M.length (ks.drop k) p).1, (steps M M.length (ks.drop k) p).2)) (hd : ks.drop k = kd :: ks.drop (k + 1)) (hc : cutP M M.length kd p = some (b, q)) (hl : vs.length = k ∧ p ≤ M.length ∧ Part kd)
    (hown : w2.ownsRow w.heap.size 9 1 v2 (vs.length + 1) (textL (vs.map (·.2)) ++ [.string (mk b)])) (hB : Below w.heap.size w w2) : RefRdAt M ks w (k + 1) q v2 w2 := by
  have hy := steps_yes (ks := ks.drop (k + 1)) hc
  rw [← hd] at hy
  refine ⟨vs ++ [(kd, b)], by rw [h1, hy]; simp, ?_, by rw [List.length_append, hl.1]; rfl, (cut_ok hl.2.2 hl.2.1 (Nat.le_refl _) hc).2.2.1, hB⟩
  have e : textL ((vs ++ [(kd, b)]).map (·.2)) = textL (vs.map (·.2)) ++ [.string (mk b)] := by simp [textL, texts]
  rw [e, List.length_append]
  exact hown
theorem rdat_no (h1 : steps M M.length ks 0 = (vs ++ (steps M M.length (ks.drop k) p).1, (steps M M.length (ks.drop k) p).2)) (hd : ks.drop k = kd :: ks.drop (k + 1)) (hc : cutP M M.length kd p = none) : steps M M.length ks 0 = (vs, none) := by
  rw [h1, hd, steps_no hc]; simp
theorem rd_leaf_no (h : steps M M.length (kindsR t) 0 = (vs, none)) (hB : Below w.heap.size w w2) : RefRdOwns M t w (.returned (.tuple #[.slice none 0 0, .bool false])) w2 := by
  refine ⟨none, 0, 0, ?_, ?_, hB⟩
  · unfold okS; rw [h]; rfl
  · rw [h]; exact World.ownsRow_nil _ _ _ _
end

end Go.Proofs.Ytkmmbbcmpjkmkaa
namespace Go.Proofs.Ytkmmbbcmpjkmkaa
open Go.RowKit

theorem flat_snoc {L : List (List UInt8)} {k : Nat} (h : k < L.length) : (L.take (k + 1)).flatten = (L.take k).flatten ++ L[k] := by
  rw [List.take_succ_eq_append_getElem h, List.flatten_append, List.flatten_singleton]
theorem flat_le (L : List (List UInt8)) (k : Nat) : (L.take k).flatten.length ≤ L.flatten.length := by
  conv => rhs; rw [← List.take_append_drop k L]
  rw [List.flatten_append, List.length_append]; omega

theorem out_len {M : List UInt8} (hM : M.length ≤ 100000) (t : Int) : (outR (steps M M.length (kindsR t) 0)).length ≤ 7 ∧ (outR (steps M M.length (kindsR t) 0)).flatten.length ≤ 1000000 := by
  have h1 := steps_len (M := M) (e := M.length) (kindsR t) 0
  have h2 := kinds_few t
  have h3 : (kindsR t).length * (255 + M.length) ≤ 7 * 100255 := Nat.mul_le_mul h2 (by omega)
  have h4 : ∀ (ks : List Int) (p : Nat), (steps M M.length ks p).1.length ≤ ks.length := by
    intro ks
    induction ks with
    | nil => intro p; simp [steps_nil]
    | cons k ks ih =>
      intro p
      cases hc : cutP M M.length k p with
      | none => rw [steps_no hc]; simp
      | some r => rw [steps_yes hc]; simp; exact ih _
  have h5 := h4 (kindsR t) 0
  unfold outR
  cases (steps M M.length (kindsR t) 0).2 with
  | none => simp
  | some q =>
    simp only [List.length_map]
    refine ⟨by omega, ?_⟩
    have e : ((steps M M.length (kindsR t) 0).1.map (·.2)).flatten = cat (steps M M.length (kindsR t) 0).1 := by unfold cat; rw [List.flatMap_def]
    rw [e]; omega
def wholeR (t : Int) (D : List UInt8) : List UInt8 := (outR (steps D D.length (kindsR t) 0)).flatten
def wholeB (t : Int) (D : List UInt8) : Bool := okS D D.length (kindsR t) 0 && decide ((wholeR t D).length ≤ 65535)

theorem right_whole {t : Int} {D : List UInt8} (hD : D.length ≤ 65535) : rightR t D = (wholeB t D && (wholeR t D == D)) := by
  unfold rightR wholeB
  rw [decide_eq_true hD, Bool.true_and, eqv_ok]
  cases hok : okS D D.length (partsP t) 0 with
  | false => rw [data_none hok]; rfl
  | true =>
    have hw : wholeR t D = cat (steps D D.length (partsP t) 0).1 := by
      rw [← eqv_cat hok]
      unfold wholeR outR
      have : (steps D D.length (kindsR t) 0).2 = some D.length := by
        have := eqv_ok D D.length 0 t
        rw [hok] at this
        simpa [okS] using this
      rw [this]
      simp only
      unfold cat; rw [List.flatMap_def]
    rw [data_some hok, ← hw, Bool.true_and]
    by_cases he : wholeR t D = D
    · rw [he]; simp [hD]
    · have h1 : (wholeR t D == D) = false := by rw [beq_eq_false_iff_ne]; exact he
      rw [h1, Bool.and_false]
      simp [he]

theorem vis_kinds {t : Int} {D : List UInt8} (h : rightR t D = true) : ∃ V : Vis, steps D D.length (kindsR t) 0 = (V, some D.length) ∧ V.map (·.1) = kindsR t ∧ outR (steps D D.length (kindsR t) 0) = V.map (·.2) ∧ cat V = D ∧ okS D D.length (kindsR t) 0 = true := by
  obtain ⟨_, h2, h3, _, _⟩ := right_is h
  have hok : okS D D.length (kindsR t) 0 = true := by rw [eqv_ok]; exact h2
  have hs : (steps D D.length (kindsR t) 0).2 = some D.length := by simpa [okS] using hok
  have hk : ∀ (ks : List Int) (p q : Nat), (steps D D.length ks p).2 = some q → (steps D D.length ks p).1.map (·.1) = ks := by
    intro ks
    induction ks with
    | nil => intro p q _; rfl
    | cons k ks ih =>
      intro p q hq
      cases hc : cutP D D.length k p with
      | none => rw [steps_no hc] at hq; cases hq
      | some r =>
        rw [steps_yes hc] at hq ⊢
        rw [List.map_cons, ih _ _ hq]
  refine ⟨(steps D D.length (kindsR t) 0).1, by rw [← hs], hk _ _ _ hs, by unfold outR; rw [hs], ?_, hok⟩
  rw [eqv_cat h2]; exact h3

def accF (V : Vis) (k : Nat) : ByteArray := mk (cat ((V.take k).map foldB1))
end Go.Proofs.Ytkmmbbcmpjkmkaa
