/- Labels, Parent, Wild, Fold, Alike. -/
import Derived.Test.YtimakddeokgfcaaNamC
import Derived.Lib.ConvBytes
namespace Go.Proofs.Ytimakddeokgfcaa
open Go.RowKit

/-- block g begins with the bytes l, and they may be written -/
structure Row8 (w : World) (g : Nat) (l : List UInt8) : Prop where
  cell : ∀ j (h : j < l.length), w.cell? ⟨g, j, none⟩ = some (.int .u8 (l[j].toNat : Nat))
  soft : ∀ j, j < l.length → w.frozen? ⟨g, j, none⟩ = false
theorem Row8.put {w : World} {g : Nat} {l : List UInt8} (h : Row8 w g l) (j : Nat) (hj : j < l.length) (c : UInt8) : Row8 (w.setCell ⟨g, j, none⟩ (.int .u8 (c.toNat : Nat))) g (l.set j c) := by
  refine ⟨fun i hi => ?_, fun i hi => ?_⟩
  · by_cases he : j = i
    · subst he
      rw [World.cell?_setCell_same' w _ _ (by rw [h.cell j hj]; rfl)]
      simp
    · have hne : (⟨g, j, none⟩ : Addr) ≠ ⟨g, i, none⟩ := by intro e; injection e with _ e2 _; exact he e2
      have := World.cell?_setCell_other (w := w) (a := ⟨g, j, none⟩) (b := ⟨g, i, none⟩) (v := .int .u8 (c.toNat : Nat)) hne
      rw [this, h.cell i (by simpa using hi)]
      simp [he]
  · rw [World.frozen?_setCell]; exact h.soft i (by simpa using hi)
theorem Row8.str {w : World} {g : Nat} {l : List UInt8} (h : Row8 w g l) (n cap : Nat) (hn : l.length = n) :
    (convert 44 9 (.slice (some ⟨g, 0, none⟩) n cap)).run Try.prog w = .ok (.string ⟨l.toArray⟩) w := by
  subst hn
  refine run_convert_bytes_back w _ _ 5 ⟨g, 0, none⟩ cap l Try.underlying44 Try.underlying5 Try.underlying9 (fun j hj => ?_)
  rw [show (⟨g, 0, none⟩ : Addr).add j = ⟨g, 0 + j, none⟩ from by unfold Addr.add; split <;> simp_all, Nat.zero_add]
  exact h.cell j hj
theorem Row8.made (w : World) (s : ByteArray) : Row8 (Lib.bytesWorld w 5 s) w.heap.size s.data.toList := by
  refine ⟨fun j h => ?_, fun j h => ?_⟩
  · rw [Lib.bytesWorld_cell w _ s j (by simpa using h)]
    rw [List.getD_eq_getElem?_getD, List.getElem?_eq_getElem h]; rfl
  · have hsz : s.size ≤ (Lib.bytesCells w 5 s).size := by simp [Lib.bytesCells]
    have hj : j < s.size := by simpa using h
    simp only [World.frozen?, Lib.bytesWorld_at_new]
    simp; omega
theorem bytes_below (w : World) (s : ByteArray) : Below w.heap.size w (Lib.bytesWorld w 5 s) :=
  ⟨rfl, rfl, rfl, by rw [Lib.bytesWorld_size]; omega, fun k hk => Lib.bytesWorld_at_old _ _ _ _ hk⟩

theorem mk_beq (a b : List UInt8) : ((mk a).toList == (mk b).toList) = (a == b) := by
  rw [ByteArray.toList_eq, ByteArray.toList_eq]; simp [mk]
theorem mk_is (a b : List UInt8) : ((mk a).toList == b) = (a == b) := by
  rw [ByteArray.toList_eq]; simp [mk]

/-! ### Labels -/
def textL (L : List (List UInt8)) : List Value := texts (L.map mk)
theorem labV_prs (L : List (List UInt8)) : labV (prs L) = textL L ∧ (prs L).length = L.length := by
  induction L with
  | nil => exact ⟨rfl, rfl⟩
  | cons x L ih =>
    refine ⟨?_, by simp [prs, ih.2]⟩
    have := ih.1
    simp only [labV, textL, texts] at this ⊢
    simp [prs, this]
theorem labelsOf_name (S : ByteArray) (s : List UInt8) (L : List (List UInt8)) (w : World) (hS : S = mk s) (h : nameL s = some L) :
    Calls Try.prog 37 #[.string S] w fun e w' => ∃ v, e = .returned v ∧ w'.ownsRow w.heap.size 9 1 v L.length (textL L) ∧ Below w.heap.size w w' := by
  obtain ⟨h1, h2, h3⟩ := nameL_is h
  have hp : pairs s = prs L := by rw [h1, pairs_enc h2]
  have := labelsOf_any S s w hS (by omega)
  rw [hp, (labV_prs L).1, (labV_prs L).2] at this
  exact this

theorem Labels_no (S : ByteArray) (s : List UInt8) (w : World) (hS : S = mk s) (hb : s.length ≤ 1073741824) (h : nameL s = none) :
    Calls Try.prog 23 #[.string S] w fun e w' => e = .returned (.tuple #[.slice none 0 0, .int .i64 2]) ∧ Below w.heap.size w w' := by
  have h' : (nameL s).isSome = false := by rw [h]; rfl
  have HS := Lib.hid hS
  clear hS h
  go_enter Try.func23, Try.ntmps23
  go_wp2_with fail
  refine (Right_any S s _ HS.out hb).mono ?_
  rw [h']
  rintro e w1 ⟨rfl, hB1⟩
  go_wp2_with fail
  go_ret2
  exact ⟨rfl, hB1⟩
theorem Labels_yes (S : ByteArray) (s : List UInt8) (L : List (List UInt8)) (w : World) (hS : S = mk s) (h : nameL s = some L) :
    Calls Try.prog 23 #[.string S] w fun e w' => ∃ v, e = .returned (.tuple #[v, .int .i64 0]) ∧ w'.ownsRow w.heap.size 9 1 v L.length (textL L) ∧ Below w.heap.size w w' := by
  have h' : (nameL s).isSome = true := by rw [h]; rfl
  have hl : s.length ≤ 255 := (nameL_is h).2.2
  have HS := Lib.hid hS
  clear hS
  go_enter Try.func23, Try.ntmps23
  go_wp2_with fail
  refine (Right_any S s _ HS.out (by omega)).mono ?_
  rw [h']
  rintro e w1 ⟨rfl, hB1⟩
  go_wp2_with fail
  refine (labelsOf_name S s L _ HS.out h).mono ?_
  rintro e w2 ⟨v, rfl, hown, hB2⟩
  go_wp2_with fail
  go_ret2
  exact ⟨v, rfl, ⟨hown.1, hown.2.imp id fun ⟨g, cap, cur, h1, h2, h3⟩ => ⟨g, cap, cur, h1, Nat.le_trans hB1.size h2, h3⟩⟩, hB1.trans (hB2.mono hB1.size)⟩

/-! ### Parent, Wild -/
theorem cutL_enc {x : List UInt8} {L : List (List UInt8)} (h : Good (x :: L)) : cutL (enc (x :: L)) = some (x, enc L) := by
  rw [enc_cons, cut_lab]
  have := (h x (by simp)).2
  omega
/-! ### Fold, Alike -/
def mixL (s : List UInt8) (k : Nat) : List UInt8 := (s.take k).map low ++ s.drop k
theorem mixL_zero (s : List UInt8) : mixL s 0 = s := rfl
theorem mixL_all (s : List UInt8) : mixL s s.length = lowS s := by simp [mixL, lowS]
theorem mixL_len (s : List UInt8) (k : Nat) : (mixL s k).length = s.length := by simp [mixL]; omega
theorem mixL_at (s : List UInt8) (k : Nat) (h : k < s.length) : (mixL s k)[k]'(by rw [mixL_len]; exact h) = s[k] := by
  simp only [mixL]
  rw [List.getElem_append_right (by simp; omega)]
  simp only [List.getElem_drop, List.length_map, List.length_take]
  congr 1
  omega
theorem mixL_set (s : List UInt8) (k : Nat) (h : k < s.length) : (mixL s k).set k (low s[k]) = mixL s (k + 1) := by
  have h0 : ((s.take k).map low).length = k := by simp; omega
  simp only [mixL]
  rw [List.set_append_right _ _ (by omega), h0, Nat.sub_self, List.take_succ_eq_append_getElem h, List.map_append, List.append_assoc]
  congr 1
  rw [List.drop_eq_getElem_cons h]
  rfl

theorem alike_fold (a b : List UInt8) {L : List (List UInt8)} (h : nameL a = some L) : (foldL a == foldL b) = alikeN a b := by
  unfold alikeN
  rw [h]
  obtain ⟨h1, h2, h3⟩ := foldL_some h
  obtain ⟨_, hg, _⟩ := nameL_is h
  cases k : nameL b with
  | none =>
    rw [foldL_none k, beq_eq_false_iff_ne]
    exact foldL_ne h
  | some M =>
    obtain ⟨k1, k2, k3⟩ := foldL_some k
    obtain ⟨_, kg, _⟩ := nameL_is k
    rw [h2, k2]
    simp only
    by_cases e : L.map lowS = M.map lowS
    · rw [e]; simp
    · rw [decide_eq_false e, beq_eq_false_iff_ne]
      exact fun e' => e (enc_inj hg.low kg.low e')
end Go.Proofs.Ytimakddeokgfcaa
