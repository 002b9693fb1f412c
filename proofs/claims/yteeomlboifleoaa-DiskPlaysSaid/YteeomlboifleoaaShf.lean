/- What the library's functions on maps, sorting and strings do here. No statement of the seat is proved here. -/
import Derived.Test.YteeomlboifleoaaShl
import Derived.Test.YteeomlboifleoaaKit
import Derived.Test.YteeomlboifleoaaDat
import Derived.Test.YteeomlboifleoaaRows
import Derived.WalkKit
import Derived.WalkSpells
namespace Go.Proofs.Yteeomlboifleoaa
open Go.RowKit Go.Maps Go.Sort

theorem law : Keyed Try.prog 9 := string_keyed Try.underlying9

theorem strings_Clone_any (s : ByteArray) (w : World) (hs : s.size ≤ 281474976710656) :
    Calls Try.prog 60 #[.string s] w fun e w' => e = .returned (.string s) ∧ Below w.heap.size w w' := by
  go_enter Try.func60, Try.ntmps60
  go_wp2_with (go_at_call 66; refine (AnyPu.stringslite_Clone scloneL s w hs).mono ?_; rintro e w1 ⟨rfl, hb⟩)
  go_ret
  exact ⟨rfl, hb⟩

theorem maps_Clone_any (b n : Nat) (D : DataW Unit) (w : World) (hown : w.ownsMap Try.prog 9 ptrR b n D) :
    Calls Try.prog 39 #[.map (some b)] w fun e w' => e = .returned (.map (some w.heap.size)) ∧ w'.ownsMap Try.prog 9 ptrR w.heap.size n D ∧ Below w.heap.size w w' :=
  (AnyW.maps_Clone_owns cloneL 9 ptrR b n D w hown).mono fun _ _ ⟨h1, h2, _, h3⟩ => ⟨h1, h2, h3⟩

theorem sorts_two (m : Nat) : AnyZ.SortsIn Try.prog sortedL_ren Fence.wide m :=
  ⟨fun blk off cap ss W hH hblk hsz => callsIn_wide.2 (AnyM.slices_Sort_string sortL blk off cap ss W hH hblk hsz),
   fun p cap W => callsIn_wide.2 (AnyM.slices_Sort_string_none sortL p cap W)⟩

theorem maps_Keys_any (mb : Option Nat) (w : World) :
    Calls Try.prog 41 #[.map mb] w fun e w' => e = .returned (.func (.func 59) #[] #[.pointer (some ⟨w.heap.size, 0, none⟩)]) ∧ w' = w.alloc (.cells #[.map mb] 60) :=
  (callsIn_wide (n := 5)).1 (AnyZ.keys_in keysL Fence.wide 5 trivial rfl mb w)

theorem before_lt : ∀ a b : Bys, bytesBefore a b = true → a ≤ b
  | [], _, _ => by simp
  | _ :: _, [], h => by simp [bytesBefore] at h
  | a :: r, b :: s, h => by
    simp only [bytesBefore, Bool.or_eq_true, Bool.and_eq_true, decide_eq_true_eq, beq_iff_eq] at h
    rw [List.cons_le_cons_iff]
    rcases h with h | ⟨h1, h2⟩
    · exact .inl h
    · exact .inr ⟨h1, before_lt r s h2⟩

/-- a map's names rise -/
theorem rising_of {w : World} {b n : Nat} {bs : List Nat} {N : Nms} (h : w.ownsMap Try.prog 9 ptrR b n (dm bs N)) : N.Pairwise fun p q => bytesBefore p.1 q.1 = true := by
  obtain ⟨es, clock, hb, F, hs, hD⟩ := h
  have h1 := Maps.sorted_sorted law.one _ (Maps.fit_keys F) (Maps.fit_apart law F)
  have h2 : N.map (ent bs) = (es.toList.map (WideElems.rg Try.prog 9 ptrR)).foldr DataW.insert [] := by
    simpa [dm] using hD
  rw [← h2, List.pairwise_map] at h1
  exact h1

theorem keys_sorted {N : Nms} (h : N.Pairwise fun p q => bytesBefore p.1 q.1 = true) {ss : List Bys} (hp : ss.Perm (N.map (·.1))) : ss.mergeSort (fun x y => decide (x ≤ y)) = N.map (·.1) := by
  rw [mergeSort_of_perm hp]
  apply List.mergeSort_of_pairwise
  rw [List.pairwise_map]
  exact h.imp fun h => by simpa using before_lt _ _ h

theorem slices_Sorted_any (b n : Nat) (bs : List Nat) (N : Nms) (w : World) (hown : w.ownsMap Try.prog 9 ptrR b n (dm bs N)) (hn : N.length ≤ 1000000) :
    Calls Try.prog 40 #[.func (.func 59) #[] #[.pointer (some ⟨w.heap.size, 0, none⟩)]] (w.alloc (.cells #[.map (some b)] 60)) fun e w' =>
      ∃ v : Value, e = .returned v ∧ w'.ownsRow w.heap.size 9 1 v N.length ((N.map (·.1)).map Go.Proofs.encStr) ∧ Below w.heap.size w w' := by
  have hbl := hown.lt
  have hseq : SeqGives Fence.wide 2 Try.prog 59 #[.pointer (some ⟨w.heap.size, 0, none⟩)] Go.Proofs.encStr (fun ss => ss.Perm (strKeys (dm bs N))) (Maps.size (dm bs N)) (w.alloc (.cells #[.map (some b)] 60)) :=
    AnyZ.keys_gives (ρ := keysL_ren) { keysL with } Fence.wide _ trivial rfl (by omega) w.heap.size b n (dm bs N) _ (by simp) (by simp) (by
      obtain ⟨es, clock, hb, Ft, hs, hD⟩ := hown
      exact ⟨es, clock, (Below.heap_alloc _ _ b hbl).trans hb, Ft, hs, hD⟩)
  have hsz : Maps.size (dm bs N) = N.length := dm_size bs N
  refine (callsIn_wide (n := 5)).1 ((AnyZ.sorted_in sortedL Fence.wide 5 trivial trivial trivial trivial rfl (by omega) (sorts_two _) (enters_of Try.func58 (by kernel_rfl) rfl) 59 #[.pointer (some ⟨w.heap.size, 0, none⟩)] trivial
    (enters_of Try.func59 (by kernel_rfl) rfl) _ _ (by rw [hsz]; unfold maxLen; omega) (by rw [hsz]; omega) _ hseq).mono ?_)
  rintro e w' ⟨v, ss, rfl, hS, hrow, hnil, hb⟩
  rw [dm_keys] at hS
  rw [keys_sorted (rising_of hown) hS] at hrow
  have hl : ss.length = N.length := by simpa using hS.length_eq
  rw [hl] at hrow
  have hB : Below w.heap.size w (w.alloc (.cells #[.map (some b)] 60)) := (Below.refl _ w).alloc (Nat.le_refl _) _
  refine ⟨v, rfl, ?_, hB.trans (hb.mono (by simp))⟩
  obtain ⟨h1, h2⟩ := hrow
  refine ⟨h1, ?_⟩
  rcases h2 with h2 | ⟨g, cap, cur, hv, hg, r⟩
  · exact .inl h2
  · exact .inr ⟨g, cap, cur, hv, Nat.le_trans (by simp) hg, r⟩
end Go.Proofs.Yteeomlboifleoaa
