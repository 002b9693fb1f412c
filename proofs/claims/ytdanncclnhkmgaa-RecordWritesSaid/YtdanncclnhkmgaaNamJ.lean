/- The reference's Of. -/
import Derived.Test.YtdanncclnhkmgaaNamI
namespace Go.Proofs.Ytdanncclnhkmgaa
open Go.RowKit

theorem enc_lenJ (L : List (List UInt8)) : (enc L).length = (labs L).length + 1 := by simp [enc]
theorem labs_take {L : List (List UInt8)} {k : Nat} (h : k < L.length) : labs (L.take (k + 1)) = labs (L.take k) ++ lab L[k] := by
  rw [List.take_succ_eq_append_getElem h, labs_append]; simp [labs]
theorem labs_le (L : List (List UInt8)) (k : Nat) : (labs (L.take k)).length ≤ (labs L).length := by
  conv => rhs; rw [← List.take_append_drop k L]
  rw [labs_append, List.length_append]; omega
theorem ofN_form {L : List (List UInt8)} (h : [] ∈ L) : ofN L = ([], 2) := by unfold ofN; rw [if_pos h]
theorem ofN_long {L : List (List UInt8)} (h : [] ∉ L) (h' : (∃ x ∈ L, 63 < x.length) ∨ 255 < (enc L).length) : ofN L = ([], 3) := by unfold ofN; rw [if_neg h, if_pos h']
theorem ofN_ok {L : List (List UInt8)} (h : [] ∉ L) (h' : ¬ ((∃ x ∈ L, 63 < x.length) ∨ 255 < (enc L).length)) : ofN L = (enc L, 0) := by unfold ofN; rw [if_neg h, if_neg h']
theorem labs_bound (L : List (List UInt8)) (h : ∀ x ∈ L, x.length ≤ 63) : (labs L).length ≤ 64 * L.length := by
  induction L with
  | nil => simp [labs]
  | cons x L ih =>
    have h1 := h x (by simp)
    have h2 := ih fun y hy => h y (List.mem_cons_of_mem _ hy)
    simp only [labs, List.length_append, lab_len, List.length_cons]
    omega
/-- one byte, read back as a string -/
theorem byte_str (q g cap : Nat) (W : World) (hq : q < 256) (hc : W.cell? ⟨g, 0, none⟩ = some (.int .u8 (q : Nat))) :
    (convert 61 9 (.slice (some ⟨g, 0, none⟩) 1 cap)).run Try.prog W = .ok (.string ⟨#[UInt8.ofNat q]⟩) W := by
  refine run_convert_bytes_back W _ _ 5 ⟨g, 0, none⟩ cap [UInt8.ofNat q] Try.underlying61 Try.underlying5 Try.underlying9 (fun j hj => ?_)
  have hj0 : j = 0 := by simpa using hj
  subst hj0
  rw [show (⟨g, 0, none⟩ : Addr).add 0 = ⟨g, 0, none⟩ from rfl, hc]
  simp only [List.getElem_cons_zero, UInt8.toNat_ofNat']
  rw [Nat.mod_eq_of_lt (by omega)]
theorem byte_new (q : Nat) (W : World) (hq : q < 256) :
    (convert 61 9 (.slice (some ⟨W.heap.size, 0, none⟩) 1 1)).run Try.prog ((W.alloc (.cells #[.int .u8 (q : Nat)] 5)).drew) = .ok (.string ⟨#[UInt8.ofNat q]⟩) ((W.alloc (.cells #[.int .u8 (q : Nat)] 5)).drew) :=
  byte_str q _ _ _ hq (Whole.new W 5 #[_]).cell1
/-- where the second loop of the reference's Of stands -/
def OfRef (L : List (List UInt8)) (k : Nat) (S : ByteArray) : Prop := S = mk (labs (L.take k)) ∧ (∀ x ∈ L.take k, x.length ≤ 63)
theorem OfRef.start (L : List (List UInt8)) : OfRef L 0 ⟨#[]⟩ := ⟨rfl, by simp⟩
theorem OfRef.size {L : List (List UInt8)} {k : Nat} {S : ByteArray} (h : OfRef L k S) : S.size ≤ 64 * k := by
  rw [h.1, mk_size]
  have := labs_bound _ h.2
  have h2 : (L.take k).length ≤ k := by simp; omega
  omega
theorem OfRef.step {L : List (List UInt8)} {k : Nat} {S : ByteArray} (h : OfRef L k S) (hk : k < L.length) (hx : L[k].length ≤ 63) : OfRef L (k + 1) (S ++ (⟨#[UInt8.ofNat L[k].length]⟩ ++ mk L[k])) := by
  refine ⟨?_, fun x hm => ?_⟩
  · rw [h.1]
    show mk _ ++ (mk [UInt8.ofNat L[k].length] ++ mk L[k]) = _
    rw [mk_append, mk_append, labs_take hk]
    rfl
  · rw [List.take_succ_eq_append_getElem hk, List.mem_append, List.mem_singleton] at hm
    rcases hm with hm | hm
    · exact h.2 x hm
    · subst hm; exact hx
theorem OfRef.done {L : List (List UInt8)} {k : Nat} {S : ByteArray} (h : OfRef L k S) (hk : L.length ≤ k) (hE : [] ∉ L) :
    (254 < S.size → ofN L = ([], 3)) ∧ (¬ 254 < S.size → S ++ ⟨#[0]⟩ = mk (ofN L).1 ∧ (ofN L).2 = 0) := by
  have e : L.take k = L := List.take_of_length_le hk
  have hS := h.1
  rw [e] at hS
  have hl : S.size = (labs L).length := by rw [hS, mk_size]
  refine ⟨fun h1 => ofN_long hE (.inr (by rw [enc_lenJ]; omega)), fun h1 => ?_⟩
  have ho := ofN_ok hE (by
    rintro (⟨x, hx, hx'⟩ | hx)
    · have := h.2 x (by rw [e]; exact hx)
      omega
    · rw [enc_lenJ] at hx
      omega)
  rw [ho]
  refine ⟨?_, rfl⟩
  rw [hS]
  show mk (labs L) ++ mk [0] = _
  rw [mk_append]
  rfl

end Go.Proofs.Ytdanncclnhkmgaa
