/- PaE: texts PakE of our own, joined. No statement of the seat is proved here. -/
import Derived.Test.YtkmmbbcmpjkmkaaPaC
import Derived.Test.YtkmmbbcmpjkmkaaNaI
namespace Go.Proofs.Ytkmmbbcmpjkmkaa
open Go.RowKit

def beh : Option Nat → Int
  | none => -1
  | some k => (k : Int)
theorem labs_snoc (L : List (List UInt8)) (x : List UInt8) : labs (L ++ [x]) = labs L ++ lab x := by rw [labs_append]; simp [labs]
theorem Good.snoc {L : List (List UInt8)} {x : List UInt8} (h : Good L) (h1 : x ≠ []) (h2 : x.length ≤ 63) : Good (L ++ [x]) := by
  intro y hy
  rcases List.mem_append.1 hy with hy | hy
  · exact h y hy
  · rw [List.mem_singleton] at hy; subst hy; exact ⟨h1, h2⟩
theorem nameL_long {L : List (List UInt8)} (h : 255 < (enc L).length) : nameL (enc L) = none := by unfold nameL; rw [if_pos h]
theorem enc_len (L : List (List UInt8)) : (enc L).length = (labs L).length + 1 := by unfold enc; simp

section
variable {M : List UInt8} {L : List (List UInt8)} {s p d d2 : Nat} {nx : Option Nat}
theorem rq_zero (hp : p < M.length) (hd : d = M[p].toNat) (h0 : d = 0) :
    readR M (labs L) s p nx = if (enc L).length ≤ 255 then some (enc L, nx.getD (p + 1)) else none := by
  by_cases hl : (enc L).length ≤ 255
  · rw [if_pos hl, rd_zero (by have := enc_len L; omega) (drop_cons hp) (by omega)]; rfl
  · rw [if_neg hl, rd_full (by have := enc_len L; omega)]
theorem rq_ptr1 (hp : p < M.length) (hd : d = M[p].toNat) (h : 192 ≤ d) (hl : M.length ≤ p + 1) : readR M (labs L) s p nx = none := by
  have h1 := drop_cons hp
  have h2 : M.drop (p + 1) = [] := List.drop_eq_nil_of_le (by omega)
  rw [h2] at h1
  exact rd_ptr1 h1 (by omega)
theorem rq_fore (hp : p + 1 < M.length) (hd : d = (M[p]'(by omega)).toNat) (hd2 : d2 = M[p + 1].toNat) (h : 192 ≤ d) (ht : s ≤ (d - 192) * 256 + d2) : readR M (labs L) s p nx = none := by
  have h1 := drop_cons (show p < M.length by omega)
  rw [drop_cons hp] at h1
  exact rd_fore h1 (by omega) (by rw [← hd, ← hd2]; exact ht)
theorem rq_ptr (hp : p + 1 < M.length) (hd : d = (M[p]'(by omega)).toNat) (hd2 : d2 = M[p + 1].toNat) (h : 192 ≤ d) (ht : (d - 192) * 256 + d2 < s) :
    readR M (labs L) s p nx = readR M (labs L) ((d - 192) * 256 + d2) ((d - 192) * 256 + d2) (some (nx.getD (p + 2))) := by
  by_cases hl : (labs L).length < 255
  · have h1 := drop_cons (show p < M.length by omega)
    rw [drop_cons hp] at h1
    rw [rd_ptr hl h1 (by omega) (by rw [← hd, ← hd2]; exact ht), ← hd, ← hd2]
  · rw [rd_full (by omega), rd_full (by omega)]
theorem rq_bad (hp : p < M.length) (hd : d = M[p].toNat) (h0 : d ≠ 0) (h1 : d < 192) (h : ¬ (d < 64 ∧ p + 1 + d ≤ M.length)) : readR M (labs L) s p nx = none :=
  rd_bad (drop_cons hp) (by rw [← hd]; exact h0) (by omega) (by rw [List.length_drop, ← hd]; omega)
theorem rq_lab (hp : p < M.length) (hd : d = M[p].toNat) (_h0 : d ≠ 0) (h1 : d < 64) (h : p + 1 + d ≤ M.length) :
    readR M (labs L) s p nx = readR M (labs (L ++ [(M.drop (p + 1)).take d])) s (p + 1 + d) nx ∧ (M.take (p + 1 + d)).drop p = lab ((M.drop (p + 1)).take d) ∧ ((M.drop (p + 1)).take d).length = d := by
  have hlen : ((M.drop (p + 1)).take d).length = d := by simp; omega
  have hlab : lab ((M.drop (p + 1)).take d) = M[p] :: (M.drop (p + 1)).take d := by
    unfold lab; rw [hlen, hd]; simp
  refine ⟨?_, ?_, hlen⟩
  · rw [labs_snoc, hlab]
    by_cases hl : (labs L).length < 255
    · rw [rd_lab hl (drop_cons hp) (by omega) (by omega) (by simp; omega), ← hd]
    · rw [rd_full (by omega), rd_full (by simp; omega)]
  · rw [hlab, List.drop_take, show p + 1 + d - p = d + 1 by omega, drop_cons hp, List.take_succ_cons]
end

def RefRd (M : List UInt8) (R : Option (List UInt8 × Nat)) (w : World) (nV beV stV atV : Value) (wr : World) : Prop :=
  ∃ L s p nx, nV = .string (mk (labs L)) ∧ Good L ∧ beV = .int .i64 (beh nx) ∧ stV = .int .i64 ((s : Nat) : Int) ∧ atV = .int .i64 ((p : Nat) : Int) ∧ R = readR M (labs L) s p nx ∧ p ≤ M.length ∧ s ≤ M.length ∧
    (labs L).length ≤ 363 ∧ Below w.heap.size w wr
def sizeV : Value → Nat
  | .string s => s.size
  | _ => 0

end Go.Proofs.Ytkmmbbcmpjkmkaa
