/- NaK: texts NamK, NamL of our own, joined. No statement of the seat is proved here. -/
import Derived.Test.YtkmmbbcmpjkmkaaNaI
import Derived.Test.YtkmmbbcmpjkmkaaPaA
import Derived.Deep.RegionWith
namespace Go.Proofs.Ytkmmbbcmpjkmkaa
open Go.RowKit

theorem bytesV_snoc (l : List UInt8) (c : UInt8) : bytesV (l ++ [c]) = bytesV l ++ [.int .u8 (c.toNat : Nat)] := by simp [bytesV]
theorem lowS_take {s : List UInt8} {k : Nat} (h : k < s.length) : lowS (s.take (k + 1)) = lowS (s.take k) ++ [low s[k]] := by
  rw [List.take_succ_eq_append_getElem h]; simp only [lowS, List.map_append, List.map_cons, List.map_nil]
theorem low_up {c : UInt8} (h1 : 65 ≤ c.toNat) (h2 : c.toNat ≤ 90) : (low c).toNat = c.toNat + 32 := by
  unfold low; rw [if_pos ⟨h1, h2⟩, UInt8.toNat_ofNat']; omega
theorem low_not {c : UInt8} (h : ¬ (65 ≤ c.toNat ∧ c.toNat ≤ 90)) : (low c).toNat = c.toNat := by unfold low; rw [if_neg h]

/-! ### Fold -/
theorem u8_of (q : Nat) (hq : q < 256) : IntKind.u8.wrap (q : Int) = (q : Int) := by
  have e : IntKind.u8.wrap (q : Int) = (q : Int) % 256 := rfl
  rw [e]; omega
theorem byte_newW (q : Nat) (W : World) (hq : q < 256) :
    (convert 68 9 (.slice (some ⟨W.heap.size, 0, none⟩) 1 1)).run Try.prog (W.alloc (.cells #[.int .u8 (IntKind.u8.wrap (q : Int))] 5)) = .ok (.string ⟨#[UInt8.ofNat q]⟩) (W.alloc (.cells #[.int .u8 (IntKind.u8.wrap (q : Int))] 5)) := by
  rw [u8_of q hq]
  exact byte_str q _ _ _ hq (Whole.new W 5 #[_]).cell1
theorem byte_laterW (q : Nat) {W W' : World} (hq : q < 256) (hB : Below (W.alloc (.cells #[.int .u8 (IntKind.u8.wrap (q : Int))] 5)).drew.heap.size (W.alloc (.cells #[.int .u8 (IntKind.u8.wrap (q : Int))] 5)).drew W') :
    (convert 68 9 (.slice (some ⟨W.heap.size, 0, none⟩) 1 1)).run Try.prog W' = .ok (.string ⟨#[UInt8.ofNat q]⟩) W' := by
  rw [u8_of q hq] at hB
  exact byte_str q _ _ _ hq ((hB.cell (p := ⟨W.heap.size, 0, none⟩) (by show W.heap.size < (W.alloc _).heap.size; simp)).trans (Whole.new W 5 #[_]).cell1)

end Go.Proofs.Ytkmmbbcmpjkmkaa
namespace Go.Proofs.Ytkmmbbcmpjkmkaa
open Go.RowKit

theorem name_parts (s : List UInt8) : nameL s = none ∨ nameL s = some [] ∨ ∃ x M, nameL s = some (x :: M) := by
  cases h : nameL s with
  | none => exact .inl rfl
  | some L => cases L with
    | nil => exact .inr (.inl rfl)
    | cons x M => exact .inr (.inr ⟨x, M, rfl⟩)

end Go.Proofs.Ytkmmbbcmpjkmkaa
