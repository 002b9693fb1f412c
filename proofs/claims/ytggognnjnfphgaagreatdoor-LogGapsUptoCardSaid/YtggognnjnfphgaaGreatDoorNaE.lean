/- NaE: texts NamE, NamK of our own, joined. No statement of the seat is proved here. -/
import Derived.Test.YtggognnjnfphgaaGreatDoorNaA
import Derived.Test.YtggognnjnfphgaaGreatDoorPaA
import Derived.Laws.Cover1
import Derived.Test.YtggognnjnfphgaaGreatDoorNaI
import Derived.Deep.RegionWith
namespace Go.Proofs.YtggognnjnfphgaaGreatDoor
open Go.RowKit Go.Op

theorem mk_tl (a : List UInt8) : (mk a).toList = a := by rw [ByteArray.toList_eq]; simp [mk]
theorem textL_len {w : World} {B : Nat} {A : Option Addr} {n : Nat} {L : List (List UInt8)} (h : Sees w B A n (textL L)) : L.length = n := by
  have := h.len
  simpa [textL, texts] using this

theorem isNaN_any (S : ByteArray) (w : World) : Calls Tryz.prog 140 #[.string S] w fun e w' => e = .returned (.bool false) ∧ w = w' := by
  have h : (S.toList == S.toList) = true := by simp
  go_enter Tryz.func140, Tryz.ntmps140
  go_wp2_with fail
  go_ret
  exact ⟨rfl, rfl⟩

def cmpB (a b : List UInt8) : Int := if bytesLess a b then -1 else if bytesLess b a then 1 else 0
theorem cmpL_at {X Y : List (List UInt8)} {k : Nat} (h1 : k < X.length) (h2 : k < Y.length) : cmpL (X.drop k) (Y.drop k) = if cmpB X[k] Y[k] = 0 then cmpL (X.drop (k + 1)) (Y.drop (k + 1)) else cmpB X[k] Y[k] := by
  rw [List.drop_eq_getElem_cons h1, List.drop_eq_getElem_cons h2, cmpL]
  unfold cmpB
  split
  · simp
  · split <;> simp
/-! ### A list turned round -/
/-- Z is L with its p first and its p last places exchanged -/
def RevAt (L Z : List (List UInt8)) (p : Nat) : Prop := Z.length = L.length ∧ ∀ k, k < L.length → Z[k]? = if k < p ∨ L.length ≤ k + p then L[L.length - 1 - k]? else L[k]?
theorem RevAt.start (L : List (List UInt8)) : RevAt L L 0 := ⟨rfl, fun k hk => by rw [if_neg (by omega)]⟩
theorem RevAt.here {L Z : List (List UInt8)} {p : Nat} (h : RevAt L Z p) {k : Nat} (hk : k < L.length) (hz : k < Z.length) (hm : ¬ (k < p ∨ L.length ≤ k + p)) : Z[k] = L[k] := by
  have := h.2 k hk
  rw [if_neg hm, List.getElem?_eq_getElem hz, List.getElem?_eq_getElem hk] at this
  injection this
theorem RevAt.step {L Z : List (List UInt8)} {p q : Nat} (h : RevAt L Z p) (hq : p + q + 1 = L.length) (hpq : p < q) (h1 : p < L.length) (h2 : q < L.length) : RevAt L ((Z.set p L[q]).set q L[p]) (p + 1) := by
  refine ⟨by simp [h.1], fun k hk => ?_⟩
  have hz : k < Z.length := by rw [h.1]; exact hk
  rw [List.getElem?_set, List.getElem?_set, List.length_set, h.1]
  by_cases e1 : q = k
  · subst e1
    rw [if_pos rfl, if_pos h2, if_pos (by omega), show L.length - 1 - q = p by omega, List.getElem?_eq_getElem h1]
  · by_cases e2 : p = k
    · subst e2
      rw [if_neg e1, if_pos rfl, if_pos h1, if_pos (by omega), show L.length - 1 - p = q by omega, List.getElem?_eq_getElem h2]
    · rw [if_neg e1, if_neg e2, h.2 k hk]
      by_cases e3 : k < p ∨ L.length ≤ k + p
      · rw [if_pos e3, if_pos (by omega)]
      · rw [if_neg e3, if_neg (by omega)]
theorem RevAt.ends {L Z : List (List UInt8)} {p : Nat} (h : RevAt L Z p) (hp : L.length ≤ p + p + 1) : Z = L.reverse := by
  apply List.ext_getElem?
  intro k
  by_cases hk : k < L.length
  · rw [h.2 k hk, List.getElem?_reverse hk]
    split
    · rfl
    · rw [show L.length - 1 - k = k by omega]
  · rw [List.getElem?_eq_none (by rw [h.1]; omega), List.getElem?_eq_none (by simp; omega)]

theorem textL_set (Z : List (List UInt8)) (k : Nat) (x : List UInt8) : (textL Z).set k (.string (mk x)) = textL (Z.set k x) := by simp [textL, texts, List.map_set]
theorem textL_length (Z : List (List UInt8)) : (textL Z).length = Z.length := by simp [textL, texts]
theorem grown_trans {a b c : World} {r : Option Nat} (h : a.grownBy b r) (k : b.grownBy c r) : a.grownBy c r :=
  ⟨k.os.trans h.os, k.tape.trans h.tape, k.output.trans h.output, Nat.le_trans h.size k.size, fun i hi hne => (k.block i (Nat.lt_of_lt_of_le hi h.size) hne).trans (h.block i hi hne)⟩
theorem grown_drew {a b : World} {r : Option Nat} (h : a.grownBy b r) : a.grownBy b.drew r := ⟨h.os, h.tape, h.output, h.size, h.block⟩

end Go.Proofs.YtggognnjnfphgaaGreatDoor
namespace Go.Proofs.YtggognnjnfphgaaGreatDoor
open Go.RowKit

theorem bytesV_snoc (l : List UInt8) (c : UInt8) : bytesV (l ++ [c]) = bytesV l ++ [.int .u8 (c.toNat : Nat)] := by simp [bytesV]
theorem lowS_take {s : List UInt8} {k : Nat} (h : k < s.length) : lowS (s.take (k + 1)) = lowS (s.take k) ++ [low s[k]] := by
  rw [List.take_succ_eq_append_getElem h]; simp only [lowS, List.map_append, List.map_cons, List.map_nil]
theorem low_up {c : UInt8} (h1 : 65 ≤ c.toNat) (h2 : c.toNat ≤ 90) : (low c).toNat = c.toNat + 32 := by
  unfold low; rw [if_pos ⟨h1, h2⟩, UInt8.toNat_ofNat']; omega
theorem low_not {c : UInt8} (h : ¬ (65 ≤ c.toNat ∧ c.toNat ≤ 90)) : (low c).toNat = c.toNat := by unfold low; rw [if_neg h]

/-! ### Fold -/
theorem u8_of (q : Nat) (hq : q < 256) : IntKind.u8.wrap (q : Int) = (q : Int) := by
  have e : IntKind.u8.wrap (q : Int) = (q : Int) % 256 := rfl
  rw [e]; omega
theorem byte_newW (q : Nat) (W : World) (hq : q < 256) :
    (convert 81 9 (.slice (some ⟨W.heap.size, 0, none⟩) 1 1)).run Tryz.prog (W.alloc (.cells #[.int .u8 (IntKind.u8.wrap (q : Int))] 5)) = .ok (.string ⟨#[UInt8.ofNat q]⟩) (W.alloc (.cells #[.int .u8 (IntKind.u8.wrap (q : Int))] 5)) := by
  rw [u8_of q hq]
  exact byte_str q _ _ _ hq (Whole.new W 5 #[_]).cell1
theorem byte_laterW (q : Nat) {W W' : World} (hq : q < 256) (hB : Below (W.alloc (.cells #[.int .u8 (IntKind.u8.wrap (q : Int))] 5)).drew.heap.size (W.alloc (.cells #[.int .u8 (IntKind.u8.wrap (q : Int))] 5)).drew W') :
    (convert 81 9 (.slice (some ⟨W.heap.size, 0, none⟩) 1 1)).run Tryz.prog W' = .ok (.string ⟨#[UInt8.ofNat q]⟩) W' := by
  rw [u8_of q hq] at hB
  exact byte_str q _ _ _ hq ((hB.cell (p := ⟨W.heap.size, 0, none⟩) (by show W.heap.size < (W.alloc _).heap.size; simp)).trans (Whole.new W 5 #[_]).cell1)

end Go.Proofs.YtggognnjnfphgaaGreatDoor
