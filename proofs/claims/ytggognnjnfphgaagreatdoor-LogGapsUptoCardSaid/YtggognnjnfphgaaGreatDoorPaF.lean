/- PaF: texts PakF of our own, joined. No statement of the seat is proved here. -/
import Derived.Test.YtggognnjnfphgaaGreatDoorPaA
import Derived.Test.YtggognnjnfphgaaGreatDoorNaI
import Derived.Deep.RegionLaw
import Derived.Deep.AppendLies
import Derived.Deep.AppendSrc
namespace Go.Proofs.YtggognnjnfphgaaGreatDoor
open Go.RowKit

abbrev KnL := List (List UInt8 × Nat)
def kf (KL : KnL) : Kn := fun r => (KL.find? fun k => k.1 == r).map (·.2)
def kcells (KL : KnL) : List Value := KL.flatMap fun k => [.string (mk k.1), .int .i64 (k.2 : Nat)]
theorem kcells_len (KL : KnL) : (kcells KL).length = KL.length * 2 := by
  induction KL with
  | nil => rfl
  | cons x r ih => simp only [kcells, List.flatMap_cons] at ih ⊢; simp only [List.length_append, List.length_cons, List.length_nil, ih]; omega
theorem kcells_snoc (KL : KnL) (r : List UInt8) (p : Nat) : kcells (KL ++ [(r, p)]) = kcells KL ++ [.string (mk r), .int .i64 (p : Nat)] := by simp [kcells]
theorem kcells_at (KL : KnL) {j : Nat} (hj : j < KL.length) : (kcells KL)[j * 2]? = some (.string (mk KL[j].1)) ∧ (kcells KL)[j * 2 + 1]? = some (.int .i64 (KL[j].2 : Nat)) := by
  induction KL generalizing j with
  | nil => simp at hj
  | cons x r ih =>
    cases j with
    | zero => exact ⟨rfl, rfl⟩
    | succ j =>
      have := ih (j := j) (by simpa using hj)
      simp only [kcells, List.flatMap_cons] at this ⊢
      rw [show (j + 1) * 2 = j * 2 + 2 by omega, show j * 2 + 2 + 1 = j * 2 + 1 + 2 by omega]
      simpa using this
theorem kf_none_snoc {KL : KnL} {r : List UInt8} {p : Nat} (h : kf KL r = none) : kf (KL ++ [(r, p)]) = fun k => if k = r then some p else kf KL k := by
  funext k
  unfold kf at h ⊢
  rw [Option.map_eq_none_iff] at h
  rw [List.find?_append]
  by_cases hk : k = r
  · subst hk
    rw [h, if_pos rfl]
    simp
  · rw [if_neg hk]
    cases hf : KL.find? (fun x => x.1 == k) with
    | some x => rfl
    | none =>
      have : (r == k) = false := by simpa using fun e : r = k => hk e.symm
      simp [this]
def kfI (KL : KnL) (r : List UInt8) : Int := match kf KL r with | some t => (t : Int) | none => -1
theorem find_drop {KL : KnL} {r : List UInt8} {k : Nat} (h : ∀ x ∈ KL.take k, x.1 ≠ r) : kf KL r = kf (KL.drop k) r := by
  unfold kf
  conv => lhs; rw [← List.take_append_drop k KL, List.find?_append]
  rw [List.find?_eq_none.2 (by intro x hx; simpa using h x hx)]
  rfl

/-- the reference's packer, as a value -/
def rpV (l : List UInt8) (A : Option Addr) (n c : Nat) : Value := .agg #[.string (mk l), .slice A n c]
theorem Kp.whole {B b m c : Nat} {w w' : World} {v v' : Value} {l0 : List UInt8} {K0 : Kn} {g t : Nat} {cs : Array Value} (hw : Whole w g t cs) (hp : Pk B w b m v l0 K0 c) (hk : Kp b m v v' w w') (h1 : t ≠ pkT) (h2 : t ≠ 5) : Whole w' g t cs := by
  have hgb : g ≠ b := by
    rintro rfl
    obtain ⟨p, _, hb⟩ := hp.blk
    rw [hw] at hb
    injection hb with hb
    injection hb with _ hb _
    exact absurd hb h1
  have hgm : g ≠ m := by
    rintro rfl
    obtain ⟨D, n', ⟨es, clock, hm, _⟩, _⟩ := hp.map
    rw [hw] at hm; cases hm
  exact (hk.block g hw.lt hgb hgm (Lib.ownBlock_neF hp.row hw h2)).trans hw
theorem kcells_one (KL : KnL) : ∀ u ∈ kcells KL, u.oneCell' = true := by
  intro u hu
  simp only [kcells, List.mem_flatMap] at hu
  obtain ⟨k, _, hu⟩ := hu
  simp only [List.mem_cons, List.not_mem_nil, or_false] at hu
  rcases hu with rfl | rfl <;> rfl
def sizeS : Value → Nat
  | .string s => s.size
  | _ => 0
theorem enc_is_root {x : List UInt8} {L : List (List UInt8)} : ((mk (enc (x :: L))).toList == [0]) = false := by
  rw [mk_is, beq_eq_false_iff_ne]
  intro e
  have h1 := congrArg List.length e
  rw [enc_len_cons] at h1
  have := enc_pos L
  simp at h1
  omega

theorem two_str (W : World) (t : Nat) (ht : t < 16384) :
    (convert 81 9 (.slice (some ⟨W.heap.size, 0, none⟩) 2 2)).run Tryz.prog (W.alloc (.cells #[.int .u8 (192 + (t : Int) / 256), .int .u8 ((t : Int) % 256)] 5)) =
      .ok (.string (mk (ptrB t))) (W.alloc (.cells #[.int .u8 (192 + (t : Int) / 256), .int .u8 ((t : Int) % 256)] 5)) := by
  have hW := Whole.new W 5 #[.int .u8 (192 + (t : Int) / 256), .int .u8 ((t : Int) % 256)]
  have h1 : (UInt8.ofNat (192 + t / 256)).toNat = 192 + t / 256 := by rw [UInt8.toNat_ofNat']; omega
  have h2 : (UInt8.ofNat (t % 256)).toNat = t % 256 := by rw [UInt8.toNat_ofNat']; omega
  refine Row8.str (l := ptrB t) ⟨fun j hj => ?_, fun j _ => hW.frozen j⟩ 2 2 rfl
  match j, hj with
  | 0, _ =>
    refine (hW.cell 0).trans ?_
    show some (Value.int .u8 (192 + (t : Int) / 256)) = some (.int .u8 ((UInt8.ofNat (192 + t / 256)).toNat : Nat))
    rw [h1]; congr 2
  | 1, _ =>
    refine (hW.cell 1).trans ?_
    show some (Value.int .u8 ((t : Int) % 256)) = some (.int .u8 ((UInt8.ofNat (t % 256)).toNat : Nat))
    rw [h2]; congr 2
  | j + 2, hj => rw [ptr_len] at hj; omega
end Go.Proofs.YtggognnjnfphgaaGreatDoor
