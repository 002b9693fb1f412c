/- RdK: texts RdaK of our own, joined. No statement of the seat is proved here. -/
import Derived.Test.YtggognnjnfphgaaGreatDoorRdG
import Derived.Test.YtggognnjnfphgaaGreatDoorRdJ
namespace Go.Proofs.YtggognnjnfphgaaGreatDoor
open Go.RowKit

theorem Pk.put {B b m c : Nat} {W : World} {v : Value} {l : List UInt8} {K : Kn} {g t : Nat} {cs : Array Value} (h : Pk B W b m v l K c) (hw : Whole W g t cs) (h1 : t ≠ pkT) (h2 : t ≠ 5) (i : Nat) (u : Value) : Pk B (W.setCell ⟨g, i, none⟩ u) b m v l K c := by
  have hg := gset W ⟨g, i, none⟩ u
  obtain ⟨p, hp, hb⟩ := h.blk
  obtain ⟨D, n, m1, m2, m3⟩ := h.map
  have hgb : g ≠ b := by
    rintro rfl
    rw [hw] at hb
    injection hb with hb
    injection hb with _ hb _
    exact absurd hb h1
  have hgm : g ≠ m := by
    rintro rfl
    obtain ⟨es, clock, hm, _⟩ := m1
    rw [hw] at hm; cases hm
  exact ⟨h.hb, h.hm, ⟨p, hp, (hg.block b h.blt (fun e => hgb (Option.some.inj e).symm)).trans hb⟩, h.row.kept hg (.inr (Lib.ownBlock_neF h.row hw h2)), ⟨D, n, m1.kept hg (fun e => hgm (Option.some.inj e).symm), m2, m3⟩, h.nl⟩
theorem lst_kinds (t : Int) : Lst (kindsR t) := by
  unfold kindsR
  repeat' split
  all_goals simp [Lst, Part]
theorem own_put {w : World} {base e n : Nat} {v : Value} {xs : List Value} (h : w.ownsRow base e 1 v n xs) {p : Addr} (hp : p.block < base) (u : Value) : (w.setCell p u).ownsRow base e 1 v n xs :=
  h.kept (gset w p u) (.inr (fun e => by have := (h.lt _ e).1; omega))
end Go.Proofs.YtggognnjnfphgaaGreatDoor
