/- Parts of the proofs of the statements of image. No statement of the seat is proved here. -/
import Derived.Test.YtmpginmdaeclaaaGreatDoorRdB
import Derived.Test.YtmpginmdaeclaaaGreatDoorOcD
import Derived.Test.YtmpginmdaeclaaaGreatDoorOcJ
import Derived.Test.YtmpginmdaeclaaaGreatDoorNaA
set_option maxHeartbeats 32000000
set_option maxRecDepth 20000
namespace Go.Proofs.YtmpginmdaeclaaaGreatDoor
open Go.RowKit
structure Soa7 (D m r a b c d e : List UInt8) : Prop where
  nm : (∃ L, nameL m = some L) /\ ∃ L, nameL r = some L
  four : a.length = 4 /\ b.length = 4 /\ c.length = 4 /\ d.length = 4 /\ e.length = 4
  all : D = m ++ r ++ a ++ b ++ c ++ d ++ e
theorem Soa7.is {D m r a b c d e : List UInt8} (h : Soa7 D m r a b c d e) : rightR 6 D = true /\ visR 6 D = [(-1, m), (-1, r), (20, a ++ b ++ c ++ d ++ e)] /\
    steps D D.length (kindsR 6) 0 = ([(-1, m), (-1, r), (4, a), (4, b), (4, c), (4, d), (4, e)], some D.length) := by
  obtain ⟨h1, h2⟩ := h.nm
  obtain ⟨l0, l1, l2, l3, l4⟩ := h.four
  have hm : m.length <= 255 := by obtain ⟨L, hL⟩ := h1; exact (nameL_is hL).2.2
  have hr : r.length <= 255 := by obtain ⟨L, hL⟩ := h2; exact (nameL_is hL).2.2
  have w1 : WF [(-1, m), (-1, r), (20, a ++ b ++ c ++ d ++ e)] :=
    ⟨by simp [Part], ⟨fun _ => h1, by simp, by simp⟩, by simp, by simp [Part], ⟨fun _ => h2, by simp, by simp⟩, by simp, by simp [Part], ⟨by simp, by simp, fun _ => by simp [l0, l1, l2, l3, l4]⟩, by simp, trivial⟩
  have w2 : WF [(-1, m), (-1, r), (4, a), (4, b), (4, c), (4, d), (4, e)] :=
    ⟨by simp [Part], ⟨fun _ => h1, by simp, by simp⟩, by simp, by simp [Part], ⟨fun _ => h2, by simp, by simp⟩, by simp, by simp [Part], ⟨by simp, by simp, fun _ => by simp [l0]⟩, by simp, by simp [Part], ⟨by simp, by simp, fun _ => by simp [l1]⟩, by simp,
      by simp [Part], ⟨by simp, by simp, fun _ => by simp [l2]⟩, by simp, by simp [Part], ⟨by simp, by simp, fun _ => by simp [l3]⟩, by simp, by simp [Part], ⟨by simp, by simp, fun _ => by simp [l4]⟩, by simp, trivial⟩
  have c1 : cat [(-1, m), (-1, r), (20, a ++ b ++ c ++ d ++ e)] = D := by rw [h.all]; simp [cat]
  have c2 : cat [(-1, m), (-1, r), (4, a), (4, b), (4, c), (4, d), (4, e)] = D := by rw [h.all]; simp [cat]
  have hl : (cat [(-1, m), (-1, r), (20, a ++ b ++ c ++ d ++ e)]).length <= 65535 := by rw [c1, h.all]; simp; omega
  obtain ⟨r1, r2⟩ := right_of (t := 6) w1 rfl hl
  rw [c1] at r1 r2
  have s2 := steps_cat w2
  rw [c2] at s2
  exact ⟨r1, r2, s2⟩
end Go.Proofs.YtmpginmdaeclaaaGreatDoor
