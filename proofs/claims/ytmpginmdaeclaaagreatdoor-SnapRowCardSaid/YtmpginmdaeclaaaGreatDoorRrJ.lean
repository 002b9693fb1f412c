/- Parts of the proofs of the statements of image. No statement of the seat is proved here. -/
import Derived.Test.YtmpginmdaeclaaaGreatDoorRrE
set_option maxHeartbeats 32000000
set_option maxRecDepth 20000
namespace Go.Proofs.YtmpginmdaeclaaaGreatDoor
open Go.RowKit Go.Op
theorem own_sees {w : World} {base : Nat} {v : Value} {n : Nat} {xs : List Rrd} (h : w.ownsRow base 46 5 v n (rcells xs)) :
    ∃ A c, v = .slice A n c /\ SeesR w w.heap.size A n xs /\ InCap A n c := by
  obtain ⟨A, c, rfl, hs⟩ := SeesR.own h
  refine ⟨A, c, rfl, hs, ?_⟩
  rcases h.2 with ⟨e, hn⟩ | ⟨g, cap, cur, e, hb, hg, h1, h2, h3, h4⟩
  · obtain ⟨rfl, rfl, rfl⟩ : A = none /\ n = 0 /\ c = 0 := by simpa using e
    exact ⟨Nat.le_refl _, by omega, fun _ => rfl, fun ad h => by cases h⟩
  · obtain ⟨rfl, rfl⟩ : A = some ⟨g, 0, none⟩ /\ c = cap := by simpa using e
    unfold maxLen at h2
    exact ⟨h1, by omega, fun h => (by cases h), fun ad h _ => (by cases h; rfl)⟩
end Go.Proofs.YtmpginmdaeclaaaGreatDoor
