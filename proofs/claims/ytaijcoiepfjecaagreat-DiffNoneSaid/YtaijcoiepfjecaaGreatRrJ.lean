/- RrJ: texts RrsJ of our own, joined. No statement of the seat is proved here. -/
import Derived.Test.YtaijcoiepfjecaaGreatRrE
namespace Go.Proofs.YtaijcoiepfjecaaGreat
open Go.RowKit Go.Op

theorem own_sees {w : World} {base : Nat} {v : Value} {n : Nat} {xs : List Rrd} (h : w.ownsRow base 26 5 v n (rcells xs)) :
    ∃ A c, v = .slice A n c ∧ SeesR w w.heap.size A n xs ∧ InCap A n c := by
  obtain ⟨A, c, rfl, hs⟩ := SeesR.own h
  refine ⟨A, c, rfl, hs, ?_⟩
  rcases h.2 with ⟨e, hn⟩ | ⟨g, cap, cur, e, hb, hg, h1, h2, h3, h4⟩
  · obtain ⟨rfl, rfl, rfl⟩ : A = none ∧ n = 0 ∧ c = 0 := by simpa using e
    exact ⟨Nat.le_refl _, by omega, fun _ => rfl, fun ad h => by cases h⟩
  · obtain ⟨rfl, rfl⟩ : A = some ⟨g, 0, none⟩ ∧ c = cap := by simpa using e
    unfold maxLen at h2
    exact ⟨h1, by omega, fun h => (by cases h), fun ad h _ => (by cases h; rfl)⟩
def wakeR : Rrd := ⟨⟨#[1, 97, 0]⟩, 1, 1, 0, ⟨#[97, 98, 99, 100]⟩⟩
theorem wakeR_ok : OkX wakeR := by
  refine ⟨?_, by decide⟩
  have h1 : wakeR.toRec = ⟨[1, 97, 0], 1, 1, 0, [97, 98, 99, 100]⟩ := rfl
  rw [h1]
  unfold okR
  rw [name_a]
  simp only [List.length_cons, List.length_nil]
  rw [show tyd 1 1 (0 + 1 + 1 + 1 + 1) = 1 from rfl, right_abcd]
  rfl
end Go.Proofs.YtaijcoiepfjecaaGreat
