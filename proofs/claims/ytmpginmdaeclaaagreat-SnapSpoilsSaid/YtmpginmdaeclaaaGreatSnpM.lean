/- Parts of the proofs of the statements of image. No statement of the seat is proved here. -/
import Derived.Test.YtmpginmdaeclaaaGreatDkH
import Derived.Test.YtmpginmdaeclaaaGreatFrA
set_option maxHeartbeats 32000000
set_option maxRecDepth 20000
namespace Go.Proofs.YtmpginmdaeclaaaGreat
def imgN : Bys := [105, 109, 97, 103, 101]
def itmN : Bys := [105, 109, 97, 103, 101, 45, 116, 109, 112]
theorem isN_img : isN imgN = true := by decide
theorem isN_itm : isN itmN = true := by decide
def runL : List (St -> St × Int) -> St -> St × Int
  | [], S => (S, 0)
  | f :: r, S => if (f S).2 = 0 then runL r (f S).1 else f S
theorem runL_cons (f : St -> St × Int) (r : List (St -> St × Int)) (S : St) : runL (f :: r) S = if (f S).2 = 0 then runL r (f S).1 else f S := rfl
theorem runL_snoc {fs : List (St -> St × Int)} {f : St -> St × Int} : ∀ {S S1 : St}, runL fs S = (S1, 0) -> runL (fs ++ [f]) S = f S1 := by
  induction fs with
  | nil => 
    intro S S1 h
    injection h with h
    subst h
    show (if (f S).2 = 0 then ((f S).1, (0 : Int)) else f S) = f S
    by_cases e : (f S).2 = 0
    · rw [if_pos e]
      exact Prod.ext rfl e.symm
    · rw [if_neg e]
  | cons g r ih =>
    intro S S1 h
    rw [List.cons_append, runL_cons]
    rw [runL_cons] at h
    by_cases e : (g S).2 = 0
    · rw [if_pos e] at h ⊢
      exact ih h
    · rw [if_neg e] at h
      rw [h] at e
      exact absurd rfl e
theorem runL_stop {fs gs : List (St -> St × Int)} : ∀ {S S1 : St} {e : Int}, runL fs S = (S1, e) -> e ≠ 0 -> runL (fs ++ gs) S = (S1, e) := by
  induction fs with
  | nil => 
    intro S S1 e h he
    injection h with h1 h2
    exact absurd h2.symm he
  | cons g r ih =>
    intro S S1 e h he
    rw [List.cons_append, runL_cons]
    rw [runL_cons] at h
    by_cases e0 : (g S).2 = 0
    · rw [if_pos e0] at h ⊢
      exact ih h he
    · rw [if_neg e0] at h ⊢
      exact h
def discS (S : St) : St × Int := ((removeS S itmN).1, if (removeS S itmN).2 = 6 then 0 else (removeS S itmN).2)
def saveL (fr : Bys) : List (St -> St × Int) := [discS, fun S => appendS S itmN fr, fun S => syncS S itmN, fun S => renameS S itmN imgN, syncDirS]
def saveS (S : St) (fr : Bys) : St × Int := if (runL (saveL fr) S).2 = 4 then ((discS (runL (saveL fr) S).1).1, 4) else runL (saveL fr) S
end Go.Proofs.YtmpginmdaeclaaaGreat
