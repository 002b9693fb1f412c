/- Each record of an answer is the zone's. No statement of the seat is proved here. -/
import Derived.Test.YtkgihfoknpimfaaGreatLkF
namespace Go.Proofs.YtkgihfoknpimfaaGreat
open Go.RowKit Go.Op
set_option linter.unusedVariables false

/-- a record of the zone, fitted to one that is answered -/
def ttlX (x y : Rrd) : Rrd := if x.t = 6 ∧ y.t = 6 then { x with l := y.l } else x
def fitX (x y : Rrd) : Rrd := if wildN (nmX x) = true then { ttlX x y with s := y.s } else ttlX x y
def OwnY (D : List Rrd) (y : Rrd) : Prop := ∃ x ∈ D, fitX x y = y
theorem own_self {D : List Rrd} {y : Rrd} (h : y ∈ D) : OwnY D y := by
  refine ⟨y, h, ?_⟩
  have h1 : ttlX y y = y := by unfold ttlX; split <;> rfl
  unfold fitX
  rw [h1]
  split <;> rfl
theorem low_star {c : UInt8} (h : low c = 42) : c = 42 := by
  unfold low at h
  split at h
  · rename_i hc
    have h2 := congrArg UInt8.toNat h
    have h3 : (UInt8.ofNat (c.toNat + 32)).toNat = c.toNat + 32 := by simp; omega
    rw [h3] at h2
    have h4 : (42 : UInt8).toNat = 42 := rfl
    omega
  · exact h
theorem wild_alike {a b : List UInt8} {M : List (List UInt8)} (h : alikeN a b = true) (hb : nameL b = some ([42] :: M)) : wildN a = true := by
  unfold alikeN at h
  unfold wildN
  cases ha : nameL a with
  | none => rw [ha, hb] at h; cases h
  | some L =>
    rw [ha, hb] at h
    have h1 : L.map lowS = ([42] :: M).map lowS := of_decide_eq_true h
    cases L with
    | nil => simp at h1
    | cons x L =>
      have h2 : lowS x = lowS [42] := by simpa using (List.cons.inj h1).1
      have h3 : lowS [42] = [42] := by decide
      rw [h3] at h2
      cases x with
      | nil => simp [lowS] at h2
      | cons c r =>
        have h4 : low c = 42 ∧ r = [] := by simpa [lowS] using h2
        rw [low_star h4.1, h4.2]
        simp
theorem own_ren {nn n : List UInt8} {D : List Rrd} (gz : GoodZ nn D) (hu : underN n nn = true) (hk : knownZ D n = false) {x : Rrd} (hx : x ∈ atX (starZ D nn n) D) : OwnY D (renZ n x) := by
  obtain ⟨c, _, _, _, _, hs, _⟩ := star_is gz hu hk
  obtain ⟨h1, h2⟩ := atX_mem.1 hx
  refine ⟨x, h1, ?_⟩
  have hw := wild_alike h2 hs
  have ht : ttlX x (renZ n x) = x := by unfold ttlX renZ; split <;> rfl
  unfold fitX
  rw [if_pos hw, ht]
  rfl
theorem own_no {nn : List UInt8} {D : List Rrd} (gz : GoodZ nn D) : OwnY D (noZ D) := by
  obtain ⟨s, hs⟩ := isZ_soa gz.isz
  have hm : s ∈ typX 6 D := by rw [hs]; simp
  obtain ⟨h1, h2⟩ := typX_mem.1 hm
  have hn : noZ D = negR s := by unfold noZ; rw [hs]
  refine ⟨s, h1, ?_⟩
  rw [hn]
  have ht : ttlX s (negR s) = negR s := by
    unfold ttlX
    rw [if_pos ⟨h2, h2⟩]
    rfl
  unfold fitX
  rw [ht]
  split <;> rfl
theorem own_fnd {nn n : List UInt8} {D : List Rrd} (gz : GoodZ nn D) : ∀ y ∈ (fndZ D nn n).1, OwnY D y := by
  intro y hy
  unfold fndZ at hy
  split at hy
  · rename_i hu
    split at hy
    · exact own_self (atX_mem.1 hy).1
    · rename_i hk
      obtain ⟨x, hx, rfl⟩ := List.mem_map.1 hy
      exact own_ren gz hu (by simpa using hk) hx
  · simp at hy
def OwnA (D : List Rrd) (a : Ans) : Prop := (∀ y ∈ a.an, OwnY D y) ∧ (∀ y ∈ a.ns, OwnY D y) ∧ (∀ y ∈ a.ad, OwnY D y)
theorem own_set {D : List Rrd} {t : Int} {n : List UInt8} : ∀ y ∈ setZ D t n, OwnY D y := fun y hy => own_self (atX_mem.1 (typX_mem.1 hy).1).1
theorem own_app {D l m : List Rrd} (h : ∀ y ∈ l, OwnY D y) (k : ∀ y ∈ m, OwnY D y) : ∀ y ∈ l ++ m, OwnY D y := by
  intro y hy
  rcases List.mem_append.1 hy with h1 | h1
  · exact h y h1
  · exact k y h1
theorem own_typ {D l : List Rrd} {t : Int} (h : ∀ y ∈ l, OwnY D y) : ∀ y ∈ typX t l, OwnY D y := fun y hy => h y (typX_mem.1 hy).1
theorem own_step {nn n : List UInt8} {D : List Rrd} (gz : GoodZ nn D) {t : Int} {a : Ans} {asked : List (List UInt8)} (h : OwnA D a) : OwnA D (stepZ D nn t a asked n).1 := by
  have hf := own_fnd (n := n) gz
  have hno : ∀ y ∈ [noZ D], OwnY D y := fun y hy => by rw [List.mem_singleton] at hy; rw [hy]; exact own_no gz
  obtain ⟨h1, h2, h3⟩ := h
  unfold stepZ
  split
  · refine ⟨h1, own_set, ?_⟩
    intro y hy
    obtain ⟨r, _, hr⟩ := List.mem_flatMap.1 hy
    unfold hostZ at hr
    split at hr
    · exact own_app own_set own_set y hr
    · simp at hr
  · split
    · split
      · exact ⟨own_app h1 hf, h2, h3⟩
      · split
        · exact ⟨own_app h1 (own_typ hf), h2, h3⟩
        · refine ⟨own_app h1 (own_typ hf), fun y hy => ?_, h3⟩
          have hy' : y ∈ (if (typX t (fndZ D nn n).1).length = 0 then [noZ D] else a.ns) := hy
          split at hy'
          · exact hno y hy'
          · exact h2 y hy'
    · exact ⟨h1, hno, h3⟩
theorem own_ask {nn : List UInt8} {D : List Rrd} (gz : GoodZ nn D) {t : Int} : ∀ (f : Nat) (a : Ans) (asked : List (List UInt8)) (n : List UInt8), OwnA D a → OwnA D (askF D nn t f a asked n)
  | 0, _, _, _, h => h
  | f + 1, a, asked, n, h => by
    rw [askF]
    split
    · exact own_ask gz f _ _ _ (own_step gz h)
    · exact own_step gz h
theorem own_all {nn n : List UInt8} {D : List Rrd} (gz : GoodZ nn D) (t : Int) : OwnA D (askZ D nn n t) := by
  have h0 : OwnA D ansO := by unfold OwnA ansO; simp
  unfold askZ
  split
  · exact own_ask gz 8 _ _ _ h0
  · unfold OwnA ansO; simp
/-! ### how long an answer is -/
theorem step_lens {D : List Rrd} (nn : List UInt8) (t : Int) (a : Ans) (asked : List (List UInt8)) (n : List UInt8) (h1 : a.ns.length ≤ D.length + 1) (h2 : a.ad.length ≤ D.length * (2 * D.length)) :
    (stepZ D nn t a asked n).1.ns.length ≤ D.length + 1 ∧ (stepZ D nn t a asked n).1.ad.length ≤ D.length * (2 * D.length) := by
  unfold stepZ
  split
  · rename_i c _
    refine ⟨Nat.le_trans (setZ_len D 2 c) (by omega), Nat.le_trans (hosts_len D c _) (Nat.mul_le_mul_right _ (setZ_len D 2 c))⟩
  · split
    · split
      · exact ⟨h1, h2⟩
      · split
        · exact ⟨h1, h2⟩
        · refine ⟨?_, h2⟩
          show (if (typX t (fndZ D nn n).1).length = 0 then [noZ D] else a.ns).length ≤ _
          split
          · simp
          · exact h1
    · exact ⟨by simp, h2⟩
theorem ask_lens {D : List Rrd} (hD : D.length ≤ 1000) (nn : List UInt8) (t : Int) : ∀ (f : Nat) (a : Ans) (asked : List (List UInt8)) (n : List UInt8), a.ns.length ≤ D.length + 1 → a.ad.length ≤ D.length * (2 * D.length) →
    (askF D nn t f a asked n).an.length ≤ a.an.length + 1000 * f ∧ (askF D nn t f a asked n).ns.length ≤ D.length + 1 ∧ (askF D nn t f a asked n).ad.length ≤ D.length * (2 * D.length)
  | 0, a, _, _, h1, h2 => ⟨by simp [askF], h1, h2⟩
  | f + 1, a, asked, n, h1, h2 => by
    obtain ⟨h3, h4⟩ := step_lens nn t a asked n h1 h2
    have h5 := step_len hD nn t a asked n
    rw [askF]
    split
    · obtain ⟨k1, k2, k3⟩ := ask_lens hD nn t f (stepZ D nn t a asked n).1 (asked ++ [n]) (stepZ D nn t a asked n).2.1 h3 h4
      exact ⟨Nat.le_trans k1 (Nat.le_trans (Nat.add_le_add_right h5 _) (by rw [Nat.mul_add]; omega)), k2, k3⟩
    · exact ⟨Nat.le_trans h5 (by rw [Nat.mul_add]; omega), h3, h4⟩
theorem ask_bounds {D : List Rrd} (hD : D.length ≤ 1000) (nn n : List UInt8) (t : Int) :
    (askZ D nn n t).an.length ≤ 8000 ∧ (askZ D nn n t).ns.length ≤ 1001 ∧ (askZ D nn n t).ad.length ≤ 2000000 := by
  have hm : D.length * (2 * D.length) ≤ 2000000 := Nat.le_trans (Nat.mul_le_mul hD (show 2 * D.length ≤ 2000 by omega)) (by decide)
  unfold askZ
  split
  · obtain ⟨h1, h2, h3⟩ := ask_lens hD nn t 8 ansO [] n (by simp [ansO]) (by simp [ansO])
    have h0 : ansO.an.length = 0 := by simp [ansO]
    exact ⟨by omega, by omega, by omega⟩
  · exact ⟨by simp [ansO], by simp [ansO], by simp [ansO]⟩
end Go.Proofs.YtkgihfoknpimfaaGreat
