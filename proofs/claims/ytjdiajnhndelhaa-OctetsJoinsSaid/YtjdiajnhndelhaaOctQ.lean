/- The laws OctetsJoins and OctetsBack, walked: whatever the arguments, each returns true and writes nothing that was there. -/
import Derived.Test.YtjdiajnhndelhaaOctF
import Derived.Test.YtjdiajnhndelhaaOctP
namespace Go.Proofs.Ytjdiajnhndelhaa
open Go.RowKit

theorem u64s_of {vs : List Int} (h : ∀ z ∈ vs, (Lit.int .u64 z).wf = true) : U64s vs := by
  intro z hz
  have := h z hz
  simp [Lit.wf, IntKind.min, IntKind.max, IntKind.signed, IntKind.bits] at this
  omega

set_option maxHeartbeats 1000000 in
theorem OctetsJoins_walk (A : Option Addr) (n c : Nat) (vs : List Int) (A' : Option Addr) (n' c' : Nat) (ws : List Int) (w : World) (hv : InInts .u64 w A n vs) (hw : InInts .i64 w A' n' ws) :
    Calls Try.prog 4 #[.slice A n c, .slice A' n' c'] w fun e w' => e = .returned (.bool true) ∧ Below w.heap.size w w' := by
  obtain ⟨h, hwf⟩ := hv
  obtain ⟨h', _⟩ := hw
  have hu := u64s_of hwf
  clear hwf
  by_cases h1 : 40 < n
  · have g1 : (40 : Int) < (n : Int) := by omega
    go_enter Try.func4, Try.ntmps4
    go_wp2_with fail
    refine (awake_any _).mono ?_
    rintro e w1 ⟨rfl, hB1⟩
    go_wp2_with fail
    refine (awake_any _).mono ?_
    rintro e w2 ⟨rfl, hB2⟩
    go_wp2_with fail
    go_ret
    exact ⟨rfl, hB1.trans (hB2.mono hB1.size)⟩
  by_cases h2 : 40 < n'
  · have g1 : ¬ (40 : Int) < (n : Int) := by omega
    have g2 : (40 : Int) < (n' : Int) := by omega
    go_enter Try.func4, Try.ntmps4
    go_wp2_with fail
    refine (awake_any _).mono ?_
    rintro e w1 ⟨rfl, hB1⟩
    go_wp2_with fail
    refine (awake_any _).mono ?_
    rintro e w2 ⟨rfl, hB2⟩
    go_wp2_with fail
    go_ret
    exact ⟨rfl, hB1.trans (hB2.mono hB1.size)⟩
  have g1 : ¬ (40 : Int) < (n : Int) := by omega
  have g2 : ¬ (40 : Int) < (n' : Int) := by omega
  have HU := Lib.hid hu
  clear hu
  go_enter Try.func4, Try.ntmps4
  go_wp2_with fail
  refine (awake_any _).mono ?_
  rintro e w1 ⟨rfl, hB1⟩
  have k1 := h.below hB1
  have k1' := h'.below hB1
  go_wp2_with fail
  refine (Join_any A A' n n' c c' w.heap.size w.heap.size vs ws _ k1 k1' hB1.size hB1.size (by omega) (by omega) HU.out).mono ?_
  rintro e w2 ⟨rfl, hB2⟩
  have k2 := k1.below (hB2.mono hB1.size)
  have k2' := k1'.below (hB2.mono hB1.size)
  go_wp2_with fail
  refine (RefJoin_any A A' n n' c c' w.heap.size w.heap.size vs ws _ k2 k2' (Nat.le_trans hB1.size hB2.size) (Nat.le_trans hB1.size hB2.size) (by omega) (by omega) HU.out).mono ?_
  rintro e w3 ⟨rfl, hB3⟩
  have hBB := hB1.trans ((hB2.mono hB1.size).trans (hB3.mono (Nat.le_trans hB1.size hB2.size)))
  generalize joinR vs ws = R at *
  obtain ⟨p, code⟩ := R
  go_wp2_with fail
  go_ret
  exact ⟨rfl, hBB⟩

/-! ### what is split is joined again -/
theorem splitR_cases (s : ByteArray) (ws : List Int) : (∃ p, ws.all wB = true ∧ splitF s ws = some p ∧ splitR s ws = (p.1, p.2, 0)) ∨ ((splitR s ws).2.2 ≠ 0) := by
  unfold splitR
  cases hw : ws.all wB
  · right; simp
  · cases hf : splitF s ws with
    | none => right; simp
    | some p => left; exact ⟨p, rfl, rfl, by simp⟩
theorem back_split (s : ByteArray) (ws : List Int) (p : List Int × ByteArray) (h : ws.all wB = true) (hf : splitF s ws = some p) : ∃ c, joinR p.1 ws = (c, 0) ∧ c ++ p.2 = s ∧ U64s p.1 ∧ p.1.length = ws.length := by
  obtain ⟨l, rfl⟩ := mk_of s
  obtain ⟨m, hm, hr, hu⟩ := split_join ws l p h hf
  have hl := splitF_len ws _ p hf
  exact ⟨mk m, joinR_some h hl hm, hr, hu, hl⟩
theorem joinR_cases (vs ws : List Int) : (∃ m, ws.all wB = true ∧ vs.length = ws.length ∧ joinF vs ws = some m ∧ joinR vs ws = (mk m, 0)) ∨ joinR vs ws = (empty, 1) := by
  unfold joinR
  cases hw : ws.all wB
  · right; simp
  · by_cases hl : vs.length = ws.length
    · cases hj : joinF vs ws with
      | none => right; simp [hl]
      | some m => left; exact ⟨m, rfl, hl, rfl, by simp [hl, mk]⟩
    · right; simp [hl]
theorem joinF_size : ∀ (vs ws : List Int) (m : List UInt8), ws.all wB = true → joinF vs ws = some m → m.length ≤ 8 * ws.length := by
  intro vs
  induction vs with
  | nil => intro ws m _ h; simp only [joinF, Option.some.injEq] at h; subst h; simp
  | cons v vs ih =>
    intro ws m hw h
    cases ws with
    | nil => simp only [joinF, Option.some.injEq] at h; subst h; simp
    | cons w ws =>
      rw [List.all_cons, Bool.and_eq_true] at hw
      have := wB_cases hw.1
      rw [joinF] at h
      split at h
      · cases hj : joinF vs ws with
        | none => rw [hj] at h; cases h
        | some m' =>
          rw [hj] at h
          simp only [Option.map_some, Option.some.injEq] at h
          subst h
          have := ih ws m' hw.2 hj
          simp [be_length]
          omega
      · cases h

theorem splitR_u64 {s : ByteArray} {ws : List Int} {p : List Int × ByteArray} (h : splitR s ws = (p.1, p.2, 0)) : (splitR s ws).1 = p.1 := by rw [h]
end Go.Proofs.Ytjdiajnhndelhaa
