/- Plain mathematics: what is split is joined again, what is joined is split again, what is a row of pieces is cut again. -/
import Derived.Test.YtjdiajnhndelhaaOctN
namespace Go.Proofs.Ytjdiajnhndelhaa

def mk (l : List UInt8) : ByteArray := ⟨l.toArray⟩
theorem mk_toList (s : ByteArray) : mk s.data.toList = s := by cases s; simp [mk]
theorem mk_of (s : ByteArray) : ∃ l, s = mk l := ⟨_, (mk_toList s).symm⟩
theorem mk_size (l : List UInt8) : (mk l).size = l.length := by show l.toArray.size = _; simp
theorem mk_append (a b : List UInt8) : mk a ++ mk b = mk (a ++ b) := by apply ByteArray.ext; simp [mk]
theorem mk_extract (l : List UInt8) (a b : Nat) : (mk l).extract a b = mk ((l.take b).drop a) := by
  apply ByteArray.ext
  simp only [mk, ByteArray.data_extract]
  apply Array.ext'
  simp [List.extract]
  rw [List.drop_take]
theorem mk_num (l : List UInt8) : numOf (mk l) = num l := by simp [numOf, mk]
theorem mk_inj {a b : List UInt8} (h : mk a = mk b) : a = b := by
  have := congrArg (fun s : ByteArray => s.data.toList) h
  simpa [mk] using this
theorem mk_empty : empty = mk [] := rfl

theorem split_join : ∀ (ws : List Int) (l : List UInt8) (p : List Int × ByteArray), ws.all wB = true → splitF (mk l) ws = some p → ∃ m, joinF p.1 ws = some m ∧ mk m ++ p.2 = mk l ∧ U64s p.1 := by
  intro ws
  induction ws with
  | nil =>
    intro l p _ h
    simp only [splitF, Option.some.injEq] at h
    subst h
    exact ⟨[], rfl, by rw [mk_append]; rfl, fun z hz => by cases hz⟩
  | cons w ws ih =>
    intro l p hw h
    rw [List.all_cons, Bool.and_eq_true] at hw
    have hwc := wB_cases hw.1
    obtain ⟨a, rfl⟩ := Int.eq_ofNat_of_zero_le (show 0 ≤ w by omega)
    rw [splitF] at h
    split at h
    · cases h
    · rename_i hle
      rw [mk_size] at hle
      have hal : a ≤ l.length := by omega
      rw [Int.toNat_natCast, mk_extract, mk_extract, mk_size, mk_num, List.take_length, List.drop_zero] at h
      cases hq : splitF (mk (l.drop a)) ws with
      | none => rw [hq] at h; cases h
      | some q =>
        rw [hq] at h
        simp only [Option.map_some, Option.some.injEq] at h
        subst h
        obtain ⟨m, hm, hr, hu⟩ := ih _ q hw.2 hq
        have hlen : (l.take a).length = a := by simp; omega
        have hlt := num_lt (l.take a)
        rw [hlen] at hlt
        have hbe : be (num (l.take a)) a = l.take a := by
          have := be_num (l.take a)
          rwa [hlen] at this
        obtain ⟨t, ht⟩ := mk_of q.2
        refine ⟨l.take a ++ m, ?_, ?_, ?_⟩
        · rw [joinF, Int.toNat_natCast, Int.toNat_natCast, if_pos (by simpa [fitB] using hlt), hm, hbe]
          rfl
        · rw [ht, mk_append] at hr
          rw [ht, mk_append, List.append_assoc, mk_inj hr, List.take_append_drop]
        · intro z hz
          rcases List.mem_cons.1 hz with rfl | hz
          · have h8 : 256 ^ a ≤ 256 ^ 8 := Nat.pow_le_pow_right (by omega) (by omega)
            refine ⟨by omega, ?_⟩
            have : num (l.take a) < 256 ^ 8 := by omega
            have : ((num (l.take a) : Nat) : Int) < ((256 ^ 8 : Nat) : Int) := by exact_mod_cast this
            simpa using this
          · exact hu z hz

theorem join_split : ∀ (ws vs : List Int) (m : List UInt8) (s : ByteArray), ws.all wB = true → vs.length = ws.length → U64s vs → joinF vs ws = some m → splitF (mk m ++ s) ws = some (vs, s) := by
  intro ws
  induction ws with
  | nil =>
    intro vs m s _ hl _ h
    have : vs = [] := List.eq_nil_of_length_eq_zero (by simpa using hl)
    subst this
    simp only [joinF, Option.some.injEq] at h
    subst h
    obtain ⟨t, rfl⟩ := mk_of s
    rw [mk_append, splitF]
    rfl
  | cons w ws ih =>
    intro vs m s hw hl hu h
    cases vs with
    | nil => simp at hl
    | cons v vs =>
      rw [List.all_cons, Bool.and_eq_true] at hw
      have hwc := wB_cases hw.1
      obtain ⟨a, rfl⟩ := Int.eq_ofNat_of_zero_le (show 0 ≤ w by omega)
      obtain ⟨x, rfl⟩ := Int.eq_ofNat_of_zero_le (hu v (by simp)).1
      rw [joinF, Int.toNat_natCast, Int.toNat_natCast] at h
      split at h
      · rename_i hf
        cases hj : joinF vs ws with
        | none => rw [hj] at h; cases h
        | some m' =>
          rw [hj] at h
          simp only [Option.map_some, Option.some.injEq] at h
          subst h
          have ih' := ih vs m' s hw.2 (by simpa using hl) (fun z hz => hu z (by simp [hz])) hj
          obtain ⟨t, rfl⟩ := mk_of s
          rw [mk_append] at ih' ⊢
          have hbl := be_length x a
          rw [splitF, if_neg (by rw [mk_size]; simp [hbl]; omega), Int.toNat_natCast, mk_extract, mk_extract, mk_size, mk_num, List.take_length, List.drop_zero]
          have e1 : (be x a ++ m' ++ t).take a = be x a := by rw [List.append_assoc, List.take_left' hbl]
          have e2 : (be x a ++ m' ++ t).drop a = m' ++ t := by rw [List.append_assoc, List.drop_left' hbl]
          rw [e1, e2, ih', num_be_eq x a (by simpa [fitB] using hf)]
          rfl
      · cases h
end Go.Proofs.Ytjdiajnhndelhaa
