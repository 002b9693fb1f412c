/- The reference's small functions on a disk as a value. No statement of the seat is proved here. -/
import Derived.Test.YteeomlboifleoaaRefB
import Derived.BigQuiet
namespace Go.Proofs.Yteeomlboifleoaa
open Go.RowKit Go.Maps Go.Sort

/-- the four lists of a reference's disk -/
structure Ls where
  af : Option Addr
  nf : Nat
  cf : Nat
  an : Option Addr
  nn : Nat
  cn : Nat
  as_ : Option Addr
  ns : Nat
  cs : Nat
  ap : Option Addr
  np : Nat
  cp : Nat
def rv (L : Ls) (q l : Int) (dn : Bool) : Value := .agg #[.int .i64 q, .slice L.af L.nf L.cf, .slice L.an L.nn L.cn, .slice L.as_ L.ns L.cs, .slice L.ap L.np L.cp, .int .i64 l, .bool dn]
def rdone (l : Int) (dn : Bool) : Int × Bool := if 0 < l then (l - 1, l - 1 == 0) else (l, dn)
theorem isN_ref (w : World) (s : ByteArray) : Calls Try.prog 47 #[.string s] w fun e w' => e = .returned (.bool (isN s.data.toList)) ∧ w = w' := by
  have hR : Hid ((decide (1 ≤ s.size) && decide (s.size ≤ 64)) = isN s.data.toList) := Lib.hid (by unfold isN; rfl)
  by_cases h1 : 1 ≤ s.size
  · have e1 : (1 : Int) ≤ (s.size : Int) := by omega
    go_enter Try.func47, Try.ntmps47
    go_wp2
    go_ret
    exact ⟨ret_bool (by rw [← hR.out, Bool.eq_iff_iff]; simp; omega), rfl⟩
  · have e1 : (s.size : Int) < 1 := by omega
    have e2 : decide ((1 : Int) ≤ (s.size : Int)) = false := by simpa using e1
    go_enter Try.func47, Try.ntmps47
    go_wp2
    go_ret
    exact ⟨ret_bool (by rw [← hR.out, Bool.eq_iff_iff]; simp; omega), rfl⟩
theorem done_ref (w : World) (L : Ls) (q l : Int) (dn : Bool) (hl : l ≤ 9223372036854775807) (hl2 : -1 ≤ l) :
    Calls Try.prog 51 #[rv L q l dn] w fun e w' => e = .returned (rv L q (rdone l dn).1 (rdone l dn).2) ∧ Below w.heap.size w w' := by
  unfold rv
  by_cases h0 : 0 < l
  · have hR : Hid (rdone l dn = (l - 1, l - 1 == 0)) := Lib.hid (by unfold rdone; rw [if_pos h0])
    go_enter Try.func51, Try.ntmps51
    go_wp2
    exact bodyPost_ret (v := rv L q (l - 1) (l - 1 == 0)) (by simp [results, Try.results51, go_sem, rv]) rfl ⟨by rw [hR.out]; rfl, ((Below.refl _ w).alloc (Nat.le_refl _) _).alloc (by simp) _⟩
  · have hR : Hid (rdone l dn = (l, dn)) := Lib.hid (by unfold rdone; rw [if_neg h0])
    have h1 : decide (0 < l) = false := by simpa using h0
    go_enter Try.func51, Try.ntmps51
    go_wp2
    exact bodyPost_ret (v := rv L q l dn) (by simp [results, Try.results51, go_sem, rv]) rfl ⟨by rw [hR.out]; rfl, ((Below.refl _ w).alloc (Nat.le_refl _) _).alloc (by simp) _⟩
theorem choice_ref (w : World) (s : ByteArray) (k : Nat) (hk : k ≤ 1000000) : Calls Try.prog 53 #[.string s, .int .i64 (k : Nat)] w fun e w' => e = .returned (.int .i64 (head (s.data.toList.drop k) : Nat)) ∧ w = w' := by
  by_cases h : k < s.size
  · have hI : (k : Int) < (s.size : Int) := by omega
    have hKI : (k : Int) ≤ 1000000 := by omega
    have hR : Hid (((head (s.data.toList.drop k) : Nat) : Int) = wrap64 ((s[k]'h).toNat : Nat)) := Lib.hid (by
      have e1 : head (s.data.toList.drop k) = (s[k]'h).toNat := by
        have h2 : k < s.data.toList.length := by rw [Array.length_toList]; exact h
        rw [List.drop_eq_getElem_cons h2]
        unfold head
        rfl
      rw [e1]
      have := (s[k]'h).toNat_lt
      unfold wrap64
      omega)
    go_enter Try.func53, Try.ntmps53
    go_wp2
    go_ret
    exact ⟨ret_int (by rw [hR.out]), rfl⟩
  · have hI : (s.size : Int) ≤ (k : Int) := by omega
    have hR : Hid (head (s.data.toList.drop k) = 0) := Lib.hid (by
      have h2 : s.data.toList.length ≤ k := by rw [Array.length_toList]; exact Nat.le_of_not_lt h
      rw [List.drop_eq_nil_of_le h2]
      rfl)
    go_enter Try.func53, Try.ntmps53
    go_wp2
    go_ret
    exact ⟨by rw [hR.out]; rfl, rfl⟩

/-! ### a change, made -/
theorem make0_ref {b : Nat} {v : Value} {N : Nms} {w : World} (h : RowN w b v N) (hn : N.length ≤ 90000) (z t : ByteArray) (f : Nat) :
    Calls Try.prog 54 #[.agg #[.int .i64 0, .string z, .string t, .int .i64 (f : Nat)], v] w fun e w' => ∃ v', e = .returned v' ∧ RowN w' 0 v' (putN N z.data.toList f) ∧ Below w.heap.size w w' := by
  obtain ⟨A, c, rfl⟩ := h.shape
  have hwo := Lib.hid (with_any (h.alloc (.cells #[.int .i64 0, .string z, .string t, .int .i64 (f : Nat)] 92)) (by omega) z f)
  clear h
  go_enter Try.func54, Try.ntmps54
  go_wp2_with fail
  refine Calls.mono hwo.out ?_
  rintro e w2 ⟨v1, rfl, hD, hB2⟩
  have HD := Lib.hid hD
  have HB2 := Lib.hid hB2
  clear hD hB2
  go_wp2_with fail
  go_ret
  exact ⟨_, rfl, HD.out, ((Below.refl _ w).alloc (Nat.le_refl _) _).trans (HB2.out.mono (by simp))⟩
theorem make2_ref {b : Nat} {v : Value} {N : Nms} {w : World} (h : RowN w b v N) (hn : N.length ≤ 90000) (z t : ByteArray) (f : Nat) :
    Calls Try.prog 54 #[.agg #[.int .i64 2, .string z, .string t, .int .i64 (f : Nat)], v] w fun e w' => ∃ v', e = .returned v' ∧ RowN w' 0 v' (delN N z.data.toList) ∧ Below w.heap.size w w' := by
  obtain ⟨A, c, rfl⟩ := h.shape
  have hW0 := Whole.new w 92 #[.int .i64 2, .string z, .string t, .int .i64 (f : Nat)]
  have HA := Lib.hid (h.alloc (.cells #[.int .i64 2, .string z, .string t, .int .i64 (f : Nat)] 92))
  have HW0 := Lib.hid hW0
  clear h hW0
  go_enter Try.func54, Try.ntmps54
  go_wp2_with fail
  refine Calls.mono (find_any HA.out (by omega) z) ?_
  rintro e w1 ⟨rfl, rfl⟩
  obtain ⟨F, hF⟩ : ∃ F, F = findI N z.data.toList := ⟨_, rfl⟩
  rw [← hF]
  clear hF
  go_wp2_with fail
  refine Calls.mono (without_any HA.out (by omega) z) ?_
  rintro e w2 ⟨v1, rfl, hD, hB2⟩
  obtain ⟨A1, c1, rfl⟩ := hD.shape
  have hW2 := HW0.out.below hB2 (by simp)
  have a0 := (hW2.cell 0).trans (rfl : _ = some (Value.int .i64 2))
  have HD := Lib.hid hD
  have HB2 := Lib.hid hB2
  clear hD hB2 hW2
  go_wp2_with fail
  go_ret
  exact ⟨_, rfl, own_base HD.out (Nat.zero_le _), ((Below.refl _ w).alloc (Nat.le_refl _) _).trans (HB2.out.mono (by simp))⟩
theorem make1_ref {b : Nat} {v : Value} {N : Nms} {w : World} (h : RowN w b v N) (hn : N.length ≤ 90000) (z t : ByteArray) (f i : Nat) (hf : findN N z.data.toList = some i) :
    Calls Try.prog 54 #[.agg #[.int .i64 1, .string z, .string t, .int .i64 (f : Nat)], v] w fun e w' => ∃ v', e = .returned v' ∧ RowN w' 0 v' (putN (delN N z.data.toList) t.data.toList i) ∧ Below w.heap.size w w' := by
  obtain ⟨A, c, rfl⟩ := h.shape
  have hW0 := Whole.new w 92 #[.int .i64 1, .string z, .string t, .int .i64 (f : Nat)]
  have HA := Lib.hid (h.alloc (.cells #[.int .i64 1, .string z, .string t, .int .i64 (f : Nat)] 92))
  have HW0 := Lib.hid hW0
  have hFI : Hid (findI N z.data.toList = (i : Nat)) := Lib.hid (by unfold findI; rw [hf])
  clear h hW0 hf
  go_enter Try.func54, Try.ntmps54
  go_wp2_with fail
  refine Calls.mono (find_any HA.out (by omega) z) ?_
  rintro e w1 ⟨rfl, rfl⟩
  rw [hFI.out]
  go_wp2_with fail
  refine Calls.mono (without_any HA.out (by omega) z) ?_
  rintro e w2 ⟨v1, rfl, hD, hB2⟩
  obtain ⟨A1, c1, rfl⟩ := hD.shape
  have hW2 := HW0.out.below hB2 (by simp)
  have a0 := (hW2.cell 0).trans (rfl : _ = some (Value.int .i64 1))
  have a2 := (hW2.cell 2).trans (rfl : _ = some (Value.string t))
  have hdl := length_delN N z.data.toList
  have HD := Lib.hid hD
  have HB2 := Lib.hid hB2
  clear hD hB2 hW2
  go_wp2_with fail
  refine Calls.mono (with_any HD.out (by omega) t i) ?_
  rintro e w3 ⟨v2, rfl, hE, hB3⟩
  have HE := Lib.hid hE
  have HB3 := Lib.hid hB3
  clear hE hB3
  go_wp2_with fail
  go_ret
  exact ⟨_, rfl, HE.out, (((Below.refl _ w).alloc (Nat.le_refl _) _).trans (HB2.out.mono (by simp))).trans (HB3.out.mono (Nat.le_trans (by simp) HB2.out.size))⟩
def kindC (c : Chg) : Int := match c.f with | none => 2 | some _ => if c.src = [] then 0 else 1
def fromC (c : Chg) : Bys := match c.f with | none => c.src | some _ => if c.src = [] then c.dst else c.src
def toC (c : Chg) : Bys := match c.f with | none => [] | some _ => if c.src = [] then [] else c.dst
def fileC (c : Chg) : Nat := match c.f with | none => 0 | some i => if c.src = [] then i else 0
def chgV (c : Chg) : Value := .agg #[.int .i64 (kindC c), .string (strB (fromC c)), .string (strB (toC c)), .int .i64 (fileC c : Nat)]
theorem del_nil {N : Nms} (h : ∀ p ∈ N, p.1 ≠ []) : delN N [] = N := by
  unfold delN
  rw [List.filter_eq_self]
  intro p hp
  simpa using h p hp
theorem make_ref {b : Nat} {v : Value} {N : Nms} {w : World} (h : RowN w b v N) (hn : N.length ≤ 90000) (c : Chg) (hz : ∀ p ∈ N, p.1 ≠ []) (hc : c.src ≠ [] → ∀ i, c.f = some i → findN N c.src = some i) :
    Calls Try.prog 54 #[chgV c, v] w fun e w' => ∃ v', e = .returned v' ∧ RowN w' 0 v' (c.app N) ∧ Below w.heap.size w w' := by
  unfold chgV kindC fromC toC fileC Chg.app
  cases hf : c.f with
  | none => exact make2_ref h hn (strB c.src) (strB []) 0
  | some i =>
    simp only
    by_cases hs : c.src = []
    · simp only [if_pos hs]
      rw [hs, del_nil hz]
      exact make0_ref h hn (strB c.dst) (strB []) i
    · simp only [if_neg hs]
      exact make1_ref h hn (strB c.src) (strB c.dst) 0 i (hc hs i hf)
end Go.Proofs.Yteeomlboifleoaa
