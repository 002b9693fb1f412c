/- Calls as data; few and do. No statement of the seat is proved here. -/
import Derived.Test.YteeomlboifleoaaDkI
import Derived.Test.YteeomlboifleoaaFrame
namespace Go.Proofs.Yteeomlboifleoaa
open Go.RowKit Go.Maps Go.Sort

set_option linter.unusedVariables false
structure CallV where
  kind : Nat
  a : ByteArray
  b : ByteArray
  n : Int
def CallV.val (c : CallV) : Value := .agg #[.int .u8 (c.kind : Nat), .string c.a, .string c.b, .int .i64 c.n]
def CallV.fits (c : CallV) : Prop := c.kind ≤ 255 ∧ -9223372036854775808 ≤ c.n ∧ c.n ≤ 9223372036854775807
def okC (c : CallV) : Bool := decide (c.a.size ≤ 70) && decide (c.b.size ≤ 300)
def fewB (cs : List CallV) : Bool := decide (cs.length ≤ 60) && cs.all okC
/-- what a walk is told of a slice of calls that came in -/
def SeesC (W : World) (B : Nat) (A : Option Addr) (n : Nat) (cs : List CallV) : Prop :=
  cs.length = n ∧ (∀ c ∈ cs, c.fits) ∧ (0 < n → ∃ b off, A = some ⟨b, off, none⟩ ∧ b < B ∧ ∀ j c, cs[j]? = some c →
    W.cell? ⟨b, off + j * 4, none⟩ = some (.int .u8 (c.kind : Nat)) ∧ W.cell? ⟨b, off + j * 4 + 1, none⟩ = some (.string c.a) ∧ W.cell? ⟨b, off + j * 4 + 2, none⟩ = some (.string c.b) ∧ W.cell? ⟨b, off + j * 4 + 3, none⟩ = some (.int .i64 c.n))
theorem SeesC.at {W : World} {B : Nat} {A : Option Addr} {n : Nat} {cs : List CallV} (h : SeesC W B A n cs) {j : Nat} (hj : j < n) :
    ∃ b off c, A = some ⟨b, off, none⟩ ∧ b < B ∧ cs[j]? = some c ∧ c.fits ∧ W.cell? ⟨b, off + j * 4, none⟩ = some (.int .u8 (c.kind : Nat)) ∧ W.cell? ⟨b, off + j * 4 + 1, none⟩ = some (.string c.a) ∧ W.cell? ⟨b, off + j * 4 + 2, none⟩ = some (.string c.b) ∧ W.cell? ⟨b, off + j * 4 + 3, none⟩ = some (.int .i64 c.n) := by
  obtain ⟨h1, h2, h3⟩ := h
  obtain ⟨b, off, e, hb, hc⟩ := h3 (by omega)
  have hl : j < cs.length := by omega
  obtain ⟨x0, x1, x2, x3⟩ := hc j cs[j] (List.getElem?_eq_getElem hl)
  exact ⟨b, off, cs[j], e, hb, List.getElem?_eq_getElem hl, h2 _ (List.getElem_mem hl), x0, x1, x2, x3⟩
theorem few_bad {cs : List CallV} {j : Nat} {c : CallV} (h : cs[j]? = some c) (hc : okC c = false) : fewB cs = false := by
  have : cs.all okC = false := by
    cases ho : cs.all okC
    · rfl
    · have := (List.all_eq_true.1 ho) c (List.mem_of_getElem? h)
      rw [hc] at this; cases this
  simp [fewB, this]
theorem few_any (A : Option Addr) (n c : Nat) (cs : List CallV) (w : World) (hl : SeesC w w.heap.size A n cs) :
    Calls Try.prog 9 #[.slice A n c] w fun e w' => e = .returned (.bool (fewB cs)) ∧ w = w' := by
  have hlen := hl.1
  have HL := Lib.hid hl
  clear hl
  go_enter Try.func9, Try.ntmps9
  go_wp2
  go_loop [3] (fun i => ∃ k : Nat, k ≤ n ∧ k ≤ 80 ∧ i = .int .i64 k ∧ (cs.take k).all okC = true) (fun i => n - (intOf i).toNat)
  case atStart => exact ⟨0, Nat.zero_le _, Nat.zero_le _, rfl, rfl⟩
  case round =>
    obtain ⟨k, hk, hk80, rfl, hok⟩ := hrel
    have HO := Lib.hid hok
    clear hok
    have hkI : (k : Int) ≤ 80 := by omega
    by_cases hlt : k < n
    · by_cases h80 : k < 80
      · have hlk : (k : Int) < (n : Int) := by omega
        have hlk2 : (k : Int) < 80 := by omega
        obtain ⟨b, off, z, rfl, _, hz, _, x0, x1, x2, x3⟩ := HL.out.at hlt
        have HZ := Lib.hid hz
        clear hz x0 x3
        by_cases ha : z.a.size ≤ 70
        · have haI : (z.a.size : Int) ≤ 70 := by omega
          by_cases hb : z.b.size ≤ 300
          · have hbI : (z.b.size : Int) ≤ 300 := by omega
            have hnext : Hid ((cs.take (k + 1)).all okC = true) := Lib.hid (by
              rw [List.take_add_one, HZ.out, List.all_append, HO.out]
              simp [okC, ha, hb])
            clear ha hb
            go_wp2
            go_round
            case rel => exact ⟨k + 1, by omega, by omega, by go_num, hnext.out⟩
            case measure => simp [intOf]; omega
          · have hR : Hid (fewB cs = false) := Lib.hid (few_bad HZ.out (by simp [okC]; omega))
            have hbI : decide ((300 : Int) < (z.b.size : Int)) = true := by simp; omega
            clear ha hb
            go_wp2
            go_ret
            exact ⟨by rw [hR.out]; rfl, rfl⟩
        · have hR : Hid (fewB cs = false) := Lib.hid (few_bad HZ.out (by simp [okC]; omega))
          have haI : decide ((70 : Int) < (z.a.size : Int)) = true := by simp; omega
          clear ha
          go_wp2
          go_ret
          exact ⟨by rw [hR.out]; rfl, rfl⟩
      · obtain rfl : k = 80 := by omega
        have hR : Hid (fewB cs = false) := Lib.hid (by simp [fewB]; omega)
        have h60 : (60 : Int) < (n : Int) := by omega
        have h61 : (80 : Int) < (n : Int) := by omega
        go_wp2
        go_ret
        exact ⟨by rw [hR.out]; simp; omega, rfl⟩
    · obtain rfl : k = n := by omega
      have hR : Hid (fewB cs = decide ((k : Int) ≤ 60)) := Lib.hid (by
        have := HO.out
        rw [List.take_of_length_le (by omega)] at this
        simp [fewB, this, hlen]
        omega)
      go_wp2
      go_ret
      exact ⟨by rw [hR.out]; rfl, rfl⟩

def doS (S : St) (c : CallV) : St × Bys × Int :=
  match c.kind % 8 with
  | 0 => ((appendS S c.a.data.toList c.b.data.toList).1, [], (appendS S c.a.data.toList c.b.data.toList).2)
  | 1 => ((syncS S c.a.data.toList).1, [], (syncS S c.a.data.toList).2)
  | 2 => ((syncDirS S).1, [], (syncDirS S).2)
  | 3 => ((renameS S c.a.data.toList c.b.data.toList).1, [], (renameS S c.a.data.toList c.b.data.toList).2)
  | 4 => ((removeS S c.a.data.toList).1, [], (removeS S c.a.data.toList).2)
  | 5 => ((breakS S c.n).1, [], (breakS S c.n).2)
  | 6 => (restartS S c.b.data.toList, [], 0)
  | _ => (S, readS S c.a.data.toList)

set_option maxHeartbeats 1000000 in
theorem do_0 {B d k M : Nat} {w : World} {S : St} (h : Live B w d k M S) (hk : k ≤ 40000) (hM : M ≤ 400000000) (c : CallV) (hc : c.fits) (ha : c.a.size ≤ 70) (hb : c.b.size ≤ 300) (hr : c.kind % 8 = 0) :
    Calls Try.prog 12 #[dptr d, c.val] w fun e w' => e = .returned (.tuple #[.string ⟨(doS S c).2.1.toArray⟩, .int .i64 (doS S c).2.2]) ∧ Live B w' d (k + 2) (M + 300) (doS S c).1 ∧ Kept B w w' := by
  have hS : Hid (doS S c = ((appendS S c.a.data.toList c.b.data.toList).1, [], (appendS S c.a.data.toList c.b.data.toList).2)) := Lib.hid (by unfold doS; rw [hr]; rfl)
  have hr1 : ((c.kind : Nat) : Int) % 8 = 0 := by omega
  have hr2 : ((c.kind : Nat) : Int).tmod 8 = 0 := by rw [Int.tmod_eq_emod_of_nonneg (by omega)]; exact hr1
  have hn2 := hc.2.2
  have hk1 : ((c.kind : Nat) : Int) ≤ 255 := by have := hc.1; omega
  have HL : Hid (Live B (w.alloc (.cells #[.int .u8 (c.kind : Nat), .string c.a, .string c.b, .int .i64 c.n] 38)) d k M S) := Lib.hid (h.same ((Below.refl _ _).alloc (Nat.le_refl _) _))
  have HK : Hid (Kept B w (w.alloc (.cells #[.int .u8 (c.kind : Nat), .string c.a, .string c.b, .int .i64 c.n] 38))) := Lib.hid ((Kept.refl B w).alloc _)
  clear hr hc h
  unfold CallV.val
  go_enter Try.func12, Try.ntmps12
  go_wp2_with fail
  refine (show Calls _ _ _ _ _ from live_Append HL.out (by omega) (by omega) c.a c.b (by omega) (by omega)).mono ?_
  rintro e w2 ⟨rfl, hL2, hK2⟩
  have HL2 := Lib.hid (hL2.mono (k' := k + 2) (M' := M + 300) (by omega) (by omega))
  have HK2 := Lib.hid (HK.out.trans hK2)
  clear hL2 hK2
  go_wp2_with fail
  go_ret2
  rw [hS.out]
  exact ⟨rfl, HL2.out, HK2.out⟩

set_option maxHeartbeats 1000000 in
theorem do_1 {B d k M : Nat} {w : World} {S : St} (h : Live B w d k M S) (hk : k ≤ 40000) (hM : M ≤ 400000000) (c : CallV) (hc : c.fits) (ha : c.a.size ≤ 70) (hb : c.b.size ≤ 300) (hr : c.kind % 8 = 1) :
    Calls Try.prog 12 #[dptr d, c.val] w fun e w' => e = .returned (.tuple #[.string ⟨(doS S c).2.1.toArray⟩, .int .i64 (doS S c).2.2]) ∧ Live B w' d (k + 2) (M + 300) (doS S c).1 ∧ Kept B w w' := by
  have hS : Hid (doS S c = ((syncS S c.a.data.toList).1, [], (syncS S c.a.data.toList).2)) := Lib.hid (by unfold doS; rw [hr]; rfl)
  have hr1 : ((c.kind : Nat) : Int) % 8 = 1 := by omega
  have hr2 : ((c.kind : Nat) : Int).tmod 8 = 1 := by rw [Int.tmod_eq_emod_of_nonneg (by omega)]; exact hr1
  have hn2 := hc.2.2
  have hk1 : ((c.kind : Nat) : Int) ≤ 255 := by have := hc.1; omega
  have HL : Hid (Live B (w.alloc (.cells #[.int .u8 (c.kind : Nat), .string c.a, .string c.b, .int .i64 c.n] 38)) d k M S) := Lib.hid (h.same ((Below.refl _ _).alloc (Nat.le_refl _) _))
  have HK : Hid (Kept B w (w.alloc (.cells #[.int .u8 (c.kind : Nat), .string c.a, .string c.b, .int .i64 c.n] 38))) := Lib.hid ((Kept.refl B w).alloc _)
  clear hr hc h
  unfold CallV.val
  go_enter Try.func12, Try.ntmps12
  go_wp2_with fail
  refine (show Calls _ _ _ _ _ from live_Sync HL.out c.a).mono ?_
  rintro e w2 ⟨rfl, hL2, hK2⟩
  have HL2 := Lib.hid (hL2.mono (k' := k + 2) (M' := M + 300) (by omega) (by omega))
  have HK2 := Lib.hid (HK.out.trans hK2)
  clear hL2 hK2
  go_wp2_with fail
  go_ret2
  rw [hS.out]
  exact ⟨rfl, HL2.out, HK2.out⟩

set_option maxHeartbeats 1000000 in
theorem do_2 {B d k M : Nat} {w : World} {S : St} (h : Live B w d k M S) (hk : k ≤ 40000) (hM : M ≤ 400000000) (c : CallV) (hc : c.fits) (ha : c.a.size ≤ 70) (hb : c.b.size ≤ 300) (hr : c.kind % 8 = 2) :
    Calls Try.prog 12 #[dptr d, c.val] w fun e w' => e = .returned (.tuple #[.string ⟨(doS S c).2.1.toArray⟩, .int .i64 (doS S c).2.2]) ∧ Live B w' d (k + 2) (M + 300) (doS S c).1 ∧ Kept B w w' := by
  have hS : Hid (doS S c = ((syncDirS S).1, [], (syncDirS S).2)) := Lib.hid (by unfold doS; rw [hr]; rfl)
  have hr1 : ((c.kind : Nat) : Int) % 8 = 2 := by omega
  have hr2 : ((c.kind : Nat) : Int).tmod 8 = 2 := by rw [Int.tmod_eq_emod_of_nonneg (by omega)]; exact hr1
  have hn2 := hc.2.2
  have hk1 : ((c.kind : Nat) : Int) ≤ 255 := by have := hc.1; omega
  have HL : Hid (Live B (w.alloc (.cells #[.int .u8 (c.kind : Nat), .string c.a, .string c.b, .int .i64 c.n] 38)) d k M S) := Lib.hid (h.same ((Below.refl _ _).alloc (Nat.le_refl _) _))
  have HK : Hid (Kept B w (w.alloc (.cells #[.int .u8 (c.kind : Nat), .string c.a, .string c.b, .int .i64 c.n] 38))) := Lib.hid ((Kept.refl B w).alloc _)
  clear hr hc h
  unfold CallV.val
  go_enter Try.func12, Try.ntmps12
  go_wp2_with fail
  refine (show Calls _ _ _ _ _ from live_SyncDir HL.out (by omega)).mono ?_
  rintro e w2 ⟨rfl, hL2, hK2⟩
  have HL2 := Lib.hid (hL2.mono (k' := k + 2) (M' := M + 300) (by omega) (by omega))
  have HK2 := Lib.hid (HK.out.trans hK2)
  clear hL2 hK2
  go_wp2_with fail
  go_ret2
  rw [hS.out]
  exact ⟨rfl, HL2.out, HK2.out⟩

set_option maxHeartbeats 1000000 in
theorem do_3 {B d k M : Nat} {w : World} {S : St} (h : Live B w d k M S) (hk : k ≤ 40000) (hM : M ≤ 400000000) (c : CallV) (hc : c.fits) (ha : c.a.size ≤ 70) (hb : c.b.size ≤ 300) (hr : c.kind % 8 = 3) :
    Calls Try.prog 12 #[dptr d, c.val] w fun e w' => e = .returned (.tuple #[.string ⟨(doS S c).2.1.toArray⟩, .int .i64 (doS S c).2.2]) ∧ Live B w' d (k + 2) (M + 300) (doS S c).1 ∧ Kept B w w' := by
  have hS : Hid (doS S c = ((renameS S c.a.data.toList c.b.data.toList).1, [], (renameS S c.a.data.toList c.b.data.toList).2)) := Lib.hid (by unfold doS; rw [hr]; rfl)
  have hr1 : ((c.kind : Nat) : Int) % 8 = 3 := by omega
  have hr2 : ((c.kind : Nat) : Int).tmod 8 = 3 := by rw [Int.tmod_eq_emod_of_nonneg (by omega)]; exact hr1
  have hn2 := hc.2.2
  have hk1 : ((c.kind : Nat) : Int) ≤ 255 := by have := hc.1; omega
  have HL : Hid (Live B (w.alloc (.cells #[.int .u8 (c.kind : Nat), .string c.a, .string c.b, .int .i64 c.n] 38)) d k M S) := Lib.hid (h.same ((Below.refl _ _).alloc (Nat.le_refl _) _))
  have HK : Hid (Kept B w (w.alloc (.cells #[.int .u8 (c.kind : Nat), .string c.a, .string c.b, .int .i64 c.n] 38))) := Lib.hid ((Kept.refl B w).alloc _)
  clear hr hc h
  unfold CallV.val
  go_enter Try.func12, Try.ntmps12
  go_wp2_with fail
  refine (show Calls _ _ _ _ _ from live_Rename HL.out (by omega) c.a c.b).mono ?_
  rintro e w2 ⟨rfl, hL2, hK2⟩
  have HL2 := Lib.hid (hL2.mono (k' := k + 2) (M' := M + 300) (by omega) (by omega))
  have HK2 := Lib.hid (HK.out.trans hK2)
  clear hL2 hK2
  go_wp2_with fail
  go_ret2
  rw [hS.out]
  exact ⟨rfl, HL2.out, HK2.out⟩

set_option maxHeartbeats 1000000 in
theorem do_4 {B d k M : Nat} {w : World} {S : St} (h : Live B w d k M S) (hk : k ≤ 40000) (hM : M ≤ 400000000) (c : CallV) (hc : c.fits) (ha : c.a.size ≤ 70) (hb : c.b.size ≤ 300) (hr : c.kind % 8 = 4) :
    Calls Try.prog 12 #[dptr d, c.val] w fun e w' => e = .returned (.tuple #[.string ⟨(doS S c).2.1.toArray⟩, .int .i64 (doS S c).2.2]) ∧ Live B w' d (k + 2) (M + 300) (doS S c).1 ∧ Kept B w w' := by
  have hS : Hid (doS S c = ((removeS S c.a.data.toList).1, [], (removeS S c.a.data.toList).2)) := Lib.hid (by unfold doS; rw [hr]; rfl)
  have hr1 : ((c.kind : Nat) : Int) % 8 = 4 := by omega
  have hr2 : ((c.kind : Nat) : Int).tmod 8 = 4 := by rw [Int.tmod_eq_emod_of_nonneg (by omega)]; exact hr1
  have hn2 := hc.2.2
  have hk1 : ((c.kind : Nat) : Int) ≤ 255 := by have := hc.1; omega
  have HL : Hid (Live B (w.alloc (.cells #[.int .u8 (c.kind : Nat), .string c.a, .string c.b, .int .i64 c.n] 38)) d k M S) := Lib.hid (h.same ((Below.refl _ _).alloc (Nat.le_refl _) _))
  have HK : Hid (Kept B w (w.alloc (.cells #[.int .u8 (c.kind : Nat), .string c.a, .string c.b, .int .i64 c.n] 38))) := Lib.hid ((Kept.refl B w).alloc _)
  clear hr hc h
  unfold CallV.val
  go_enter Try.func12, Try.ntmps12
  go_wp2_with fail
  refine (show Calls _ _ _ _ _ from live_Remove HL.out (by omega) c.a).mono ?_
  rintro e w2 ⟨rfl, hL2, hK2⟩
  have HL2 := Lib.hid (hL2.mono (k' := k + 2) (M' := M + 300) (by omega) (by omega))
  have HK2 := Lib.hid (HK.out.trans hK2)
  clear hL2 hK2
  go_wp2_with fail
  go_ret2
  rw [hS.out]
  exact ⟨rfl, HL2.out, HK2.out⟩

set_option maxHeartbeats 1000000 in
theorem do_5 {B d k M : Nat} {w : World} {S : St} (h : Live B w d k M S) (hk : k ≤ 40000) (hM : M ≤ 400000000) (c : CallV) (hc : c.fits) (ha : c.a.size ≤ 70) (hb : c.b.size ≤ 300) (hr : c.kind % 8 = 5) :
    Calls Try.prog 12 #[dptr d, c.val] w fun e w' => e = .returned (.tuple #[.string ⟨(doS S c).2.1.toArray⟩, .int .i64 (doS S c).2.2]) ∧ Live B w' d (k + 2) (M + 300) (doS S c).1 ∧ Kept B w w' := by
  have hS : Hid (doS S c = ((breakS S c.n).1, [], (breakS S c.n).2)) := Lib.hid (by unfold doS; rw [hr]; rfl)
  have hr1 : ((c.kind : Nat) : Int) % 8 = 5 := by omega
  have hr2 : ((c.kind : Nat) : Int).tmod 8 = 5 := by rw [Int.tmod_eq_emod_of_nonneg (by omega)]; exact hr1
  have hn2 := hc.2.2
  have hk1 : ((c.kind : Nat) : Int) ≤ 255 := by have := hc.1; omega
  have HL : Hid (Live B (w.alloc (.cells #[.int .u8 (c.kind : Nat), .string c.a, .string c.b, .int .i64 c.n] 38)) d k M S) := Lib.hid (h.same ((Below.refl _ _).alloc (Nat.le_refl _) _))
  have HK : Hid (Kept B w (w.alloc (.cells #[.int .u8 (c.kind : Nat), .string c.a, .string c.b, .int .i64 c.n] 38))) := Lib.hid ((Kept.refl B w).alloc _)
  clear hr hc h
  unfold CallV.val
  go_enter Try.func12, Try.ntmps12
  go_wp2_with fail
  refine (show Calls _ _ _ _ _ from live_Break HL.out c.n hn2).mono ?_
  rintro e w2 ⟨rfl, hL2, hK2⟩
  have HL2 := Lib.hid (hL2.mono (k' := k + 2) (M' := M + 300) (by omega) (by omega))
  have HK2 := Lib.hid (HK.out.trans hK2)
  clear hL2 hK2
  go_wp2_with fail
  go_ret2
  rw [hS.out]
  exact ⟨rfl, HL2.out, HK2.out⟩

set_option maxHeartbeats 1000000 in
theorem do_6 {B d k M : Nat} {w : World} {S : St} (h : Live B w d k M S) (hk : k ≤ 40000) (hM : M ≤ 400000000) (c : CallV) (hc : c.fits) (ha : c.a.size ≤ 70) (hb : c.b.size ≤ 300) (hr : c.kind % 8 = 6) :
    Calls Try.prog 12 #[dptr d, c.val] w fun e w' => e = .returned (.tuple #[.string ⟨(doS S c).2.1.toArray⟩, .int .i64 (doS S c).2.2]) ∧ Live B w' d (k + 2) (M + 300) (doS S c).1 ∧ Kept B w w' := by
  have hS : Hid (doS S c = (restartS S c.b.data.toList, [], 0)) := Lib.hid (by unfold doS; rw [hr]; rfl)
  have hr1 : ((c.kind : Nat) : Int) % 8 = 6 := by omega
  have hr2 : ((c.kind : Nat) : Int).tmod 8 = 6 := by rw [Int.tmod_eq_emod_of_nonneg (by omega)]; exact hr1
  have hn2 := hc.2.2
  have hk1 : ((c.kind : Nat) : Int) ≤ 255 := by have := hc.1; omega
  have HL : Hid (Live B (w.alloc (.cells #[.int .u8 (c.kind : Nat), .string c.a, .string c.b, .int .i64 c.n] 38)) d k M S) := Lib.hid (h.same ((Below.refl _ _).alloc (Nat.le_refl _) _))
  have HK : Hid (Kept B w (w.alloc (.cells #[.int .u8 (c.kind : Nat), .string c.a, .string c.b, .int .i64 c.n] 38))) := Lib.hid ((Kept.refl B w).alloc _)
  clear hr hc h
  unfold CallV.val
  go_enter Try.func12, Try.ntmps12
  go_wp2_with fail
  refine (show Calls _ _ _ _ _ from live_Restart HL.out (by omega) (by omega) c.b).mono ?_
  rintro e w2 ⟨rfl, hL2, hK2⟩
  have HL2 := Lib.hid (hL2.mono (k' := k + 2) (M' := M + 300) (by omega) (by omega))
  have HK2 := Lib.hid (HK.out.trans hK2)
  clear hL2 hK2
  go_wp2_with fail
  go_ret2
  rw [hS.out]
  exact ⟨rfl, HL2.out, HK2.out⟩

set_option maxHeartbeats 1000000 in
theorem do_7 {B d k M : Nat} {w : World} {S : St} (h : Live B w d k M S) (hk : k ≤ 40000) (hM : M ≤ 400000000) (c : CallV) (hc : c.fits) (ha : c.a.size ≤ 70) (hb : c.b.size ≤ 300) (hr : c.kind % 8 = 7) :
    Calls Try.prog 12 #[dptr d, c.val] w fun e w' => e = .returned (.tuple #[.string ⟨(doS S c).2.1.toArray⟩, .int .i64 (doS S c).2.2]) ∧ Live B w' d (k + 2) (M + 300) (doS S c).1 ∧ Kept B w w' := by
  have hS : Hid (doS S c = (S, readS S c.a.data.toList)) := Lib.hid (by unfold doS; rw [hr]; rfl)
  have hr1 : ((c.kind : Nat) : Int) % 8 = 7 := by omega
  have hr2 : ((c.kind : Nat) : Int).tmod 8 = 7 := by rw [Int.tmod_eq_emod_of_nonneg (by omega)]; exact hr1
  have hn2 := hc.2.2
  have hk1 : ((c.kind : Nat) : Int) ≤ 255 := by have := hc.1; omega
  have HL : Hid (Live B (w.alloc (.cells #[.int .u8 (c.kind : Nat), .string c.a, .string c.b, .int .i64 c.n] 38)) d k M S) := Lib.hid (h.same ((Below.refl _ _).alloc (Nat.le_refl _) _))
  have HK : Hid (Kept B w (w.alloc (.cells #[.int .u8 (c.kind : Nat), .string c.a, .string c.b, .int .i64 c.n] 38))) := Lib.hid ((Kept.refl B w).alloc _)
  clear hr hc h
  unfold CallV.val
  go_enter Try.func12, Try.ntmps12
  go_wp2_with fail
  refine (show Calls _ _ _ _ _ from live_Read HL.out c.a).mono ?_
  rintro e w2 ⟨rfl, hB2⟩
  have HL2 := Lib.hid ((HL.out.same hB2).mono (k' := k + 2) (M' := M + 300) (by omega) (by omega))
  have HK2 := Lib.hid (HK.out.trans (.of_below hB2))
  clear hB2
  go_wp2_with fail
  go_ret2
  rw [hS.out]
  exact ⟨rfl, HL2.out, HK2.out⟩

theorem do_any {B d k M : Nat} {w : World} {S : St} (h : Live B w d k M S) (hk : k ≤ 40000) (hM : M ≤ 400000000) (c : CallV) (hc : c.fits) (ha : c.a.size ≤ 70) (hb : c.b.size ≤ 300) :
    Calls Try.prog 12 #[dptr d, c.val] w fun e w' => e = .returned (.tuple #[.string ⟨(doS S c).2.1.toArray⟩, .int .i64 (doS S c).2.2]) ∧ Live B w' d (k + 2) (M + 300) (doS S c).1 ∧ Kept B w w' := by
  have hcs : c.kind % 8 = 0 ∨ c.kind % 8 = 1 ∨ c.kind % 8 = 2 ∨ c.kind % 8 = 3 ∨ c.kind % 8 = 4 ∨ c.kind % 8 = 5 ∨ c.kind % 8 = 6 ∨ c.kind % 8 = 7 := by omega
  rcases hcs with hr | hr | hr | hr | hr | hr | hr | hr
  · exact do_0 h hk hM c hc ha hb hr
  · exact do_1 h hk hM c hc ha hb hr
  · exact do_2 h hk hM c hc ha hb hr
  · exact do_3 h hk hM c hc ha hb hr
  · exact do_4 h hk hM c hc ha hb hr
  · exact do_5 h hk hM c hc ha hb hr
  · exact do_6 h hk hM c hc ha hb hr
  · exact do_7 h hk hM c hc ha hb hr
end Go.Proofs.Yteeomlboifleoaa
