/- The small functions of the disk: each returns what its text says. No statement of the seat is proved here. -/
import Derived.Test.YteeomlboifleoaaDk
import Derived.Deep.QuietTactic
import Derived.BigQuiet
namespace Go.Proofs.Yteeomlboifleoaa
open Go.RowKit Go.Maps Go.Sort

abbrev dptr (d : Nat) : Value := .pointer (some ⟨d, 0, none⟩)
def qB (n : Int) : Bool := decide (0 ≤ n) && decide (n ≤ 1099511627776)
theorem isQuota_any (n : Int) (w : World) : Calls Try.prog 26 #[.int .i64 n] w fun e w' => e = .returned (.bool (qB n)) ∧ w = w' := by
  by_cases h1 : (0 : Int) ≤ n
  · go_enter Try.func26, Try.ntmps26
    go_wp2
    go_ret
    exact ⟨by simp [qB, h1], rfl⟩
  · have e1 : decide (0 ≤ n) = false := by simpa using h1
    go_enter Try.func26, Try.ntmps26
    go_wp2
    go_ret
    exact ⟨by simp [qB, e1], rfl⟩
theorem Quota_any {B d : Nat} {m : Mem} {S : St} {w : World} (h : At B w d m S) : Calls Try.prog 25 #[dptr d] w fun e w' => e = .returned (.int .i64 S.quota) ∧ w = w' := by
  have c0 : w.cell? ⟨d, 0, none⟩ = some (.int .i64 S.quota) := by rw [h.disk.cell]; rfl
  go_enter Try.func25, Try.ntmps25
  go_wp2
  go_ret
  exact ⟨rfl, rfl⟩
theorem Down_any {B d : Nat} {m : Mem} {S : St} {w : World} (h : At B w d m S) : Calls Try.prog 15 #[dptr d] w fun e w' => e = .returned (.bool S.down) ∧ w = w' := by
  have c0 : w.cell? ⟨d, 5, none⟩ = some (.bool S.down) := by rw [h.disk.cell]; rfl
  go_enter Try.func15, Try.ntmps15
  go_wp2
  go_ret
  exact ⟨rfl, rfl⟩
theorem gset2 (w : World) (g i j : Nat) (u v : Value) : w.grownBy ((w.setCell ⟨g, i, none⟩ u).setCell ⟨g, j, none⟩ v) (some g) :=
  ⟨rfl, rfl, rfl, by simp [World.setCell], fun k _ hne => by
    rw [Below.heap_setCell _ _ _ _ (fun e => hne (by rw [e])), Below.heap_setCell _ _ _ _ (fun e => hne (by rw [e]))]⟩
theorem At.put2 {B d : Nat} {w : World} {m : Mem} {S : St} (h : At B w d m S) (l : Nat) (dn : Bool) (x : Int) (hx : x = (l : Nat)) :
    At B ((w.setCell ⟨d, 4, none⟩ (.int .i64 x)).setCell ⟨d, 5, none⟩ (.bool dn)) d m { S with left := l, down := dn } ∧ Kept B w ((w.setCell ⟨d, 4, none⟩ (.int .i64 x)).setCell ⟨d, 5, none⟩ (.bool dn)) := by
  subst hx
  exact h.setD (gset2 _ _ _ _ _ _) (by have := (h.disk.put 4 (.int .i64 (l : Nat))).put 5 (.bool dn); simpa [dcells] using this) rfl rfl rfl rfl
theorem At.put1 {B d : Nat} {w : World} {m : Mem} {S : St} (h : At B w d m S) (l : Nat) (x : Int) (hx : x = (l : Nat)) :
    At B (w.setCell ⟨d, 4, none⟩ (.int .i64 x)) d m { S with left := l } ∧ Kept B w (w.setCell ⟨d, 4, none⟩ (.int .i64 x)) := by
  subst hx
  exact h.setD (gset _ _ _) (by have := h.disk.put 4 (.int .i64 (l : Nat)); simpa [dcells] using this) rfl rfl rfl rfl
theorem count_any {B d : Nat} {m : Mem} {S : St} {w : World} (h : At B w d m S) (hl : (S.left : Int) ≤ 9223372036854775807) :
    Calls Try.prog 45 #[dptr d] w fun e w' => e = .returned (.tuple #[]) ∧ At B w' d m (count S) ∧ Kept B w w' := by
  have c4 : w.cell? ⟨d, 4, none⟩ = some (.int .i64 (S.left : Nat)) := by rw [h.disk.cell]; rfl
  have c5 : w.cell? ⟨d, 5, none⟩ = some (.bool S.down) := by rw [h.disk.cell]; rfl
  have f4 := h.disk.frozen 4
  have f5 := h.disk.frozen 5
  by_cases h0 : S.left = 0
  · have e0 : ((S.left : Nat) : Int) = 0 := by omega
    rw [e0] at c4
    have hR : Hid (At B w d m (count S)) := Lib.hid (by unfold count; rw [if_pos h0]; exact h)
    clear e0 h0 hl
    go_enter Try.func45, Try.ntmps45
    go_wp2
    refine bodyPost_ret (results_none rfl _ _ _) rfl ?_
    exact ⟨rfl, hR.out, Kept.refl _ _⟩
  · have h1 : (1 : Int) ≤ (S.left : Nat) := by omega
    have e0 : ((S.left : Nat) : Int) ≠ 0 := by omega
    have hH := Lib.hid h
    clear h h0
    go_enter Try.func45, Try.ntmps45
    go_wp2
    go_end0
    obtain ⟨r1, r2⟩ := At.put2 hH.out (S.left - 1) (((S.left : Nat) : Int) - 1 == 0) (((S.left : Nat) : Int) - 1) (by omega)
    refine ⟨rfl, ?_, r2⟩
    have he : count S = { S with left := S.left - 1, down := (((S.left : Nat) : Int) - 1 == 0) } := by
      unfold count
      rw [if_neg (by omega)]
      congr 1
      rw [Bool.eq_iff_iff]
      simp only [decide_eq_true_eq, beq_iff_eq]
      omega
    rw [he]; exact r1
theorem Break_any {B d : Nat} {m : Mem} {S : St} {w : World} (h : At B w d m S) (n : Int) :
    Calls Try.prog 23 #[dptr d, .int .i64 n] w fun e w' => e = .returned (.int .i64 (breakS S n).2) ∧ At B w' d m (breakS S n).1 ∧ Kept B w w' := by
  have c4 : w.cell? ⟨d, 4, none⟩ = some (.int .i64 (S.left : Nat)) := by rw [h.disk.cell]; rfl
  have c5 : w.cell? ⟨d, 5, none⟩ = some (.bool S.down) := by rw [h.disk.cell]; rfl
  have f4 := h.disk.frozen 4
  have f5 := h.disk.frozen 5
  have hH := Lib.hid h
  clear h
  by_cases hn : n < 0
  · have hR : Hid (breakS S n = (S, 1)) := Lib.hid (by unfold breakS; rw [if_pos hn])
    go_enter Try.func23, Try.ntmps23
    go_wp2
    go_ret
    rw [hR.out]
    exact ⟨rfl, hH.out, Kept.refl _ _⟩
  · by_cases h0 : n = 0
    · subst h0
      have hR : Hid (breakS S 0 = ({ S with left := 0, down := true }, 0)) := Lib.hid rfl
      clear hn
      go_enter Try.func23, Try.ntmps23
      go_wp2
      go_ret
      obtain ⟨r1, r2⟩ := At.put2 hH.out 0 true 0 rfl
      rw [hR.out]
      exact ⟨rfl, r1, r2⟩
    · have hR : Hid (breakS S n = ({ S with left := n.toNat }, 0)) := Lib.hid (by unfold breakS; rw [if_neg hn, if_neg h0])
      have hT : Hid (((n.toNat : Nat) : Int) = n) := Lib.hid (by omega)
      have e0 : (n == 0) = false := by simpa using h0
      have e1 : decide (n < 0) = false := by simpa using hn
      clear hn h0
      go_enter Try.func23, Try.ntmps23
      go_wp2
      go_ret
      obtain ⟨r1, r2⟩ := At.put1 hH.out n.toNat n hT.out.symm
      rw [hR.out]
      exact ⟨rfl, r1, r2⟩

def okAll (xs : List ByteArray) : Bool := xs.all fun s => isN s.data.toList
def chkE (S : St) (xs : List ByteArray) : Int := if S.down then 5 else if okAll xs then 0 else 1
theorem size_len (s : ByteArray) : s.data.toList.length = s.size := by rw [Array.length_toList]; rfl
theorem isN_size (s : ByteArray) : isN s.data.toList = (decide (1 ≤ s.size) && decide (s.size ≤ 64)) := by unfold isN; rw [size_len]
theorem okAll_bad {xs : List ByteArray} {k : Nat} {s : ByteArray} (h : xs[k]? = some s) (hs : isN s.data.toList = false) : okAll xs = false := by
  cases ho : okAll xs
  · rfl
  · have := (List.all_eq_true.1 ho) s (List.mem_of_getElem? h)
    rw [hs] at this; cases this
theorem take_ok {xs : List ByteArray} {k : Nat} {s : ByteArray} (h : xs[k]? = some s) (hk : okAll (xs.take k) = true) (hs : isN s.data.toList = true) : okAll (xs.take (k + 1)) = true := by
  unfold okAll at *
  rw [List.take_add_one, h, List.all_append, hk]
  simp [hs]
theorem check_any {B d B' n c : Nat} {m : Mem} {S : St} {w : World} (h : At B w d m S) (A : Option Addr) (xs : List ByteArray) (hs : Sees w B' A n (xs.map Value.string)) (hn : n ≤ 1000000) :
    Calls Try.prog 43 #[dptr d, .slice A n c] w fun e w' => e = .returned (.int .i64 (chkE S xs)) ∧ w = w' := by
  have c5 : w.cell? ⟨d, 5, none⟩ = some (.bool S.down) := by rw [h.disk.cell]; rfl
  have hlen : xs.length = n := by simpa using hs.len
  have hS := Lib.hid hs
  clear h hs
  cases hd : S.down
  · have hE : Hid (chkE S xs = if okAll xs then 0 else 1) := Lib.hid (by unfold chkE; rw [hd]; rfl)
    rw [hd] at c5
    clear hd
    go_enter Try.func43, Try.ntmps43
    go_wp2
    go_loop [13] (fun i => ∃ k : Nat, k ≤ n ∧ i = .int .i64 k ∧ okAll (xs.take k) = true) (fun i => n - (intOf i).toNat)
    case atStart => exact ⟨0, Nat.zero_le _, rfl, rfl⟩
    case round =>
      obtain ⟨k, hk, rfl, hok⟩ := hrel
      have hO := Lib.hid hok
      clear hok
      by_cases hlt : k < n
      · obtain ⟨s, hx⟩ : ∃ s, xs[k]? = some s := ⟨xs[k]'(by omega), List.getElem?_eq_getElem (by omega)⟩
        obtain ⟨b, off, rfl, _, hc⟩ := hS.out.addr (by omega)
        have hc1 := hc k (.string s) (by rw [List.getElem?_map, hx]; rfl)
        have hX := Lib.hid hx
        have hlk : (k : Int) < (n : Int) := by omega
        clear hc hx
        by_cases h0 : s.size = 0
        · have hse : s = ⟨#[]⟩ := ByteArray.ext (Array.eq_empty_of_size_eq_zero h0)
          subst hse
          have hR : Hid (chkE S xs = 1) := Lib.hid (by rw [hE.out, okAll_bad hX.out (by rw [isN_size]; rfl)]; rfl)
          clear h0
          go_wp2
          go_ret
          exact ⟨by rw [hR.out]; rfl, rfl⟩
        · have hne := not_empty h0
          by_cases h64 : (s.size : Int) ≤ 64
          · have hN : Hid (isN s.data.toList = true) := Lib.hid (by rw [isN_size]; simp; omega)
            clear h0
            go_wp2
            go_round
            case rel => exact ⟨k + 1, by omega, by go_num, take_ok hX.out hO.out hN.out⟩
            case measure => simp [intOf]; omega
          · have hR : Hid (chkE S xs = 1) := Lib.hid (by rw [hE.out, okAll_bad hX.out (by rw [isN_size]; simp; omega)]; rfl)
            clear h0
            go_wp2
            go_ret
            exact ⟨by rw [hR.out]; rfl, rfl⟩
      · obtain rfl : k = n := by omega
        have hR : Hid (chkE S xs = 0) := Lib.hid (by rw [hE.out]; have := hO.out; rw [List.take_of_length_le (by omega)] at this; rw [this]; rfl)
        go_wp2
        go_ret
        exact ⟨by rw [hR.out]; rfl, rfl⟩
  · have hE : Hid (chkE S xs = 5) := Lib.hid (by unfold chkE; rw [hd]; rfl)
    rw [hd] at c5
    clear hd
    go_enter Try.func43, Try.ntmps43
    go_wp2
    go_ret
    exact ⟨by rw [hE.out]; rfl, rfl⟩
end Go.Proofs.Yteeomlboifleoaa
