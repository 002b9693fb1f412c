/- Bytes are appended to a list of bytes of one's own; Piece, Join, and their references. -/
import Derived.Test.YtdanncclnhkmgaaOctE
import Derived.Test.YtdanncclnhkmgaaOctJ
namespace Go.Proofs.Ytdanncclnhkmgaa
open Go.RowKit

def bytesV (l : List UInt8) : List Value := l.map fun b => Value.int .u8 (b.toNat : Int)
theorem u8_info : (Try.prog.info? 5).map (fun i => (i.zero, i.size, i.bytes)) = some (some (.int .u8 0), 1, 1) := by kernel_rfl

def AppAt (n k : Nat) (xs : List Value) (n0 base : Nat) (w : World) (j : Nat) (v : Value) (wr : World) : Prop :=
  ∃ done, be n k = done ++ be n j ∧ done.length + j = k ∧ wr.ownsRow base 5 1 v (n0 + done.length) (xs ++ bytesV done) ∧ Below base w wr

def AppLeaves (n k : Nat) (xs : List Value) (n0 base : Nat) (w : World) (e : Ending) (w' : World) : Prop :=
  ∃ v', e = .returned v' ∧ w'.ownsRow base 5 1 v' (n0 + k) (xs ++ bytesV (be n k)) ∧ Below base w w'

theorem byte_at (n m : Nat) : ((n : Int) / 2 ^ (8 * m) % 256) = ((UInt8.ofNat (n / 256 ^ m)).toNat : Int) := by
  rw [UInt8.toNat_ofNat', show (256 : Nat) ^ m = 2 ^ (8 * m) from by rw [Nat.pow_mul]]
  simp

set_option maxHeartbeats 400000 in
theorem appendInteger_any (v : Value) (n0 n k base : Nat) (xs : List Value) (w : World) (hown : w.ownsRow base 5 1 v n0 xs) (hbase : base ≤ w.heap.size) (hk : k ≤ 8) (hn : n < 2 ^ 64) (hn0 : n0 ≤ 1073741824) :
    Calls Try.prog 102 #[v, .int .u64 n, .int .i64 k] w (AppLeaves n k xs n0 base w) := by
  have HN := Lib.hid hn
  have HS : AppAt n k xs n0 base w k v w := ⟨[], rfl, by simp, by simpa [bytesV] using hown, Below.refl _ _⟩
  have HS' := Lib.hid HS
  clear hn HS hown
  go_enter Try.func102, Try.ntmps102
  go_wp2_with fail
  go_loopw [0, 7] (fun u i wr => ∃ j : Nat, j ≤ k ∧ i = .int .i64 ((j : Int) - 1) ∧ AppAt n k xs n0 base w j u wr) (fun _ i _ => (intOf i + 1).toNat)
  case atStart => exact ⟨k, Nat.le_refl _, rfl, HS'.out⟩
  case round =>
    obtain ⟨j, hj, rfl, done, hbe, hlen, hown, hB⟩ := hrel
    cases j with
    | zero =>
      go_wp2_with fail
      go_ret
      have e1 : done.length = k := by omega
      have e2 : done = be n k := by rw [hbe]; simp [be]
      exact ⟨_, rfl, by rw [← e2, ← e1]; exact hown, hB⟩
    | succ m =>
      have HE : Hid (be n k = (done ++ [UInt8.ofNat (n / 256 ^ m)]) ++ be n m) := Lib.hid (by rw [hbe, be]; simp)
      have HL := Lib.hid hlen
      have hd8 : done.length ≤ 8 := by omega
      have H63 : Hid (n0 + done.length + 1 ≤ maxLen) := Lib.hid (by unfold maxLen; omega)
      have H47 : Hid ((n0 + done.length + 1) * 1 ≤ 140737488355328) := Lib.hid (by omega)
      have HO := Lib.hid hown
      obtain ⟨i0, hi0, hz0, hz1, hz2⟩ := info_parts u8_info
      clear hbe hlen hown
      go_wp2_with (at_builtin; refine wpList_append_own _ rfl _ _ 61 rfl base 5 i0 (.int .u8 0) 1 1 Try.underlying61 hi0 hz0 hz1 hz2 rfl (by decide) _ _ _ rfl (HO.out.alloc _) ⟨wr.heap.size, 0, none⟩ 1 1 [.int .u8 ((n : Int) / 2 ^ (8 * m) % 256)] rfl rfl (news1 _ _ _) (one1 _ rfl) H63.out H47.out (by have := hB.size; simp; omega) ?_; intro v2 w2 hown2 hgrow _)
      have hown3 : w2.ownsRow base 5 1 v2 (n0 + (done ++ [UInt8.ofNat (n / 256 ^ m)]).length) (xs ++ bytesV (done ++ [UInt8.ofNat (n / 256 ^ m)])) := by
        have := hown2
        rw [byte_at] at this
        simpa [bytesV, Nat.add_assoc] using this
      have HO3 := Lib.hid hown3
      have HB2 := Lib.hid ((hB.alloc (Nat.le_trans hbase hB.size) _).grown hgrow (by have := hB.size; simp; omega) (fun j hj => (HO.out.lt j hj).1))
      clear hown2 hown3 hgrow hB
      go_roundw
      case rel => exact ⟨m, by omega, rfl, _, HE.out, by have := HL.out; simp; omega, HO3.out, HB2.out⟩
      case measure => simp [intOf]

/-- 'string(b)' of bytes of one's own -/
theorem str_of_own {w : World} {base n : Nat} {v : Value} {l : List UInt8} (h : w.ownsRow base 5 1 v n (bytesV l)) :
    (convert 61 9 v).run Try.prog w = .ok (.string ⟨l.toArray⟩) w := by
  have hl : l.length = n := by have := h.1; simpa [bytesV] using this
  rcases h.2 with ⟨rfl, h0⟩ | ⟨g, cap, cur, rfl, _, _, _⟩
  · have : l = [] := List.eq_nil_of_length_eq_zero (by omega)
    subst this
    rw [run_convert_bytes_string w 61 9 5 none 0 0 Try.underlying61 Try.underlying5 Try.underlying9]
    rfl
  · subst hl
    refine run_convert_bytes_back w _ _ 5 ⟨g, 0, none⟩ cap l Try.underlying61 Try.underlying5 Try.underlying9 (fun j hj => ?_)
    exact h.cells (g := g) rfl j _ (by simp [bytesV, hj])

/-- Piece -/
def pieceR (s : ByteArray) (n : Int) : ByteArray × Int :=
  if pB n then
    if fitB s.size n.toNat then (⟨(be s.size n.toNat).toArray⟩ ++ s, 0) else (empty, 3)
  else (empty, 1)

theorem numOf_be (v k : Nat) : numOf ⟨(be v k).toArray⟩ = v % 256 ^ k := by unfold numOf; simp [num_be]
theorem fit_yes {v k : Nat} (h : fitB v k = true) : v % 256 ^ k = v := Nat.mod_eq_of_lt (by simpa [fitB] using h)
theorem fit_no {v k : Nat} (h : fitB v k = false) : v % 256 ^ k ≠ v := by
  intro e
  have : v < 256 ^ k := by rw [← e]; exact Nat.mod_lt _ (Nat.pow_pos (by omega))
  simp [fitB] at h
  omega

end Go.Proofs.Ytdanncclnhkmgaa
