/- Parts of the proofs of the statements of image. No statement of the seat is proved here. -/
import Derived.Test.YtmpginmdaeclaaaGreatDoorOcA
import Derived.Lib.EndianBits
import Derived.Deep.RegionHeld3
import Derived.ProofKit
import Derived.OpenShut
import Derived.ShutString
import Derived.ChangeOld
import Derived.SliceStrings
set_option maxHeartbeats 32000000
set_option maxRecDepth 20000
namespace Go.Proofs.YtmpginmdaeclaaaGreatDoor
open Go.RowKit
theorem wrap_small (a : Int) (h0 : 0 <= a) (h1 : a <= 1000) : wrap64 a = a := by
  unfold wrap64
  omega
theorem close0 (b x : Nat) (h : b = bitLen x) (h8 : bitLen x <= 8) : wrap64 (wrap64 (b : Int)) = (bitLen x : Int) := by
  rw [wrap_small (b : Int) (by omega) (by omega), wrap_small (b : Int) (by omega) (by omega)]
  omega
theorem closek (k : Int) (b x : Nat) (h0 : 0 <= k) (h1 : k <= 56) (h : b = bitLen x) (h8 : bitLen x <= 8) : wrap64 (k + wrap64 (b : Int)) = k + bitLen x := by
  rw [wrap_small (b : Int) (by omega) (by omega), wrap_small _ (by omega) (by omega)]
  omega
theorem Len64_000 (n : Nat) (w : World) (g1 : ¬ (4294967296 : Int) <= (n : Int)) (g2 : ¬ (65536 : Int) <= (n : Int)) (g3 : ¬ (256 : Int) <= (n : Int)) (f2 : (n : Int) < 256) (hl : Hid (bitLen (n) <= 8)) (h4 : Hid (n < 256)) :
    Calls Tryz.prog 206 #[.int .u64 n] w fun e w' => e = .returned (.int .i64 (bitLen n)) /\ w = w' := by
  have f0 : (0 : Int) <= (n : Int) := by omega
  have f1 : (0 : Int) <= (n : Int) := by omega
  have f3 : (0 : Int) <= (n : Int) := by omega
  go_enter Tryz.func206, Tryz.ntmps206
  go_wp2_with fail
  go_ret
  have ht := len8tab_get _ h4.out
  refine ⟨?_, rfl⟩
  refine ret_int (a := wrap64 (wrap64 _)) (close0 _ _ ?_ hl.out)
  exact ht
theorem Len64_001 (n : Nat) (w : World) (g1 : ¬ (4294967296 : Int) <= (n : Int)) (g2 : ¬ (65536 : Int) <= (n : Int)) (g3 :  (256 : Int) <= (n : Int)) (f2 : (n : Int) / 256 < 256) (hl : Hid (bitLen (n / 256) <= 8)) (h4 : Hid (n / 256 < 256)) :
    Calls Tryz.prog 206 #[.int .u64 n] w fun e w' => e = .returned (.int .i64 (8 + bitLen (n / 256))) /\ w = w' := by
  have f0 : (0 : Int) <= (n : Int) := by omega
  have f1 : (0 : Int) <= (n : Int) := by omega
  have f3 : (0 : Int) <= (n : Int) / 256 := by omega
  go_enter Tryz.func206, Tryz.ntmps206
  go_wp2_with fail
  go_ret
  have ht := len8tab_get _ h4.out
  refine ⟨?_, rfl⟩
  refine ret_int (a := wrap64 (8 + wrap64 _)) (closek 8 _ _ (by decide) (by decide) ?_ hl.out)
  exact ht
theorem Len64_010 (n : Nat) (w : World) (g1 : ¬ (4294967296 : Int) <= (n : Int)) (g2 :  (65536 : Int) <= (n : Int)) (g3 : ¬ (256 : Int) <= (n : Int) / 65536) (f2 : (n : Int) / 65536 < 256) (hl : Hid (bitLen (n / 65536) <= 8)) (h4 : Hid (n / 65536 < 256)) :
    Calls Tryz.prog 206 #[.int .u64 n] w fun e w' => e = .returned (.int .i64 (16 + bitLen (n / 65536))) /\ w = w' := by
  have f0 : (0 : Int) <= (n : Int) := by omega
  have f1 : (0 : Int) <= (n : Int) / 65536 := by omega
  have f3 : (0 : Int) <= (n : Int) / 65536 := by omega
  go_enter Tryz.func206, Tryz.ntmps206
  go_wp2_with fail
  go_ret
  have ht := len8tab_get _ h4.out
  refine ⟨?_, rfl⟩
  refine ret_int (a := wrap64 (16 + wrap64 _)) (closek 16 _ _ (by decide) (by decide) ?_ hl.out)
  exact ht
theorem Len64_011 (n : Nat) (w : World) (g1 : ¬ (4294967296 : Int) <= (n : Int)) (g2 :  (65536 : Int) <= (n : Int)) (g3 :  (256 : Int) <= (n : Int) / 65536) (f2 : (n : Int) / 65536 / 256 < 256) (hl : Hid (bitLen (n / 65536 / 256) <= 8)) (h4 : Hid (n / 65536 / 256 < 256)) :
    Calls Tryz.prog 206 #[.int .u64 n] w fun e w' => e = .returned (.int .i64 (24 + bitLen (n / 65536 / 256))) /\ w = w' := by
  have f0 : (0 : Int) <= (n : Int) := by omega
  have f1 : (0 : Int) <= (n : Int) / 65536 := by omega
  have f3 : (0 : Int) <= (n : Int) / 65536 / 256 := by omega
  go_enter Tryz.func206, Tryz.ntmps206
  go_wp2_with fail
  go_ret
  have ht := len8tab_get _ h4.out
  refine ⟨?_, rfl⟩
  refine ret_int (a := wrap64 (24 + wrap64 _)) (closek 24 _ _ (by decide) (by decide) ?_ hl.out)
  exact ht
theorem Len64_100 (n : Nat) (w : World) (g1 :  (4294967296 : Int) <= (n : Int)) (g2 : ¬ (65536 : Int) <= (n : Int) / 4294967296) (g3 : ¬ (256 : Int) <= (n : Int) / 4294967296) (f2 : (n : Int) / 4294967296 < 256) (hl : Hid (bitLen (n / 4294967296) <= 8)) (h4 : Hid (n / 4294967296 < 256)) :
    Calls Tryz.prog 206 #[.int .u64 n] w fun e w' => e = .returned (.int .i64 (32 + bitLen (n / 4294967296))) /\ w = w' := by
  have f0 : (0 : Int) <= (n : Int) / 4294967296 := by omega
  have f1 : (0 : Int) <= (n : Int) / 4294967296 := by omega
  have f3 : (0 : Int) <= (n : Int) / 4294967296 := by omega
  go_enter Tryz.func206, Tryz.ntmps206
  go_wp2_with fail
  go_ret
  have ht := len8tab_get _ h4.out
  refine ⟨?_, rfl⟩
  refine ret_int (a := wrap64 (32 + wrap64 _)) (closek 32 _ _ (by decide) (by decide) ?_ hl.out)
  exact ht
theorem Len64_101 (n : Nat) (w : World) (g1 :  (4294967296 : Int) <= (n : Int)) (g2 : ¬ (65536 : Int) <= (n : Int) / 4294967296) (g3 :  (256 : Int) <= (n : Int) / 4294967296) (f2 : (n : Int) / 4294967296 / 256 < 256) (hl : Hid (bitLen (n / 4294967296 / 256) <= 8)) (h4 : Hid (n / 4294967296 / 256 < 256)) :
    Calls Tryz.prog 206 #[.int .u64 n] w fun e w' => e = .returned (.int .i64 (40 + bitLen (n / 4294967296 / 256))) /\ w = w' := by
  have f0 : (0 : Int) <= (n : Int) / 4294967296 := by omega
  have f1 : (0 : Int) <= (n : Int) / 4294967296 := by omega
  have f3 : (0 : Int) <= (n : Int) / 4294967296 / 256 := by omega
  go_enter Tryz.func206, Tryz.ntmps206
  go_wp2_with fail
  go_ret
  have ht := len8tab_get _ h4.out
  refine ⟨?_, rfl⟩
  refine ret_int (a := wrap64 (40 + wrap64 _)) (closek 40 _ _ (by decide) (by decide) ?_ hl.out)
  exact ht
theorem Len64_110 (n : Nat) (w : World) (g1 :  (4294967296 : Int) <= (n : Int)) (g2 :  (65536 : Int) <= (n : Int) / 4294967296) (g3 : ¬ (256 : Int) <= (n : Int) / 4294967296 / 65536) (f2 : (n : Int) / 4294967296 / 65536 < 256) (hl : Hid (bitLen (n / 4294967296 / 65536) <= 8)) (h4 : Hid (n / 4294967296 / 65536 < 256)) :
    Calls Tryz.prog 206 #[.int .u64 n] w fun e w' => e = .returned (.int .i64 (48 + bitLen (n / 4294967296 / 65536))) /\ w = w' := by
  have f0 : (0 : Int) <= (n : Int) / 4294967296 := by omega
  have f1 : (0 : Int) <= (n : Int) / 4294967296 / 65536 := by omega
  have f3 : (0 : Int) <= (n : Int) / 4294967296 / 65536 := by omega
  go_enter Tryz.func206, Tryz.ntmps206
  go_wp2_with fail
  go_ret
  have ht := len8tab_get _ h4.out
  refine ⟨?_, rfl⟩
  refine ret_int (a := wrap64 (48 + wrap64 _)) (closek 48 _ _ (by decide) (by decide) ?_ hl.out)
  exact ht
theorem Len64_111 (n : Nat) (w : World) (g1 :  (4294967296 : Int) <= (n : Int)) (g2 :  (65536 : Int) <= (n : Int) / 4294967296) (g3 :  (256 : Int) <= (n : Int) / 4294967296 / 65536) (f2 : (n : Int) / 4294967296 / 65536 / 256 < 256) (hl : Hid (bitLen (n / 4294967296 / 65536 / 256) <= 8)) (h4 : Hid (n / 4294967296 / 65536 / 256 < 256)) :
    Calls Tryz.prog 206 #[.int .u64 n] w fun e w' => e = .returned (.int .i64 (56 + bitLen (n / 4294967296 / 65536 / 256))) /\ w = w' := by
  have f0 : (0 : Int) <= (n : Int) / 4294967296 := by omega
  have f1 : (0 : Int) <= (n : Int) / 4294967296 / 65536 := by omega
  have f3 : (0 : Int) <= (n : Int) / 4294967296 / 65536 / 256 := by omega
  go_enter Tryz.func206, Tryz.ntmps206
  go_wp2_with fail
  go_ret
  have ht := len8tab_get _ h4.out
  refine ⟨?_, rfl⟩
  refine ret_int (a := wrap64 (56 + wrap64 _)) (closek 56 _ _ (by decide) (by decide) ?_ hl.out)
  exact ht
theorem bitLen_iff (n k : Nat) : bitLen n <= k ↔ n < 2 ^ k := by
  have h := bitLen_spec n
  constructor
  · intro hk
    exact Nat.lt_of_lt_of_le h.1 (Nat.pow_le_pow_right (by omega) hk)
  · intro hn
    rcases Nat.eq_zero_or_pos n with h0 | h0
    · subst h0; simp [bitLen]
    · have h2 := h.2 (by omega)
      have : bitLen n - 1 < k := (Nat.pow_lt_pow_iff_right (by omega : 1 < 2)).1 (Nat.lt_of_le_of_lt h2 hn)
      omega
theorem shift_len (n b : Nat) (h : 2 ^ b <= n) : bitLen n = b + bitLen (n / 2 ^ b) := bitLen_shift n b (by
  have : 0 < n / 2 ^ b := Nat.div_pos h (Nat.two_pow_pos b)
  omega)
theorem Len64_any (n : Nat) (w : World) (h : n < 2 ^ 64) :
    Calls Tryz.prog 206 #[.int .u64 n] w fun e w' => e = .returned (.int .i64 (bitLen n)) /\ w = w' := by
  by_cases ha : 4294967296 <= n
  · have e1 : bitLen n = 32 + bitLen (n / 4294967296) := shift_len n 32 ha
    by_cases hb : 65536 <= n / 4294967296
    · have e2 : bitLen (n / 4294967296) = 16 + bitLen (n / 4294967296 / 65536) := shift_len _ 16 hb
      by_cases hc : 256 <= n / 4294967296 / 65536
      · have e3 : bitLen (n / 4294967296 / 65536) = 8 + bitLen (n / 4294967296 / 65536 / 256) := shift_len _ 8 hc
        refine (Len64_111 n w (by omega) (by omega) (by omega) (by omega) (Ha (bitLen_le8 _ (by omega))) (Ha (by omega))).mono ?_
        rintro e w' ⟨rfl, rfl⟩; exact ⟨ret_int (by omega), rfl⟩
      · refine (Len64_110 n w (by omega) (by omega) (by omega) (by omega) (Ha (bitLen_le8 _ (by omega))) (Ha (by omega))).mono ?_
        rintro e w' ⟨rfl, rfl⟩; exact ⟨ret_int (by omega), rfl⟩
    · by_cases hc : 256 <= n / 4294967296
      · have e3 : bitLen (n / 4294967296) = 8 + bitLen (n / 4294967296 / 256) := shift_len _ 8 hc
        refine (Len64_101 n w (by omega) (by omega) (by omega) (by omega) (Ha (bitLen_le8 _ (by omega))) (Ha (by omega))).mono ?_
        rintro e w' ⟨rfl, rfl⟩; exact ⟨ret_int (by omega), rfl⟩
      · refine (Len64_100 n w (by omega) (by omega) (by omega) (by omega) (Ha (bitLen_le8 _ (by omega))) (Ha (by omega))).mono ?_
        rintro e w' ⟨rfl, rfl⟩; exact ⟨ret_int (by omega), rfl⟩
  · by_cases hb : 65536 <= n
    · have e2 : bitLen n = 16 + bitLen (n / 65536) := shift_len _ 16 hb
      by_cases hc : 256 <= n / 65536
      · have e3 : bitLen (n / 65536) = 8 + bitLen (n / 65536 / 256) := shift_len _ 8 hc
        refine (Len64_011 n w (by omega) (by omega) (by omega) (by omega) (Ha (bitLen_le8 _ (by omega))) (Ha (by omega))).mono ?_
        rintro e w' ⟨rfl, rfl⟩; exact ⟨ret_int (by omega), rfl⟩
      · refine (Len64_010 n w (by omega) (by omega) (by omega) (by omega) (Ha (bitLen_le8 _ (by omega))) (Ha (by omega))).mono ?_
        rintro e w' ⟨rfl, rfl⟩; exact ⟨ret_int (by omega), rfl⟩
    · by_cases hc : 256 <= n
      · have e3 : bitLen n = 8 + bitLen (n / 256) := shift_len _ 8 hc
        refine (Len64_001 n w (by omega) (by omega) (by omega) (by omega) (Ha (bitLen_le8 _ (by omega))) (Ha (by omega))).mono ?_
        rintro e w' ⟨rfl, rfl⟩; exact ⟨ret_int (by omega), rfl⟩
      · refine (Len64_000 n w (by omega) (by omega) (by omega) (by omega) (Ha (bitLen_le8 _ (by omega))) (Ha (by omega))).mono ?_
        rintro e w' ⟨rfl, rfl⟩; exact ⟨rfl, rfl⟩
def fitB (n k : Nat) : Bool := decide (n < 256 ^ k)
theorem fitB_eq (n k : Nat) : decide ((bitLen n : Int) <= 8 * (k : Int)) = fitB n k := by
  unfold fitB
  rw [decide_eq_decide, show (256 : Nat) ^ k = 2 ^ (8 * k) from by rw [Nat.pow_mul]]
  have := bitLen_iff n (8 * k)
  omega
theorem fits_any (n k : Nat) (w : World) (h : n < 2 ^ 64) (hk : k <= 8) :
    Calls Tryz.prog 187 #[.int .u64 n, .int .i64 k] w fun e w' => e = .returned (.bool (fitB n k)) /\ w = w' := by
  have HN := Ha h
  clear h
  have hb := bitLen_iff n 64
  have hb' : Hid (bitLen n <= 64) := Ha (hb.2 HN.out)
  clear hb
  have hb2 := hb'.out
  go_enter Tryz.func187, Tryz.ntmps187
  go_wp2_with (go_at_call 206; refine (Len64_any _ _ HN.out).mono ?_; rintro e w' ⟨rfl, rfl⟩)
  go_ret
  exact ⟨ret_bool (fitB_eq n k), rfl⟩
end Go.Proofs.YtmpginmdaeclaaaGreatDoor
namespace Go.Proofs.YtmpginmdaeclaaaGreatDoor
open Go.RowKit
def bytesV (l : List UInt8) : List Value := l.map fun b => Value.int .u8 (b.toNat : Int)
theorem u8_info : (Tryz.prog.info? 5).map (fun i => (i.zero, i.size, i.bytes)) = some (some (.int .u8 0), 1, 1) := by kernel_rfl
def AppAt (n k : Nat) (xs : List Value) (n0 base : Nat) (w : World) (j : Nat) (v : Value) (wr : World) : Prop :=
  ∃ done, be n k = done ++ be n j /\ done.length + j = k /\ wr.ownsRow base 5 1 v (n0 + done.length) (xs ++ bytesV done) /\ Below base w wr
def AppLeaves (n k : Nat) (xs : List Value) (n0 base : Nat) (w : World) (e : Ending) (w' : World) : Prop :=
  ∃ v', e = .returned v' /\ w'.ownsRow base 5 1 v' (n0 + k) (xs ++ bytesV (be n k)) /\ Below base w w'
theorem byte_at (n m : Nat) : ((n : Int) / 2 ^ (8 * m) % 256) = ((UInt8.ofNat (n / 256 ^ m)).toNat : Int) := by
  rw [UInt8.toNat_ofNat', show (256 : Nat) ^ m = 2 ^ (8 * m) from by rw [Nat.pow_mul]]
  simp
theorem appendInteger_any (v : Value) (n0 n k base : Nat) (xs : List Value) (w : World) (hown : w.ownsRow base 5 1 v n0 xs) (hbase : base <= w.heap.size) (hk : k <= 8) (hn : n < 2 ^ 64) (hn0 : n0 <= 1073741824) :
    Calls Tryz.prog 188 #[v, .int .u64 n, .int .i64 k] w (AppLeaves n k xs n0 base w) := by
  have HN := Ha hn
  have HS : AppAt n k xs n0 base w k v w := ⟨[], rfl, by simp, by simpa [bytesV] using hown, Below.refl _ _⟩
  have HS' := Ha HS
  clear hn HS hown
  go_enter Tryz.func188, Tryz.ntmps188
  go_wp2_with fail
  go_loopw [0, 7] (fun u i wr => ∃ j : Nat, j <= k /\ i = .int .i64 ((j : Int) - 1) /\ AppAt n k xs n0 base w j u wr) (fun _ i _ => (intOf i + 1).toNat)
  case atStart => exact ⟨k, Nat.le_refl _, rfl, HS'.out⟩
  case round =>
    obtain ⟨j, hj, rfl, done, hbe, hlen, hown, hB⟩ := hrel
    cases j with
    | zero =>
      go_wp2_with fail
      go_ret
      have e1 : done.length = k := by omega
      have e2 : done = be n k := by rw [hbe]; simp [be]
      exact ⟨_, rfl, by rw [<-e2, <-e1]; exact hown, hB⟩
    | succ m =>
      have HE : Hid (be n k = (done ++ [UInt8.ofNat (n / 256 ^ m)]) ++ be n m) := Ha (by rw [hbe, be]; simp)
      have HL := Ha hlen
      have hd8 : done.length <= 8 := by omega
      have H63 : Hid (n0 + done.length + 1 <= maxLen) := Ha (by unfold maxLen; omega)
      have H47 : Hid ((n0 + done.length + 1) * 1 <= 140737488355328) := Ha (by omega)
      have HO := Ha hown
      obtain ⟨i0, hi0, hz0, hz1, hz2⟩ := info_parts u8_info
      clear hbe hlen hown; go_wp2_with (at_builtin; refine wpList_append_own _ rfl _ _ 115 rfl base 5 i0 (.int .u8 0) 1 1 Tryz.underlying115 hi0 hz0 hz1 hz2 rfl (by decide) _ _ _ rfl (HO.out.alloc _) ⟨wr.heap.size, 0, none⟩ 1 1 [.int .u8 ((n : Int) / 2 ^ (8 * m) % 256)] rfl rfl (news1 _ _ _) (one1 _ rfl) H63.out H47.out (by have := hB.size; simp; omega) ?_; intro v2 w2 hown2 hgrow _)
      have hown3 : w2.ownsRow base 5 1 v2 (n0 + (done ++ [UInt8.ofNat (n / 256 ^ m)]).length) (xs ++ bytesV (done ++ [UInt8.ofNat (n / 256 ^ m)])) := by
        have := hown2
        rw [byte_at] at this
        simpa [bytesV, Nat.add_assoc] using this
      have HO3 := Ha hown3
      have HB2 := Ha ((hB.alloc (Nat.le_trans hbase hB.size) _).grown hgrow (by have := hB.size; simp; omega) (fun j hj => (HO.out.lt j hj).1))
      clear hown2 hown3 hgrow hB; go_roundw
      case rel => exact ⟨m, by omega, rfl, _, HE.out, by have := HL.out; simp; omega, HO3.out, HB2.out⟩
      case measure => simp [intOf]
theorem str_of_own {w : World} {base n : Nat} {v : Value} {l : List UInt8} (h : w.ownsRow base 5 1 v n (bytesV l)) :
    (convert 115 9 v).run Tryz.prog w = .ok (.string ⟨l.toArray⟩) w := by
  have hl : l.length = n := by have := h.1; simpa [bytesV] using this
  rcases h.2 with ⟨rfl, h0⟩ | ⟨g, cap, cur, rfl, _, _, _⟩
  · have : l = [] := List.eq_nil_of_length_eq_zero (by omega)
    subst this; rw [run_convert_bytes_string w 115 9 5 none 0 0 Tryz.underlying115 Tryz.underlying5 Tryz.underlying9]
    rfl
  · subst hl
    refine run_convert_bytes_back w _ _ 5 ⟨g, 0, none⟩ cap l Tryz.underlying115 Tryz.underlying5 Tryz.underlying9 (fun j hj => ?_)
    exact h.cells (g := g) rfl j _ (by simp [bytesV, hj])
def pieceR (s : ByteArray) (n : Int) : ByteArray × Int :=
  if pB n then
    if fitB s.size n.toNat then (⟨(be s.size n.toNat).toArray⟩ ++ s, 0) else (empty, 3)
  else (empty, 1)
end Go.Proofs.YtmpginmdaeclaaaGreatDoor
namespace Go.Proofs.YtmpginmdaeclaaaGreatDoor
open Go.RowKit Go.Op
theorem Piece_any (s : ByteArray) (n : Int) (w : World) (hs : s.size <= 1073741824) :
    Calls Tryz.prog 148 #[.string s, .int .i64 n] w fun e w' => e = .returned (.tuple #[.string (pieceR s n).1, .int .i64 (pieceR s n).2]) /\ Below w.heap.size w w' := by
  cases hp : pB n
  · have hr : pieceR s n = (empty, 1) := by simp [pieceR, hp]
    rw [hr]
    clear hr; go_enter Tryz.func148, Tryz.ntmps148
    go_wp2_with (go_at_call 162; refine (isPieceWidth_any _ _).mono ?_; rintro e w' ⟨rfl, rfl⟩); go_ret2
    exact ⟨rfl, Below.refl _ _⟩
  obtain ⟨a, rfl⟩ := Int.eq_ofNat_of_zero_le (show 0 <= n by have := pB_cases hp; omega)
  have ha : a <= 8 := by have := pB_cases hp; omega
  cases hf : fitB s.size a
  · have hr : pieceR s a = (empty, 3) := by simp [pieceR, hp, hf]
    rw [hr]
    clear hr; go_enter Tryz.func148, Tryz.ntmps148
    go_wp2_with (first
      | (go_at_call 162; refine (isPieceWidth_any _ _).mono ?_; rintro e w' ⟨rfl, rfl⟩)
      | (go_at_call 187; refine (fits_any _ _ _ (by omega) ha).mono ?_; rintro e w' ⟨rfl, rfl⟩))
    go_ret2
    exact ⟨rfl, Below.refl _ _⟩
  · have hr : pieceR s a = (⟨(be s.size a).toArray⟩ ++ s, 0) := by simp [pieceR, hp, hf]
    rw [hr]
    clear hr; have hbl : (be s.size a).length <= 8 := by rw [be_length]; omega
    go_enter Tryz.func148, Tryz.ntmps148
    go_wp2_with (first
      | (go_at_call 162; refine (isPieceWidth_any _ _).mono ?_; rintro e w' ⟨rfl, rfl⟩)
      | (go_at_call 187; refine (fits_any _ _ _ (by omega) ha).mono ?_; rintro e w' ⟨rfl, rfl⟩)
      | (go_at_call 188; refine (appendInteger_any _ 0 s.size a w.heap.size [] _ (World.ownsRow_nil _ _ _ _) (Nat.le_refl _) ha (by omega) (by omega)).mono ?_; rintro e w1 ⟨v1, rfl, hown, hB1⟩; have hcv := str_of_own (by simpa using hown)))
    go_ret2
    exact ⟨rfl, hB1⟩
end Go.Proofs.YtmpginmdaeclaaaGreatDoor
namespace Go.Proofs.YtmpginmdaeclaaaGreatDoor
open Go.RowKit
def joinF : List Int -> List Int -> Option (List UInt8)
  | v :: vs, w :: ws => if fitB v.toNat w.toNat then (joinF vs ws).map (be v.toNat w.toNat ++ ·) else none
  | _, _ => some []
def joinR (vs ws : List Int) : ByteArray × Int :=
  if ws.all wB then
    if vs.length = ws.length then
      match joinF vs ws with
      | none => (empty, 1)
      | some l => (⟨l.toArray⟩, 0)
    else (empty, 1)
  else (empty, 1)
def Joins (vs ws : List Int) (k : Nat) (acc : List UInt8) : Prop := joinF vs ws = (joinF (vs.drop k) (ws.drop k)).map (acc ++ ·)
theorem Joins.start (vs ws : List Int) : Joins vs ws 0 [] := by
  unfold Joins
  simp only [List.drop_zero]
  cases joinF vs ws <;> simp
theorem Joins.step {vs ws : List Int} {k : Nat} {acc : List UInt8} (h : Joins vs ws k acc) (h1 : k < vs.length) (h2 : k < ws.length) (hf : fitB vs[k].toNat ws[k].toNat = true) :
    Joins vs ws (k + 1) (acc ++ be vs[k].toNat ws[k].toNat) := by
  unfold Joins at h ⊢
  rw [h, drop_at h1, drop_at h2, joinF, if_pos hf]
  cases joinF (vs.drop (k + 1)) (ws.drop (k + 1)) <;> simp
theorem Joins.fails {vs ws : List Int} {k : Nat} {acc : List UInt8} (h : Joins vs ws k acc) (h1 : k < vs.length) (h2 : k < ws.length) (hf : fitB vs[k].toNat ws[k].toNat = false) : joinF vs ws = none := by
  unfold Joins at h
  rw [h, drop_at h1, drop_at h2, joinF, if_neg (by rw [hf]; decide)]
  rfl
theorem Joins.ends {vs ws : List Int} {k : Nat} {acc : List UInt8} (h : Joins vs ws k acc) (h1 : vs.length <= k) : joinF vs ws = some acc := by
  unfold Joins at h
  rw [h, List.drop_of_length_le h1]
  simp [joinF]
theorem joinR_bad {vs ws : List Int} (h : ws.all wB = false) : joinR vs ws = (empty, 1) := by simp [joinR, h]
theorem joinR_len {vs ws : List Int} (h : ws.all wB = true) (h' : vs.length ≠ ws.length) : joinR vs ws = (empty, 1) := by simp [joinR, h, h']
theorem joinR_none {vs ws : List Int} (h : ws.all wB = true) (h' : vs.length = ws.length) (hj : joinF vs ws = none) : joinR vs ws = (empty, 1) := by simp [joinR, h, h', hj]
theorem joinR_some {vs ws : List Int} {l : List UInt8} (h : ws.all wB = true) (h' : vs.length = ws.length) (hj : joinF vs ws = some l) : joinR vs ws = (⟨l.toArray⟩, 0) := by simp [joinR, h, h', hj]
def U64s (vs : List Int) : Prop := ∀ z ∈ vs, 0 <= z /\ z < 2 ^ 64
def JoinLeaves (vs ws : List Int) (w : World) (e : Ending) (w' : World) : Prop := e = .returned (.tuple #[.string (joinR vs ws).1, .int .i64 (joinR vs ws).2]) /\ Below w.heap.size w w'
def JoinAt (vs ws : List Int) (w : World) (k : Nat) (v : Value) (wr : World) : Prop :=
  ∃ acc, Joins vs ws k acc /\ acc.length <= 8 * k /\ wr.ownsRow w.heap.size 5 1 v acc.length (bytesV acc) /\ Below w.heap.size w wr
theorem Join_any (A A' : Option Addr) (n n' c c' B B' : Nat) (vs ws : List Int) (w : World) (h : Sees w B A n (ints .u64 vs)) (h' : Sees w B' A' n' (ints .i64 ws)) (hB : B <= w.heap.size) (hB' : B' <= w.heap.size)
    (hn : n <= 65536) (hn' : n' <= 65536) (hu : U64s vs) :
    Calls Tryz.prog 146 #[.slice A n c, .slice A' n' c'] w (JoinLeaves vs ws w) := by
  have hl : vs.length = n := by simpa [ints] using h.len
  have hl' : ws.length = n' := by simpa [ints] using h'.len
  have HL := Ha hl
  have HL' := Ha hl'
  have HU := Ha hu
  cases hw : ws.all wB
  · have HR := Ha (joinR_bad (vs := vs) hw)
    clear hl hl' hu; go_enter Tryz.func146, Tryz.ntmps146
    go_wp2_with (go_at_call 159; refine (allWidths_any _ _ _ _ _ _ h' (by omega)).mono ?_; rintro e w' ⟨rfl, rfl⟩)
    go_ret2
    exact ⟨by rw [HR.out]; rfl, Below.refl _ _⟩
  by_cases hnn : n = n'
  case neg =>
    have HR := Ha (joinR_len (vs := vs) hw (by omega))
    have hne : ((n : Int) != (n' : Int)) = true := by rw [bne_iff_ne]; omega
    clear hl hl' hu hnn; go_enter Tryz.func146, Tryz.ntmps146
    go_wp2_with (go_at_call 159; refine (allWidths_any _ _ _ _ _ _ h' (by omega)).mono ?_; rintro e w' ⟨rfl, rfl⟩)
    go_ret2
    exact ⟨by rw [HR.out]; rfl, Below.refl _ _⟩
  subst hnn
  have hne : ((n : Int) != (n : Int)) = false := by simp
  have HS : JoinAt vs ws w 0 (.slice none 0 0) w := ⟨[], Joins.start vs ws, by simp, World.ownsRow_nil _ _ _ _, Below.refl _ _⟩
  have HS' := Ha HS
  have HW := Ha hw
  clear hl hl' hu HS
  go_enter Tryz.func146, Tryz.ntmps146
  go_wp2_with (go_at_call 159; refine (allWidths_any _ _ _ _ _ _ h' (by omega)).mono ?_; rintro e w' ⟨rfl, rfl⟩)
  clear hw
  go_loopw [6, 21] (fun b i wr => ∃ k : Nat, k <= n /\ i = .int .i64 k /\ JoinAt vs ws w k b wr) (fun _ i _ => n - (intOf i).toNat)
  case atStart => exact ⟨0, Nat.zero_le _, rfl, HS'.out⟩
  case round =>
    obtain ⟨k, hk, rfl, acc, hj, hacc, hown, GB⟩ := hrel
    by_cases hlt : k < n
    · have h1 : k < vs.length := by have := HL.out; omega
      have h2 : k < ws.length := by have := HL'.out; omega
      obtain ⟨b, off, rfl, hbB, hc⟩ := ints_at (h.below (GB.mono hB)) hlt
      obtain ⟨b', off', rfl, hbB', hc'⟩ := ints_at (h'.below (GB.mono hB')) hlt
      rw [show vs.getD k 0 = vs[k] from by simp [List.getD, h1]] at hc
      rw [show ws.getD k 0 = ws[k] from by simp [List.getD, h2]] at hc'
      have hwb := wB_cases (List.all_eq_true.1 HW.out _ (List.getElem_mem h2))
      obtain ⟨hz0, hz1⟩ := HU.out _ (List.getElem_mem h1)
      obtain ⟨x, hx⟩ : ∃ x : Nat, vs[k] = x := Int.eq_ofNat_of_zero_le hz0
      obtain ⟨y, hy⟩ : ∃ y : Nat, ws[k] = y := Int.eq_ofNat_of_zero_le (show 0 <= ws[k] by omega)
      have hy8 : y <= 8 := by omega
      have HX : Hid (x < 2 ^ 64) := Ha (by omega)
      have hstep : fitB x y = true -> Joins vs ws (k + 1) (acc ++ be x y) := fun hf => by
        have := hj.step h1 h2 (by rw [hx, hy]; exact hf)
        rw [hx, hy] at this
        exact this
      have hfail : fitB x y = false -> joinF vs ws = none := fun hf => hj.fails h1 h2 (by rw [hx, hy]; exact hf)
      have HST := Ha hstep
      have HF := Ha hfail
      have HO := Ha hown
      rw [hx] at hc
      rw [hy] at hc'
      clear hstep hfail hz0 hz1 hwb hj hown hx hy
      cases hf : fitB x y
      · have HR := Ha (joinR_none HW.out (by have := HL.out; have := HL'.out; omega) (HF.out hf))
        go_wp2_with (go_at_call 187; refine (fits_any _ _ _ HX.out hy8).mono ?_; rintro e w' ⟨rfl, rfl⟩); go_ret2
        exact ⟨by rw [HR.out]; rfl, GB⟩
      · go_wp2_with (first
          | (go_at_call 187; refine (fits_any _ _ _ HX.out hy8).mono ?_; rintro e w' ⟨rfl, rfl⟩)
          | (go_at_call 188; refine (appendInteger_any _ _ x y w.heap.size _ _ HO.out GB.size hy8 HX.out (by omega)).mono ?_; rintro e w1 ⟨v1, rfl, hown1, hB1⟩))
        have hown2 : w1.ownsRow w.heap.size 5 1 v1 (acc ++ be x y).length (bytesV (acc ++ be x y)) := by simpa [bytesV, be_length] using hown1
        have HO2 := Ha hown2
        clear hown1 hown2; go_roundw
        case rel => exact ⟨k + 1, by omega, by go_num, _, HST.out hf, by simp [be_length]; omega, HO2.out, GB.trans hB1⟩
        case measure => simp [intOf]; omega
    · obtain rfl : k = n := by omega
      have HR := Ha (joinR_some HW.out (by have := HL.out; have := HL'.out; omega) (hj.ends (by have := HL.out; omega)))
      have hcv := str_of_own hown
      clear hj; go_wp2_with fail
      go_ret2
      exact ⟨by rw [HR.out]; rfl, GB⟩
end Go.Proofs.YtmpginmdaeclaaaGreatDoor
namespace Go.Proofs.YtmpginmdaeclaaaGreatDoor
def mk (l : List UInt8) : ByteArray := ⟨l.toArray⟩
theorem mk_toList (s : ByteArray) : mk s.data.toList = s := by cases s; simp [mk]
theorem mk_of (s : ByteArray) : ∃ l, s = mk l := ⟨_, (mk_toList s).symm⟩
theorem mk_size (l : List UInt8) : (mk l).size = l.length := by show l.toArray.size = _; simp
theorem mk_append (a b : List UInt8) : mk a ++ mk b = mk (a ++ b) := by apply ByteArray.ext; simp [mk]
theorem mk_extract (l : List UInt8) (a b : Nat) : (mk l).extract a b = mk ((l.take b).drop a) := by
  apply ByteArray.ext
  simp only [mk, ByteArray.data_extract]
  apply Array.ext'
  simp [List.extract]
  rw [List.drop_take]
theorem mk_num (l : List UInt8) : numOf (mk l) = num l := by simp [numOf, mk]
end Go.Proofs.YtmpginmdaeclaaaGreatDoor
namespace Go.Proofs.YtmpginmdaeclaaaGreatDoor
open Go.ChangeShapes Go.WideShapes Go.ChangeAt Go.RowKit
theorem try_own : ownKnob Tryz.prog.godebug = none := by kernel_rfl
theorem try_laid : laidOutB Tryz.prog = true := by kernel_rfl
theorem add_flat (b off i : Nat) : (⟨b, off, none⟩ : Addr).add i = ⟨b, off + i, none⟩ := by unfold Addr.add; split <;> simp_all
theorem sees_of_cells {W : World} {x : Addr} {len : Nat} {xs : List Value} (hl : xs.length = len) (hc : ∀ i, i < len -> W.cell? (x.add i) = xs[i]?) : Sees W W.heap.size (some x) len xs := by
  refine ⟨hl, fun h0 => ?_⟩
  obtain ⟨b, off, spot⟩ := x
  have h1 := hc 0 h0
  rw [List.getElem?_eq_getElem (by omega)] at h1
  have hspot : spot = none := by simpa [Addr.add] using World.cell?_spot h1
  subst hspot
  have hb := World.block_lt_of_cell? W _ h1
  refine ⟨b, off, rfl, by simpa [Addr.add] using hb, fun j u hu => ?_⟩
  have hj : j < len := by rw [<-hl]; exact (List.getElem?_eq_some_iff.1 hu).1
  rw [<-add_flat, hc j hj, hu]
def InTexts (W : World) (a : Option Addr) (len cap : Nat) (zs : List ByteArray) : Prop := Sees W W.heap.size a len (texts zs) /\ len <= cap
theorem strings_in {H : Type} {enc : TypeId × Value -> H} {W : World} {base : Nat} {held : Bool} {T E : TypeId} {a : Option Addr} {len cap : Nat} {d : DataW H} {p : List MemPlace}
    (hT : Tryz.prog.underlying T = some (.slice E)) (hE : Tryz.prog.underlying E = some .string) (hc1 : Tryz.prog.cellsOf E = 1)
    (h : DataW.Trod enc Tryz.prog W base (fun _ => true) held T (.slice a len cap) d p) : ∃ zs, InTexts W a len cap zs := by
  obtain ⟨fuel, hf⟩ := h
  rcases open_strings hT hE hc1 hf with ⟨hcs, _⟩ | ⟨x, l, c, zs, hcs, _, hl, hm, hz, _, hcell, hwz⟩
  · simp [Value.cells] at hcs
    obtain ⟨rfl, rfl, rfl⟩ := hcs
    exact ⟨[], Sees.nil _ _ _, by omega⟩
  · simp [Value.cells] at hcs
    obtain ⟨rfl, rfl, rfl⟩ := hcs
    have hz' : zs.length = cap := by simpa using hz
    refine ⟨zs.take len, sees_of_cells (by simp [texts]; omega) (fun i hi => ?_), by omega⟩
    rw [hcell i (by omega)]
    simp [texts, hi, List.getD, show i < zs.length by omega]
end Go.Proofs.YtmpginmdaeclaaaGreatDoor
