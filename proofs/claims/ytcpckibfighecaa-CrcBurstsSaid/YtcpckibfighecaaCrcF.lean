/- The law CrcBursts, walked. -/
import Derived.Test.YtcpckibfighecaaCrcE
import Derived.RegionTactic
namespace Go.Proofs.Ytcpckibfighecaa
open Go.RowKit

def tb (t i : Nat) : UInt8 := UInt8.ofNat (t / 2 ^ (8 * i))
/-- the bytes l, those from K on XORed with the bytes of t, i of them -/
def brow (l : List UInt8) (K t : Nat) : Nat → List UInt8
  | 0 => l
  | i + 1 => (brow l K t i).set (K + i) ((brow l K t i).getD (K + i) 0 ^^^ tb t i)
theorem brow_len (l : List UInt8) (K t i : Nat) : (brow l K t i).length = l.length := by
  induction i with
  | zero => rfl
  | succ i ih => rw [brow, List.length_set, ih]
theorem brow_app (p r : List UInt8) (t i : Nat) : brow (p ++ r) p.length t i = p ++ brow r 0 t i := by
  induction i with
  | zero => rfl
  | succ i ih =>
    rw [brow, brow, ih, List.set_append_right _ _ (by omega)]
    simp [List.getD, List.getElem?_append_right]
theorem burst_differs (l : List UInt8) (K t : Nat) (hK : K + 4 ≤ l.length) (ht : t < 4294967296) (h0 : t ≠ 0) : sumOf (brow l K t 4) ≠ sumOf l := by
  obtain ⟨p, r, hl, hp⟩ : ∃ p r, l = p ++ r ∧ p.length = K := ⟨l.take K, l.drop K, by simp, by simp; omega⟩
  subst hl hp
  have hr : 4 ≤ r.length := by simp at hK; omega
  match r, hr with
  | a :: b :: c :: d :: q, _ =>
    have e1 : brow (a :: b :: c :: d :: q) 0 t 4 = [a ^^^ tb t 0, b ^^^ tb t 1, c ^^^ tb t 2, d ^^^ tb t 3] ++ q := by simp [brow]
    rw [brow_app, e1]
    have hx := xorL_mid p [a, b, c, d] [a ^^^ tb t 0, b ^^^ tb t 1, c ^^^ tb t 2, d ^^^ tb t 3] q rfl
    refine sum_differs _ _ p.length q.length [tb t 0, tb t 1, tb t 2, tb t 3] (by simp) ?_ ?_
    · rw [show p ++ (a :: b :: c :: d :: q) = p ++ ([a, b, c, d] ++ q) from rfl, hx]
      have e : ∀ u v : UInt8, u ^^^ v ^^^ u = v := fun u v => by rw [UInt8.xor_comm u, UInt8.xor_assoc, UInt8.xor_self, UInt8.xor_zero]
      have e2 : xorL [a ^^^ tb t 0, b ^^^ tb t 1, c ^^^ tb t 2, d ^^^ tb t 3] [a, b, c, d] = [a ^^^ tb t 0 ^^^ a, b ^^^ tb t 1 ^^^ b, c ^^^ tb t 2 ^^^ c, d ^^^ tb t 3 ^^^ d] := rfl
      rw [e2, e, e, e, e]
    · rw [fed_cons, fed_cons, fed_cons, fed_cons, fed_nil, Nat.zero_xor]
      have := four_fed_ne t ht h0
      have f : ∀ i, (tb t i).toNat = t / 2 ^ (8 * i) % 256 := fun i => by unfold tb; rw [UInt8.toNat_ofNat']
      rw [f, f, f, f]
      simpa using this
theorem burst_bit (c : UInt8) (t i : Nat) : bits .xor .u8 (c.toNat : Int) ((t : Int) / 2 ^ (8 * i) % 256) = ((c ^^^ tb t i).toNat : Nat) := by
  have e : (t : Int) / 2 ^ (8 * i) % 256 = ((t / 2 ^ (8 * i) % 256 : Nat) : Int) := by
    rw [Int.natCast_emod, Int.natCast_ediv, Int.natCast_pow]; rfl
  rw [e, UInt8.toNat_xor, show (tb t i).toNat = t / 2 ^ (8 * i) % 256 by unfold tb; rw [UInt8.toNat_ofNat']]
  exact u8_xor_nat _ _ c.toNat_lt (Nat.mod_lt _ (by decide))

set_option maxHeartbeats 1000000 in
theorem CrcBursts_walk (s : ByteArray) (a b : Int) (w : World) (_hs : s.size ≤ maxLen) (ha : (Lit.int .u16 a).wf = true) (hb : (Lit.int .u32 b).wf = true) :
    Calls Try.prog 6 #[.string s, .int .u16 a, .int .u32 b] w fun e w' => e = .returned (.bool true) ∧ Below w.heap.size w w' := by
  obtain ⟨x, rfl, hx⟩ := u16_nat ha
  obtain ⟨t, rfl, ht⟩ := u32_nat hb
  clear ha hb
  by_cases h0 : s.size < 4
  · have g1 : (s.size : Int) < 4 := by omega
    go_enter Try.func6, Try.ntmps6
    go_wp2_with fail
    refine (awake_any _).mono ?_
    rintro e w1 ⟨rfl, hB1⟩
    go_wp2_with fail
    refine (awake_any _).mono ?_
    rintro e w2 ⟨rfl, hB2⟩
    go_wp2_with fail
    go_ret
    exact ⟨rfl, hB1.trans (hB2.mono hB1.size)⟩
  have g0 : ¬ (s.size : Int) < 4 := by omega
  by_cases h1 : 2000 < s.size
  · have g1 : (2000 : Int) < (s.size : Int) := by omega
    go_enter Try.func6, Try.ntmps6
    go_wp2_with fail
    refine (awake_any _).mono ?_
    rintro e w1 ⟨rfl, hB1⟩
    go_wp2_with fail
    refine (awake_any _).mono ?_
    rintro e w2 ⟨rfl, hB2⟩
    go_wp2_with fail
    go_ret
    exact ⟨rfl, hB1.trans (hB2.mono hB1.size)⟩
  have g1 : ¬ (2000 : Int) < (s.size : Int) := by omega
  by_cases h2 : t = 0
  · subst h2
    go_enter Try.func6, Try.ntmps6
    go_wp2_with fail
    refine (awake_any _).mono ?_
    rintro e w1 ⟨rfl, hB1⟩
    go_wp2_with fail
    refine (awake_any _).mono ?_
    rintro e w2 ⟨rfl, hB2⟩
    go_wp2_with fail
    go_ret
    exact ⟨rfl, hB1.trans (hB2.mono hB1.size)⟩
  have gz : ((t : Int) == 0) = false := by rw [beq_eq_false_iff_ne]; omega
  have hs : s.size ≤ 1073741824 := by omega
  obtain ⟨K, hK⟩ : ∃ K, K = x % (s.size - 3) := ⟨_, rfl⟩
  have hK2 : (x : Int) % ((s.size : Int) - 3) = (K : Int) := by
    rw [hK, Int.natCast_emod]; congr 1; omega
  have hKl : K + 4 ≤ s.size := by
    have := Nat.mod_lt x (show 0 < s.size - 3 by omega)
    omega
  have hne := burst_differs s.data.toList K t (by simpa using hKl) ht h2
  replace hK := Lib.hid hK
  replace hne := Lib.hid hne
  replace h2 := Lib.hid h2
  have hconv := fun W S => Lib.run_convert_string_bytes (P := Try.prog) W 9 31 5 S Try.underlying9 Try.underlying31 Try.underlying5
  go_enter Try.func6, Try.ntmps6
  go_wp2_with fail
  refine (awake_any _).mono ?_
  rintro e w1 ⟨rfl, hB1⟩
  have hrow := Row8.made w1 s
  have hB2 := hB1.trans ((bytes_below w1 s).mono hB1.size)
  go_wp2_with fail
  rw [hK2]
  generalize Lib.bytesWorld w1 5 s = W1 at hrow hB2 ⊢
  clear hconv hK2
  obtain ⟨g, hg⟩ : ∃ g, g = w1.heap.size := ⟨_, rfl⟩
  generalize grownCap w1 s.size 0 5 = cap
  rw [← hg] at hrow ⊢
  have hgb : w.heap.size ≤ g := by rw [hg]; exact hB1.size
  replace hg := Lib.hid hg
  go_loopw [9] (fun v wr => ∃ i : Nat, i ≤ 4 ∧ v = .int .i64 i ∧ Row8 wr g (brow s.data.toList K t i) ∧ Below w.heap.size w wr) (fun v _ => 4 - (intOf v).toNat)
  case atStart => exact ⟨0, by omega, rfl, hrow, hB2⟩
  case round =>
    obtain ⟨i, hi, rfl, hr, hB⟩ := hrel
    by_cases hlt : i < 4
    · have hl : (brow s.data.toList K t i).length = s.size := by rw [brow_len]; simp
      have hj : K + i < (brow s.data.toList K t i).length := by rw [hl]; omega
      have hc := hr.cell _ hj
      have hf := hr.soft _ hj
      have e1 : IntKind.i64.wrap ((K : Int) + (i : Int)) = (K : Int) + (i : Int) := by rw [IntKind.wrap_i64]; omega
      have e2 : IntKind.i64.wrap (8 * (i : Int)) = 8 * (i : Int) := by rw [IntKind.wrap_i64]; omega
      have e3 : ((K : Int) + (i : Int)).toNat = K + i := by omega
      have e4 : (8 * (i : Int)).toNat = 8 * i := by omega
      have i1 : (0 : Int) ≤ (K : Int) + (i : Int) := by omega
      have i2 : (K : Int) + (i : Int) < (s.size : Int) := by omega
      have i3 : (0 : Int) ≤ 8 * (i : Int) := by omega
      have hput := hr.put _ hj ((brow s.data.toList K t i)[K + i] ^^^ tb t i)
      have hnext : brow s.data.toList K t (i + 1) = (brow s.data.toList K t i).set (K + i) ((brow s.data.toList K t i)[K + i] ^^^ tb t i) := by
        rw [brow]; congr 2; simp [List.getD, hj]
      have hbit := burst_bit (brow s.data.toList K t i)[K + i] t i
      generalize (brow s.data.toList K t i)[K + i] ^^^ tb t i = C at hput hnext hbit
      generalize (brow s.data.toList K t i)[K + i] = c0 at hc hbit
      rw [← hnext] at hput
      replace hl := Lib.hid hl
      clear hnext
      have hB3 := hB.setCell (p := ⟨g, K + i, none⟩) hgb (.int .u8 (C.toNat : Nat))
      go_wp2_with fail
      go_region
      all_goals go_wp2_with fail
      go_roundw
      case rel => exact ⟨i + 1, by omega, by go_num, hput.drew, ⟨hB3.os, hB3.tape, hB3.output, hB3.size, hB3.block⟩⟩
      case measure => simp [intOf]; omega
    · obtain rfl : i = 4 := by omega
      have hl : (brow s.data.toList K t 4).length = s.size := by rw [brow_len]; simp
      have hst := hr.str s.size cap hl
      generalize brow s.data.toList K t 4 = L at hst hne hl
      have hLs : (⟨L.toArray⟩ : ByteArray).size ≤ 1073741824 := by simp [ByteArray.size]; omega
      replace hl := Lib.hid hl
      go_wp2_with fail
      refine (Sum_any ⟨L.toArray⟩ _ hLs).mono ?_
      rintro e w3 ⟨rfl, hB4⟩
      have hB5 := hB.trans (hB4.mono hB.size)
      clear hst
      go_wp2_with fail
      refine (Sum_any s _ hs).mono ?_
      rintro e w4 ⟨rfl, hB6⟩
      have hB7 := hB5.trans (hB6.mono hB5.size)
      go_wp2_with fail
      go_ret
      exact ⟨ret_bool (ne_true hne.out), hB7⟩
end Go.Proofs.Ytcpckibfighecaa
