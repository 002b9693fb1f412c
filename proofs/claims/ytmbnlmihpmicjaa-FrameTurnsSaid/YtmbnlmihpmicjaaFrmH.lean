/- The law FrameTurns, walked: whatever the strings and the number, it returns true and writes nothing that was there. -/
import Derived.Test.YtmbnlmihpmicjaaFrmG
namespace Go.Proofs.Ytmbnlmihpmicjaa
open Go.RowKit

theorem turns_nil (A : Option Addr) (c : Nat) (x : Nat) (w : World) :
    Calls Try.prog 6 #[.slice A 0 c, .int .u16 x] w fun e w' => e = .returned (.bool true) ∧ Below w.heap.size w w' := by
  go_enter Try.func6, Try.ntmps6
  go_wp2_with fail
  refine (awake_any _).mono ?_
  rintro e w1 ⟨rfl, hB1⟩
  go_wp2_with fail
  refine (awake_any _).mono ?_
  rintro e w2 ⟨rfl, hB2⟩
  go_wp2_with fail
  go_ret
  exact ⟨rfl, hB1.trans (hB2.mono hB1.size)⟩

theorem set_mk (a f : List UInt8) (i : Nat) (v : UInt8) : (a ++ f).set (a.length + i) v = a ++ f.set i v := by
  rw [List.set_append_right _ _ (by omega), Nat.add_sub_cancel_left]
theorem at_mk (a f : List UInt8) (i : Nat) (h : i < f.length) : (a ++ f)[a.length + i]'(by rw [List.length_append]; omega) = f[i] := by
  rw [List.getElem_append_right (by omega)]
  simp
theorem xor_other (b d : UInt8) (hd : d ≠ 0) : b ^^^ d ≠ b := by
  intro h
  apply hd
  have h2 : b ^^^ (b ^^^ d) = b ^^^ b := by rw [h]
  rwa [← UInt8.xor_assoc, UInt8.xor_self, UInt8.zero_xor] at h2

theorem turns_big (A : Option Addr) (n c : Nat) (x : Nat) (w : World) (h1 : 20 < n) :
    Calls Try.prog 6 #[.slice A n c, .int .u16 x] w fun e w' => e = .returned (.bool true) ∧ Below w.heap.size w w' := by
  have g1 : (20 : Int) < (n : Int) := by omega
  have g0 : ((n : Int) == 0) = false := by rw [beq_eq_false_iff_ne]; omega
  go_enter Try.func6, Try.ntmps6
  go_wp2_with fail
  refine (awake_any _).mono ?_
  rintro e w1 ⟨rfl, hB1⟩
  go_wp2_with fail
  refine (awake_any _).mono ?_
  rintro e w2 ⟨rfl, hB2⟩
  go_wp2_with fail
  go_ret
  exact ⟨rfl, hB1.trans (hB2.mono hB1.size)⟩

set_option maxHeartbeats 1000000 in
theorem turns_small (A : Option Addr) (n c x : Nat) (xs : List (List UInt8)) (w : World) (h : Sees w w.heap.size A n (texts (xs.map mk))) (hcap : n ≤ c) (hx : x < 65536) (h1 : ¬ 20 < n) (h0 : 0 < n) :
    Calls Try.prog 6 #[.slice A n c, .int .u16 x] w fun e w' => e = .returned (.bool true) ∧ Below w.heap.size w w' := by
  have g1 : ¬ (20 : Int) < (n : Int) := by omega
  have g0 : ((n : Int) == 0) = false := by rw [beq_eq_false_iff_ne]; omega
  have HL : Hid (xs.length = n) := Lib.hid (show xs.length = n by simpa [texts] using h.len)
  go_enter Try.func6, Try.ntmps6
  go_wp2_with fail
  refine (awake_any _).mono ?_
  rintro e w1 ⟨rfl, hB1⟩
  go_wp2_with fail
  go_loopw [5, 6, 7] (fun b la i wr => ∃ k S, k ≤ n ∧ i = .int .i64 (k : Nat) ∧ b = .string S ∧ la = .int .i64 (lastOf xs k : Nat) ∧ RowAt xs k S ∧ Below w.heap.size w wr) (fun _ _ i _ => n - (intOf i).toNat)
  case atStart => exact ⟨0, ⟨#[]⟩, Nat.zero_le _, rfl, rfl, rfl, RowAt.start xs, hB1⟩
  case round =>
    obtain ⟨k, S, hk, rfl, rfl, rfl, hR, GB⟩ := hrel
    have hSz := hR.size (by omega)
    have HR := Lib.hid hR
    clear hR
    by_cases hlt : k < n
    · have h2 : k < xs.length := by have := HL.out; omega
      have hls := lastOf_succ xs k h2
      obtain ⟨b, off, rfl, hbB, hc⟩ := mks_at (h.below GB) hlt h2
      obtain ⟨X, hX⟩ : ∃ X, X = mk xs[k] := ⟨_, rfl⟩
      have hXs : X.size = xs[k].length := by rw [hX, mk_size]
      obtain ⟨F, hF⟩ : ∃ F, F = mk (frameL xs[k]) := ⟨_, rfl⟩
      have hFs : F.size = lastOf xs (k + 1) := by rw [hF, mk_size, frameL_len, hls]
      have hFz : F.size ≤ 8 + X.size := by rw [hF, mk_size, frameL_len, hXs]; exact Nat.le_refl _
      rw [← hX] at hc
      have HX := Lib.hid hX
      have HXs := Lib.hid hXs
      have HF := Lib.hid hF
      have HFs := Lib.hid hFs
      clear hX hXs hF hFs hls
      generalize lastOf xs k = la
      by_cases hbig : 100 < X.size
      · have g2 : (100 : Int) < (X.size : Int) := by omega
        go_wp2_with fail
        go_ret
        exact ⟨rfl, GB⟩
      · have g2 : ¬ (100 : Int) < (X.size : Int) := by omega
        go_wp2_with fail
        refine (Frame_at X xs[k] _ HX.out (by have := HXs.out; omega)).mono ?_
        rw [← HF.out]
        rintro e w2 ⟨rfl, hB2⟩
        go_wp2_with fail
        go_roundw
        case rel => exact ⟨k + 1, S ++ F, by omega, by go_num, rfl, by rw [HFs.out], by rw [HF.out]; exact HR.out.step h2 (by have := HXs.out; omega), GB.trans (hB2.mono GB.size)⟩
        case measure => simp [intOf]; omega
    · obtain rfl : k = n := by omega
      obtain ⟨hS, hall⟩ := HR.out.whole (by have := HL.out; omega)
      have hz : (rowF xs).length = S.size := by rw [hS, mk_size]
      obtain ⟨m, rfl⟩ : ∃ m, k = m + 1 := ⟨k - 1, by omega⟩
      have hm : m < xs.length := by have := HL.out; omega
      have hrow : rowF xs = rowF (xs.take m) ++ frameL xs[m] := by
        rw [← rowF_take xs m hm, List.take_of_length_le (by have := HL.out; omega)]
      have hla := lastOf_succ xs m hm
      obtain ⟨L, hL⟩ : ∃ L, L = lastOf xs (m + 1) := ⟨_, rfl⟩
      rw [← hL] at hla ⊢
      have hL8 : 8 ≤ L := by omega
      have hfl : (frameL xs[m]).length = L := by rw [frameL_len, hla]
      obtain ⟨R, hR⟩ : ∃ R, R = (rowF (xs.take m)).length := ⟨_, rfl⟩
      have hSL : S.size = R + L := by rw [← hz, hrow, List.length_append, hfl, hR]
      obtain ⟨q, hqe⟩ : ∃ q, q = x / 8 % (L - 4) := ⟨_, rfl⟩
      have hq : q < L - 4 := by rw [hqe]; exact Nat.mod_lt _ (by omega)
      have hqi : (x : Int) / 8 % ((L : Int) - 4) = (q : Int) := by
        rw [hqe, show (L : Int) - 4 = ((L - 4 : Nat) : Int) from by omega, Int.natCast_emod, Int.natCast_ediv]; rfl
      have hj : R + 4 + q < S.data.toList.length := by
        have : S.data.toList.length = S.size := by simp
        omega
      have hi : 4 + q < (frameL xs[m]).length := by omega
      have hSl : S.data.toList = rowF (xs.take m) ++ frameL xs[m] := by rw [hS, ← hrow]; simp [mk]
      have hb : S.data.toList[R + 4 + q] = (frameL xs[m])[4 + q] := by
        have h1 := at_mk (rowF (xs.take m)) (frameL xs[m]) (4 + q) hi
        rw [← h1]
        simp only [hSl]
        congr 1
        omega
      obtain ⟨hx1, hd0⟩ := flip_bit (S.data.toList[R + 4 + q]) (x % 8) (Nat.mod_lt _ (by decide))
      obtain ⟨v, hv⟩ : ∃ v, v = S.data.toList[R + 4 + q] ^^^ UInt8.ofNat (2 ^ (x % 8)) := ⟨_, rfl⟩
      have hvo : v ≠ (frameL xs[m])[4 + q] := by rw [← hb, hv]; exact xor_other _ _ hd0
      rw [← hv] at hx1
      have hset : S.data.toList.set (R + 4 + q) v = rowF (xs.take m) ++ (frameL xs[m]).set (4 + q) v := by
        rw [hSl, hR, Nat.add_assoc, set_mk]
      have hsh := scan_then (r := (frameL xs[m]).set (4 + q) v) (xs.take m) (fun y hy => hall y (List.mem_of_mem_take hy)) (first_flip xs[m] (hall _ (List.getElem_mem hm)) _ hi (by omega) v hvo)
      rw [← hset, ← hR] at hsh
      have hmm : (xs.take m).length = m := by rw [List.length_take]; omega
      have hlr : (S.data.toList.set (R + 4 + q) v).length = S.size := by simp
      have hSL4 : S.size ≤ 4000 := hSz
      have hconv := fun W S => Lib.run_convert_string_bytes (P := Try.prog) W 9 37 5 S Try.underlying9 Try.underlying37 Try.underlying5
      have hrow8 := Row8.made wr S
      have hcell := hrow8.cell _ hj
      have hsoft := hrow8.soft _ hj
      have hst := (hrow8.put _ hj v).str S.size (grownCap wr S.size 0 5) hlr
      have GB2 := GB.trans ((bytes_below wr S).mono GB.size)
      have GB3 := GB2.setCell (p := ⟨wr.heap.size, R + 4 + q, none⟩) GB.size (.int .u8 (v.toNat : Nat))
      have HSH := Lib.hid hsh
      have HMM := Lib.hid hmm
      have HLR := Lib.hid hlr
      obtain ⟨T, hT⟩ : ∃ T, T = S.data.toList.set (R + 4 + q) v := ⟨_, rfl⟩
      rw [← hT] at hst HSH HLR
      have hx2 : bits BinOp.xor IntKind.u8 ((S.data[R + 4 + q]'(by simpa using hj)).toNat : Int) ((2 : Int) ^ (x % 8) % 256) = (v.toNat : Nat) := hx1
      have hSLi : (S.size : Int) - (L : Int) = (R : Int) := by omega
      have g2 : ¬ (S.size : Int) < (L : Int) := by omega
      have g3 : ¬ (L : Int) < 8 := by omega
      have g4 : ((L : Int) - 4 == 0) = false := by rw [beq_eq_false_iff_ne]; omega
      have g5 : (R : Int) + 4 + (q : Int) < (S.size : Int) := by omega
      have g6 : ((R : Int) + 4 + (q : Int)).toNat = R + 4 + q := by omega
      have HSLi := Lib.hid hSLi
      have HH := Lib.hid h
      clear hT hx1 hsh hmm hlr hset hvo hv hd0 hb hSl hi hqe hSL hR hfl hL hla hrow hz hS hall hrow8 hB1
      go_wp2_with fail
      generalize (Lib.bytesWorld wr 5 S).setCell ⟨wr.heap.size, R + 4 + q, none⟩ (.int .u8 (v.toNat : Nat)) = w2 at GB3 hst ⊢
      clear hcell hsoft hst GB2
      refine (Scan_any ⟨T.toArray⟩ T _ rfl (by rw [HLR.out]; omega)).mono ?_
      unfold ScanLeaves
      rw [HSH.out, HMM.out]
      rintro e w6 ⟨A6, c6, rfl, hs6, hB6⟩
      have GB6 := GB3.trans (hB6.mono GB3.size)
      have hh6 := (HH.out.below GB6).take (Nat.le_add_right m 1)
      rw [texts_take] at hh6
      clear GB3 hB6
      go_wp2_with fail
      refine (Texts_yes A6 A _ _ _ _ _ ((xs.take m).map mk) _ hs6 hh6 (by omega)).mono ?_
      rintro e w7 ⟨rfl, m7, rfl⟩
      have GB7 := below_drewN GB6 m7
      generalize w6.drewN m7 = w7 at GB7 ⊢
      have g9 : (S.size : Int) - (L : Int) = (R : Int) := HSLi.out
      go_wp2_with fail
      go_ret
      exact ⟨rfl, GB7⟩

theorem FrameTurns_walk (A : Option Addr) (n c : Nat) (zs : List ByteArray) (a : Int) (w : World) (h : InTexts w A n c zs) (ha : (Lit.int .u16 a).wf = true) :
    Calls Try.prog 6 #[.slice A n c, .int .u16 a] w fun e w' => e = .returned (.bool true) ∧ Below w.heap.size w w' := by
  obtain ⟨x, rfl, hx⟩ := u16_in ha
  obtain ⟨xs, rfl⟩ := mks_of zs
  rcases Nat.eq_zero_or_pos n with h0 | h0
  · subst h0
    exact turns_nil A c x w
  by_cases h1 : 20 < n
  · exact turns_big A n c x w h1
  · exact turns_small A n c x xs w h.1 h.2 hx h1 h0
end Go.Proofs.Ytmbnlmihpmicjaa
