/- PackLoops: pointers behind one name. No statement of the seat is proved here. -/
import Derived.Test.YtimakddeokgfcaaPakH
import Derived.Test.YtimakddeokgfcaaPakF
namespace Go.Proofs.Ytimakddeokgfcaa
open Go.RowKit

/-- where the i-th pointer leads: c is the name's length, T the bytes that came in -/
def kT (c : Nat) (T : Nat → Nat) (i : Nat) : Nat := if T i % 16 = 15 then c + 2 * i + T i / 16 else if i = 0 then 0 else c + 2 * (T i % i)
def ptrs (c : Nat) (T : Nat → Nat) : Nat → List UInt8
  | 0 => []
  | i + 1 => ptrs c T i ++ ptrB (kT c T i)
def goodB (T : Nat → Nat) (i : Nat) : Bool := if _h : i = 0 then T i % 16 != 15 else (T i % 16 != 15) && goodB T (T i % i)
termination_by i
decreasing_by exact Nat.mod_lt _ (by omega)
theorem ptrs_len (c : Nat) (T : Nat → Nat) (i : Nat) : (ptrs c T i).length = 2 * i := by
  induction i with
  | zero => rfl
  | succ i ih => rw [ptrs, List.length_append, ih, ptr_len]; omega
theorem ptrs_pre (c : Nat) (T : Nat → Nat) {i m : Nat} (h : i < m) : ∃ e, ptrs c T m = ptrs c T i ++ ptrB (kT c T i) ++ e := by
  induction m with
  | zero => omega
  | succ m ih =>
    rcases Nat.lt_or_ge i m with h' | h'
    · obtain ⟨e, he⟩ := ih h'
      exact ⟨e ++ ptrB (kT c T m), by rw [ptrs, he]; simp⟩
    · obtain rfl : i = m := by omega
      exact ⟨[], by simp [ptrs]⟩
theorem kT_lt {c : Nat} {T : Nat → Nat} {i : Nat} (hc : 1 ≤ c) (h : T i % 16 ≠ 15) : kT c T i < c + 2 * i := by
  unfold kT
  rw [if_neg h]
  by_cases h0 : i = 0
  · rw [if_pos h0]; omega
  · rw [if_neg h0]
    have := Nat.mod_lt (T i) (show 0 < i by omega)
    omega
theorem kT_small {c : Nat} {T : Nat → Nat} {i : Nat} (hc : c ≤ 255) (hT : T i ≤ 255) (hi : i ≤ 100) : kT c T i < 16384 := by
  unfold kT
  split
  · omega
  · split
    · omega
    · have := Nat.mod_lt (T i) (show 0 < i by omega)
      omega
theorem loops_read {L : List (List UInt8)} {T : Nat → Nat} {m : Nat} (hg : Good L) (hl : (enc L).length ≤ 255) (hT : ∀ i, T i ≤ 255) (hm : m ≤ 100) : ∀ (i : Nat), i < m → ∀ nx,
    readR (enc L ++ ptrs (enc L).length T m) [] ((enc L).length + 2 * i) ((enc L).length + 2 * i) nx = if goodB T i then some (enc L, nx.getD ((enc L).length + 2 * i + 2)) else none := by
  intro i
  induction i using Nat.strongRecOn with
  | ind i ih =>
    intro him nx
    obtain ⟨e, he⟩ := ptrs_pre (enc L).length T him
    have hk := kT_small (c := (enc L).length) (T := T) (i := i) hl (hT i) (by omega)
    obtain ⟨t, ht⟩ : ∃ t, t = kT (enc L).length T i := ⟨_, rfl⟩
    rw [← ht] at hk he
    have hc1 : (UInt8.ofNat (192 + t / 256)).toNat = 192 + t / 256 := by rw [UInt8.toNat_ofNat']; omega
    have hc2 : (UInt8.ofNat (t % 256)).toNat = t % 256 := by rw [UInt8.toNat_ofNat']; omega
    have hto : (192 + t / 256 - 192) * 256 + t % 256 = t := by omega
    have hdrop : (enc L ++ ptrs (enc L).length T m).drop ((enc L).length + 2 * i) = UInt8.ofNat (192 + t / 256) :: UInt8.ofNat (t % 256) :: e := by
      rw [he, List.append_assoc, ← List.append_assoc, List.drop_left' (by rw [List.length_append, ptrs_len])]
      rfl
    have hep := enc_pos L
    by_cases h15 : T i % 16 = 15
    · have hgd : goodB T i = false := by
        rw [goodB]
        split
        · simp [h15]
        · simp [h15]
      rw [hgd, if_neg (by simp)]
      refine rd_fore hdrop (by omega) ?_
      rw [hc1, hc2, hto, ht]
      unfold kT
      rw [if_pos h15]; omega
    · have hlt := kT_lt (c := (enc L).length) (T := T) (i := i) hep h15
      rw [← ht] at hlt
      rw [rd_ptr (by simp) hdrop (by omega) (by rw [hc1, hc2, hto]; exact hlt), hc1, hc2, hto]
      by_cases h0 : i = 0
      · have hgd : goodB T i = true := by rw [goodB, dif_pos h0]; simp [h15]
        have ht0 : t = 0 := by rw [ht]; unfold kT; rw [if_neg h15, if_pos h0]
        rw [hgd, if_pos rfl, ht0]
        have := (put_reads false L [] noneK 0 hg hl (Nat.le_refl _) (fun r t h => by cases h)).2.1 0 (ptrs (enc L).length T m) [] (some (nx.getD ((enc L).length + 2 * i + 2))) (Nat.le_refl _) (by simpa using hl)
        rw [put_plain] at this
        simpa using this
      · have hj : T i % i < i := Nat.mod_lt _ (by omega)
        have htj : t = (enc L).length + 2 * (T i % i) := by rw [ht]; unfold kT; rw [if_neg h15, if_neg h0]
        have hgd : goodB T i = goodB T (T i % i) := by rw [goodB, dif_neg h0]; simp [h15]
        rw [hgd, htj, ih _ hj (by omega)]
        rfl
def atl (c m : Nat) : List Int := (List.range m).map fun i => ((c + 2 * i : Nat) : Int)
theorem atl_succ (c m : Nat) : atl c (m + 1) = atl c m ++ [((c + 2 * m : Nat) : Int)] := by simp [atl, List.range_succ]
theorem atl_at (c : Nat) {m j : Nat} (h : j < m) : (ints .i64 (atl c m))[j]? = some (.int .i64 ((c + 2 * j : Nat) : Int)) := by simp [ints, atl, h]
theorem int_info : (Try.prog.info? 3).map (fun i => (i.zero, i.size, i.bytes)) = some (some (.int .i64 0), 1, 8) := by kernel_rfl

theorem bool_info : (Try.prog.info? 4).map (fun i => (i.zero, i.size, i.bytes)) = some (some (.bool false), 1, 1) := by kernel_rfl
/-- the bytes that came in, as numbers -/
def Tz (zs : List Int) (i : Nat) : Nat := (zs.getD i 0).toNat
theorem Tz_at {W : World} {A : Option Addr} {n : Nat} {zs : List Int} (h : InInts .u8 W A n zs) {i : Nat} (hi : i < n) : ∃ b off, A = some ⟨b, off, none⟩ ∧ b < W.heap.size ∧ W.cell? ⟨b, off + i, none⟩ = some (.int .u8 (Tz zs i : Nat)) ∧ ∀ j, j < n → W.cell? ⟨b, off + j, none⟩ = some (.int .u8 (Tz zs j : Nat)) := by
  obtain ⟨hs, hw⟩ := h
  have hl : zs.length = n := by simpa [ints] using hs.len
  obtain ⟨b, off, e, hb, hc⟩ := hs.addr (by omega)
  have hall : ∀ j, j < n → W.cell? ⟨b, off + j, none⟩ = some (.int .u8 (Tz zs j : Nat)) := by
    intro j hj
    have hjl : j < zs.length := by omega
    have h1 := hc j (.int .u8 zs[j]) (by simp [ints, hjl])
    have h2 := hw _ (List.getElem_mem hjl)
    have h3 : IntKind.u8.min ≤ zs[j] ∧ zs[j] ≤ IntKind.u8.max := by simpa [Lit.wf] using h2
    have e1 : IntKind.u8.min = 0 := by decide
    have e2 : IntKind.u8.max = 255 := by decide
    have e3 : ((Tz zs j : Nat) : Int) = zs[j] := by
      unfold Tz
      simp only [List.getD, List.getElem?_eq_getElem hjl, Option.getD_some]
      omega
    rw [h1, e3]
  exact ⟨b, off, e, hb, hall i hi, hall⟩
theorem Tz_le {W : World} {A : Option Addr} {n : Nat} {zs : List Int} (h : InInts .u8 W A n zs) : ∀ i, Tz zs i ≤ 255 := by
  intro i
  unfold Tz
  cases hz : zs[i]? with
  | none => simp [List.getD, hz]
  | some z =>
    have h2 := h.2 z (List.mem_of_getElem? hz)
    have h3 : IntKind.u8.min ≤ z ∧ z ≤ IntKind.u8.max := by simpa [Lit.wf] using h2
    have e2 : IntKind.u8.max = 255 := by decide
    simp only [List.getD, hz, Option.getD_some]
    omega
/-- where the first loop stands -/
def LoopAt (w : World) (L : List (List UInt8)) (T : Nat → Nat) (i : Nat) (bV atV : Value) (wr : World) : Prop :=
  ∃ A c, bV = .string (mk (enc L ++ ptrs (enc L).length T i)) ∧ atV = .slice A i c ∧ wr.ownsRow w.heap.size 3 1 atV i (ints .i64 (atl (enc L).length i)) ∧ Below w.heap.size w wr

def gl (T : Nat → Nat) (k j : Nat) : List Value := (List.range k).map fun i => Value.bool (if i < j then goodB T i else false)
theorem gl_zero (T : Nat → Nat) (k : Nat) : gl T k 0 = List.replicate k (.bool false) := by
  unfold gl
  apply List.ext_getElem?
  intro i
  by_cases h : i < k <;> simp [h]
theorem gl_at {T : Nat → Nat} {k j i : Nat} (h : i < k) : (gl T k j)[i]? = some (.bool (if i < j then goodB T i else false)) := by simp [gl, h]
theorem gl_set {T : Nat → Nat} {k j : Nat} (h : j < k) {b : Bool} (hb : b = goodB T j) : (gl T k j).set j (.bool b) = gl T k (j + 1) := by
  apply List.ext_getElem?
  intro i
  rw [List.getElem?_set]
  by_cases h1 : j = i
  · subst h1
    rw [if_pos rfl, if_pos (by simpa [gl] using h), gl_at h, if_pos (by omega), hb]
  · rw [if_neg h1]
    by_cases h2 : i < k
    · rw [gl_at h2, gl_at h2]
      by_cases h3 : i < j
      · rw [if_pos h3, if_pos (by omega)]
      · rw [if_neg h3, if_neg (by omega)]
    · have e1 : k ≤ i := by omega
      simp [gl, e1]
theorem good_bad {T : Nat → Nat} {j : Nat} (h : T j % 16 = 15) : goodB T j = false := by
  rw [goodB]
  split <;> simp [h]
theorem good_first {T : Nat → Nat} (h : T 0 % 16 ≠ 15) : goodB T 0 = true := by rw [goodB, dif_pos rfl]; simp [h]
theorem good_next {T : Nat → Nat} {j : Nat} (h : T j % 16 ≠ 15) (h0 : j ≠ 0) : goodB T j = goodB T (T j % j) := by rw [goodB, dif_neg h0]; simp [h]

set_option maxHeartbeats 16000000 in
set_option maxRecDepth 20000 in
theorem PackLoops_walk (S : ByteArray) (A : Option Addr) (n c : Nat) (zs : List Int) (w : World) (_hS : S.size ≤ maxLen) (hz : InInts .u8 w A n zs) :
    Calls Try.prog 7 #[.string S, .slice A n c] w fun e w' => e = .returned (.bool true) ∧ Below w.heap.size w w' := by
  obtain ⟨sn, hsn⟩ := mk_of S
  have HSN := Lib.hid hsn
  have HZ := Lib.hid hz
  clear hsn hz
  cases hN : nameL sn with
  | none =>
    have hno : (nameL sn).isSome = false := by rw [hN]; rfl
    clear hN
    go_enter Try.func7, Try.ntmps7
    go_wp2_with fail
    refine (awake_any _).mono ?_
    rintro e w1 ⟨rfl, hB1⟩
    go_wp2_with fail
    refine (RefRight_any S sn _ HSN.out).mono ?_
    rw [hno]
    rintro e w2 ⟨rfl, hB2⟩
    go_wp2_with fail
    refine (awake_any _).mono ?_
    rintro e w3 ⟨rfl, hB3⟩
    go_wp2_with fail
    go_ret
    exact ⟨rfl, (hB1.trans (hB2.mono hB1.size)).trans (hB3.mono (Nat.le_trans hB1.size hB2.size))⟩
  | some L =>
    have hok : (nameL sn).isSome = true := by rw [hN]; rfl
    obtain ⟨he, hg, hl255⟩ := nameL_is hN
    have HE := Lib.hid he
    have HG := Lib.hid hg
    clear hN he hg
    by_cases h100 : 100 < n
    · have g100 : (100 : Int) < (n : Int) := by omega
      go_enter Try.func7, Try.ntmps7
      go_wp2_with fail
      refine (awake_any _).mono ?_
      rintro e w1 ⟨rfl, hB1⟩
      go_wp2_with fail
      refine (RefRight_any S sn _ HSN.out).mono ?_
      rw [hok]
      rintro e w2 ⟨rfl, hB2⟩
      go_wp2_with fail
      refine (awake_any _).mono ?_
      rintro e w3 ⟨rfl, hB3⟩
      go_wp2_with fail
      go_ret
      exact ⟨rfl, (hB1.trans (hB2.mono hB1.size)).trans (hB3.mono (Nat.le_trans hB1.size hB2.size))⟩
    · have g100 : decide ((100 : Int) < (n : Int)) = false := by rw [decide_eq_false_iff_not]; omega
      go_enter Try.func7, Try.ntmps7
      go_wp2_with fail
      refine (awake_any _).mono ?_
      rintro e w1 ⟨rfl, hB1⟩
      go_wp2_with fail
      refine (RefRight_any S sn _ HSN.out).mono ?_
      rw [hok]
      rintro e w2 ⟨rfl, hB2⟩
      have HB2 := Lib.hid (hB1.trans (hB2.mono hB1.size))
      clear hB1 hB2
      have HT := Lib.hid (Tz_le HZ.out)
      have hn100 : n ≤ 100 := by omega
      obtain ⟨T, hTT⟩ : ∃ T, T = Tz zs := ⟨_, rfl⟩
      have HTT := Lib.hid hTT
      rw [← hTT] at HT
      clear hTT
      go_wp2_with fail
      go_loopw [5, 6, 7] (fun bV atV i wr => ∃ k : Nat, k ≤ n ∧ i = .int .i64 k ∧ LoopAt w L T k bV atV wr) (fun _ _ i _ => n - (intOf i).toNat)
      case atStart => exact ⟨0, Nat.zero_le _, rfl, none, 0, by rw [HSN.out, HE.out]; simp [ptrs], rfl, World.ownsRow_nil _ _ _ _, HB2.out⟩
      case round =>
        obtain ⟨k, hk, rfl, A3, c3, rfl, rfl, hrow, hB⟩ := hrel
        have HB := Lib.hid hB
        have HRW := Lib.hid hrow
        obtain ⟨A6, c6, he6, hse⟩ := Sees.own hrow
        injection he6 with he6 _ he7
        subst he6 he7
        obtain ⟨Y, hY⟩ : ∃ Y, Y = mk (enc L ++ ptrs (enc L).length T k) := ⟨_, rfl⟩
        rw [← hY]
        have hYz : Y.size = (enc L).length + 2 * k := by rw [hY, mk_size, List.length_append, ptrs_len]
        obtain ⟨cc, hcc⟩ : ∃ cc, cc = (enc L).length := ⟨_, rfl⟩
        have hcc255 : cc ≤ 255 := by rw [hcc, ← HE.out]; exact hl255
        have hcc1 : 1 ≤ cc := by rw [hcc]; exact enc_pos L
        rw [← hcc] at hYz
        obtain ⟨q, hq⟩ : ∃ q, q = cc + 2 * k := ⟨_, rfl⟩
        rw [← hq] at hYz
        have HY := Lib.hid hY
        have HCC := Lib.hid hcc
        have HQ := Lib.hid hq
        have hq455 : q ≤ 455 := by omega
        have HQ2 := Lib.hid (show (enc L).length + 2 * k = q from by rw [hq, hcc])
        clear hrow hB hY hcc hq
        by_cases hkn : k < n
        · have g1 : (k : Int) < (n : Int) := by omega
          obtain ⟨b2, off2, rfl, hb2, hc0, hcall⟩ := Tz_at HZ.out hkn
          rw [← HTT.out] at hc0
          have x0 := (HB.out.cell (p := ⟨b2, off2 + k, none⟩) hb2).trans hc0
          have htk := HT.out k
          obtain ⟨t, ht⟩ : ∃ t, t = T k := ⟨_, rfl⟩
          rw [← ht] at x0 htk
          have HTK := Lib.hid ht
          obtain ⟨i0, hi, hz0, hz1, hz2⟩ := info_parts int_info
          have H63 : Hid (k + 1 ≤ maxLen) := Lib.hid (by unfold maxLen; omega)
          have H47 : Hid ((k + 1) * 8 ≤ 140737488355328) := Lib.hid (by omega)
          clear hc0 hcall ht
          by_cases h0 : k = 0
          · have g0 : decide (0 < k) = false := by rw [decide_eq_false_iff_not]; omega
            by_cases h15 : t % 16 = 15
            · have g15 : ((t : Int) % 16 == 15) = true := by rw [beq_iff_eq]; omega
              obtain ⟨kk, hkv⟩ : ∃ kk, kk = q + t / 16 := ⟨_, rfl⟩
              have hkI : (q : Int) + (t : Int) / 16 = (kk : Int) := by omega
              have hkk : kk = kT (enc L).length T k := by unfold kT; rw [← HTK.out, if_pos h15, hkv, HQ.out, HCC.out]
              clear hkv
              have hkk16 : kk < 16384 := by omega
              have h0k : k + 1 ≤ n := by omega
              have H0 := Lib.hid h0
              clear h0
              have HKK := Lib.hid hkk
              clear hkk
              go_wp2_with (at_builtin; refine wpList_append_own _ rfl _ _ 42 rfl w.heap.size 3 i0 (.int .i64 0) 1 8 Try.underlying42 hi hz0 hz1 hz2 rfl (by decide) _ _ _ rfl (HRW.out.alloc _) ⟨wr.heap.size, 0, none⟩ 1 1 [.int .i64 (q : Nat)] rfl rfl (news1 _ _ _) (one1 _ rfl) H63.out H47.out (by have := HB.out.size; simp; omega) ?_; intro v2 w4 hown2 hgrow _; have HB4 := Lib.hid ((HB.out.alloc HB.out.size (.cells #[.int .i64 (q : Nat)] 3)).grown hgrow (by have := HB.out.size; simp; omega) (fun z hz => (HRW.out.lt z hz).1)); have hown3 : w4.ownsRow w.heap.size 3 1 v2 (k + 1) (ints .i64 (atl (enc L).length (k + 1))) := by { rw [atl_succ, HQ2.out]; simpa [ints] using hown2 }; obtain ⟨A4, c4, rfl, _⟩ := Sees.own hown3; have HOW := Lib.hid hown3; have hcv := two_str w4 kk hkk16; have hpz : (mk (ptrB kk)).size = 2 := mk_size _; clear hown2 hgrow hown3)
              go_roundw
              case rel =>
                refine ⟨k + 1, by omega, by go_num, _, _, ?_, rfl, own_below HOW.out ((Below.refl _ _).alloc (Nat.le_refl _) _), HB4.out.alloc HB4.out.size _⟩
                rw [HY.out, mk_append, List.append_assoc, HKK.out]
                rfl
              case measure => simp [intOf]; omega
            · have g15 : ((t : Int) % 16 == 15) = false := by rw [beq_eq_false_iff_ne]; omega
              have hkk : 0 = kT (enc L).length T k := by unfold kT; rw [← HTK.out, if_neg h15, if_pos h0]
              have h0k : k + 1 ≤ n := by omega
              have H0 := Lib.hid h0
              clear h0
              have HKK := Lib.hid hkk
              clear hkk
              go_wp2_with (at_builtin; refine wpList_append_own _ rfl _ _ 42 rfl w.heap.size 3 i0 (.int .i64 0) 1 8 Try.underlying42 hi hz0 hz1 hz2 rfl (by decide) _ _ _ rfl (HRW.out.alloc _) ⟨wr.heap.size, 0, none⟩ 1 1 [.int .i64 (q : Nat)] rfl rfl (news1 _ _ _) (one1 _ rfl) H63.out H47.out (by have := HB.out.size; simp; omega) ?_; intro v2 w4 hown2 hgrow _; have HB4 := Lib.hid ((HB.out.alloc HB.out.size (.cells #[.int .i64 (q : Nat)] 3)).grown hgrow (by have := HB.out.size; simp; omega) (fun z hz => (HRW.out.lt z hz).1)); have hown3 : w4.ownsRow w.heap.size 3 1 v2 (k + 1) (ints .i64 (atl (enc L).length (k + 1))) := by { rw [atl_succ, HQ2.out]; simpa [ints] using hown2 }; obtain ⟨A4, c4, rfl, _⟩ := Sees.own hown3; have HOW := Lib.hid hown3; have hcv : (convert 44 9 (.slice (some ⟨w4.heap.size, 0, none⟩) 2 2)).run Try.prog (w4.alloc (.cells #[.int .u8 192, .int .u8 0] 5)) = .ok (.string (mk (ptrB 0))) (w4.alloc (.cells #[.int .u8 192, .int .u8 0] 5)) := (by simpa using two_str w4 0 (by omega)); have hpz : (mk (ptrB 0)).size = 2 := mk_size _; clear hown2 hgrow hown3)
              go_roundw
              case rel =>
                refine ⟨k + 1, by omega, by go_num, _, _, ?_, rfl, own_below HOW.out ((Below.refl _ _).alloc (Nat.le_refl _) _), HB4.out.alloc HB4.out.size _⟩
                rw [HY.out, mk_append, List.append_assoc, HKK.out]
                rfl
              case measure => simp [intOf]; omega
          · have g0 : (0 : Int) < (k : Int) := by omega
            obtain ⟨j, hj⟩ : ∃ j, j = t % k := ⟨_, rfl⟩
            have hjk : j < k := by rw [hj]; exact Nat.mod_lt _ (by omega)
            have hm1 : (t : Int).tmod (k : Int) = (j : Int) := by rw [Int.tmod_eq_emod_of_nonneg (by omega)]; omega
            have hm2 : (t : Int) % (k : Int) = (j : Int) := by omega
            have hk0 : ((k : Int) == 0) = false := by rw [beq_eq_false_iff_ne]; omega
            obtain ⟨b3, off3, rfl, hb3, hc3⟩ := hse.addr (by omega)
            obtain ⟨aj, haj⟩ : ∃ aj, aj = cc + 2 * j := ⟨_, rfl⟩
            have y0 : wr.cell? ⟨b3, off3 + j, none⟩ = some (.int .i64 (aj : Nat)) := by rw [haj, HCC.out]; exact hc3 _ _ (atl_at _ hjk)
            have haj455 : aj ≤ 455 := by omega
            have HJ := Lib.hid hj
            have HAJ := Lib.hid haj
            have hjI : (j : Int) < (k : Int) := by omega
            clear hse hc3 hj haj
            by_cases h15 : t % 16 = 15
            · have g15 : ((t : Int) % 16 == 15) = true := by rw [beq_iff_eq]; omega
              obtain ⟨kk, hkv⟩ : ∃ kk, kk = q + t / 16 := ⟨_, rfl⟩
              have hkI : (q : Int) + (t : Int) / 16 = (kk : Int) := by omega
              have hkk : kk = kT (enc L).length T k := by unfold kT; rw [← HTK.out, if_pos h15, hkv, HQ.out, HCC.out]
              clear hkv
              have hkk16 : kk < 16384 := by omega
              have HKK := Lib.hid hkk
              clear hkk
              go_wp2_with (at_builtin; refine wpList_append_own _ rfl _ _ 42 rfl w.heap.size 3 i0 (.int .i64 0) 1 8 Try.underlying42 hi hz0 hz1 hz2 rfl (by decide) _ _ _ rfl (HRW.out.alloc _) ⟨wr.heap.size, 0, none⟩ 1 1 [.int .i64 (q : Nat)] rfl rfl (news1 _ _ _) (one1 _ rfl) H63.out H47.out (by have := HB.out.size; simp; omega) ?_; intro v2 w4 hown2 hgrow _; have HB4 := Lib.hid ((HB.out.alloc HB.out.size (.cells #[.int .i64 (q : Nat)] 3)).grown hgrow (by have := HB.out.size; simp; omega) (fun z hz => (HRW.out.lt z hz).1)); have hown3 : w4.ownsRow w.heap.size 3 1 v2 (k + 1) (ints .i64 (atl (enc L).length (k + 1))) := by { rw [atl_succ, HQ2.out]; simpa [ints] using hown2 }; obtain ⟨A4, c4, rfl, _⟩ := Sees.own hown3; have HOW := Lib.hid hown3; have hcv := two_str w4 kk hkk16; have hpz : (mk (ptrB kk)).size = 2 := mk_size _; clear hown2 hgrow hown3)
              go_roundw
              case rel =>
                refine ⟨k + 1, by omega, by go_num, _, _, ?_, rfl, own_below HOW.out ((Below.refl _ _).alloc (Nat.le_refl _) _), HB4.out.alloc HB4.out.size _⟩
                rw [HY.out, mk_append, List.append_assoc, HKK.out]
                rfl
              case measure => simp [intOf]; omega
            · have g15 : ((t : Int) % 16 == 15) = false := by rw [beq_eq_false_iff_ne]; omega
              obtain ⟨kk, hkv⟩ : ∃ kk : Nat, kk = aj := ⟨_, rfl⟩
              have hkk : kk = kT (enc L).length T k := by unfold kT; rw [← HTK.out, if_neg h15, if_neg h0, hkv, HAJ.out, HJ.out, HCC.out]
              subst hkv
              have hkk16 : kk < 16384 := by omega
              have HKK := Lib.hid hkk
              clear hkk
              go_wp2_with (at_builtin; refine wpList_append_own _ rfl _ _ 42 rfl w.heap.size 3 i0 (.int .i64 0) 1 8 Try.underlying42 hi hz0 hz1 hz2 rfl (by decide) _ _ _ rfl (HRW.out.alloc _) ⟨wr.heap.size, 0, none⟩ 1 1 [.int .i64 (q : Nat)] rfl rfl (news1 _ _ _) (one1 _ rfl) H63.out H47.out (by have := HB.out.size; simp; omega) ?_; intro v2 w4 hown2 hgrow _; have HB4 := Lib.hid ((HB.out.alloc HB.out.size (.cells #[.int .i64 (q : Nat)] 3)).grown hgrow (by have := HB.out.size; simp; omega) (fun z hz => (HRW.out.lt z hz).1)); have hown3 : w4.ownsRow w.heap.size 3 1 v2 (k + 1) (ints .i64 (atl (enc L).length (k + 1))) := by { rw [atl_succ, HQ2.out]; simpa [ints] using hown2 }; obtain ⟨A4, c4, rfl, _⟩ := Sees.own hown3; have HOW := Lib.hid hown3; have hcv := two_str w4 kk hkk16; have hpz : (mk (ptrB kk)).size = 2 := mk_size _; clear hown2 hgrow hown3)
              go_roundw
              case rel =>
                refine ⟨k + 1, by omega, by go_num, _, _, ?_, rfl, own_below HOW.out ((Below.refl _ _).alloc (Nat.le_refl _) _), HB4.out.alloc HB4.out.size _⟩
                rw [HY.out, mk_append, List.append_assoc, HKK.out]
                rfl
              case measure => simp [intOf]; omega
        · obtain rfl : k = n := by omega
          have HMY := Lib.hid (show Y = mk (enc L ++ ptrs (enc L).length T k) from HY.out)
          obtain ⟨j0, hj, hjz0, hjz1, hjz2⟩ := info_parts bool_info
          go_wp2_with (first | (at_next; fail) | (refine wpList_make_full _ rfl _ _ _ rfl w.heap.size 4 j0 (.bool false) 1 Try.underlying45 hj hjz0 hjz1 .i64 .i64 (k : Int) (k : Int) k rfl rfl rfl rfl (by rw [hjz2]; omega) (by unfold maxLen; omega) HB.out.size ?_; intro w3 hown3 hgrow3; have HG3 := Lib.hid hown3; have HGR := Lib.hid hgrow3; clear hown3 hgrow3))
          rw [show (madeCells (Value.bool false).cells (k * 1)).toList = gl T k 0 from by rw [Nat.mul_one, gl_zero]; exact toList_madeCells_one _ _] at HG3
          have hgr := HGR.out
          have hBel : Below wr.heap.size wr w3 := ⟨hgr.os, hgr.tape, hgr.output, hgr.size, fun i hi => hgr.block i hi (by simp)⟩
          have HB3 := Lib.hid (HB.out.trans (hBel.mono HB.out.size))
          clear hBel
          have HRW3 := Lib.hid (HRW.out.kept hgr (by cases (Value.slice A3 k c3).ownBlock <;> simp))
          have hne0 : (Value.slice A3 k c3).ownBlock ≠ some wr.heap.size := by
            intro e
            have := (HRW.out.lt _ e).2
            omega
          have hgB : w.heap.size ≤ wr.heap.size := HB.out.size
          obtain ⟨M, hMd⟩ : ∃ M, M = enc L ++ ptrs (enc L).length T k := ⟨_, rfl⟩
          rw [← hMd] at HMY
          have hMl : M.length = q := by rw [hMd, List.length_append, ptrs_len, HQ2.out]
          have hrd : ∀ j, j < k → readR M [] (cc + 2 * j) (cc + 2 * j) none = if goodB T j then some (enc L, cc + 2 * j + 2) else none := by
            intro j hj
            have hsl : (enc L).length ≤ 255 := by rw [← HCC.out]; exact hcc255
            have := loops_read (T := T) (m := k) HG.out hsl HT.out hn100 j hj none
            rw [hMd, HCC.out]
            exact this
          have HRDD := Lib.hid hrd
          have heqS : ((mk (enc L)).toList == S.toList) = true := by rw [HSN.out, mk_beq, HE.out]; simp
          clear hgr hMd hrd hse
          obtain ⟨g, hgd⟩ : ∃ g, g = wr.heap.size := ⟨_, rfl⟩
          rw [← hgd] at hne0 hgB HG3 ⊢
          clear hgd
          go_wp2_with fail
          go_loopw [10] (fun i wq => ∃ j : Nat, j ≤ k ∧ i = .int .i64 j ∧ wq.ownsRow w.heap.size 3 1 (.slice A3 k c3) k (ints .i64 (atl (enc L).length k)) ∧ wq.ownsRow w.heap.size 4 1 (.slice (some ⟨g, 0, none⟩) k k) k (gl T k j) ∧ Below w.heap.size w wq) (fun i _ => k - (intOf i).toNat)
          case atStart => exact ⟨0, Nat.zero_le _, rfl, HRW3.out, HG3.out, HB3.out⟩
          case round =>
            obtain ⟨j, hj, rfl, hrq, hgq0, hbq⟩ := hrel
            have HRQ := Lib.hid hrq
            have HGD := Lib.hid hgq0
            have HBQ := Lib.hid hbq
            clear hbq
            by_cases hjk : j < k
            · have g1 : (j : Int) < (k : Int) := by omega
              obtain ⟨b2, off2, rfl, hb2, _, hcall⟩ := Tz_at HZ.out hjk
              have x0 := (HBQ.out.cell (p := ⟨b2, off2 + j, none⟩) hb2).trans (hcall j hjk)
              rw [← HTT.out] at x0
              have htk := HT.out j
              obtain ⟨t, ht⟩ : ∃ t, t = T j := ⟨_, rfl⟩
              rw [← ht] at x0 htk
              have HTK := Lib.hid ht
              have hgcell := hgq0.cellAt j (by omega)
              rw [gl_at hjk, if_neg (by omega)] at hgcell
              have hgfr := hgq0.frozenAt j
              have hgq : g < wr.heap.size := World.block_lt_of_cell? wr _ hgcell
              obtain ⟨A6, c6, he6, hse⟩ := Sees.own hrq
              injection he6 with he6 _ he7
              subst he6 he7
              obtain ⟨b3, off3, rfl, hb3, hc3⟩ := hse.addr (by omega)
              obtain ⟨aj, haj⟩ : ∃ aj, aj = cc + 2 * j := ⟨_, rfl⟩
              have y0 : wr.cell? ⟨b3, off3 + j, none⟩ = some (.int .i64 (aj : Nat)) := by rw [haj, HCC.out]; exact hc3 _ _ (atl_at _ hjk)
              have hoff : off3 = 0 := by
                rcases hrq.2 with ⟨h', _⟩ | ⟨g', cap', cur', h', _⟩
                · cases h'
                · injection h' with h' _ _; injection h' with h'; injection h' with _ h' _
              have hb3g : b3 ≠ g := by
                intro e
                apply hne0
                rw [e]; rfl
              have hne : (Value.slice (some ⟨b3, off3, none⟩) k c3).ownBlock ≠ some g := hne0
              have hajM : aj ≤ M.length := by have := HQ.out; omega
              have HRD := Lib.hid (HRDD.out j hjk)
              rw [← haj] at HRD
              clear hse hc3 hrq hoff ht haj
              by_cases h15 : t % 16 = 15
              · have g15 : ((t : Int) % 16 == 15) = true := by rw [beq_iff_eq]; omega
                have HGV := Lib.hid (show goodB T j = false from good_bad (by rw [← HTK.out]; exact h15))
                clear hcall hgq0
                have hst := HGD.out.stored j (.bool false)
                rw [gl_set hjk (show false = goodB T j from HGV.out.symm)] at hst
                have hGS := hst.1
                have hRS := HRQ.out.kept hst.2 (.inr hne)
                have hBS : Below w.heap.size w (wr.setCell ⟨g, j, none⟩ (.bool false)) := HBQ.out.setCell (p := ⟨g, j, none⟩) hgB _
                have y0S : (wr.setCell ⟨g, j, none⟩ (.bool false)).cell? ⟨b3, off3 + j, none⟩ = some (.int .i64 (aj : Nat)) := (World.cell?_setCell_other (w := wr) (a := ⟨g, j, none⟩) (b := ⟨b3, off3 + j, none⟩) (v := .bool false) (by intro e; injection e with e; exact hb3g e.symm)).trans y0
                have hb3S : b3 < (wr.setCell ⟨g, j, none⟩ (.bool false)).heap.size := by rw [size_put]; exact hb3
                have hgS : g < (wr.setCell ⟨g, j, none⟩ (.bool false)).heap.size := by rw [size_put]; exact hgq
                have z0S : (wr.setCell ⟨g, j, none⟩ (.bool false)).cell? ⟨g, j, none⟩ = some (.bool false) := by rw [hGS.cellAt j (by omega), gl_at hjk, if_pos (by omega), HGV.out]
                have HGS := Lib.hid hGS
                have HRS := Lib.hid hRS
                have HBS := Lib.hid hBS
                clear hst hGS hRS hBS
                go_wp2_with fail
                refine (Read_in Y M aj _ HMY.out (by omega) hajM).mono ?_
                rw [HRD.out, HGV.out]
                rw [if_neg (by simp)]
                unfold readV
                rintro e w7 ⟨rfl, hB7⟩
                have y7 := (hB7.cell (p := ⟨b3, off3 + j, none⟩) hb3S).trans y0S
                have z7 := (hB7.cell (p := ⟨g, j, none⟩) hgS).trans z0S
                have HG7 := Lib.hid (own_below HGS.out hB7)
                have HR7 := Lib.hid (own_below HRS.out hB7)
                have HB7 := Lib.hid (HBS.out.trans (hB7.mono HBS.out.size))
                have hem : (mk ([] : List UInt8)).toList.isEmpty = true := by rw [ByteArray.toList_eq]; rfl
                clear hB7 y0S z0S
                go_wp2_with fail
                go_roundw
                case rel => exact ⟨j + 1, by omega, by go_num, HR7.out, HG7.out, HB7.out⟩
                case measure => simp [intOf]; omega
              · have g15 : ((t : Int) % 16 == 15) = false := by rw [beq_eq_false_iff_ne]; omega
                have g15b : ((t : Int) % 16 != 15) = true := by rw [bne_iff_ne]; omega
                by_cases h0 : j = 0
                · subst h0
                  have HGV := Lib.hid (show goodB T 0 = true from good_first (by rw [← HTK.out]; exact h15))
                  simp only [Nat.add_zero] at x0 y0
                  clear hcall hgq0
                  have hst := HGD.out.stored 0 (.bool true)
                  rw [gl_set hjk (show true = goodB T 0 from HGV.out.symm)] at hst
                  have hGS := hst.1
                  have hRS := HRQ.out.kept hst.2 (.inr hne)
                  have hBS : Below w.heap.size w (wr.setCell ⟨g, 0, none⟩ (.bool true)) := HBQ.out.setCell (p := ⟨g, 0, none⟩) hgB _
                  have y0S : (wr.setCell ⟨g, 0, none⟩ (.bool true)).cell? ⟨b3, off3, none⟩ = some (.int .i64 (aj : Nat)) := (World.cell?_setCell_other (w := wr) (a := ⟨g, 0, none⟩) (b := ⟨b3, off3, none⟩) (v := .bool true) (by intro e; injection e with e; exact hb3g e.symm)).trans y0
                  have hb3S : b3 < (wr.setCell ⟨g, 0, none⟩ (.bool true)).heap.size := by rw [size_put]; exact hb3
                  have hgS : g < (wr.setCell ⟨g, 0, none⟩ (.bool true)).heap.size := by rw [size_put]; exact hgq
                  have z0S : (wr.setCell ⟨g, 0, none⟩ (.bool true)).cell? ⟨g, 0, none⟩ = some (.bool true) := by rw [hGS.cellAt 0 (by omega), gl_at hjk, if_pos (by omega), HGV.out]
                  have HGS := Lib.hid hGS
                  have HRS := Lib.hid hRS
                  have HBS := Lib.hid hBS
                  clear hst hGS hRS hBS
                  go_wp2_with fail
                  refine (Read_in Y M aj _ HMY.out (by omega) hajM).mono ?_
                  rw [HRD.out, HGV.out]
                  rw [if_pos rfl]
                  unfold readV
                  rintro e w7 ⟨rfl, hB7⟩
                  have y7 := (hB7.cell (p := ⟨b3, off3, none⟩) hb3S).trans y0S
                  have z7 := (hB7.cell (p := ⟨g, 0, none⟩) hgS).trans z0S
                  have HG7 := Lib.hid (own_below HGS.out hB7)
                  have HR7 := Lib.hid (own_below HRS.out hB7)
                  have HB7 := Lib.hid (HBS.out.trans (hB7.mono HBS.out.size))
                  have hem : (mk ([] : List UInt8)).toList.isEmpty = true := by rw [ByteArray.toList_eq]; rfl
                  clear hB7 y0S z0S
                  go_wp2_with fail
                  go_roundw
                  case rel => exact ⟨0 + 1, by omega, by go_num, HR7.out, HG7.out, HB7.out⟩
                  case measure => simp [intOf]; omega
                · have g0 : (0 : Int) < (j : Int) := by omega
                  have hk0 : ((j : Int) == 0) = false := by rw [beq_eq_false_iff_ne]; omega
                  obtain ⟨jj, hjj⟩ : ∃ jj, jj = t % j := ⟨_, rfl⟩
                  have hjjk : jj < j := by rw [hjj]; exact Nat.mod_lt _ (by omega)
                  have hm1 : (t : Int).tmod (j : Int) = (jj : Int) := by rw [Int.tmod_eq_emod_of_nonneg (by omega)]; omega
                  have hm2 : (t : Int) % (j : Int) = (jj : Int) := by omega
                  have hjI : (jj : Int) < (k : Int) := by omega
                  have q1 := hgq0.cellAt jj (by omega)
                  rw [gl_at (show jj < k by omega), if_pos hjjk] at q1
                  have hgn : goodB T j = goodB T jj := by rw [good_next (by rw [← HTK.out]; exact h15) h0, ← HTK.out, ← hjj]
                  have HGN := Lib.hid hgn
                  clear hcall hgq0 hjj hgn
                  cases hgv : goodB T jj
                  · rw [hgv] at q1
                    have HGV := Lib.hid (HGN.out.trans hgv)
                    clear hgv
                    have hst := HGD.out.stored j (.bool false)
                    rw [gl_set hjk (show false = goodB T j from HGV.out.symm)] at hst
                    have hGS := hst.1
                    have hRS := HRQ.out.kept hst.2 (.inr hne)
                    have hBS : Below w.heap.size w (wr.setCell ⟨g, j, none⟩ (.bool false)) := HBQ.out.setCell (p := ⟨g, j, none⟩) hgB _
                    have y0S : (wr.setCell ⟨g, j, none⟩ (.bool false)).cell? ⟨b3, off3 + j, none⟩ = some (.int .i64 (aj : Nat)) := (World.cell?_setCell_other (w := wr) (a := ⟨g, j, none⟩) (b := ⟨b3, off3 + j, none⟩) (v := .bool false) (by intro e; injection e with e; exact hb3g e.symm)).trans y0
                    have hb3S : b3 < (wr.setCell ⟨g, j, none⟩ (.bool false)).heap.size := by rw [size_put]; exact hb3
                    have hgS : g < (wr.setCell ⟨g, j, none⟩ (.bool false)).heap.size := by rw [size_put]; exact hgq
                    have z0S : (wr.setCell ⟨g, j, none⟩ (.bool false)).cell? ⟨g, j, none⟩ = some (.bool false) := by rw [hGS.cellAt j (by omega), gl_at hjk, if_pos (by omega), HGV.out]
                    have HGS := Lib.hid hGS
                    have HRS := Lib.hid hRS
                    have HBS := Lib.hid hBS
                    clear hst hGS hRS hBS
                    go_wp2_with fail
                    refine (Read_in Y M aj _ HMY.out (by omega) hajM).mono ?_
                    rw [HRD.out, HGV.out]
                    rw [if_neg (by simp)]
                    unfold readV
                    rintro e w7 ⟨rfl, hB7⟩
                    have y7 := (hB7.cell (p := ⟨b3, off3 + j, none⟩) hb3S).trans y0S
                    have z7 := (hB7.cell (p := ⟨g, j, none⟩) hgS).trans z0S
                    have HG7 := Lib.hid (own_below HGS.out hB7)
                    have HR7 := Lib.hid (own_below HRS.out hB7)
                    have HB7 := Lib.hid (HBS.out.trans (hB7.mono HBS.out.size))
                    have hem : (mk ([] : List UInt8)).toList.isEmpty = true := by rw [ByteArray.toList_eq]; rfl
                    clear hB7 y0S z0S
                    go_wp2_with fail
                    go_roundw
                    case rel => exact ⟨j + 1, by omega, by go_num, HR7.out, HG7.out, HB7.out⟩
                    case measure => simp [intOf]; omega
                  · rw [hgv] at q1
                    have HGV := Lib.hid (HGN.out.trans hgv)
                    clear hgv
                    have hst := HGD.out.stored j (.bool true)
                    rw [gl_set hjk (show true = goodB T j from HGV.out.symm)] at hst
                    have hGS := hst.1
                    have hRS := HRQ.out.kept hst.2 (.inr hne)
                    have hBS : Below w.heap.size w (wr.setCell ⟨g, j, none⟩ (.bool true)) := HBQ.out.setCell (p := ⟨g, j, none⟩) hgB _
                    have y0S : (wr.setCell ⟨g, j, none⟩ (.bool true)).cell? ⟨b3, off3 + j, none⟩ = some (.int .i64 (aj : Nat)) := (World.cell?_setCell_other (w := wr) (a := ⟨g, j, none⟩) (b := ⟨b3, off3 + j, none⟩) (v := .bool true) (by intro e; injection e with e; exact hb3g e.symm)).trans y0
                    have hb3S : b3 < (wr.setCell ⟨g, j, none⟩ (.bool true)).heap.size := by rw [size_put]; exact hb3
                    have hgS : g < (wr.setCell ⟨g, j, none⟩ (.bool true)).heap.size := by rw [size_put]; exact hgq
                    have z0S : (wr.setCell ⟨g, j, none⟩ (.bool true)).cell? ⟨g, j, none⟩ = some (.bool true) := by rw [hGS.cellAt j (by omega), gl_at hjk, if_pos (by omega), HGV.out]
                    have HGS := Lib.hid hGS
                    have HRS := Lib.hid hRS
                    have HBS := Lib.hid hBS
                    clear hst hGS hRS hBS
                    go_wp2_with fail
                    refine (Read_in Y M aj _ HMY.out (by omega) hajM).mono ?_
                    rw [HRD.out, HGV.out]
                    rw [if_pos rfl]
                    unfold readV
                    rintro e w7 ⟨rfl, hB7⟩
                    have y7 := (hB7.cell (p := ⟨b3, off3 + j, none⟩) hb3S).trans y0S
                    have z7 := (hB7.cell (p := ⟨g, j, none⟩) hgS).trans z0S
                    have HG7 := Lib.hid (own_below HGS.out hB7)
                    have HR7 := Lib.hid (own_below HRS.out hB7)
                    have HB7 := Lib.hid (HBS.out.trans (hB7.mono HBS.out.size))
                    have hem : (mk ([] : List UInt8)).toList.isEmpty = true := by rw [ByteArray.toList_eq]; rfl
                    clear hB7 y0S z0S
                    go_wp2_with fail
                    go_roundw
                    case rel => exact ⟨j + 1, by omega, by go_num, HR7.out, HG7.out, HB7.out⟩
                    case measure => simp [intOf]; omega
            · obtain rfl : j = k := by omega
              clear hrq hgq0
              go_wp2_with fail
              go_ret
              exact ⟨rfl, HBQ.out⟩
end Go.Proofs.Ytimakddeokgfcaa
