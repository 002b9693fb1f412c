/- RrsetTurns. No statement of the seat is proved here. (written by gen_y.py) -/
import Derived.Test.YtkgojdmjagicdaaGreatRsR
namespace Go.Proofs.YtkgojdmjagicdaaGreat
open Go.RowKit Go.Op

theorem SetL.srt {l : List Rrd} (h : SetL cX l) : Srt cX l := by
  refine List.Pairwise.imp ?_ h
  intro a b e
  have := cX_flip a b
  omega
theorem lastX_set : ∀ {l : List Rrd}, SetL cX l → lastX l = l
  | [], _ => rfl
  | [x], _ => rfl
  | x :: y :: l, h => by
    obtain ⟨h1, h2⟩ := List.pairwise_cons.1 h
    have e := h1 y (by simp)
    rw [lastX, if_neg (by omega), lastX_set h2]
theorem ofC_self {l : List Rrd} (h : SetL cX l) : ofC l = l := by
  rw [← lastX_of h.srt (St.refl l), lastX_set h]
theorem ofC_turn {l : List Rrd} (h : SetL cX l) (k : Nat) : ofC (l.drop k ++ l.take k) = l := by
  have h0 : SetL cX (l.take k ++ l.drop k) := by rw [List.take_append_drop]; exact h
  have h1 : St cX (l.drop k ++ l.take k) l := by
    have := St.swap cX_ord (A := l.drop k) (B := l.take k) (fun x hx y hy => by
      have e := (List.pairwise_append.1 h0).2.2 y hy x hx
      have := cX_flip x y
      omega)
    rwa [List.take_append_drop] at this
  rw [← lastX_of h.srt h1, lastX_set h]
theorem inX_sub {a b : List Rrd} (h : ∀ x ∈ a, x ∈ b) : inX a b = true := inX_is.2 fun x hx => ⟨x, h x hx, cY_ord.self x⟩
theorem turn_mem {l : List Rrd} {k : Nat} {x : Rrd} : x ∈ l.drop k ++ l.take k ↔ x ∈ l := by
  have e : l.take k ++ l.drop k = l := List.take_append_drop k l
  conv => rhs; rw [← e]
  rw [List.mem_append, List.mem_append]
  exact Or.comm
theorem turn_at {l : List Rrd} {m v i : Nat} {x : Rrd} (hm : l.length = m) (hi : i < m) (hx : l[(i + v) % m]? = some x) : (l.drop (v % m) ++ l.take (v % m))[i]? = some x := by
  have hk : v % m < m := Nat.mod_lt _ (by omega)
  have e0 : (i + v) % m = (i + v % m) % m := by rw [Nat.add_mod, Nat.mod_eq_of_lt hi]
  rw [e0] at hx
  generalize v % m = k at hk hx ⊢
  by_cases h : i < m - k
  · rw [List.getElem?_append_left (by rw [List.length_drop, hm]; exact h), List.getElem?_drop, ← hx]
    congr 1
    rw [Nat.mod_eq_of_lt (by omega)]
    omega
  · rw [List.getElem?_append_right (by rw [List.length_drop, hm]; omega), List.length_drop, hm, List.getElem?_take, if_pos (by omega), ← hx]
    congr 1
    rw [Nat.mod_eq_sub_mod (by omega), Nat.mod_eq_of_lt (by omega)]
    omega
theorem u8_is {a : Int} (h : (Lit.int .u8 a).wf = true) : ∃ v : Nat, a = (v : Int) ∧ v < 256 := by
  have h2 : 0 ≤ a ∧ a ≤ 255 := by simpa [Lit.wf, IntKind.min, IntKind.max, IntKind.bits, IntKind.signed] using h
  exact ⟨a.toNat, by omega, by omega⟩
set_option maxHeartbeats 16000000 in
set_option maxRecDepth 20000 in
theorem RrsetTurns_walk (A : Option Addr) (n c : Nat) (xs : List Rrd) (by0 : Int) (w : World) (hx : SeesR w w.heap.size A n xs) (_hcap : InCap A n c) (h63 : n ≤ 9223372036854775807) (hby : (Lit.int .u8 by0).wf = true) :
    Calls Tryz.prog 4 #[.slice A n c, .int .u8 by0] w fun e w' => e = .returned (.bool true) ∧ Below w.heap.size w w' := by
  obtain ⟨v, rfl, hv⟩ := u8_is hby
  have HX0 := Lib.hid hx
  have HLX := Lib.hid hx.1
  have HB0 := Lib.hid (Below.refl w.heap.size w)
  clear hx hby
  have q1 : IntKind.i64.wrap (v : Int) = (v : Int) := by rw [IntKind.wrap_i64]; omega
  cases hr1 : rightsX xs with
  | false =>
    have HR1 := Lib.hid hr1
    clear hr1
    go_enter Tryz.func4, Tryz.ntmps4
    go_wp2_with fail
    refine (awake_any _).mono ?_
    rintro e w1 ⟨rfl, hB⟩
    have HB1 := Lib.hid (HB0.out.trans (hB.mono HB0.out.size))
    have HX1 := Lib.hid ((HX0.out.keep HB1.out).more HB1.out.size)
    clear hB
    go_wp2_with fail
    refine (Rights_any A n c xs _ HX1.out h63).mono ?_
    rw [HR1.out]
    rintro e w2 ⟨rfl, hB⟩
    have HB2 := Lib.hid (HB1.out.trans (hB.mono HB1.out.size))
    clear hB
    go_wp2_with fail
    refine (awake_any _).mono ?_
    rintro e w3 ⟨rfl, hB⟩
    have HB3 := Lib.hid (HB2.out.trans (hB.mono HB2.out.size))
    clear hB
    go_wp2_with fail
    go_ret
    exact ⟨rfl, HB3.out⟩
  | true =>
    obtain ⟨hok, h30⟩ := rightsX_is hr1
    have hn30 : n ≤ 30 := by have := HLX.out; omega
    have HOX := Lib.hid hok
    have HR1 := Lib.hid hr1
    obtain ⟨S, hS⟩ : ∃ S, S = ofC xs := ⟨_, rfl⟩
    have HSX := Lib.hid hS
    have HSS := Lib.hid (show SetL cX S by rw [hS]; exact ofC_set xs)
    have HOS := Lib.hid (show OkL S by rw [hS]; exact OkL.ofC hok)
    clear hr1 hok h30 hS
    go_enter Tryz.func4, Tryz.ntmps4
    go_wp2_with fail
    refine (awake_any _).mono ?_
    rintro e w1 ⟨rfl, hB⟩
    have HB1 := Lib.hid (HB0.out.trans (hB.mono HB0.out.size))
    have HX1 := Lib.hid ((HX0.out.keep HB1.out).more HB1.out.size)
    clear hB
    go_wp2_with fail
    refine (Rights_any A n c xs _ HX1.out h63).mono ?_
    rw [HR1.out]
    rintro e w2 ⟨rfl, hB⟩
    have HB2 := Lib.hid (HB1.out.trans (hB.mono HB1.out.size))
    have HX2 := Lib.hid ((HX0.out.keep HB2.out).more HB2.out.size)
    clear hB
    go_wp2_with fail
    refine (Of_sees A n c xs _ HX2.out HOX.out (by omega)).mono ?_
    rw [← HSX.out]
    rintro e w3 ⟨A1, m, c1, rfl, hm, hs, hB⟩
    have HB3 := Lib.hid (HB2.out.trans (hB.mono HB2.out.size))
    have HS3 := Lib.hid hs
    have HLS := Lib.hid hs.1
    clear hs
    clear hB
    obtain ⟨T, hT⟩ : ∃ T, T = S.drop (v % m) ++ S.take (v % m) := ⟨_, rfl⟩
    have HT := Lib.hid hT
    have HLT := Lib.hid (show T.length = m by rw [hT, List.length_append, List.length_drop, List.length_take, ← HLS.out]; omega)
    clear hT
    go_wp2_with fail
    go_loopw [6, 7] (fun s i wr => ∃ k : Nat, k ≤ m ∧ i = .int .i64 (k : Nat) ∧ wr.ownsRow w3.heap.size 28 5 s k (rcells (T.take k)) ∧ Below w3.heap.size w3 wr) (fun _ i _ => m - (intOf i).toNat)
    case atStart => exact ⟨0, Nat.zero_le _, rfl, own_nil _ _ _ _, Below.refl _ _⟩
    case round =>
      obtain ⟨k, hk, rfl, hO, hB⟩ := hrel
      have HO := Lib.hid hO
      have HB := Lib.hid hB
      clear hO hB
      by_cases hkm : k < m
      · have g2 : (k : Int) < (m : Int) := by omega
        have g0 : (0 : Int) ≤ (k : Int) := by omega
        have hjm : (k + v) % m < m := Nat.mod_lt _ (by omega)
        have g3 : ((k : Int) + (v : Int)) % (m : Int) < (m : Int) := Int.emod_lt_of_pos _ (by omega)
        have g4 : (0 : Int) ≤ ((k : Int) + (v : Int)) % (m : Int) := Int.emod_nonneg _ (by omega)
        obtain ⟨b, off, x, rfl, hb, hxk, ht⟩ := (HS3.out.keep HB.out).at hjm
        obtain ⟨x0, x1, x2, x3, x4⟩ := ht
        have HST := Lib.hid (show T.take (k + 1) = T.take k ++ [x] by
          rw [List.take_add_one, HT.out, turn_at HLS.out hkm hxk]; rfl)
        have HQ3 := Lib.hid (HO.out.alloc (.cells #[.string x.s, .int .i64 x.t, .int .i64 x.c, .int .i64 x.l, .string x.d] 28))
        have HD3 := Lib.hid (show Below w3.heap.size w3 (wr.alloc (.cells #[.string x.s, .int .i64 x.t, .int .i64 x.c, .int .i64 x.l, .string x.d] 28)) from HB.out.alloc HB.out.size _)
        have HA3 := Lib.hid (show w3.heap.size ≤ (wr.alloc (.cells #[.string x.s, .int .i64 x.t, .int .i64 x.c, .int .i64 x.l, .string x.d] 28)).heap.size from HD3.out.size)
        have HLE := Lib.hid (show k + 1 ≤ 1073741824 by omega)
        clear hxk
        go_wp2_with (at_builtin; (refine wpList_append_R rfl _ _ rfl w3.heap.size _ _ (T.take k) rfl HQ3.out (wr.heap.size + 1) _ _ _ _ rfl (SeesR.one _ x) HLE.out HA3.out ?_); intro v3 w4 ho hg; (have HO4 := Lib.hid (show w4.ownsRow w3.heap.size 28 5 v3 (k + 1) (rcells (T.take (k + 1))) by rw [HST.out]; exact ho)); (have HB4 := Lib.hid (HD3.out.grown hg HA3.out (own_block_ge HQ3.out))); clear ho hg x0 x1 x2 x3 x4)
        go_roundw
        case rel => exact ⟨k + 1, by omega, by go_num, HO4.out, HB4.out⟩
        case measure => simp [intOf]; omega
      · obtain rfl : k = m := by omega
        have g2 : ¬ ((k : Int) < (k : Int)) := by omega
        have hT1 : T.take k = T := List.take_of_length_le (by rw [HLT.out]; exact Nat.le_refl _)
        have hO := HO.out
        rw [hT1] at hO
        obtain ⟨A2, c2, ev, hs2, _⟩ := own_sees hO
        subst ev
        have HS4 := Lib.hid hs2
        have HB4 := Lib.hid (HB3.out.trans (HB.out.mono HB3.out.size))
        have HK4 := Lib.hid ((HS3.out.keep HB.out).more HB.out.size)
        have HOT := Lib.hid (show OkL T from fun x hx => HOS.out x (by rw [HT.out] at hx; exact turn_mem.1 hx))
        have HIS := Lib.hid (show setX S = true from (setX_is HOS.out).2 ((SetL_c HOS.out).2 HSS.out))
        have HO1 := Lib.hid (show ofC T = S by rw [HT.out]; exact ofC_turn HSS.out _)
        have HO2 := Lib.hid (show ofC S = S from ofC_self HSS.out)
        have HAL := Lib.hid (show (inX S T && inX T S) = true by
          rw [inX_sub (fun x hx => by rw [HT.out]; exact turn_mem.2 hx), inX_sub (fun x hx => by rw [HT.out] at hx; exact turn_mem.1 hx)]; rfl)
        have HSM := Lib.hid (show sameX S S = true from sameX_is.2 rfl)
        have g7 : (k : Int) ≤ (n : Int) := by omega
        clear hO hT1 hs2
        have HU4 := Lib.hid HS4.out
        go_wp2_with fail
        refine (Is_any A1 k c1 S _ HK4.out HOS.out (by omega)).mono ?_
        rw [HIS.out]
        rintro e w5 ⟨rfl, hB⟩
        have HB5 := Lib.hid (HB4.out.trans (hB.mono HB4.out.size))
        have HK5 := Lib.hid ((HK4.out.keep hB).more hB.size)
        have HU5 := Lib.hid ((HU4.out.keep hB).more hB.size)
        clear hB
        go_wp2_with fail
        refine (Of_sees A2 k c2 T _ HU5.out HOT.out (by omega)).mono ?_
        rw [HO1.out]
        rintro e w6 ⟨A6, m6, c6, rfl, hm6, hs, hB⟩
        have HB6 := Lib.hid (HB5.out.trans (hB.mono HB5.out.size))
        have HK6 := Lib.hid ((HK5.out.keep hB).more hB.size)
        have HU6 := Lib.hid ((HU5.out.keep hB).more hB.size)
        have HS6 := Lib.hid hs
        clear hs
        clear hB
        go_wp2_with fail
        refine (Same_any A6 A1 m6 c6 k c1 S S _ HS6.out HK6.out (by omega)).mono ?_
        rw [HSM.out]
        rintro e w7 ⟨rfl, hB⟩
        have HB7 := Lib.hid (HB6.out.trans (hB.mono HB6.out.size))
        have HK7 := Lib.hid ((HK6.out.keep hB).more hB.size)
        have HU7 := Lib.hid ((HU6.out.keep hB).more hB.size)
        clear hB
        go_wp2_with fail
        refine (Of_sees A1 k c1 S _ HK7.out HOS.out (by omega)).mono ?_
        rw [HO2.out]
        rintro e w8 ⟨A8, m8, c8, rfl, hm8, hs, hB⟩
        have HB8 := Lib.hid (HB7.out.trans (hB.mono HB7.out.size))
        have HK8 := Lib.hid ((HK7.out.keep hB).more hB.size)
        have HU8 := Lib.hid ((HU7.out.keep hB).more hB.size)
        have HS8 := Lib.hid hs
        clear hs
        clear hB
        go_wp2_with fail
        refine (Same_any A8 A1 m8 c8 k c1 S S _ HS8.out HK8.out (by omega)).mono ?_
        rw [HSM.out]
        rintro e w9 ⟨rfl, hB⟩
        have HB9 := Lib.hid (HB8.out.trans (hB.mono HB8.out.size))
        have HK9 := Lib.hid ((HK8.out.keep hB).more hB.size)
        have HU9 := Lib.hid ((HU8.out.keep hB).more hB.size)
        clear hB
        go_wp2_with fail
        refine (SetAlike_any A1 A2 k c1 k c2 S T _ HK9.out HU9.out HOS.out HOT.out (by omega) (by omega)).mono ?_
        rw [HAL.out]
        rintro e w10 ⟨rfl, hB⟩
        have HB10 := Lib.hid (HB9.out.trans (hB.mono HB9.out.size))
        clear hB
        go_wp2_with fail
        go_ret
        exact ⟨rfl, HB10.out⟩
end Go.Proofs.YtkgojdmjagicdaaGreat
