/- Parts of the proofs of the statements of image. No statement of the seat is proved here. -/
import Derived.Test.YtnbapaimpoobkaaGreatDoorZonM
import Derived.Test.YtnbapaimpoobkaaGreatDoorRsQ
namespace Go.Proofs.YtnbapaimpoobkaaGreatDoor
open Go.RowKit Go.Op
set_option linter.unusedVariables false

def SeekOut (p : Nat) (e : Ending) : Prop := ∃ b, e = .returned (.tuple #[.int .i64 (p : Nat), .bool b])
set_option maxHeartbeats 8000000 in
set_option maxRecDepth 20000 in
theorem Seek_any (fid : Nat) (hent : ∀ (args : Array Value) (w : World), (callFunc fid args).run Tryz.prog w = .ok (.enter fid args) w) (A : Option Addr) (n c : Nat) (xs : List Rrd) (N : ByteArray) (f : Rrd → Int) (w : World)
    (hx : SeesR w w.heap.size A n xs) (hm : Mon (fun x => decide (f x < 0)) xs) (hn : n ≤ 1000000)
    (hf : ∀ (x : Rrd) (wr : World), x ∈ xs → Calls Tryz.prog fid #[.agg #[.string x.s, .int .i64 x.t, .int .i64 x.c, .int .i64 x.l, .string x.d], .string N] wr fun e w' => e = .returned (.int .i64 (f x)) ∧ Below wr.heap.size wr w') :
    Calls Tryz.prog 125 #[.slice A n c, .string N, .func (.func fid) #[] #[]] w fun e w' => SeekOut (cntX (fun x => decide (f x < 0)) xs) e ∧ Below w.heap.size w w' := by
  have HX := Lib.hid hx
  have HN := Lib.hid hx.1
  have HM := Lib.hid hm
  have HF := Lib.hid hf
  have HENT := Lib.hid hent
  clear hx hm hf hent
  go_enter Tryz.func125, Tryz.ntmps125
  go_wp2_with fail
  go_loopw [9, 10] (fun s9 s10 wr => ∃ lo hi : Nat, s9 = .int .i64 (lo : Nat) ∧ s10 = .int .i64 (hi : Nat) ∧ lo ≤ hi ∧ hi ≤ n ∧ ((∀ t x, t < lo → xs[t]? = some x → decide (f x < 0) = true) ∧ (∀ t x, hi ≤ t → xs[t]? = some x → decide (f x < 0) = false)) ∧ Below w.heap.size w wr) (fun s9 s10 _ => (intOf s10).toNat - (intOf s9).toNat)
  case atStart => exact ⟨0, n, rfl, rfl, Nat.zero_le _, Nat.le_refl _, ⟨fun t x ht => absurd ht (Nat.not_lt_zero _), fun t x ht hx => by have := (List.getElem?_eq_some_iff.1 hx).1; have := HN.out; omega⟩, Below.refl _ _⟩
  case round =>
    obtain ⟨lo, hi, rfl, rfl, hlh, hhn, hI, hB⟩ := hrel
    have HI := Lib.hid hI
    have HB := Lib.hid hB
    clear hI hB
    by_cases hlt : lo < hi
    · have g2 : (lo : Int) < (hi : Int) := by omega
      obtain ⟨m, hm⟩ : ∃ m : Nat, m = (lo + hi) / 2 := ⟨_, rfl⟩
      have hm1 : lo ≤ m := by omega
      have hm2 : m < hi := by omega
      obtain ⟨b, off, x, rfl, hb, hxk, ht⟩ := (HX.out.keep HB.out).at (show m < n by omega)
      obtain ⟨q0, q1, q2, q3, q4⟩ := ht
      rw [hm] at q0 q1 q2 q3 q4
      obtain ⟨z, hz⟩ : ∃ z, z = f x := ⟨_, rfl⟩
      have HC := Lib.hid (HF.out x wr (List.mem_of_getElem? hxk))
      have HZ := Lib.hid hz
      have HXK := Lib.hid hxk
      clear hz hxk
      go_wp2_with fail
      rw [HENT.out, Oper.upon_enter]
      refine HC.out.mono ?_
      rw [← HZ.out]
      rintro e w1 ⟨rfl, hB1⟩
      have HB1 := Lib.hid (HB.out.trans (hB1.mono HB.out.size))
      clear hB1 q0 q1 q2 q3 q4
      by_cases hz1 : z < 0
      · have HJ := Lib.hid (show (∀ t x, t < m + 1 → xs[t]? = some x → decide (f x < 0) = true) ∧ (∀ t x, hi ≤ t → xs[t]? = some x → decide (f x < 0) = false) from
          ⟨fun t y ht hy => HM.out.at (show t ≤ m by omega) hy HXK.out (by rw [decide_eq_true_eq, ← HZ.out]; exact hz1), HI.out.2⟩)
        go_wp2_with fail
        go_roundw
        case rel => exact ⟨m + 1, hi, by rw [show ((lo : Int) + (hi : Int)) / 2 + 1 = ((m + 1 : Nat) : Int) by omega], rfl, by omega, hhn, HJ.out, HB1.out⟩
        case measure => simp [intOf]; omega
      · have HJ := Lib.hid (show (∀ t x, t < lo → xs[t]? = some x → decide (f x < 0) = true) ∧ (∀ t x, m ≤ t → xs[t]? = some x → decide (f x < 0) = false) from
          ⟨HI.out.1, fun t y ht hy => Bool.eq_false_iff.2 fun h => by have k := HM.out.at ht HXK.out hy h; rw [decide_eq_true_eq, ← HZ.out] at k; exact hz1 k⟩)
        go_wp2_with fail
        go_roundw
        case rel => exact ⟨lo, m, rfl, by rw [show ((lo : Int) + (hi : Int)) / 2 = ((m : Nat) : Int) by omega], by omega, by omega, HJ.out, HB1.out⟩
        case measure => simp [intOf]; omega
    · obtain rfl : hi = lo := by omega
      have HP := Lib.hid (cntX_of (fun x => decide (f x < 0)) xs hi (by have := HN.out; omega) HI.out.1 HI.out.2)
      by_cases hln : hi < n
      · have g2 : (hi : Int) < (n : Int) := by omega
        have g3 : ¬ (hi : Int) < (hi : Int) := by omega
        have g0 : (0 : Int) ≤ (hi : Int) := by omega
        obtain ⟨b, off, x, rfl, hb, hxk, ht⟩ := (HX.out.keep HB.out).at hln
        obtain ⟨q0, q1, q2, q3, q4⟩ := ht
        obtain ⟨z, hz⟩ : ∃ z, z = f x := ⟨_, rfl⟩
        have HC := Lib.hid (HF.out x wr (List.mem_of_getElem? hxk))
        have HZ := Lib.hid hz
        clear hz hxk
        go_wp2_with fail
        rw [HENT.out, Oper.upon_enter]
        refine HC.out.mono ?_
        rw [← HZ.out]
        rintro e w1 ⟨rfl, hB1⟩
        have HB1 := Lib.hid (HB.out.trans (hB1.mono HB.out.size))
        clear hB1 q0 q1 q2 q3 q4
        go_wp2_with fail
        go_ret2
        exact ⟨⟨(z == 0), by rw [HP.out]; rfl⟩, HB1.out⟩
      · have g2 : ¬ (hi : Int) < (n : Int) := by omega
        have g3 : ¬ (hi : Int) < (hi : Int) := by omega
        go_wp2_with fail
        go_ret2
        exact ⟨⟨false, by rw [HP.out]; rfl⟩, HB.out⟩

theorem sees2 (w : World) (ty : TypeId) (x y : Int) : Sees (w.alloc (.cells #[.int .i64 x, .int .i64 y] ty)) (w.heap.size + 1) (some ⟨w.heap.size, 0, none⟩) 2 (ints .i64 [x, y]) := sees_whole (Whole.new w ty #[.int .i64 x, .int .i64 y])
set_option maxHeartbeats 1000000 in
theorem Or2_any (A : Option Addr) (cA B : Nat) (x y : Int) (w : World) (h : Sees w B A 2 (ints .i64 [x, y])) :
    Calls Tryz.prog 119 #[.slice A 2 cA] w fun e w' => e = .returned (.int .i64 (orI x y)) ∧ w = w' := by
  obtain ⟨b, off, rfl, _, hc⟩ := h.addr (by decide)
  have c0 : w.cell? ⟨b, off, none⟩ = some (.int .i64 x) := hc 0 _ rfl
  have c1 : w.cell? ⟨b, off + 1, none⟩ = some (.int .i64 y) := hc 1 _ rfl
  clear hc h
  by_cases hx : x = 0
  · subst hx
    have e0 : orI 0 y = y := by unfold orI; rw [if_pos rfl]
    rw [e0]
    clear e0
    by_cases hy : y = 0
    · subst hy
      go_enter Tryz.func119, Tryz.ntmps119
      go_wp2_with fail
      refine wp_loop_rounds 5 ?_
      rw [rounds_succ]
      go_wp2_with fail
      rw [rounds_succ]
      go_wp2_with fail
      rw [rounds_succ]
      go_wp2_with fail
      go_ret
      exact ⟨rfl, rfl⟩
    · have gy : (y == 0) = false := by rw [beq_eq_false_iff_ne]; exact hy
      go_enter Tryz.func119, Tryz.ntmps119
      go_wp2_with fail
      refine wp_loop_rounds 5 ?_
      rw [rounds_succ]
      go_wp2_with fail
      rw [rounds_succ]
      go_wp2_with fail
      go_ret
      exact ⟨rfl, rfl⟩
  · have gx : (x == 0) = false := by rw [beq_eq_false_iff_ne]; exact hx
    have e0 : orI x y = x := by unfold orI; rw [if_neg hx]
    rw [e0]
    clear e0
    go_enter Tryz.func119, Tryz.ntmps119
    go_wp2_with fail
    refine wp_loop_rounds 5 ?_
    rw [rounds_succ]
    go_wp2_with fail
    go_ret
    exact ⟨rfl, rfl⟩

set_option maxHeartbeats 4000000 in
theorem AtA_any (x : Rrd) (N : ByteArray) (n : List UInt8) (w : World) (hx : OkX x) (hN : N = mk n) (hl : n.length ≤ 1000000) :
    Calls Tryz.prog 126 #[.agg #[.string x.s, .int .i64 x.t, .int .i64 x.c, .int .i64 x.l, .string x.d], .string N] w fun e w' => e = .returned (.int .i64 (cmpN (nmX x) n)) ∧ Below w.heap.size w w' := by
  have HB0 := Lib.hid (show Below w.heap.size w (w.alloc (.cells #[.string x.s, .int .i64 x.t, .int .i64 x.c, .int .i64 x.l, .string x.d] 27)) from (Below.refl _ _).alloc (Nat.le_refl _) _)
  obtain ⟨p0, p1, p2, p3, p4⟩ := box_five w x
  have HN := Lib.hid hN
  have hxl : (nmX x).length ≤ 1073741824 := by have := hx.name; unfold nmX; omega
  clear hN hx
  obtain ⟨z, hz⟩ : ∃ z, z = cmpN (nmX x) n := ⟨_, rfl⟩
  have HZ := Lib.hid hz
  rw [← hz]
  clear hz
  go_enter Tryz.func126, Tryz.ntmps126
  go_wp2_with fail
  refine (Compare_any x.s N (nmX x) n _ (rrd_name x) HN.out hxl (by omega)).mono ?_
  rw [← HZ.out]
  rintro e w1 ⟨rfl, hB⟩
  have HB := Lib.hid (HB0.out.trans (hB.mono HB0.out.size))
  clear hB p0 p1 p2 p3 p4
  go_wp2_with fail
  go_ret
  exact ⟨rfl, HB.out⟩

set_option maxHeartbeats 4000000 in
theorem AtB_any (x : Rrd) (N : ByteArray) (n : List UInt8) (w : World) (hx : OkX x) (hN : N = mk n) (hl : n.length ≤ 1000000) :
    Calls Tryz.prog 127 #[.agg #[.string x.s, .int .i64 x.t, .int .i64 x.c, .int .i64 x.l, .string x.d], .string N] w fun e w' => e = .returned (.int .i64 (orI (cmpN (nmX x) n) (-1))) ∧ Below w.heap.size w w' := by
  have HB0 := Lib.hid (show Below w.heap.size w (w.alloc (.cells #[.string x.s, .int .i64 x.t, .int .i64 x.c, .int .i64 x.l, .string x.d] 27)) from (Below.refl _ _).alloc (Nat.le_refl _) _)
  obtain ⟨p0, p1, p2, p3, p4⟩ := box_five w x
  have HN := Lib.hid hN
  have hxl : (nmX x).length ≤ 1073741824 := by have := hx.name; unfold nmX; omega
  clear hN hx
  obtain ⟨z, hz⟩ : ∃ z, z = cmpN (nmX x) n := ⟨_, rfl⟩
  have HZ := Lib.hid hz
  rw [← hz]
  clear hz
  go_enter Tryz.func127, Tryz.ntmps127
  go_wp2_with fail
  refine (Compare_any x.s N (nmX x) n _ (rrd_name x) HN.out hxl (by omega)).mono ?_
  rw [← HZ.out]
  rintro e w1 ⟨rfl, hB⟩
  have HB := Lib.hid (HB0.out.trans (hB.mono HB0.out.size))
  clear hB p0 p1 p2 p3 p4
  go_wp2_with fail
  refine (Or2_any _ 2 _ z (-1) _ (sees2 _ _ _ _)).mono ?_
  rintro e w2 ⟨rfl, rfl⟩
  go_wp2_with fail
  go_ret
  exact ⟨rfl, HB.out.alloc HB.out.size _⟩

set_option maxHeartbeats 8000000 in
set_option maxRecDepth 20000 in
theorem At_no (A : Option Addr) (n c : Nat) (N : ByteArray) (nn : List UInt8) (xs : List Rrd) (w : World) (hN : N = mk nn) (hl : nn.length ≤ 1000000) (hr : (nameL nn).isSome = false) :
    Calls Tryz.prog 69 #[.slice A n c, .string N] w fun e w' => ∃ v, e = .returned v ∧ w'.ownsRow w.heap.size 27 5 v (atX nn xs).length (rcells (atX nn xs)) ∧ Below w.heap.size w w' := by
  have HN := Lib.hid hN
  have HR := Lib.hid hr
  rw [at_no hr]
  clear hN hr
  go_enter Tryz.func69, Tryz.ntmps69
  go_wp2_with fail
  refine (Right_any N nn _ HN.out (by omega)).mono ?_
  rw [HR.out]
  rintro e w1 ⟨rfl, hB⟩
  have HB := Lib.hid hB
  clear hB
  go_wp2_with fail
  go_ret
  exact ⟨_, rfl, own_nil _ _ _ _, HB.out⟩
set_option maxHeartbeats 8000000 in
set_option maxRecDepth 20000 in
theorem At_some (b off n c : Nat) (N : ByteArray) (nn : List UInt8) (xs : List Rrd) (w : World) (hN : N = mk nn) (hl : nn.length ≤ 1000000) (hr : (nameL nn).isSome = true)
    (hx : SeesR w w.heap.size (some ⟨b, off, none⟩) n xs) (hc : n ≤ c) (hok : OkL xs) (hk : KS xs) (hn : n ≤ 1000000) :
    Calls Tryz.prog 69 #[.slice (some ⟨b, off, none⟩) n c, .string N] w fun e w' => ∃ v, e = .returned v ∧ w'.ownsRow w.heap.size 27 5 v (atX nn xs).length (rcells (atX nn xs)) ∧ Below w.heap.size w w' := by
  obtain ⟨p, hp⟩ : ∃ p, p = cntX (befN nn) xs := ⟨_, rfl⟩
  obtain ⟨q, hq⟩ : ∃ q, q = cntX (uptoN nn) (xs.drop p) := ⟨_, rfl⟩
  have hpn : p ≤ n := by have := cntX_le (befN nn) xs; rw [hx.1] at this; omega
  have hqn : q ≤ n - p := by have := cntX_le (uptoN nn) (xs.drop p); rw [List.length_drop, hx.1] at this; omega
  have HAT := Lib.hid (show (xs.drop p).take q = atX nn xs by rw [hq, hp]; exact at_is hr hk hok)
  have HP := Lib.hid hp
  have HQ := Lib.hid hq
  have HN := Lib.hid hN
  have HR := Lib.hid hr
  have HX := Lib.hid hx
  have HOK := Lib.hid hok
  have HK := Lib.hid hk
  have HOKD := Lib.hid (show OkL (xs.drop p) from fun x h => hok x (List.mem_of_mem_drop h))
  have HKD := Lib.hid (show KS (xs.drop p) from List.Pairwise.sublist (List.drop_sublist p xs) hk)
  have g1 : (0 : Int) ≤ (p : Int) := by omega
  have g2 : (p : Int) ≤ (n : Int) := by omega
  have g3 : (n : Int) ≤ (c : Int) := by omega
  have g4 : (p : Int) ≤ (c : Int) := by omega
  have g5 : (0 : Int) ≤ (q : Int) := by omega
  clear hp hq hN hr hx hok hk
  go_enter Tryz.func69, Tryz.ntmps69
  go_wp2_with fail
  refine (Right_any N nn _ HN.out (by omega)).mono ?_
  rw [HR.out]
  rintro e w1 ⟨rfl, hB1⟩
  have HB1 := Lib.hid hB1
  clear hB1
  go_wp2_with fail
  refine (Seek_any 126 (enters_of Tryz.func126 (by kernel_rfl) rfl) _ n c xs N (fun x => cmpN (nmX x) nn) _ ((HX.out.keep HB1.out).more HB1.out.size) (befN_mon nn HK.out HOK.out) hn (fun x wr hm => AtA_any x N nn wr (HOK.out x hm) HN.out hl)).mono ?_
  rw [show cntX (fun x => decide (cmpN (nmX x) nn < 0)) xs = p from HP.out.symm]
  rintro e w2 ⟨⟨b1, rfl⟩, hB2⟩
  have HB2 := Lib.hid (HB1.out.trans (hB2.mono HB1.out.size))
  clear hB2
  go_wp2_with fail
  case inl hcc =>
    have eq0 : q = 0 := by omega
    have HEN := Lib.hid (show n - p = 0 by omega)
    subst eq0
    have HS := Lib.hid (show SeesR w2 w2.heap.size (some ⟨b, off, none⟩) (n - p) (xs.drop p) from ((show SeesR w w.heap.size (some ⟨b, off, none⟩) (n - p) (xs.drop p) from seesR_none HEN.out (by rw [HX.out.1]; have := HEN.out; omega)).keep HB2.out).more HB2.out.size)
    refine (Seek_any 127 (enters_of Tryz.func127 (by kernel_rfl) rfl) _ (n - p) _ (xs.drop p) N (fun x => orI (cmpN (nmX x) nn) (-1)) _ HS.out (uptoN_mon nn HKD.out HOKD.out) (by omega) (fun x wr hm => AtB_any x N nn wr (HOKD.out x hm) HN.out hl)).mono ?_
    rw [show cntX (fun x => decide (orI (cmpN (nmX x) nn) (-1) < 0)) (xs.drop p) = 0 from HQ.out.symm]
    rintro e w3 ⟨⟨b2, rfl⟩, hB3⟩
    have HB3 := Lib.hid (HB2.out.trans (hB3.mono HB2.out.size))
    have HT := Lib.hid ((HS.out.keep hB3).more hB3.size)
    clear hB3
    go_wp2_with fail
    refine (RClone_any _ 0 _ ((xs.drop p).take 0) _ (HT.out.take (by omega)) (by omega)).mono ?_
    rw [HAT.out]
    rintro e w4 ⟨v, rfl, ho, hB4⟩
    have HO4 := Lib.hid (own_less ho HB3.out.size)
    have HB4 := Lib.hid (HB3.out.trans (hB4.mono HB3.out.size))
    have HLQ := Lib.hid (show (atX nn xs).length = 0 by rw [← HAT.out, List.length_take, List.length_drop, HX.out.1]; omega)
    clear ho hB4
    go_wp2_with fail
    go_ret
    exact ⟨v, rfl, by rw [HLQ.out]; exact HO4.out, HB4.out⟩
  case inr hcc =>
    have g6 : (q : Int) ≤ ((n - p : Nat) : Int) := by omega
    have g7 : ((n - p : Nat) : Int) ≤ ((c - p : Nat) : Int) := by omega
    have g8 : (q : Int) ≤ ((c - p : Nat) : Int) := by omega
    have g9 : n - p ≤ 1000000 := by omega
    have g10 : q ≤ 1073741824 := by omega
    have HS := Lib.hid (show SeesR w2 w2.heap.size (some ⟨b, off + p * 5, none⟩) (n - p) (xs.drop p) from ((HX.out.drop hpn).keep HB2.out).more HB2.out.size)
    refine (Seek_any 127 (enters_of Tryz.func127 (by kernel_rfl) rfl) _ (n - p) _ (xs.drop p) N (fun x => orI (cmpN (nmX x) nn) (-1)) _ HS.out (uptoN_mon nn HKD.out HOKD.out) (by omega) (fun x wr hm => AtB_any x N nn wr (HOKD.out x hm) HN.out hl)).mono ?_
    rw [show cntX (fun x => decide (orI (cmpN (nmX x) nn) (-1) < 0)) (xs.drop p) = q from HQ.out.symm]
    rintro e w3 ⟨⟨b2, rfl⟩, hB3⟩
    have HB3 := Lib.hid (HB2.out.trans (hB3.mono HB2.out.size))
    have HT := Lib.hid ((HS.out.keep hB3).more hB3.size)
    clear hB3
    go_wp2_with fail
    refine (RClone_any _ q _ ((xs.drop p).take q) _ (HT.out.take (by omega)) (by omega)).mono ?_
    rw [HAT.out]
    rintro e w4 ⟨v, rfl, ho, hB4⟩
    have HO4 := Lib.hid (own_less ho HB3.out.size)
    have HB4 := Lib.hid (HB3.out.trans (hB4.mono HB3.out.size))
    have HLQ := Lib.hid (show (atX nn xs).length = q by rw [← HAT.out, List.length_take, List.length_drop, HX.out.1]; omega)
    clear ho hB4
    go_wp2_with fail
    go_ret
    exact ⟨v, rfl, by rw [HLQ.out]; exact HO4.out, HB4.out⟩
set_option maxHeartbeats 8000000 in
set_option maxRecDepth 20000 in
theorem At_nil (N : ByteArray) (nn : List UInt8) (w : World) (hN : N = mk nn) (hl : nn.length ≤ 1000000) (hr : (nameL nn).isSome = true) :
    Calls Tryz.prog 69 #[.slice none 0 0, .string N] w fun e w' => ∃ v, e = .returned v ∧ w'.ownsRow w.heap.size 27 5 v (atX nn []).length (rcells (atX nn [])) ∧ Below w.heap.size w w' := by
  have HN := Lib.hid hN
  have HR := Lib.hid hr
  have HS := Lib.hid (fun (w : World) (A : Option Addr) => (show SeesR w w.heap.size A 0 [] from ⟨rfl, fun h => absurd h (by omega)⟩))
  have HM := Lib.hid (fun p => (show Mon p [] from List.Pairwise.nil))
  clear hN hr
  go_enter Tryz.func69, Tryz.ntmps69
  go_wp2_with fail
  refine (Right_any N nn _ HN.out (by omega)).mono ?_
  rw [HR.out]
  rintro e w1 ⟨rfl, hB1⟩
  have HB1 := Lib.hid hB1
  clear hB1
  go_wp2_with fail
  refine (Seek_any 126 (enters_of Tryz.func126 (by kernel_rfl) rfl) _ 0 0 [] N (fun x => cmpN (nmX x) nn) _ (HS.out _ _) (HM.out _) (by omega) (fun x wr hm => by cases hm)).mono ?_
  rw [show cntX (fun x => decide (cmpN (nmX x) nn < 0)) [] = 0 from rfl]
  rintro e w2 ⟨⟨b1, rfl⟩, hB2⟩
  have HB2 := Lib.hid (HB1.out.trans (hB2.mono HB1.out.size))
  clear hB2
  go_wp2_with fail
  refine (Seek_any 127 (enters_of Tryz.func127 (by kernel_rfl) rfl) _ 0 0 [] N (fun x => orI (cmpN (nmX x) nn) (-1)) _ (HS.out _ _) (HM.out _) (by omega) (fun x wr hm => by cases hm)).mono ?_
  rw [show cntX (fun x => decide (orI (cmpN (nmX x) nn) (-1) < 0)) [] = 0 from rfl]
  rintro e w3 ⟨⟨b2, rfl⟩, hB3⟩
  have HB3 := Lib.hid (HB2.out.trans (hB3.mono HB2.out.size))
  clear hB3
  go_wp2_with fail
  refine (RClone_any _ 0 _ [] _ (HS.out _ _) (by omega)).mono ?_
  rintro e w4 ⟨v, rfl, ho, hB4⟩
  have HO4 := Lib.hid (own_less ho HB3.out.size)
  have HB4 := Lib.hid (HB3.out.trans (hB4.mono HB3.out.size))
  clear ho hB4
  go_wp2_with fail
  go_ret
  exact ⟨v, rfl, HO4.out, HB4.out⟩
set_option maxHeartbeats 8000000 in
set_option maxRecDepth 20000 in
theorem At_zero (ad : Addr) (N : ByteArray) (nn : List UInt8) (w : World) (hN : N = mk nn) (hl : nn.length ≤ 1000000) (hr : (nameL nn).isSome = true) :
    Calls Tryz.prog 69 #[.slice (some ad) 0 0, .string N] w fun e w' => ∃ v, e = .returned v ∧ w'.ownsRow w.heap.size 27 5 v (atX nn []).length (rcells (atX nn [])) ∧ Below w.heap.size w w' := by
  have HN := Lib.hid hN
  have HR := Lib.hid hr
  have HS := Lib.hid (fun (w : World) (A : Option Addr) => (show SeesR w w.heap.size A 0 [] from ⟨rfl, fun h => absurd h (by omega)⟩))
  have HM := Lib.hid (fun p => (show Mon p [] from List.Pairwise.nil))
  clear hN hr
  go_enter Tryz.func69, Tryz.ntmps69
  go_wp2_with fail
  refine (Right_any N nn _ HN.out (by omega)).mono ?_
  rw [HR.out]
  rintro e w1 ⟨rfl, hB1⟩
  have HB1 := Lib.hid hB1
  clear hB1
  go_wp2_with fail
  refine (Seek_any 126 (enters_of Tryz.func126 (by kernel_rfl) rfl) _ 0 0 [] N (fun x => cmpN (nmX x) nn) _ (HS.out _ _) (HM.out _) (by omega) (fun x wr hm => by cases hm)).mono ?_
  rw [show cntX (fun x => decide (cmpN (nmX x) nn < 0)) [] = 0 from rfl]
  rintro e w2 ⟨⟨b1, rfl⟩, hB2⟩
  have HB2 := Lib.hid (HB1.out.trans (hB2.mono HB1.out.size))
  clear hB2
  go_wp2_with fail
  refine (Seek_any 127 (enters_of Tryz.func127 (by kernel_rfl) rfl) _ 0 0 [] N (fun x => orI (cmpN (nmX x) nn) (-1)) _ (HS.out _ _) (HM.out _) (by omega) (fun x wr hm => by cases hm)).mono ?_
  rw [show cntX (fun x => decide (orI (cmpN (nmX x) nn) (-1) < 0)) [] = 0 from rfl]
  rintro e w3 ⟨⟨b2, rfl⟩, hB3⟩
  have HB3 := Lib.hid (HB2.out.trans (hB3.mono HB2.out.size))
  clear hB3
  go_wp2_with fail
  refine (RClone_any _ 0 _ [] _ (HS.out _ _) (by omega)).mono ?_
  rintro e w4 ⟨v, rfl, ho, hB4⟩
  have HO4 := Lib.hid (own_less ho HB3.out.size)
  have HB4 := Lib.hid (HB3.out.trans (hB4.mono HB3.out.size))
  clear ho hB4
  go_wp2_with fail
  go_ret
  exact ⟨v, rfl, HO4.out, HB4.out⟩
theorem At_any (A : Option Addr) (n c : Nat) (N : ByteArray) (nn : List UInt8) (xs : List Rrd) (w : World) (hN : N = mk nn) (hl : nn.length ≤ 1000000)
    (hx : SeesR w w.heap.size A n xs) (hcap : InCap A n c) (hok : OkL xs) (hk : KS xs) (hn : n ≤ 1000000) :
    Calls Tryz.prog 69 #[.slice A n c, .string N] w fun e w' => ∃ v, e = .returned v ∧ w'.ownsRow w.heap.size 27 5 v (atX nn xs).length (rcells (atX nn xs)) ∧ Below w.heap.size w w' := by
  cases hr : (nameL nn).isSome with
  | false => exact At_no A n c N nn xs w hN hl hr
  | true =>
    obtain ⟨h1, h2, h3, h4⟩ := hcap
    rcases A with _ | ad
    · have hc := h3 rfl
      subst hc
      obtain rfl : n = 0 := by omega
      obtain rfl : xs = [] := List.eq_nil_of_length_eq_zero hx.1
      exact At_nil N nn w hN hl hr
    · rcases Nat.eq_zero_or_pos c with hc | hc
      · subst hc
        obtain rfl : n = 0 := by omega
        obtain rfl : xs = [] := List.eq_nil_of_length_eq_zero hx.1
        exact At_zero ad N nn w hN hl hr
      · have hsp := h4 ad rfl hc
        obtain ⟨b, off, spot⟩ := ad
        simp only at hsp
        subst hsp
        exact At_some b off n c N nn xs w hN hl hr hx h1 hok hk hn
end Go.Proofs.YtnbapaimpoobkaaGreatDoor
