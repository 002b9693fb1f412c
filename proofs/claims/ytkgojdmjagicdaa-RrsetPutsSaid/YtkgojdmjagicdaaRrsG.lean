/- The program's Drop, Find. No statement of the seat is proved here. -/
import Derived.Test.YtkgojdmjagicdaaRrsF
import Derived.Deep.RegionWith
namespace Go.Proofs.Ytkgojdmjagicdaa
open Go.RowKit Go.Op

theorem joinS2 {A0 A2 : Option Addr} {n0 n2 c0 c2 : Nat} {l0 l2 : List Rrd} : joinS [⟨A0, n0, c0, l0⟩, ⟨A2, n2, c2, l2⟩] = l0 ++ l2 := by simp [joinS]
theorem two_drew {w W : World} {p : Nat} {A0 A2 : Option Addr} {n2 c0 c2 : Nat} {l0 l2 : List Rrd} (t : TypeId) (hB : Below w.heap.size w W) (h0 : SeesR w w.heap.size A0 p l0) (h2 : SeesR w w.heap.size A2 n2 l2) :
    SeesSl (W.alloc (.cells #[.slice A0 p c0, .slice A2 n2 c2] t)).drew (W.alloc (.cells #[.slice A0 p c0, .slice A2 n2 c2] t)).drew.heap.size (some ⟨W.heap.size, 0, none⟩) [⟨A0, p, c0, l0⟩, ⟨A2, n2, c2, l2⟩] := by
  have hw := Whole.new W t #[.slice A0 p c0, .slice A2 n2 c2]
  obtain ⟨W2, hW2⟩ : ∃ W2, W2 = W.alloc (.cells #[.slice A0 p c0, .slice A2 n2 c2] t) := ⟨_, rfl⟩
  have hsz : W2.heap.size = W.heap.size + 1 := by rw [hW2]; simp
  have hBw : Below w.heap.size w W2 := by rw [hW2]; exact hB.alloc hB.size _
  rw [← hW2] at hw ⊢
  have e : W2.drew.heap.size = W2.heap.size := rfl
  rw [e]
  refine SeesSl.keep (w := W2) ⟨⟨W.heap.size, 0, rfl, by omega, fun j s hs => ?_⟩, fun s hs => ?_⟩ (Below.refl _ _).drew
  · match j, hs with
    | 0, hs => simp at hs; subst hs; exact hw.cell 0
    | 1, hs => simp at hs; subst hs; exact hw.cell 1
    | j + 2, hs => simp at hs
  · simp only [List.mem_cons, List.not_mem_nil, or_false] at hs
    rcases hs with rfl | rfl
    · exact (h0.keep hBw).more hBw.size
    · exact (h2.keep hBw).more hBw.size
theorem below_one {W V : World} {o1 : Obj} (h : Below (W.alloc o1).drew.heap.size (W.alloc o1).drew V) : Below W.heap.size W V := by
  have h1 : Below W.heap.size W (W.alloc o1).drew := ((Below.refl _ _).alloc (Nat.le_refl _) o1).drew
  exact h1.trans (h.mono h1.size)

set_option maxHeartbeats 8000000 in
set_option maxRecDepth 20000 in
theorem Drop_hit (b off n c : Nat) (xs : List Rrd) (r : Rrd) (w : World) (hx : SeesR w w.heap.size (some ⟨b, off, none⟩) n xs) (hcap : n ≤ c) (hok : OkL xs) (hr : OkX r) (hs : SetL cmpX xs) (hn : n ≤ 1000000) (hit : hitX cmpX r xs = true) :
    Calls Try.prog 9 #[.slice (some ⟨b, off, none⟩) n c, .agg #[.string r.s, .int .i64 r.t, .int .i64 r.c, .int .i64 r.l, .string r.d]] w fun e w' =>
      ∃ v, e = .returned (.tuple #[v, .bool true]) ∧ w'.ownsRow w.heap.size 24 5 v (dropX cmpX r xs).length (rcells (dropX cmpX r xs)) ∧ Below w.heap.size w w' := by
  obtain ⟨p, hp⟩ : ∃ p, p = posX cmpX r xs := ⟨_, rfl⟩
  have hpn : p < n := by have := hitX_lt r xs hit; rw [hx.1] at this; omega
  have hput : dropX cmpX r xs = xs.take p ++ xs.drop (p + 1) := by rw [dropX_is, hit, ← hp]; rfl
  have HB0 := Lib.hid (show Below w.heap.size w (w.alloc (.cells #[.string r.s, .int .i64 r.t, .int .i64 r.c, .int .i64 r.l, .string r.d] 24)) from (Below.refl _ _).alloc (Nat.le_refl _) _)
  obtain ⟨p0, p1, p2, p3, p4⟩ := box_five w r
  have HX0 := Lib.hid hx
  have HX := Lib.hid ((hx.keep HB0.out).more HB0.out.size)
  have HOK := Lib.hid hok
  have HR := Lib.hid hr
  have HS := Lib.hid hs
  have HIT := Lib.hid hit
  have HP := Lib.hid hp
  have HPUT := Lib.hid hput
  have g0 : (0 : Int) ≤ (p : Int) := by omega
  have g1 : (p : Int) < (n : Int) := by omega
  have g2 : (p : Int) ≤ (n : Int) := by omega
  have g3 : (n : Int) ≤ (c : Int) := by omega
  have g4 : (p : Int) ≤ (c : Int) := by omega
  have g5 : (p : Int) + 1 ≤ (n : Int) := by omega
  have g6 : (0 : Int) ≤ (p : Int) + 1 := by omega
  have g7 : (p : Int) ≤ (p : Int) + 1 := by omega
  have g8 : IntKind.i64.wrap ((p : Int) + 1) = (p : Int) + 1 := by simp [IntKind.wrap, IntKind.bits, IntKind.signed]; omega
  have g9 : ((p : Int) + 1).toNat = p + 1 := by omega
  have HT := Lib.hid (show SeesR w w.heap.size (some ⟨b, off, none⟩) p (xs.take p) from HX0.out.take (by omega))
  have HLEN := Lib.hid (show (xs.take p ++ xs.drop (p + 1)).length ≤ 1073741824 by
    have := HX0.out.1
    simp
    omega)
  clear hx hok hr hs hit hp hput
  by_cases hcc : c = p + 1
  · subst hcc
    have H2 := Lib.hid (show SeesR w w.heap.size (some ⟨b, off, none⟩) 0 (xs.drop (p + 1)) from seesR_none rfl (by rw [HX0.out.1]; omega))
    go_enter Try.func9, Try.ntmps9
    go_wp2_with fail
    refine (position_any _ n _ xs r _ HX.out HOK.out HR.out HS.out (by omega)).mono ?_
    rw [HIT.out, ← HP.out]
    rintro e w1 ⟨rfl, hB⟩
    have HB1 := Lib.hid (HB0.out.trans (hB.mono HB0.out.size))
    clear hB p0 p1 p2 p3 p4
    go_wp2_with fail
    go_region_with (first | (go_at_call 19; (refine (Concat_any _ 2 _ _ _ (two_drew _ HB1.out HT.out H2.out) rfl (by decide) (by rw [joinS2]; exact HLEN.out)).mono ?_; rw [joinS2]; rintro e w3 ⟨v3, rfl, ho3, hB3⟩; have hB3' := below_one hB3)))
    all_goals (
      have HO3 := Lib.hid ho3
      have HB3 := Lib.hid hB3'
      clear ho3 hB3
      go_wp2_with fail
      go_ret2
      exact ⟨v3, rfl, by rw [HPUT.out]; exact own_less HO3.out (by have := HB1.out.size; simp; omega), HB1.out.trans (HB3.out.mono HB1.out.size)⟩)
  · have H2 := Lib.hid (show SeesR w w.heap.size (some ⟨b, off + (p + 1) * 5, none⟩) (n - (p + 1)) (xs.drop (p + 1)) from HX0.out.drop (by omega))
    go_enter Try.func9, Try.ntmps9
    go_wp2_with fail
    refine (position_any _ n _ xs r _ HX.out HOK.out HR.out HS.out (by omega)).mono ?_
    rw [HIT.out, ← HP.out]
    rintro e w1 ⟨rfl, hB⟩
    have HB1 := Lib.hid (HB0.out.trans (hB.mono HB0.out.size))
    clear hB p0 p1 p2 p3 p4
    go_wp2_with fail
    go_region_with (first | (go_at_call 19; (refine (Concat_any _ 2 _ _ _ (two_drew _ HB1.out HT.out H2.out) rfl (by decide) (by rw [joinS2]; exact HLEN.out)).mono ?_; rw [joinS2]; rintro e w3 ⟨v3, rfl, ho3, hB3⟩; have hB3' := below_one hB3)))
    all_goals (
      have HO3 := Lib.hid ho3
      have HB3 := Lib.hid hB3'
      clear ho3 hB3
      go_wp2_with fail
      go_ret2
      exact ⟨v3, rfl, by rw [HPUT.out]; exact own_less HO3.out (by have := HB1.out.size; simp; omega), HB1.out.trans (HB3.out.mono HB1.out.size)⟩)

set_option maxHeartbeats 8000000 in
set_option maxRecDepth 20000 in
theorem Drop_miss (A : Option Addr) (n c : Nat) (xs : List Rrd) (r : Rrd) (w : World) (hx : SeesR w w.heap.size A n xs) (hok : OkL xs) (hr : OkX r) (hs : SetL cmpX xs) (hn : n ≤ 1000000) (hit : hitX cmpX r xs = false) :
    Calls Try.prog 9 #[.slice A n c, .agg #[.string r.s, .int .i64 r.t, .int .i64 r.c, .int .i64 r.l, .string r.d]] w fun e w' =>
      ∃ v, e = .returned (.tuple #[v, .bool false]) ∧ w'.ownsRow w.heap.size 24 5 v (dropX cmpX r xs).length (rcells (dropX cmpX r xs)) ∧ Below w.heap.size w w' := by
  have HB0 := Lib.hid (show Below w.heap.size w (w.alloc (.cells #[.string r.s, .int .i64 r.t, .int .i64 r.c, .int .i64 r.l, .string r.d] 24)) from (Below.refl _ _).alloc (Nat.le_refl _) _)
  obtain ⟨p0, p1, p2, p3, p4⟩ := box_five w r
  have HX0 := Lib.hid hx
  have HX := Lib.hid ((hx.keep HB0.out).more HB0.out.size)
  have HOK := Lib.hid hok
  have HR := Lib.hid hr
  have HS := Lib.hid hs
  have HIT := Lib.hid hit
  have HNN := Lib.hid (show n ≤ 1073741824 by omega)
  have HPUT := Lib.hid (dropX_no (cmp := cmpX) r xs hit)
  clear hx hok hr hs hit
  go_enter Try.func9, Try.ntmps9
  go_wp2_with fail
  refine (position_any _ n _ xs r _ HX.out HOK.out HR.out HS.out HNN.out).mono ?_
  rw [HIT.out]
  rintro e w1 ⟨rfl, hB⟩
  have HB1 := Lib.hid (HB0.out.trans (hB.mono HB0.out.size))
  have HX1 := Lib.hid ((HX0.out.keep HB1.out).more HB1.out.size)
  clear hB p0 p1 p2 p3 p4
  go_wp2_with fail
  refine (Clone_any _ _ _ _ _ HX1.out HNN.out).mono ?_
  rintro e w3 ⟨v3, rfl, ho3, hB3⟩
  have HO3 := Lib.hid ho3
  have HB3 := Lib.hid hB3
  clear ho3 hB3
  go_wp2_with fail
  go_ret2
  exact ⟨v3, rfl, by rw [HPUT.out, HX0.out.1]; exact own_less HO3.out HB1.out.size, HB1.out.trans (HB3.out.mono HB1.out.size)⟩
theorem Drop_any (A : Option Addr) (n c : Nat) (xs : List Rrd) (r : Rrd) (w : World) (hx : SeesR w w.heap.size A n xs) (hcap : InCap A n c) (hok : OkL xs) (hr : OkX r) (hs : SetL cmpX xs) (hn : n ≤ 1000000) :
    Calls Try.prog 9 #[.slice A n c, .agg #[.string r.s, .int .i64 r.t, .int .i64 r.c, .int .i64 r.l, .string r.d]] w fun e w' =>
      ∃ v, e = .returned (.tuple #[v, .bool (hitX cmpX r xs)]) ∧ w'.ownsRow w.heap.size 24 5 v (dropX cmpX r xs).length (rcells (dropX cmpX r xs)) ∧ Below w.heap.size w w' := by
  obtain ⟨h1, h2, h3, h4⟩ := hcap
  cases hit : hitX cmpX r xs with
  | true =>
    have hlt := hitX_lt r xs hit
    rw [hx.1] at hlt
    rcases A with _ | ad
    · obtain ⟨b, off, e, _⟩ := hx.2 (by omega)
      cases e
    · have hsp := h4 ad rfl (by omega)
      obtain ⟨b, off, spot⟩ := ad
      simp only at hsp
      subst hsp
      exact Drop_hit b off n c xs r w hx h1 hok hr hs hn hit
  | false => exact Drop_miss A n c xs r w hx hok hr hs hn hit

/-! ### Find -/
theorem below5 (V : World) (p : Nat) (s d : ByteArray) (t c l : Int) : Below p V (((((V.setCell ⟨p, 0, none⟩ (.string s)).setCell ⟨p, 1, none⟩ (.int .i64 t)).setCell ⟨p, 2, none⟩ (.int .i64 c)).setCell ⟨p, 3, none⟩ (.int .i64 l)).setCell ⟨p, 4, none⟩ (.string d)) :=
  (((((Below.refl p V).setCell (p := ⟨p, 0, none⟩) (Nat.le_refl p) (.string s)).setCell (p := ⟨p, 1, none⟩) (Nat.le_refl p) (.int .i64 t)).setCell (p := ⟨p, 2, none⟩) (Nat.le_refl p) (.int .i64 c)).setCell (p := ⟨p, 3, none⟩) (Nat.le_refl p) (.int .i64 l)).setCell (p := ⟨p, 4, none⟩) (Nat.le_refl p) (.string d)
theorem rr_size : (Try.prog.info? rrT).map (·.size) = some 5 := by kernel_rfl
theorem ret52 {fn : Func} {R : Ending → World → Prop} {a : Act} {w : World} {p u r : Nat} {a0 a1 a2 a3 a4 x : Value} (hf : fn.results = #[.cell p rrT, .tmp u]) (hd : a.defers = []) (hp : a.tmps.getD p undef = .pointer (some ⟨r, 0, none⟩)) (hx : a.tmps.getD u undef = x)
    (h : Whole w r rrT #[a0, a1, a2, a3, a4]) (hR : R (.returned (.tuple #[.agg #[a0, a1, a2, a3, a4], x])) w) : bodyPost Try.prog fn R .ret a w := by
  refine bodyPost_ret ?_ hd hR
  have hp' : a.tmps[p]?.getD undef = .pointer (some ⟨r, 0, none⟩) := by simpa using hp
  have hx' : a.tmps[u]?.getD undef = x := by simpa using hx
  simp [results, hf, hp', hx', asAddr, run_loadVar_row w r rrT _ _ (0, 0) _ h Try.underlying24 rfl rr_size, Result.andThen]
theorem five_put {w : World} {r t : Nat} {x0 x1 x2 x3 x4 : Value} (h : Whole w r t #[x0, x1, x2, x3, x4]) (a0 a1 a2 a3 a4 : Value) :
    Whole (((((w.setCell ⟨r, 0, none⟩ a0).setCell ⟨r, 1, none⟩ a1).setCell ⟨r, 2, none⟩ a2).setCell ⟨r, 3, none⟩ a3).setCell ⟨r, 4, none⟩ a4) r t #[a0, a1, a2, a3, a4] := by
  have := ((((h.put 0 a0).put 1 a1).put 2 a2).put 3 a3).put 4 a4
  simpa using this
def zeroR : Rrd := ⟨⟨#[]⟩, 0, 0, 0, ⟨#[]⟩⟩
set_option maxHeartbeats 8000000 in
set_option maxRecDepth 20000 in
theorem Find_any (A : Option Addr) (n c : Nat) (xs : List Rrd) (r : Rrd) (w : World) (hx : SeesR w w.heap.size A n xs) (hok : OkL xs) (hr : OkX r) (hs : SetL cmpX xs) (hn : n ≤ 1000000) :
    Calls Try.prog 10 #[.slice A n c, .agg #[.string r.s, .int .i64 r.t, .int .i64 r.c, .int .i64 r.l, .string r.d]] w fun e w' =>
      ∃ x, x = (findX cmpX r xs).getD zeroR ∧ e = .returned (.tuple #[.agg #[.string x.s, .int .i64 x.t, .int .i64 x.c, .int .i64 x.l, .string x.d], .bool (hitX cmpX r xs)]) ∧ Below w.heap.size w w' := by
  obtain ⟨W, hW⟩ : ∃ W, W = ((w.alloc (.cells #[.string r.s, .int .i64 r.t, .int .i64 r.c, .int .i64 r.l, .string r.d] 24)).alloc (.cells #[.string ⟨#[]⟩, .int .i64 0, .int .i64 0, .int .i64 0, .string ⟨#[]⟩] 24)) := ⟨_, rfl⟩
  have hsz : W.heap.size = w.heap.size + 1 + 1 := by rw [hW]; simp
  have HB0 := Lib.hid (show Below w.heap.size w W by rw [hW]; exact ((Below.refl _ _).alloc (Nat.le_refl _) _).alloc (by simp) _)
  have HBX := Lib.hid (show Five W w.heap.size 0 r by rw [hW]; exact (box_five w r).keep ((Below.refl _ _).alloc (Nat.le_refl _) _) (by simp))
  have HZ := Lib.hid (show Whole W (w.heap.size + 1) 24 #[.string ⟨#[]⟩, .int .i64 0, .int .i64 0, .int .i64 0, .string ⟨#[]⟩] by
    rw [hW]
    have h := Whole.new (w.alloc (.cells #[.string r.s, .int .i64 r.t, .int .i64 r.c, .int .i64 r.l, .string r.d] 24)) 24 #[.string ⟨#[]⟩, .int .i64 0, .int .i64 0, .int .i64 0, .string ⟨#[]⟩]
    rw [World.size_alloc] at h
    exact h)
  obtain ⟨p0, p1, p2, p3, p4⟩ := HBX.out
  have HW := Lib.hid hW
  have HX0 := Lib.hid hx
  have HX := Lib.hid ((hx.keep HB0.out).more HB0.out.size)
  have HOK := Lib.hid hok
  have HR := Lib.hid hr
  have HS := Lib.hid hs
  have HNN := Lib.hid (show n ≤ 1073741824 by omega)
  have HSZ := Lib.hid hsz
  have hfi := findX_is (cmp := cmpX) r xs
  clear hx hok hr hs hW hsz
  cases hit : hitX cmpX r xs with
  | false =>
    rw [hit] at hfi
    have HFI := Lib.hid (show findX cmpX r xs = none by rw [hfi]; rfl)
    have HIT := Lib.hid hit
    clear hfi hit
    go_enter Try.func10, Try.ntmps10
    rw [HW.out] at p0 p1 p2 p3 p4
    go_wp2_with fail
    rw [← HW.out]
    refine (position_any _ n _ xs r _ HX.out HOK.out HR.out HS.out HNN.out).mono ?_
    rw [HIT.out]
    rintro e w1 ⟨rfl, hB⟩
    have HB1 := Lib.hid (HB0.out.trans (hB.mono HB0.out.size))
    have hz := HZ.out.below hB (by rw [HSZ.out]; omega)
    have hl := hz.lt
    have HZ1 := Lib.hid hz
    clear hB p0 p1 p2 p3 p4 hz
    obtain ⟨z0, z1, z2, z3, z4⟩ := rr_facts (show Whole w1 (w.heap.size + 1) rrT (rrA ⟨#[]⟩ ⟨#[]⟩ 0 0 0) from HZ1.out)
    have f0 := HZ1.out.frozen 0
    have f1 := HZ1.out.frozen 1
    have f2 := HZ1.out.frozen 2
    have f3 := HZ1.out.frozen 3
    have f4 := HZ1.out.frozen 4
    go_wp2_with fail
    refine ret52 rfl rfl rfl rfl (five_put HZ1.out _ _ _ _ _) ⟨zeroR, by rw [HFI.out]; rfl, rfl, ?_⟩
    exact HB1.out.trans ((below5 w1 (w.heap.size + 1) _ _ _ _ _).mono (by omega))
  | true =>
    rw [hit] at hfi
    obtain ⟨p, hp⟩ : ∃ p, p = posX cmpX r xs := ⟨_, rfl⟩
    have hpn : p < n := by have := hitX_lt r xs hit; rw [HX0.out.1] at this; omega
    obtain ⟨b, off, x, hA, hb, hxp, hfx⟩ := HX0.out.at hpn
    subst hA
    have HFI := Lib.hid (show findX cmpX r xs = some x by rw [hfi, if_pos rfl, ← hp, hxp])
    have HP := Lib.hid hp
    have HFX := Lib.hid hfx
    have g0 : (0 : Int) ≤ (p : Int) := by omega
    have g1 : (p : Int) < (n : Int) := by omega
    clear hxp hfx hp
    have HIT := Lib.hid hit
    clear hfi hit
    go_enter Try.func10, Try.ntmps10
    rw [HW.out] at p0 p1 p2 p3 p4
    go_wp2_with fail
    rw [← HW.out]
    refine (position_any _ n _ xs r _ HX.out HOK.out HR.out HS.out HNN.out).mono ?_
    rw [HIT.out, ← HP.out]
    rintro e w1 ⟨rfl, hB⟩
    have HB1 := Lib.hid (HB0.out.trans (hB.mono HB0.out.size))
    have hz := HZ.out.below hB (by rw [HSZ.out]; omega)
    have hl := hz.lt
    have HZ1 := Lib.hid hz
    obtain ⟨q0, q1, q2, q3, q4⟩ := HFX.out.keep HB1.out hb
    clear hB p0 p1 p2 p3 p4 hz
    obtain ⟨z0, z1, z2, z3, z4⟩ := rr_facts (show Whole w1 (w.heap.size + 1) rrT (rrA ⟨#[]⟩ ⟨#[]⟩ 0 0 0) from HZ1.out)
    have f0 := HZ1.out.frozen 0
    have f1 := HZ1.out.frozen 1
    have f2 := HZ1.out.frozen 2
    have f3 := HZ1.out.frozen 3
    have f4 := HZ1.out.frozen 4
    go_wp2_with fail
    refine ret52 rfl rfl rfl rfl (five_put HZ1.out _ _ _ _ _) ⟨x, by rw [HFI.out]; rfl, rfl, ?_⟩
    exact HB1.out.trans ((below5 w1 (w.heap.size + 1) _ _ _ _ _).mono (by omega))
end Go.Proofs.Ytkgojdmjagicdaa
