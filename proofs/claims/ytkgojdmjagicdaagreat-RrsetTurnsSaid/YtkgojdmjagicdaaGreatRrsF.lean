/- slices.Clone at records; the program's Put, Drop, Find. No statement of the seat is proved here. -/
import Derived.Test.YtkgojdmjagicdaaGreatRrsD
import Derived.Test.YtkgojdmjagicdaaGreatRrsE
import Derived.Lib.SliceRun
namespace Go.Proofs.YtkgojdmjagicdaaGreat
open Go.RowKit Go.Op

/-- a slice's room -/
def InCap (A : Option Addr) (n c : Nat) : Prop := n ≤ c ∧ c ≤ 9223372036854775807 ∧ (A = none → c = 0) ∧ (∀ ad, A = some ad → 0 < c → ad.spot = none)
theorem SeesR.some {w : World} {B : Nat} {ad : Addr} {n : Nat} {xs : List Rrd} (h : SeesR w B (some ad) n xs) (hn : 0 < n) : ∃ b off, ad = ⟨b, off, none⟩ ∧ b < B := by
  obtain ⟨b, off, e, hb, _⟩ := h.2 hn
  injection e with e
  exact ⟨b, off, e, hb⟩
theorem SeesR.take {w : World} {B : Nat} {A : Option Addr} {n : Nat} {xs : List Rrd} (h : SeesR w B A n xs) {i : Nat} (hi : i ≤ n) : SeesR w B A i (xs.take i) := by
  refine ⟨by rw [List.length_take, h.1]; omega, fun h0 => ?_⟩
  obtain ⟨b, off, e, hb, hc⟩ := h.2 (by omega)
  exact ⟨b, off, e, hb, fun j x hx => hc j x (by rw [List.getElem?_take] at hx; split at hx <;> first | exact hx | cases hx)⟩
theorem SeesR.drop {w : World} {B : Nat} {b off n : Nat} {xs : List Rrd} (h : SeesR w B (Option.some ⟨b, off, none⟩) n xs) {i : Nat} (hi : i ≤ n) : SeesR w B (Option.some ⟨b, off + i * 5, none⟩) (n - i) (xs.drop i) := by
  refine ⟨by rw [List.length_drop, h.1], fun h0 => ?_⟩
  obtain ⟨b', off', e, hb, hc⟩ := h.2 (by omega)
  obtain ⟨rfl, rfl⟩ : b = b' ∧ off = off' := by simpa using e
  refine ⟨b, off + i * 5, rfl, hb, fun j x hx => ?_⟩
  rw [List.getElem?_drop] at hx
  obtain ⟨x0, x1, x2, x3, x4⟩ := hc (i + j) x hx
  have e0 : off + i * 5 + j * 5 = off + (i + j) * 5 := by omega
  rw [e0]
  exact ⟨x0, x1, x2, x3, x4⟩
theorem SeesR.one (w : World) (r : Rrd) : SeesR (w.alloc (.cells #[.string r.s, .int .i64 r.t, .int .i64 r.c, .int .i64 r.l, .string r.d] 28)) (w.heap.size + 1) (Option.some ⟨w.heap.size, 0, none⟩) 1 [r] := by
  refine ⟨rfl, fun _ => ⟨w.heap.size, 0, rfl, by omega, fun j x hx => ?_⟩⟩
  cases j with
  | zero =>
    simp only [List.getElem?_cons_zero, Option.some.injEq] at hx
    subst hx
    simp only [Nat.zero_mul, Nat.zero_add]
    exact box_five w r
  | succ j => simp at hx

set_option maxHeartbeats 4000000 in
set_option maxRecDepth 20000 in
theorem Clone_any (A : Option Addr) (n c : Nat) (xs : List Rrd) (w : World) (hx : SeesR w w.heap.size A n xs) (hn : n ≤ 1073741824) :
    Calls Tryz.prog 18 #[.slice A n c] w fun e w' => ∃ v, e = .returned v ∧ w'.ownsRow w.heap.size 28 5 v n (rcells xs) ∧ Below w.heap.size w w' := by
  have HX := Lib.hid hx
  have q22 : ∀ (w : World) (a : Option Addr) (n c n' c' : Nat), (binOp .eql 22 (.slice a n c) (.slice none n' c')).run Tryz.prog w = .ok (.bool a.isNone) w := fun w a n c n' c' => Lib.run_eql_slice_nil w _ _ a n c n' c' Tryz.underlying22
  clear hx
  rcases A with _ | ad
  · have hm : n = 0 := by
      rcases Nat.eq_zero_or_pos n with h0 | h0
      · exact h0
      · obtain ⟨b, off, e, _⟩ := HX.out.2 h0
        cases e
    have hxs : xs = [] := List.eq_nil_of_length_eq_zero (by rw [HX.out.1, hm])
    subst hm hxs
    clear HX
    go_enter Tryz.func18, Tryz.ntmps18
    go_wp2_with fail
    go_ret
    exact ⟨_, rfl, own_nil _ _ _ _, Below.refl _ _⟩
  · have HO := Lib.hid (own_noneR w w.heap.size (Nat.le_refl _))
    have HB := Lib.hid (show Below w.heap.size w (w.alloc (.cells #[] 28)) from (Below.refl _ _).alloc (Nat.le_refl _) _)
    have HX2 := Lib.hid (HX.out.keep HB.out)
    have HN := Lib.hid (show 0 + n ≤ 1073741824 by omega)
    go_enter Tryz.func18, Tryz.ntmps18
    go_wp2_with (at_builtin; (refine wpList_append_R rfl _ _ rfl w.heap.size _ 0 [] rfl HO.out w.heap.size _ _ _ _ rfl HX2.out HN.out HB.out.size ?_); intro v' w' ho hg)
    rw [Nat.zero_add, List.nil_append] at ho
    have HO2 := Lib.hid ho
    have HB2 := Lib.hid (HB.out.grown hg HB.out.size (own_block_ge HO.out))
    clear ho hg
    go_wp2_with fail
    go_ret
    exact ⟨_, rfl, HO2.out, HB2.out⟩

/-- does Put say that the set was another? -/
def otherX (r : Rrd) (xs : List Rrd) : Bool := match findX cmpX r xs with | some x => !eqX x r | none => true
theorem three_slots {w W : World} (s0 s2 : Slot) (r : Rrd) (t : TypeId) (hB : Below w.heap.size w W) (h0 : SeesR w w.heap.size s0.A s0.n s0.l) (h2 : SeesR w w.heap.size s2.A s2.n s2.l) :
    SeesSl ((W.alloc (.cells #[.string r.s, .int .i64 r.t, .int .i64 r.c, .int .i64 r.l, .string r.d] 28)).alloc (.cells #[.slice s0.A s0.n s0.c, .slice (some ⟨W.heap.size, 0, none⟩) 1 1, .slice s2.A s2.n s2.c] t))
      (W.heap.size + 1 + 1) (some ⟨W.heap.size + 1, 0, none⟩) [s0, ⟨some ⟨W.heap.size, 0, none⟩, 1, 1, [r]⟩, s2] := by
  obtain ⟨W1, hW1⟩ : ∃ W1, W1 = W.alloc (.cells #[.string r.s, .int .i64 r.t, .int .i64 r.c, .int .i64 r.l, .string r.d] 28) := ⟨_, rfl⟩
  have hs : W1.heap.size = W.heap.size + 1 := by rw [hW1]; simp
  have hone : SeesR W1 (W.heap.size + 1) (some ⟨W.heap.size, 0, none⟩) 1 [r] := by rw [hW1]; exact SeesR.one W r
  have hB1 : Below w.heap.size w W1 := by rw [hW1]; exact hB.alloc hB.size _
  rw [← hW1, ← hs]
  obtain ⟨W2, hW2⟩ : ∃ W2, W2 = W1.alloc (.cells #[.slice s0.A s0.n s0.c, .slice (some ⟨W.heap.size, 0, none⟩) 1 1, .slice s2.A s2.n s2.c] t) := ⟨_, rfl⟩
  have hw := Whole.new W1 t #[.slice s0.A s0.n s0.c, .slice (some ⟨W.heap.size, 0, none⟩) 1 1, .slice s2.A s2.n s2.c]
  rw [← hW2] at hw ⊢
  have hB2 : Below W1.heap.size W1 W2 := by rw [hW2]; exact (Below.refl _ _).alloc (Nat.le_refl _) _
  have hBw : Below w.heap.size w W2 := hB1.trans (hB2.mono hB1.size)
  refine ⟨⟨W1.heap.size, 0, rfl, by omega, fun j s hs => ?_⟩, fun s hs => ?_⟩
  · match j, hs with
    | 0, hs => obtain rfl : s0 = s := by simpa using hs
               exact hw.cell 0
    | 1, hs => simp at hs; subst hs; exact hw.cell 1
    | 2, hs => obtain rfl : s2 = s := by simpa using hs
               exact hw.cell 2
    | j + 3, hs => simp at hs
  · simp only [List.mem_cons, List.not_mem_nil, or_false] at hs
    have hle : w.heap.size ≤ W1.heap.size + 1 := by have := hB1.size; omega
    rcases hs with rfl | rfl | rfl
    · exact (h0.keep hBw).more hle
    · exact (((hs ▸ hone : SeesR W1 (W.heap.size + 1) _ 1 [r])).keep (hB2.mono (by omega))).more (by omega)
    · exact (h2.keep hBw).more hle


theorem own_less {w : World} {b b' : Nat} {e : TypeId} {k : Nat} {v : Value} {n : Nat} {xs : List Value} (h : w.ownsRow b e k v n xs) (hb : b' ≤ b) : w.ownsRow b' e k v n xs := by
  obtain ⟨h1, h2⟩ := h
  refine ⟨h1, ?_⟩
  rcases h2 with h2 | ⟨g, cap, cur, h3, h4, h5⟩
  · exact .inl h2
  · exact .inr ⟨g, cap, cur, h3, by omega, h5⟩
theorem seesR_none {w : World} {B : Nat} {A : Option Addr} {n k : Nat} {xs : List Rrd} (hn : n = 0) (hk : xs.length ≤ k) : SeesR w B A n (xs.drop k) :=
  ⟨by rw [List.length_drop]; omega, fun h => absurd h (by omega)⟩
theorem joinS3 {A0 A1 A2 : Option Addr} {n0 n1 n2 c0 c1 c2 : Nat} {l0 l2 : List Rrd} {r : Rrd} : joinS [⟨A0, n0, c0, l0⟩, ⟨A1, n1, c1, [r]⟩, ⟨A2, n2, c2, l2⟩] = l0 ++ r :: l2 := by simp [joinS]
theorem three_drew {w W : World} {p : Nat} {A0 A2 : Option Addr} {n2 c0 c2 : Nat} {l0 l2 : List Rrd} (r : Rrd) (t : TypeId) (hB : Below w.heap.size w W) (h0 : SeesR w w.heap.size A0 p l0) (h2 : SeesR w w.heap.size A2 n2 l2) :
    SeesSl ((W.alloc (.cells #[.string r.s, .int .i64 r.t, .int .i64 r.c, .int .i64 r.l, .string r.d] 28)).alloc (.cells #[.slice A0 p c0, .slice (some ⟨W.heap.size, 0, none⟩) 1 1, .slice A2 n2 c2] t)).drew
      ((W.alloc (.cells #[.string r.s, .int .i64 r.t, .int .i64 r.c, .int .i64 r.l, .string r.d] 28)).alloc (.cells #[.slice A0 p c0, .slice (some ⟨W.heap.size, 0, none⟩) 1 1, .slice A2 n2 c2] t)).drew.heap.size (some ⟨W.heap.size + 1, 0, none⟩) [⟨A0, p, c0, l0⟩, ⟨some ⟨W.heap.size, 0, none⟩, 1, 1, [r]⟩, ⟨A2, n2, c2, l2⟩] := by
  have h := three_slots ⟨A0, p, c0, l0⟩ ⟨A2, n2, c2, l2⟩ r t hB h0 h2
  have e : ((W.alloc (.cells #[.string r.s, .int .i64 r.t, .int .i64 r.c, .int .i64 r.l, .string r.d] 28)).alloc (.cells #[.slice A0 p c0, .slice (some ⟨W.heap.size, 0, none⟩) 1 1, .slice A2 n2 c2] t)).drew.heap.size = W.heap.size + 1 + 1 := by simp
  rw [e]
  exact h.keep (Below.refl _ _).drew
theorem below_two {W V : World} {o1 o2 : Obj} (h : Below ((W.alloc o1).alloc o2).drew.heap.size ((W.alloc o1).alloc o2).drew V) : Below W.heap.size W V := by
  have h1 : Below W.heap.size W ((W.alloc o1).alloc o2).drew := (((Below.refl _ _).alloc (Nat.le_refl _) o1).alloc (by simp) o2).drew
  exact h1.trans (h.mono h1.size)

set_option maxHeartbeats 8000000 in
set_option maxRecDepth 20000 in
theorem Put_hit (b off n c : Nat) (xs : List Rrd) (r : Rrd) (w : World) (hx : SeesR w w.heap.size (some ⟨b, off, none⟩) n xs) (hcap : n ≤ c) (hok : OkL xs) (hr : OkX r) (hs : SetL cmpX xs) (hn : n ≤ 1000000) (hit : hitX cmpX r xs = true) :
    Calls Tryz.prog 14 #[.slice (some ⟨b, off, none⟩) n c, .agg #[.string r.s, .int .i64 r.t, .int .i64 r.c, .int .i64 r.l, .string r.d]] w fun e w' =>
      ∃ v, e = .returned (.tuple #[v, .bool (otherX r xs)]) ∧ w'.ownsRow w.heap.size 28 5 v (putX cmpX r xs).length (rcells (putX cmpX r xs)) ∧ Below w.heap.size w w' := by
  obtain ⟨p, hp⟩ : ∃ p, p = posX cmpX r xs := ⟨_, rfl⟩
  have hpn : p < n := by have := hitX_lt r xs hit; rw [hx.1] at this; omega
  obtain ⟨_, _, x, hA, hb, hxp, hfx⟩ := hx.at hpn
  obtain ⟨rfl, rfl⟩ := (by simpa using hA : b = _ ∧ off = _)
  have hput : putX cmpX r xs = xs.take p ++ r :: xs.drop (p + 1) := by rw [putX_is, hit, ← hp]; rfl
  have hoth : otherX r xs = !eqX x r := by unfold otherX; rw [findX_is, hit, ← hp, if_pos rfl, hxp]
  have HB0 := Lib.hid (show Below w.heap.size w (w.alloc (.cells #[.string r.s, .int .i64 r.t, .int .i64 r.c, .int .i64 r.l, .string r.d] 28)) from (Below.refl _ _).alloc (Nat.le_refl _) _)
  obtain ⟨p0, p1, p2, p3, p4⟩ := box_five w r
  have HBX := Lib.hid (box_five w r)
  have HX0 := Lib.hid hx
  have HFX := Lib.hid hfx
  have HX := Lib.hid ((hx.keep HB0.out).more HB0.out.size)
  have HOK := Lib.hid hok
  have HR := Lib.hid hr
  have HS := Lib.hid hs
  have HIT := Lib.hid hit
  have HP := Lib.hid hp
  have HPUT := Lib.hid hput
  have HOTH := Lib.hid hoth
  have hne := rr_neq x r
  have hgd := fun op a b => rr_guard op a b x r
  have g0 : (0 : Int) ≤ (p : Int) := by omega
  have g1 : (p : Int) < (n : Int) := by omega
  have g2 : (p : Int) ≤ (n : Int) := by omega
  have g3 : (n : Int) ≤ (c : Int) := by omega
  have g4 : (p : Int) ≤ (c : Int) := by omega
  have g5 : (p : Int) + 1 ≤ (n : Int) := by omega
  have g6 : (0 : Int) ≤ (p : Int) + 1 := by omega
  clear hx hok hr hs hit hp hA hput hoth hxp hfx
  go_enter Tryz.func14, Tryz.ntmps14
  go_wp2_with fail
  refine (position_any _ n c xs r _ HX.out HOK.out HR.out HS.out (by omega)).mono ?_
  rw [HIT.out, ← HP.out]
  rintro e w1 ⟨rfl, hB⟩
  have HB1 := Lib.hid (HB0.out.trans (hB.mono HB0.out.size))
  obtain ⟨p0, p1, p2, p3, p4⟩ := HBX.out.keep hB (by simp)
  obtain ⟨q0, q1, q2, q3, q4⟩ := HFX.out.keep HB1.out hb
  have HT := Lib.hid (show SeesR w w.heap.size (some ⟨b, off, none⟩) p (xs.take p) from HX0.out.take (by omega))
  have HLEN := Lib.hid (show (xs.take p ++ r :: xs.drop (p + 1)).length ≤ 1073741824 by
    have := HX0.out.1
    simp
    omega)
  have g7 : (p : Int) ≤ (p : Int) + 1 := by omega
  have HBX1 := Lib.hid (HBX.out.keep hB (by simp))
  have HFX1 := Lib.hid (HFX.out.keep HB1.out hb)
  have HWL := Lib.hid (show w.heap.size < w1.heap.size by have := hB.size; simp at this; omega)
  have HBL := Lib.hid (show b < w1.heap.size from Nat.lt_of_lt_of_le hb HB1.out.size)
  clear hB
  go_wp2_with fail
  case inl hcc =>
    have H2 := Lib.hid (show SeesR w w.heap.size (some ⟨b, off, none⟩) (n - (p + 1)) (xs.drop (p + 1)) from seesR_none (by omega) (by rw [HX0.out.1]; omega))
    go_region_held3 (fun w' => w'.cell? ⟨w.heap.size, 0, none⟩ = some (.string r.s) ∧ w'.cell? ⟨w.heap.size, 0 + 1, none⟩ = some (.int .i64 r.t) ∧ w'.cell? ⟨w.heap.size, 0 + 2, none⟩ = some (.int .i64 r.c) ∧ w'.cell? ⟨w.heap.size, 0 + 3, none⟩ = some (.int .i64 r.l) ∧ w'.cell? ⟨w.heap.size, 0 + 4, none⟩ = some (.string r.d) ∧
      w'.cell? ⟨b, off + p * 5, none⟩ = some (.string x.s) ∧ w'.cell? ⟨b, off + p * 5 + 1, none⟩ = some (.int .i64 x.t) ∧ w'.cell? ⟨b, off + p * 5 + 2, none⟩ = some (.int .i64 x.c) ∧ w'.cell? ⟨b, off + p * 5 + 3, none⟩ = some (.int .i64 x.l) ∧ w'.cell? ⟨b, off + p * 5 + 4, none⟩ = some (.string x.d)) (go_keep)
      (first | (go_at_call 29; (refine (Concat_any _ 3 _ _ _ (three_drew r _ HB1.out HT.out H2.out) rfl (by decide) (by rw [joinS3]; exact HLEN.out)).mono ?_; rw [joinS3]; rintro e w3 ⟨v3, rfl, ho3, hB3⟩; have hB3' := below_two hB3; obtain ⟨k0, k1, k2, k3, k4⟩ := HBX1.out.keep hB3' HWL.out; obtain ⟨m0, m1, m2, m3, m4⟩ := HFX1.out.keep hB3' HBL.out)))
    all_goals (
      have HO3 := Lib.hid ho3
      have HB3 := Lib.hid hB3'
      clear ho3 hB3
      go_wp2_with fail
      go_ret2
      exact ⟨v3, by rw [HOTH.out]; rfl, by rw [HPUT.out]; exact own_less HO3.out (by have := HB1.out.size; simp; omega), HB1.out.trans (HB3.out.mono HB1.out.size)⟩)
  case inr hcc =>
    have H2 := Lib.hid (show SeesR w w.heap.size (some ⟨b, off + (p + 1) * 5, none⟩) (n - (p + 1)) (xs.drop (p + 1)) from HX0.out.drop (by omega))
    go_region_held3 (fun w' => w'.cell? ⟨w.heap.size, 0, none⟩ = some (.string r.s) ∧ w'.cell? ⟨w.heap.size, 0 + 1, none⟩ = some (.int .i64 r.t) ∧ w'.cell? ⟨w.heap.size, 0 + 2, none⟩ = some (.int .i64 r.c) ∧ w'.cell? ⟨w.heap.size, 0 + 3, none⟩ = some (.int .i64 r.l) ∧ w'.cell? ⟨w.heap.size, 0 + 4, none⟩ = some (.string r.d) ∧
      w'.cell? ⟨b, off + p * 5, none⟩ = some (.string x.s) ∧ w'.cell? ⟨b, off + p * 5 + 1, none⟩ = some (.int .i64 x.t) ∧ w'.cell? ⟨b, off + p * 5 + 2, none⟩ = some (.int .i64 x.c) ∧ w'.cell? ⟨b, off + p * 5 + 3, none⟩ = some (.int .i64 x.l) ∧ w'.cell? ⟨b, off + p * 5 + 4, none⟩ = some (.string x.d)) (go_keep)
      (first | (go_at_call 29; (refine (Concat_any _ 3 _ _ _ (three_drew r _ HB1.out HT.out H2.out) rfl (by decide) (by rw [joinS3]; exact HLEN.out)).mono ?_; rw [joinS3]; rintro e w3 ⟨v3, rfl, ho3, hB3⟩; have hB3' := below_two hB3; obtain ⟨k0, k1, k2, k3, k4⟩ := HBX1.out.keep hB3' HWL.out; obtain ⟨m0, m1, m2, m3, m4⟩ := HFX1.out.keep hB3' HBL.out)))
    all_goals (
      have HO3 := Lib.hid ho3
      have HB3 := Lib.hid hB3'
      clear ho3 hB3
      go_wp2_with fail
      go_ret2
      exact ⟨v3, by rw [HOTH.out]; rfl, by rw [HPUT.out]; exact own_less HO3.out (by have := HB1.out.size; simp; omega), HB1.out.trans (HB3.out.mono HB1.out.size)⟩)
set_option maxHeartbeats 8000000 in
set_option maxRecDepth 20000 in
theorem Put_miss (b off n c : Nat) (xs : List Rrd) (r : Rrd) (w : World) (hx : SeesR w w.heap.size (some ⟨b, off, none⟩) n xs) (hcap : n ≤ c) (hok : OkL xs) (hr : OkX r) (hs : SetL cmpX xs) (hn : n ≤ 1000000) (hit : hitX cmpX r xs = false) :
    Calls Tryz.prog 14 #[.slice (some ⟨b, off, none⟩) n c, .agg #[.string r.s, .int .i64 r.t, .int .i64 r.c, .int .i64 r.l, .string r.d]] w fun e w' =>
      ∃ v, e = .returned (.tuple #[v, .bool (otherX r xs)]) ∧ w'.ownsRow w.heap.size 28 5 v (putX cmpX r xs).length (rcells (putX cmpX r xs)) ∧ Below w.heap.size w w' := by
  obtain ⟨p, hp⟩ : ∃ p, p = posX cmpX r xs := ⟨_, rfl⟩
  have hpn : p ≤ n := by have := posX_le (cmp := cmpX) r xs; rw [hx.1] at this; omega
  have hput : putX cmpX r xs = xs.take p ++ r :: xs.drop p := by rw [putX_is, hit, ← hp]; rfl
  have hoth : otherX r xs = true := by unfold otherX; rw [findX_is, hit]; rfl
  have HB0 := Lib.hid (show Below w.heap.size w (w.alloc (.cells #[.string r.s, .int .i64 r.t, .int .i64 r.c, .int .i64 r.l, .string r.d] 28)) from (Below.refl _ _).alloc (Nat.le_refl _) _)
  obtain ⟨p0, p1, p2, p3, p4⟩ := box_five w r
  have HBX := Lib.hid (box_five w r)
  have HX0 := Lib.hid hx
  have HX := Lib.hid ((hx.keep HB0.out).more HB0.out.size)
  have HOK := Lib.hid hok
  have HR := Lib.hid hr
  have HS := Lib.hid hs
  have HIT := Lib.hid hit
  have HP := Lib.hid hp
  have HPUT := Lib.hid hput
  have HOTH := Lib.hid hoth
  have g0 : (0 : Int) ≤ (p : Int) := by omega
  have g2 : (p : Int) ≤ (n : Int) := by omega
  have g3 : (n : Int) ≤ (c : Int) := by omega
  have g4 : (p : Int) ≤ (c : Int) := by omega
  clear hx hok hr hs hit hp hput hoth
  go_enter Tryz.func14, Tryz.ntmps14
  go_wp2_with fail
  refine (position_any _ n c xs r _ HX.out HOK.out HR.out HS.out (by omega)).mono ?_
  rw [HIT.out, ← HP.out]
  rintro e w1 ⟨rfl, hB⟩
  have HB1 := Lib.hid (HB0.out.trans (hB.mono HB0.out.size))
  obtain ⟨p0, p1, p2, p3, p4⟩ := HBX.out.keep hB (by simp)
  have HT := Lib.hid (show SeesR w w.heap.size (some ⟨b, off, none⟩) p (xs.take p) from HX0.out.take (by omega))
  have HLEN := Lib.hid (show (xs.take p ++ r :: xs.drop p).length ≤ 1073741824 by
    have := HX0.out.1
    simp
    omega)
  have HBX1 := Lib.hid (HBX.out.keep hB (by simp))
  have HWL := Lib.hid (show w.heap.size < w1.heap.size by have := hB.size; simp at this; omega)
  clear hB
  go_wp2_with fail
  case inl hcc =>
    have H2 := Lib.hid (show SeesR w w.heap.size (some ⟨b, off, none⟩) (n - p) (xs.drop p) from seesR_none (by omega) (by rw [HX0.out.1]; omega))
    refine wp_region_held_drew (S := fun w' => w'.cell? ⟨w.heap.size, 0, none⟩ = some (.string r.s) ∧ w'.cell? ⟨w.heap.size, 0 + 1, none⟩ = some (.int .i64 r.t) ∧ w'.cell? ⟨w.heap.size, 0 + 2, none⟩ = some (.int .i64 r.c) ∧ w'.cell? ⟨w.heap.size, 0 + 3, none⟩ = some (.int .i64 r.l) ∧ w'.cell? ⟨w.heap.size, 0 + 4, none⟩ = some (.string r.d)) (by kernel_rfl) ?hS (fun hHeld => ?go)
    case hS => exact ⟨p0, p1, p2, p3, p4⟩
    case go =>
      refine takeH (i := 0) (v := ?_) rfl (by kernel_rfl) (by kernel_rfl) (by kernel_rfl) (fun _ _ _ h => h) (Or.inl ⟨by rfl, ?_⟩) hHeld ?_
      rotate_left
      · (intro w hSw; (try dsimp only at hSw); go_simp; (try with_reducible rfl))
      try simp only [Act.put, List.setIfInBounds_toArray, List.set_cons_zero, List.set_cons_succ]
      refine takeH (i := 1) (v := ?_) rfl (by kernel_rfl) (by kernel_rfl) (by kernel_rfl) (fun _ _ _ h => h) (Or.inl ⟨by rfl, ?_⟩) hHeld ?_
      rotate_left
      · (intro w hSw; (try dsimp only at hSw); go_simp; (try with_reducible rfl))
      try simp only [Act.put, List.setIfInBounds_toArray, List.set_cons_zero, List.set_cons_succ]
      refine takeH (i := 2) (v := ?_) rfl (by kernel_rfl) (by kernel_rfl) (by kernel_rfl) (fun _ _ _ h => h) (Or.inl ⟨by rfl, ?_⟩) hHeld ?_
      rotate_left
      · (intro w hSw; (try dsimp only at hSw); go_simp; (try with_reducible rfl))
      try simp only [Act.put, List.setIfInBounds_toArray, List.set_cons_zero, List.set_cons_succ]
      refine takeH (i := 5) (v := ?_) rfl (by kernel_rfl) (by kernel_rfl) (by kernel_rfl) (fun _ _ _ h => h) (Or.inl ⟨by rfl, ?_⟩) hHeld ?_
      rotate_left
      · (intro w hSw; (try dsimp only at hSw); go_simp; (try with_reducible rfl))
      try simp only [Act.put, List.setIfInBounds_toArray, List.set_cons_zero, List.set_cons_succ]
      refine takeH (i := 8) (v := ?_) rfl (by kernel_rfl) (by kernel_rfl) (by kernel_rfl) (fun _ _ _ h => h) (Or.inl ⟨by rfl, ?_⟩) hHeld ?_
      rotate_left
      · (intro w hSw; (try dsimp only at hSw); go_simp; (try with_reducible rfl))
      try simp only [Act.put, List.setIfInBounds_toArray, List.set_cons_zero, List.set_cons_succ]
      refine takeH (i := 9) (v := ?_) rfl (by kernel_rfl) (by kernel_rfl) (by kernel_rfl) (fun _ _ _ h => h) (Or.inl ⟨by rfl, ?_⟩) hHeld ?_
      rotate_left
      · (intro w hSw; (try dsimp only at hSw); go_simp; (try with_reducible rfl))
      try simp only [Act.put, List.setIfInBounds_toArray, List.set_cons_zero, List.set_cons_succ]
      refine takeH (i := 3) (v := ?_) rfl (by kernel_rfl) (by kernel_rfl) (by kernel_rfl) (fun _ _ _ h => h) (Or.inl ⟨by rfl, ?_⟩) hHeld ?_
      rotate_left
      · (intro w hSw; (try dsimp only at hSw); go_simp; (try with_reducible rfl))
      try simp only [Act.put, List.setIfInBounds_toArray, List.set_cons_zero, List.set_cons_succ]
      refine wpAnyH_ready (rs := [4]) (by kernel_rfl) (by simp) ?_
      refine consH (i := 4) rfl (fun K hK => ?_) AllReadyH.nil
      go_simp
      refine hK.out _ _ ?_ (fun hHeld => ?_)
      · go_keep
      clear hK K
      try simp only [Act.put, List.setIfInBounds_toArray, List.set_cons_zero, List.set_cons_succ]
      refine wpAnyH_ready (rs := [6]) (by kernel_rfl) (by simp) ?_
      refine consH (i := 6) rfl (fun K hK => ?_) AllReadyH.nil
      go_simp
      refine hK.out _ _ ?_ (fun hHeld => ?_)
      · go_keep
      clear hK K
      try simp only [Act.put, List.setIfInBounds_toArray, List.set_cons_zero, List.set_cons_succ]
      refine wpAnyH_ready (rs := [7]) (by kernel_rfl) (by simp) ?_
      refine consH (i := 7) rfl (fun K hK => ?_) AllReadyH.nil
      go_simp
      refine (Concat_any _ 3 _ _ _ (three_drew r _ HB1.out HT.out H2.out) rfl (by decide) (by rw [joinS3]; exact HLEN.out)).mono ?_
      rw [joinS3]
      rintro e w3 ⟨v3, rfl, ho3, hB3⟩
      have hB3' := below_two hB3
      obtain ⟨k0, k1, k2, k3, k4⟩ := HBX1.out.keep hB3' HWL.out
      go_wp2_with fail
      refine hK.out _ _ ?_ (fun hHeld => ?_)
      · exact ⟨k0, k1, k2, k3, k4⟩
      clear hK K
      try simp only [Act.put, List.setIfInBounds_toArray, List.set_cons_zero, List.set_cons_succ]
      refine takeH (i := 10) (v := ?_) rfl (by kernel_rfl) (by kernel_rfl) (by kernel_rfl) (fun _ _ _ h => h) (Or.inl ⟨by rfl, ?_⟩) hHeld ?_
      rotate_left
      · (intro w hSw; (try dsimp only at hSw); go_simp; (try with_reducible rfl))
      try simp only [Act.put, List.setIfInBounds_toArray, List.set_cons_zero, List.set_cons_succ]
      refine takeH (i := 11) (v := undef) rfl (by kernel_rfl) (by kernel_rfl) (by kernel_rfl) (fun _ _ _ h => h) (Or.inr ⟨by rfl, rfl⟩) hHeld ?_
      try simp only [Act.put, List.setIfInBounds_toArray, List.set_cons_zero, List.set_cons_succ]
      refine takeH (i := 12) (v := undef) rfl (by kernel_rfl) (by kernel_rfl) (by kernel_rfl) (fun _ _ _ h => h) (Or.inr ⟨by rfl, rfl⟩) hHeld ?_
      try simp only [Act.put, List.setIfInBounds_toArray, List.set_cons_zero, List.set_cons_succ]
      refine takeH (i := 13) (v := undef) rfl (by kernel_rfl) (by kernel_rfl) (by kernel_rfl) (fun _ _ _ h => h) (Or.inr ⟨by rfl, rfl⟩) hHeld ?_
      try simp only [Act.put, List.setIfInBounds_toArray, List.set_cons_zero, List.set_cons_succ]
      refine takeH (i := 14) (v := undef) rfl (by kernel_rfl) (by kernel_rfl) (by kernel_rfl) (fun _ _ _ h => h) (Or.inr ⟨by rfl, rfl⟩) hHeld ?_
      try simp only [Act.put, List.setIfInBounds_toArray, List.set_cons_zero, List.set_cons_succ]
      refine takeH (i := 15) (v := undef) rfl (by kernel_rfl) (by kernel_rfl) (by kernel_rfl) (fun _ _ _ h => h) (Or.inr ⟨by rfl, rfl⟩) hHeld ?_
      try simp only [Act.put, List.setIfInBounds_toArray, List.set_cons_zero, List.set_cons_succ]
      refine takeH (i := 16) (v := undef) rfl (by kernel_rfl) (by kernel_rfl) (by kernel_rfl) (fun _ _ _ h => h) (Or.inr ⟨by rfl, rfl⟩) hHeld ?_
      try simp only [Act.put, List.setIfInBounds_toArray, List.set_cons_zero, List.set_cons_succ]
      refine takeH (i := 17) (v := ?_) rfl (by kernel_rfl) (by kernel_rfl) (by kernel_rfl) (fun _ _ _ h => h) (Or.inl ⟨by rfl, ?_⟩) hHeld ?_
      rotate_left
      · (intro w hSw; (try dsimp only at hSw); go_simp; (try with_reducible rfl))
      try simp only [Act.put, List.setIfInBounds_toArray, List.set_cons_zero, List.set_cons_succ]
      refine takeH (i := 18) (v := ?_) rfl (by kernel_rfl) (by kernel_rfl) (by kernel_rfl) (fun _ _ _ h => h) (Or.inl ⟨by rfl, ?_⟩) hHeld ?_
      rotate_left
      · (intro w hSw; (try dsimp only at hSw); go_simp; (try with_reducible rfl))
      try simp only [Act.put, List.setIfInBounds_toArray, List.set_cons_zero, List.set_cons_succ]
      refine takeH (i := 19) (v := ?_) rfl (by kernel_rfl) (by kernel_rfl) (by kernel_rfl) (fun _ _ _ h => h) (Or.inl ⟨by rfl, ?_⟩) hHeld ?_
      rotate_left
      · (intro w hSw; (try dsimp only at hSw); go_simp; (try with_reducible rfl))
      try simp only [Act.put, List.setIfInBounds_toArray, List.set_cons_zero, List.set_cons_succ]
      refine wpAnyH_done (by kernel_rfl) ?_ _
      have HO3 := Lib.hid ho3
      have HB3 := Lib.hid hB3'
      clear ho3 hB3
      go_wp2_with fail
      go_ret2
      exact ⟨v3, by rw [HOTH.out]; rfl, by rw [HPUT.out]; exact own_less HO3.out (by have := HB1.out.size; simp; omega), HB1.out.trans (HB3.out.mono HB1.out.size)⟩
  case inr hcc =>
    have H2 := Lib.hid (show SeesR w w.heap.size (some ⟨b, off + p * 5, none⟩) (n - p) (xs.drop p) from HX0.out.drop (by omega))
    refine wp_region_held_drew (S := fun w' => w'.cell? ⟨w.heap.size, 0, none⟩ = some (.string r.s) ∧ w'.cell? ⟨w.heap.size, 0 + 1, none⟩ = some (.int .i64 r.t) ∧ w'.cell? ⟨w.heap.size, 0 + 2, none⟩ = some (.int .i64 r.c) ∧ w'.cell? ⟨w.heap.size, 0 + 3, none⟩ = some (.int .i64 r.l) ∧ w'.cell? ⟨w.heap.size, 0 + 4, none⟩ = some (.string r.d)) (by kernel_rfl) ?hS (fun hHeld => ?go)
    case hS => exact ⟨p0, p1, p2, p3, p4⟩
    case go =>
      refine takeH (i := 0) (v := ?_) rfl (by kernel_rfl) (by kernel_rfl) (by kernel_rfl) (fun _ _ _ h => h) (Or.inl ⟨by rfl, ?_⟩) hHeld ?_
      rotate_left
      · (intro w hSw; (try dsimp only at hSw); go_simp; (try with_reducible rfl))
      try simp only [Act.put, List.setIfInBounds_toArray, List.set_cons_zero, List.set_cons_succ]
      refine takeH (i := 1) (v := ?_) rfl (by kernel_rfl) (by kernel_rfl) (by kernel_rfl) (fun _ _ _ h => h) (Or.inl ⟨by rfl, ?_⟩) hHeld ?_
      rotate_left
      · (intro w hSw; (try dsimp only at hSw); go_simp; (try with_reducible rfl))
      try simp only [Act.put, List.setIfInBounds_toArray, List.set_cons_zero, List.set_cons_succ]
      refine takeH (i := 2) (v := ?_) rfl (by kernel_rfl) (by kernel_rfl) (by kernel_rfl) (fun _ _ _ h => h) (Or.inl ⟨by rfl, ?_⟩) hHeld ?_
      rotate_left
      · (intro w hSw; (try dsimp only at hSw); go_simp; (try with_reducible rfl))
      try simp only [Act.put, List.setIfInBounds_toArray, List.set_cons_zero, List.set_cons_succ]
      refine takeH (i := 5) (v := ?_) rfl (by kernel_rfl) (by kernel_rfl) (by kernel_rfl) (fun _ _ _ h => h) (Or.inl ⟨by rfl, ?_⟩) hHeld ?_
      rotate_left
      · (intro w hSw; (try dsimp only at hSw); go_simp; (try with_reducible rfl))
      try simp only [Act.put, List.setIfInBounds_toArray, List.set_cons_zero, List.set_cons_succ]
      refine takeH (i := 8) (v := ?_) rfl (by kernel_rfl) (by kernel_rfl) (by kernel_rfl) (fun _ _ _ h => h) (Or.inl ⟨by rfl, ?_⟩) hHeld ?_
      rotate_left
      · (intro w hSw; (try dsimp only at hSw); go_simp; (try with_reducible rfl))
      try simp only [Act.put, List.setIfInBounds_toArray, List.set_cons_zero, List.set_cons_succ]
      refine takeH (i := 9) (v := ?_) rfl (by kernel_rfl) (by kernel_rfl) (by kernel_rfl) (fun _ _ _ h => h) (Or.inl ⟨by rfl, ?_⟩) hHeld ?_
      rotate_left
      · (intro w hSw; (try dsimp only at hSw); go_simp; (try with_reducible rfl))
      try simp only [Act.put, List.setIfInBounds_toArray, List.set_cons_zero, List.set_cons_succ]
      refine takeH (i := 3) (v := ?_) rfl (by kernel_rfl) (by kernel_rfl) (by kernel_rfl) (fun _ _ _ h => h) (Or.inl ⟨by rfl, ?_⟩) hHeld ?_
      rotate_left
      · (intro w hSw; (try dsimp only at hSw); go_simp; (try with_reducible rfl))
      try simp only [Act.put, List.setIfInBounds_toArray, List.set_cons_zero, List.set_cons_succ]
      refine wpAnyH_ready (rs := [4]) (by kernel_rfl) (by simp) ?_
      refine consH (i := 4) rfl (fun K hK => ?_) AllReadyH.nil
      go_simp
      refine hK.out _ _ ?_ (fun hHeld => ?_)
      · go_keep
      clear hK K
      try simp only [Act.put, List.setIfInBounds_toArray, List.set_cons_zero, List.set_cons_succ]
      refine wpAnyH_ready (rs := [6]) (by kernel_rfl) (by simp) ?_
      refine consH (i := 6) rfl (fun K hK => ?_) AllReadyH.nil
      go_simp
      refine hK.out _ _ ?_ (fun hHeld => ?_)
      · go_keep
      clear hK K
      try simp only [Act.put, List.setIfInBounds_toArray, List.set_cons_zero, List.set_cons_succ]
      refine wpAnyH_ready (rs := [7]) (by kernel_rfl) (by simp) ?_
      refine consH (i := 7) rfl (fun K hK => ?_) AllReadyH.nil
      go_simp
      refine (Concat_any _ 3 _ _ _ (three_drew r _ HB1.out HT.out H2.out) rfl (by decide) (by rw [joinS3]; exact HLEN.out)).mono ?_
      rw [joinS3]
      rintro e w3 ⟨v3, rfl, ho3, hB3⟩
      have hB3' := below_two hB3
      obtain ⟨k0, k1, k2, k3, k4⟩ := HBX1.out.keep hB3' HWL.out
      go_wp2_with fail
      refine hK.out _ _ ?_ (fun hHeld => ?_)
      · exact ⟨k0, k1, k2, k3, k4⟩
      clear hK K
      try simp only [Act.put, List.setIfInBounds_toArray, List.set_cons_zero, List.set_cons_succ]
      refine takeH (i := 10) (v := ?_) rfl (by kernel_rfl) (by kernel_rfl) (by kernel_rfl) (fun _ _ _ h => h) (Or.inl ⟨by rfl, ?_⟩) hHeld ?_
      rotate_left
      · (intro w hSw; (try dsimp only at hSw); go_simp; (try with_reducible rfl))
      try simp only [Act.put, List.setIfInBounds_toArray, List.set_cons_zero, List.set_cons_succ]
      refine takeH (i := 11) (v := undef) rfl (by kernel_rfl) (by kernel_rfl) (by kernel_rfl) (fun _ _ _ h => h) (Or.inr ⟨by rfl, rfl⟩) hHeld ?_
      try simp only [Act.put, List.setIfInBounds_toArray, List.set_cons_zero, List.set_cons_succ]
      refine takeH (i := 12) (v := undef) rfl (by kernel_rfl) (by kernel_rfl) (by kernel_rfl) (fun _ _ _ h => h) (Or.inr ⟨by rfl, rfl⟩) hHeld ?_
      try simp only [Act.put, List.setIfInBounds_toArray, List.set_cons_zero, List.set_cons_succ]
      refine takeH (i := 13) (v := undef) rfl (by kernel_rfl) (by kernel_rfl) (by kernel_rfl) (fun _ _ _ h => h) (Or.inr ⟨by rfl, rfl⟩) hHeld ?_
      try simp only [Act.put, List.setIfInBounds_toArray, List.set_cons_zero, List.set_cons_succ]
      refine takeH (i := 14) (v := undef) rfl (by kernel_rfl) (by kernel_rfl) (by kernel_rfl) (fun _ _ _ h => h) (Or.inr ⟨by rfl, rfl⟩) hHeld ?_
      try simp only [Act.put, List.setIfInBounds_toArray, List.set_cons_zero, List.set_cons_succ]
      refine takeH (i := 15) (v := undef) rfl (by kernel_rfl) (by kernel_rfl) (by kernel_rfl) (fun _ _ _ h => h) (Or.inr ⟨by rfl, rfl⟩) hHeld ?_
      try simp only [Act.put, List.setIfInBounds_toArray, List.set_cons_zero, List.set_cons_succ]
      refine takeH (i := 16) (v := undef) rfl (by kernel_rfl) (by kernel_rfl) (by kernel_rfl) (fun _ _ _ h => h) (Or.inr ⟨by rfl, rfl⟩) hHeld ?_
      try simp only [Act.put, List.setIfInBounds_toArray, List.set_cons_zero, List.set_cons_succ]
      refine takeH (i := 17) (v := ?_) rfl (by kernel_rfl) (by kernel_rfl) (by kernel_rfl) (fun _ _ _ h => h) (Or.inl ⟨by rfl, ?_⟩) hHeld ?_
      rotate_left
      · (intro w hSw; (try dsimp only at hSw); go_simp; (try with_reducible rfl))
      try simp only [Act.put, List.setIfInBounds_toArray, List.set_cons_zero, List.set_cons_succ]
      refine takeH (i := 18) (v := ?_) rfl (by kernel_rfl) (by kernel_rfl) (by kernel_rfl) (fun _ _ _ h => h) (Or.inl ⟨by rfl, ?_⟩) hHeld ?_
      rotate_left
      · (intro w hSw; (try dsimp only at hSw); go_simp; (try with_reducible rfl))
      try simp only [Act.put, List.setIfInBounds_toArray, List.set_cons_zero, List.set_cons_succ]
      refine takeH (i := 19) (v := ?_) rfl (by kernel_rfl) (by kernel_rfl) (by kernel_rfl) (fun _ _ _ h => h) (Or.inl ⟨by rfl, ?_⟩) hHeld ?_
      rotate_left
      · (intro w hSw; (try dsimp only at hSw); go_simp; (try with_reducible rfl))
      try simp only [Act.put, List.setIfInBounds_toArray, List.set_cons_zero, List.set_cons_succ]
      refine wpAnyH_done (by kernel_rfl) ?_ _
      have HO3 := Lib.hid ho3
      have HB3 := Lib.hid hB3'
      clear ho3 hB3
      go_wp2_with fail
      go_ret2
      exact ⟨v3, by rw [HOTH.out]; rfl, by rw [HPUT.out]; exact own_less HO3.out (by have := HB1.out.size; simp; omega), HB1.out.trans (HB3.out.mono HB1.out.size)⟩

set_option maxHeartbeats 8000000 in
set_option maxRecDepth 20000 in
theorem Put_nil (r : Rrd) (w : World) (hr : OkX r) :
    Calls Tryz.prog 14 #[.slice none 0 0, .agg #[.string r.s, .int .i64 r.t, .int .i64 r.c, .int .i64 r.l, .string r.d]] w fun e w' =>
      ∃ v, e = .returned (.tuple #[v, .bool true]) ∧ w'.ownsRow w.heap.size 28 5 v 1 (rcells [r]) ∧ Below w.heap.size w w' := by
  have hx : SeesR w w.heap.size none 0 [] := ⟨rfl, fun h => absurd h (by omega)⟩
  have HB0 := Lib.hid (show Below w.heap.size w (w.alloc (.cells #[.string r.s, .int .i64 r.t, .int .i64 r.c, .int .i64 r.l, .string r.d] 28)) from (Below.refl _ _).alloc (Nat.le_refl _) _)
  obtain ⟨p0, p1, p2, p3, p4⟩ := box_five w r
  have HBX := Lib.hid (box_five w r)
  have HX0 := Lib.hid hx
  have HX := Lib.hid ((hx.keep HB0.out).more HB0.out.size)
  have HR := Lib.hid hr
  clear hx hr
  go_enter Tryz.func14, Tryz.ntmps14
  go_wp2_with fail
  refine (position_any _ 0 0 [] r _ HX.out (fun x h => by cases h) HR.out List.Pairwise.nil (by omega)).mono ?_
  rintro e w1 ⟨rfl, hB⟩
  have HB1 := Lib.hid (HB0.out.trans (hB.mono HB0.out.size))
  obtain ⟨p0, p1, p2, p3, p4⟩ := HBX.out.keep hB (by simp)
  have HBX1 := Lib.hid (HBX.out.keep hB (by simp))
  have HWL := Lib.hid (show w.heap.size < w1.heap.size by have := hB.size; simp at this; omega)
  clear hB
  simp only [posX, hitX]
  go_wp2_with fail
  refine wp_region_held_drew (S := fun w' => w'.cell? ⟨w.heap.size, 0, none⟩ = some (.string r.s) ∧ w'.cell? ⟨w.heap.size, 0 + 1, none⟩ = some (.int .i64 r.t) ∧ w'.cell? ⟨w.heap.size, 0 + 2, none⟩ = some (.int .i64 r.c) ∧ w'.cell? ⟨w.heap.size, 0 + 3, none⟩ = some (.int .i64 r.l) ∧ w'.cell? ⟨w.heap.size, 0 + 4, none⟩ = some (.string r.d)) (by kernel_rfl) ?hS (fun hHeld => ?go)
  case hS => exact ⟨p0, p1, p2, p3, p4⟩
  case go =>
    refine takeH (i := 0) (v := ?_) rfl (by kernel_rfl) (by kernel_rfl) (by kernel_rfl) (fun _ _ _ h => h) (Or.inl ⟨by rfl, ?_⟩) hHeld ?_
    rotate_left
    · (intro w hSw; (try dsimp only at hSw); go_simp; (try with_reducible rfl))
    try simp only [Act.put, List.setIfInBounds_toArray, List.set_cons_zero, List.set_cons_succ]
    refine takeH (i := 1) (v := ?_) rfl (by kernel_rfl) (by kernel_rfl) (by kernel_rfl) (fun _ _ _ h => h) (Or.inl ⟨by rfl, ?_⟩) hHeld ?_
    rotate_left
    · (intro w hSw; (try dsimp only at hSw); go_simp; (try with_reducible rfl))
    try simp only [Act.put, List.setIfInBounds_toArray, List.set_cons_zero, List.set_cons_succ]
    refine takeH (i := 2) (v := ?_) rfl (by kernel_rfl) (by kernel_rfl) (by kernel_rfl) (fun _ _ _ h => h) (Or.inl ⟨by rfl, ?_⟩) hHeld ?_
    rotate_left
    · (intro w hSw; (try dsimp only at hSw); go_simp; (try with_reducible rfl))
    try simp only [Act.put, List.setIfInBounds_toArray, List.set_cons_zero, List.set_cons_succ]
    refine takeH (i := 5) (v := ?_) rfl (by kernel_rfl) (by kernel_rfl) (by kernel_rfl) (fun _ _ _ h => h) (Or.inl ⟨by rfl, ?_⟩) hHeld ?_
    rotate_left
    · (intro w hSw; (try dsimp only at hSw); go_simp; (try with_reducible rfl))
    try simp only [Act.put, List.setIfInBounds_toArray, List.set_cons_zero, List.set_cons_succ]
    refine takeH (i := 8) (v := ?_) rfl (by kernel_rfl) (by kernel_rfl) (by kernel_rfl) (fun _ _ _ h => h) (Or.inl ⟨by rfl, ?_⟩) hHeld ?_
    rotate_left
    · (intro w hSw; (try dsimp only at hSw); go_simp; (try with_reducible rfl))
    try simp only [Act.put, List.setIfInBounds_toArray, List.set_cons_zero, List.set_cons_succ]
    refine takeH (i := 9) (v := ?_) rfl (by kernel_rfl) (by kernel_rfl) (by kernel_rfl) (fun _ _ _ h => h) (Or.inl ⟨by rfl, ?_⟩) hHeld ?_
    rotate_left
    · (intro w hSw; (try dsimp only at hSw); go_simp; (try with_reducible rfl))
    try simp only [Act.put, List.setIfInBounds_toArray, List.set_cons_zero, List.set_cons_succ]
    refine takeH (i := 3) (v := ?_) rfl (by kernel_rfl) (by kernel_rfl) (by kernel_rfl) (fun _ _ _ h => h) (Or.inl ⟨by rfl, ?_⟩) hHeld ?_
    rotate_left
    · (intro w hSw; (try dsimp only at hSw); go_simp; (try with_reducible rfl))
    try simp only [Act.put, List.setIfInBounds_toArray, List.set_cons_zero, List.set_cons_succ]
    refine wpAnyH_ready (rs := [4]) (by kernel_rfl) (by simp) ?_
    refine consH (i := 4) rfl (fun K hK => ?_) AllReadyH.nil
    go_simp
    refine hK.out _ _ ?_ (fun hHeld => ?_)
    · go_keep
    clear hK K
    try simp only [Act.put, List.setIfInBounds_toArray, List.set_cons_zero, List.set_cons_succ]
    refine wpAnyH_ready (rs := [6]) (by kernel_rfl) (by simp) ?_
    refine consH (i := 6) rfl (fun K hK => ?_) AllReadyH.nil
    go_simp
    refine hK.out _ _ ?_ (fun hHeld => ?_)
    · go_keep
    clear hK K
    try simp only [Act.put, List.setIfInBounds_toArray, List.set_cons_zero, List.set_cons_succ]
    refine wpAnyH_ready (rs := [7]) (by kernel_rfl) (by simp) ?_
    refine consH (i := 7) rfl (fun K hK => ?_) AllReadyH.nil
    go_simp
    refine (Concat_any _ 3 _ _ _ (three_drew (l0 := []) (l2 := []) r _ HB1.out HX0.out HX0.out) rfl (by decide) (by rw [joinS3]; simp)).mono ?_
    rw [joinS3]
    rintro e w3 ⟨v3, rfl, ho3, hB3⟩
    have hB3' := below_two hB3
    obtain ⟨k0, k1, k2, k3, k4⟩ := HBX1.out.keep hB3' HWL.out
    go_wp2_with fail
    refine hK.out _ _ ?_ (fun hHeld => ?_)
    · exact ⟨k0, k1, k2, k3, k4⟩
    clear hK K
    try simp only [Act.put, List.setIfInBounds_toArray, List.set_cons_zero, List.set_cons_succ]
    refine takeH (i := 10) (v := ?_) rfl (by kernel_rfl) (by kernel_rfl) (by kernel_rfl) (fun _ _ _ h => h) (Or.inl ⟨by rfl, ?_⟩) hHeld ?_
    rotate_left
    · (intro w hSw; (try dsimp only at hSw); go_simp; (try with_reducible rfl))
    try simp only [Act.put, List.setIfInBounds_toArray, List.set_cons_zero, List.set_cons_succ]
    refine takeH (i := 11) (v := undef) rfl (by kernel_rfl) (by kernel_rfl) (by kernel_rfl) (fun _ _ _ h => h) (Or.inr ⟨by rfl, rfl⟩) hHeld ?_
    try simp only [Act.put, List.setIfInBounds_toArray, List.set_cons_zero, List.set_cons_succ]
    refine takeH (i := 12) (v := undef) rfl (by kernel_rfl) (by kernel_rfl) (by kernel_rfl) (fun _ _ _ h => h) (Or.inr ⟨by rfl, rfl⟩) hHeld ?_
    try simp only [Act.put, List.setIfInBounds_toArray, List.set_cons_zero, List.set_cons_succ]
    refine takeH (i := 13) (v := undef) rfl (by kernel_rfl) (by kernel_rfl) (by kernel_rfl) (fun _ _ _ h => h) (Or.inr ⟨by rfl, rfl⟩) hHeld ?_
    try simp only [Act.put, List.setIfInBounds_toArray, List.set_cons_zero, List.set_cons_succ]
    refine takeH (i := 14) (v := undef) rfl (by kernel_rfl) (by kernel_rfl) (by kernel_rfl) (fun _ _ _ h => h) (Or.inr ⟨by rfl, rfl⟩) hHeld ?_
    try simp only [Act.put, List.setIfInBounds_toArray, List.set_cons_zero, List.set_cons_succ]
    refine takeH (i := 15) (v := undef) rfl (by kernel_rfl) (by kernel_rfl) (by kernel_rfl) (fun _ _ _ h => h) (Or.inr ⟨by rfl, rfl⟩) hHeld ?_
    try simp only [Act.put, List.setIfInBounds_toArray, List.set_cons_zero, List.set_cons_succ]
    refine takeH (i := 16) (v := undef) rfl (by kernel_rfl) (by kernel_rfl) (by kernel_rfl) (fun _ _ _ h => h) (Or.inr ⟨by rfl, rfl⟩) hHeld ?_
    try simp only [Act.put, List.setIfInBounds_toArray, List.set_cons_zero, List.set_cons_succ]
    refine takeH (i := 17) (v := ?_) rfl (by kernel_rfl) (by kernel_rfl) (by kernel_rfl) (fun _ _ _ h => h) (Or.inl ⟨by rfl, ?_⟩) hHeld ?_
    rotate_left
    · (intro w hSw; (try dsimp only at hSw); go_simp; (try with_reducible rfl))
    try simp only [Act.put, List.setIfInBounds_toArray, List.set_cons_zero, List.set_cons_succ]
    refine takeH (i := 18) (v := ?_) rfl (by kernel_rfl) (by kernel_rfl) (by kernel_rfl) (fun _ _ _ h => h) (Or.inl ⟨by rfl, ?_⟩) hHeld ?_
    rotate_left
    · (intro w hSw; (try dsimp only at hSw); go_simp; (try with_reducible rfl))
    try simp only [Act.put, List.setIfInBounds_toArray, List.set_cons_zero, List.set_cons_succ]
    refine takeH (i := 19) (v := ?_) rfl (by kernel_rfl) (by kernel_rfl) (by kernel_rfl) (fun _ _ _ h => h) (Or.inl ⟨by rfl, ?_⟩) hHeld ?_
    rotate_left
    · (intro w hSw; (try dsimp only at hSw); go_simp; (try with_reducible rfl))
    try simp only [Act.put, List.setIfInBounds_toArray, List.set_cons_zero, List.set_cons_succ]
    refine wpAnyH_done (by kernel_rfl) ?_ _
    have HO3 := Lib.hid ho3
    have HB3 := Lib.hid hB3'
    clear ho3 hB3
    go_wp2_with fail
    go_ret2
    exact ⟨v3, rfl, own_less HO3.out (by have := HB1.out.size; simp; omega), HB1.out.trans (HB3.out.mono HB1.out.size)⟩

set_option maxHeartbeats 8000000 in
set_option maxRecDepth 20000 in
theorem Put_zero (ad : Addr) (r : Rrd) (w : World) (hr : OkX r) :
    Calls Tryz.prog 14 #[.slice (some ad) 0 0, .agg #[.string r.s, .int .i64 r.t, .int .i64 r.c, .int .i64 r.l, .string r.d]] w fun e w' =>
      ∃ v, e = .returned (.tuple #[v, .bool true]) ∧ w'.ownsRow w.heap.size 28 5 v 1 (rcells [r]) ∧ Below w.heap.size w w' := by
  have hx : SeesR w w.heap.size (some ad) 0 [] := ⟨rfl, fun h => absurd h (by omega)⟩
  have HB0 := Lib.hid (show Below w.heap.size w (w.alloc (.cells #[.string r.s, .int .i64 r.t, .int .i64 r.c, .int .i64 r.l, .string r.d] 28)) from (Below.refl _ _).alloc (Nat.le_refl _) _)
  obtain ⟨p0, p1, p2, p3, p4⟩ := box_five w r
  have HBX := Lib.hid (box_five w r)
  have HX0 := Lib.hid hx
  have HX := Lib.hid ((hx.keep HB0.out).more HB0.out.size)
  have HR := Lib.hid hr
  clear hx hr
  go_enter Tryz.func14, Tryz.ntmps14
  go_wp2_with fail
  refine (position_any _ 0 0 [] r _ HX.out (fun x h => by cases h) HR.out List.Pairwise.nil (by omega)).mono ?_
  rintro e w1 ⟨rfl, hB⟩
  have HB1 := Lib.hid (HB0.out.trans (hB.mono HB0.out.size))
  obtain ⟨p0, p1, p2, p3, p4⟩ := HBX.out.keep hB (by simp)
  have HBX1 := Lib.hid (HBX.out.keep hB (by simp))
  have HWL := Lib.hid (show w.heap.size < w1.heap.size by have := hB.size; simp at this; omega)
  clear hB
  simp only [posX, hitX]
  go_wp2_with fail
  refine wp_region_held_drew (S := fun w' => w'.cell? ⟨w.heap.size, 0, none⟩ = some (.string r.s) ∧ w'.cell? ⟨w.heap.size, 0 + 1, none⟩ = some (.int .i64 r.t) ∧ w'.cell? ⟨w.heap.size, 0 + 2, none⟩ = some (.int .i64 r.c) ∧ w'.cell? ⟨w.heap.size, 0 + 3, none⟩ = some (.int .i64 r.l) ∧ w'.cell? ⟨w.heap.size, 0 + 4, none⟩ = some (.string r.d)) (by kernel_rfl) ?hS (fun hHeld => ?go)
  case hS => exact ⟨p0, p1, p2, p3, p4⟩
  case go =>
    refine takeH (i := 0) (v := ?_) rfl (by kernel_rfl) (by kernel_rfl) (by kernel_rfl) (fun _ _ _ h => h) (Or.inl ⟨by rfl, ?_⟩) hHeld ?_
    rotate_left
    · (intro w hSw; (try dsimp only at hSw); go_simp; (try with_reducible rfl))
    try simp only [Act.put, List.setIfInBounds_toArray, List.set_cons_zero, List.set_cons_succ]
    refine takeH (i := 1) (v := ?_) rfl (by kernel_rfl) (by kernel_rfl) (by kernel_rfl) (fun _ _ _ h => h) (Or.inl ⟨by rfl, ?_⟩) hHeld ?_
    rotate_left
    · (intro w hSw; (try dsimp only at hSw); go_simp; (try with_reducible rfl))
    try simp only [Act.put, List.setIfInBounds_toArray, List.set_cons_zero, List.set_cons_succ]
    refine takeH (i := 2) (v := ?_) rfl (by kernel_rfl) (by kernel_rfl) (by kernel_rfl) (fun _ _ _ h => h) (Or.inl ⟨by rfl, ?_⟩) hHeld ?_
    rotate_left
    · (intro w hSw; (try dsimp only at hSw); go_simp; (try with_reducible rfl))
    try simp only [Act.put, List.setIfInBounds_toArray, List.set_cons_zero, List.set_cons_succ]
    refine takeH (i := 5) (v := ?_) rfl (by kernel_rfl) (by kernel_rfl) (by kernel_rfl) (fun _ _ _ h => h) (Or.inl ⟨by rfl, ?_⟩) hHeld ?_
    rotate_left
    · (intro w hSw; (try dsimp only at hSw); go_simp; (try with_reducible rfl))
    try simp only [Act.put, List.setIfInBounds_toArray, List.set_cons_zero, List.set_cons_succ]
    refine takeH (i := 8) (v := ?_) rfl (by kernel_rfl) (by kernel_rfl) (by kernel_rfl) (fun _ _ _ h => h) (Or.inl ⟨by rfl, ?_⟩) hHeld ?_
    rotate_left
    · (intro w hSw; (try dsimp only at hSw); go_simp; (try with_reducible rfl))
    try simp only [Act.put, List.setIfInBounds_toArray, List.set_cons_zero, List.set_cons_succ]
    refine takeH (i := 9) (v := ?_) rfl (by kernel_rfl) (by kernel_rfl) (by kernel_rfl) (fun _ _ _ h => h) (Or.inl ⟨by rfl, ?_⟩) hHeld ?_
    rotate_left
    · (intro w hSw; (try dsimp only at hSw); go_simp; (try with_reducible rfl))
    try simp only [Act.put, List.setIfInBounds_toArray, List.set_cons_zero, List.set_cons_succ]
    refine takeH (i := 3) (v := ?_) rfl (by kernel_rfl) (by kernel_rfl) (by kernel_rfl) (fun _ _ _ h => h) (Or.inl ⟨by rfl, ?_⟩) hHeld ?_
    rotate_left
    · (intro w hSw; (try dsimp only at hSw); go_simp; (try with_reducible rfl))
    try simp only [Act.put, List.setIfInBounds_toArray, List.set_cons_zero, List.set_cons_succ]
    refine wpAnyH_ready (rs := [4]) (by kernel_rfl) (by simp) ?_
    refine consH (i := 4) rfl (fun K hK => ?_) AllReadyH.nil
    go_simp
    refine hK.out _ _ ?_ (fun hHeld => ?_)
    · go_keep
    clear hK K
    try simp only [Act.put, List.setIfInBounds_toArray, List.set_cons_zero, List.set_cons_succ]
    refine wpAnyH_ready (rs := [6]) (by kernel_rfl) (by simp) ?_
    refine consH (i := 6) rfl (fun K hK => ?_) AllReadyH.nil
    go_simp
    refine hK.out _ _ ?_ (fun hHeld => ?_)
    · go_keep
    clear hK K
    try simp only [Act.put, List.setIfInBounds_toArray, List.set_cons_zero, List.set_cons_succ]
    refine wpAnyH_ready (rs := [7]) (by kernel_rfl) (by simp) ?_
    refine consH (i := 7) rfl (fun K hK => ?_) AllReadyH.nil
    go_simp
    refine (Concat_any _ 3 _ _ _ (three_drew (l0 := []) (l2 := []) r _ HB1.out HX0.out HX0.out) rfl (by decide) (by rw [joinS3]; simp)).mono ?_
    rw [joinS3]
    rintro e w3 ⟨v3, rfl, ho3, hB3⟩
    have hB3' := below_two hB3
    obtain ⟨k0, k1, k2, k3, k4⟩ := HBX1.out.keep hB3' HWL.out
    go_wp2_with fail
    refine hK.out _ _ ?_ (fun hHeld => ?_)
    · exact ⟨k0, k1, k2, k3, k4⟩
    clear hK K
    try simp only [Act.put, List.setIfInBounds_toArray, List.set_cons_zero, List.set_cons_succ]
    refine takeH (i := 10) (v := ?_) rfl (by kernel_rfl) (by kernel_rfl) (by kernel_rfl) (fun _ _ _ h => h) (Or.inl ⟨by rfl, ?_⟩) hHeld ?_
    rotate_left
    · (intro w hSw; (try dsimp only at hSw); go_simp; (try with_reducible rfl))
    try simp only [Act.put, List.setIfInBounds_toArray, List.set_cons_zero, List.set_cons_succ]
    refine takeH (i := 11) (v := undef) rfl (by kernel_rfl) (by kernel_rfl) (by kernel_rfl) (fun _ _ _ h => h) (Or.inr ⟨by rfl, rfl⟩) hHeld ?_
    try simp only [Act.put, List.setIfInBounds_toArray, List.set_cons_zero, List.set_cons_succ]
    refine takeH (i := 12) (v := undef) rfl (by kernel_rfl) (by kernel_rfl) (by kernel_rfl) (fun _ _ _ h => h) (Or.inr ⟨by rfl, rfl⟩) hHeld ?_
    try simp only [Act.put, List.setIfInBounds_toArray, List.set_cons_zero, List.set_cons_succ]
    refine takeH (i := 13) (v := undef) rfl (by kernel_rfl) (by kernel_rfl) (by kernel_rfl) (fun _ _ _ h => h) (Or.inr ⟨by rfl, rfl⟩) hHeld ?_
    try simp only [Act.put, List.setIfInBounds_toArray, List.set_cons_zero, List.set_cons_succ]
    refine takeH (i := 14) (v := undef) rfl (by kernel_rfl) (by kernel_rfl) (by kernel_rfl) (fun _ _ _ h => h) (Or.inr ⟨by rfl, rfl⟩) hHeld ?_
    try simp only [Act.put, List.setIfInBounds_toArray, List.set_cons_zero, List.set_cons_succ]
    refine takeH (i := 15) (v := undef) rfl (by kernel_rfl) (by kernel_rfl) (by kernel_rfl) (fun _ _ _ h => h) (Or.inr ⟨by rfl, rfl⟩) hHeld ?_
    try simp only [Act.put, List.setIfInBounds_toArray, List.set_cons_zero, List.set_cons_succ]
    refine takeH (i := 16) (v := undef) rfl (by kernel_rfl) (by kernel_rfl) (by kernel_rfl) (fun _ _ _ h => h) (Or.inr ⟨by rfl, rfl⟩) hHeld ?_
    try simp only [Act.put, List.setIfInBounds_toArray, List.set_cons_zero, List.set_cons_succ]
    refine takeH (i := 17) (v := ?_) rfl (by kernel_rfl) (by kernel_rfl) (by kernel_rfl) (fun _ _ _ h => h) (Or.inl ⟨by rfl, ?_⟩) hHeld ?_
    rotate_left
    · (intro w hSw; (try dsimp only at hSw); go_simp; (try with_reducible rfl))
    try simp only [Act.put, List.setIfInBounds_toArray, List.set_cons_zero, List.set_cons_succ]
    refine takeH (i := 18) (v := ?_) rfl (by kernel_rfl) (by kernel_rfl) (by kernel_rfl) (fun _ _ _ h => h) (Or.inl ⟨by rfl, ?_⟩) hHeld ?_
    rotate_left
    · (intro w hSw; (try dsimp only at hSw); go_simp; (try with_reducible rfl))
    try simp only [Act.put, List.setIfInBounds_toArray, List.set_cons_zero, List.set_cons_succ]
    refine takeH (i := 19) (v := ?_) rfl (by kernel_rfl) (by kernel_rfl) (by kernel_rfl) (fun _ _ _ h => h) (Or.inl ⟨by rfl, ?_⟩) hHeld ?_
    rotate_left
    · (intro w hSw; (try dsimp only at hSw); go_simp; (try with_reducible rfl))
    try simp only [Act.put, List.setIfInBounds_toArray, List.set_cons_zero, List.set_cons_succ]
    refine wpAnyH_done (by kernel_rfl) ?_ _
    have HO3 := Lib.hid ho3
    have HB3 := Lib.hid hB3'
    clear ho3 hB3
    go_wp2_with fail
    go_ret2
    exact ⟨v3, rfl, own_less HO3.out (by have := HB1.out.size; simp; omega), HB1.out.trans (HB3.out.mono HB1.out.size)⟩
theorem Put_any (A : Option Addr) (n c : Nat) (xs : List Rrd) (r : Rrd) (w : World) (hx : SeesR w w.heap.size A n xs) (hcap : InCap A n c) (hok : OkL xs) (hr : OkX r) (hs : SetL cmpX xs) (hn : n ≤ 1000000) :
    Calls Tryz.prog 14 #[.slice A n c, .agg #[.string r.s, .int .i64 r.t, .int .i64 r.c, .int .i64 r.l, .string r.d]] w fun e w' =>
      ∃ v, e = .returned (.tuple #[v, .bool (otherX r xs)]) ∧ w'.ownsRow w.heap.size 28 5 v (putX cmpX r xs).length (rcells (putX cmpX r xs)) ∧ Below w.heap.size w w' := by
  obtain ⟨h1, h2, h3, h4⟩ := hcap
  rcases A with _ | ad
  · have hc := h3 rfl
    subst hc
    obtain rfl : n = 0 := by omega
    obtain rfl : xs = [] := List.eq_nil_of_length_eq_zero hx.1
    exact Put_nil r w hr
  · rcases Nat.eq_zero_or_pos c with hc | hc
    · subst hc
      obtain rfl : n = 0 := by omega
      obtain rfl : xs = [] := List.eq_nil_of_length_eq_zero hx.1
      exact Put_zero ad r w hr
    · have hsp := h4 ad rfl hc
      obtain ⟨b, off, spot⟩ := ad
      simp only at hsp
      subst hsp
      cases hit : hitX cmpX r xs with
      | true => exact Put_hit b off n c xs r w hx h1 hok hr hs hn hit
      | false => exact Put_miss b off n c xs r w hx h1 hok hr hs hn hit
end Go.Proofs.YtkgojdmjagicdaaGreat
