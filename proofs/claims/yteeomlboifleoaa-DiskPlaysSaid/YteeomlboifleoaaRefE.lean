/- The reference's change. No statement of the seat is proved here. -/
import Derived.Test.YteeomlboifleoaaRefD
import Derived.Deep.AppendLies
import Derived.Deep.RegionLaw
namespace Go.Proofs.Yteeomlboifleoaa
open Go.RowKit Go.Maps Go.Sort

def cellsC (c : Chg) : List Value := [.int .i64 (kindC c), .string (strB (fromC c)), .string (strB (toC c)), .int .i64 (fileC c : Nat)]
def ccells (l : List Chg) : List Value := l.flatMap cellsC
theorem ccells_len (l : List Chg) : (ccells l).length = l.length * 4 := by
  unfold ccells
  induction l with
  | nil => rfl
  | cons p r ih => simp only [List.flatMap_cons, List.length_append, List.length_cons, ih]; simp [cellsC]; omega
theorem ccells_snoc (l : List Chg) (c : Chg) : ccells (l ++ [c]) = ccells l ++ cellsC c := by simp [ccells]
def RowP (w : World) (b : Nat) (v : Value) (l : List Chg) : Prop := w.ownsRow b 92 4 v l.length (ccells l)
theorem rchg_info : (Try.prog.info? 92).map (fun i => (i.zero, i.size, i.bytes)) = some (some (.agg #[.int .i64 0, .string ⟨#[]⟩, .string ⟨#[]⟩, .int .i64 0]), 4, 48) := by kernel_rfl
theorem cellsC_one (c : Chg) : ∀ u ∈ cellsC c, u.oneCell' = true := by
  intro u hu
  simp only [cellsC, List.mem_cons, List.not_mem_nil, or_false] at hu
  rcases hu with rfl | rfl | rfl | rfl <;> rfl
theorem ccells_one (l : List Chg) : ∀ u ∈ ccells l, u.oneCell' = true := by
  intro u hu
  unfold ccells at hu
  obtain ⟨p, _, hp⟩ := List.mem_flatMap.1 hu
  exact cellsC_one p u hp
theorem own_empty {w : World} {g base e size : Nat} (h : Whole w g e #[]) (hb : base ≤ g) : w.ownsRow base e size (.slice (some ⟨g, 0, none⟩) 0 0) 0 [] :=
  ⟨by simp, .inr ⟨g, 0, #[], rfl, hb, h, Nat.le_refl _, Nat.zero_le _, by simp, by simp⟩⟩
/-- a row, appended to a row of the call's own, at a step of a region that draws -/
theorem step_append_row {w : World} {ops : Array Oper} {o : Oper} {a : Act} {K : Act → World → Prop} {Q : Exit → Act → World → Prop} {E : Prop} (hgd : o.guard = none) (s x : Operand) (t : TypeId)
    (ho : o.op = .call { callee := .builtin .append, args := #[s, x], argTypes := #[t, t] })
    (base : Nat) (e : TypeId) (i : TypeInfo) (z : Value) (size bytes : Nat) (ht : Try.prog.underlying t = some (.slice e)) (hi : Try.prog.info? e = some i) (hz : i.zero = some z)
    (hsize : i.size = size) (hby : i.bytes = bytes) (hzs : z.cells.size = size) (hsz : 0 < size)
    (v : Value) (n : Nat) (xs : List Value) (hs : a.eval s = v) (hown : w.ownsRow base e size v n xs)
    (b2 : Nat) (v2 : Value) (m : Nat) (ys : List Value) (hx : a.eval x = v2) (hsrc : w.ownsRow b2 e size v2 m ys) (h1 : ∀ u ∈ ys, u.oneCell' = true)
    (h63 : n + m ≤ maxLen) (hbytes : (n + m) * bytes ≤ 140737488355328) (hbase : base ≤ w.heap.size)
    (h : ∀ v' w', w'.ownsRow base e size v' (n + m) (xs ++ ys) → w.grownBy w' v.ownBlock → K (a.put o.dst v') w') : if Region.wanted o (yielded ops a.tmps) = true then Oper.wp Try.prog o a w K Q else E := by
  have hw : Region.wanted o (yielded ops a.tmps) = true := by simp [Region.wanted, hgd]
  rw [if_pos hw]
  have hsrc0 := hsrc
  rcases hsrc.2 with ⟨rfl, rfl⟩ | ⟨g, cap, cur, rfl, _⟩
  · have hy : ys = [] := List.eq_nil_of_length_eq_zero (by have := hsrc.1; simpa using this)
    subst hy
    have hrun := run_append_owned_none (P := Try.prog) (w := w) base t o.type e i size ht hi v n xs hown
    unfold Oper.wp
    simp [execOp, ho, resolve, invoke, builtin, hs, hx, hrun, Result.andThen]
    exact h v w (by simpa using hown) ⟨rfl, rfl, rfl, Nat.le_refl _, fun _ _ _ => rfl⟩
  · exact wp_append_own w s x t ho base e i z size bytes ht hi hz hsize hby hzs hsz v n xs hs hown ⟨g, 0, none⟩ m cap ys hx hsrc.1 (fun j u hu => hsrc0.cells (g := g) rfl j u hu) h1 h63 hbytes hbase fun v' w' a1 a2 _ => h v' w' a1 a2
theorem gstep {w w1 : World} {r : Nat} (h : w.grownBy w1 (some r)) (i : Nat) (u : Value) : w.grownBy (w1.setCell ⟨r, i, none⟩ u) (some r) :=
  ⟨h.os, h.tape, h.output, by rw [size_put]; exact h.size, fun k hk hne => (Below.heap_setCell w1 ⟨r, i, none⟩ u k (fun e => hne (by rw [e]))).trans (h.block k hk hne)⟩
theorem seven_grown (w : World) (r : Nat) (a0 a1 a2 a3 a4 a5 a6 : Value) :
    w.grownBy (((((((w.setCell ⟨r, 0, none⟩ a0).setCell ⟨r, 1, none⟩ a1).setCell ⟨r, 2, none⟩ a2).setCell ⟨r, 3, none⟩ a3).setCell ⟨r, 4, none⟩ a4).setCell ⟨r, 5, none⟩ a5).setCell ⟨r, 6, none⟩ a6) (some r) :=
  gstep (gstep (gstep (gstep (gstep (gstep (gset w ⟨r, 0, none⟩ a0) 1 a1) 2 a2) 3 a3) 4 a4) 5 a5) 6 a6
theorem kin_E {W0 w5 : World} {o : Obj} {v : Value} {n c : Nat} (hv : v = .slice (some ⟨W0.heap.size, 0, none⟩) n c) (hG : ((W0.alloc o).drew).grownBy w5 v.ownBlock) : Below W0.heap.size W0 w5 := by
  subst hv
  exact (((Below.refl _ W0).alloc (Nat.le_refl _) o).drew).grown hG (by simp [World.drew]) (fun k hk => by simp [Value.ownBlock] at hk; omega)
theorem kin_EX {W0 w5 : World} {o : Obj} {t : TypeId} {cs : Array Value} {v : Value} {n c : Nat} (hv : v = .slice (some ⟨W0.heap.size, 0, none⟩) n c) (hG : (((W0.alloc o).alloc (.cells cs t)).drew).grownBy w5 v.ownBlock) :
    Below W0.heap.size W0 w5 ∧ Whole w5 (W0.heap.size + 1) t cs := by
  subst hv
  refine ⟨((((Below.refl _ W0).alloc (Nat.le_refl _) o).alloc (by simp) _).drew).grown hG (by simp [World.drew]; omega) (fun k hk => by simp [Value.ownBlock] at hk; omega), ?_⟩
  have := Whole.new (W0.alloc o) t cs
  rw [World.size_alloc] at this
  exact this.drew.grown hG (by simp [Value.ownBlock])
theorem kin_XE {W0 w5 : World} {o : Obj} {t : TypeId} {cs : Array Value} {v : Value} {n c : Nat} (hv : v = .slice (some ⟨W0.heap.size + 1, 0, none⟩) n c) (hG : (((W0.alloc (.cells cs t)).alloc o).drew).grownBy w5 v.ownBlock) :
    Below W0.heap.size W0 w5 ∧ Whole w5 W0.heap.size t cs := by
  subst hv
  refine ⟨((((Below.refl _ W0).alloc (Nat.le_refl _) _).alloc (by simp) o).drew).grown hG (by simp [World.drew]; omega) (fun k hk => by simp [Value.ownBlock] at hk; omega), ?_⟩
  exact ((Whole.new W0 t cs).alloc o).drew.grown hG (by simp [Value.ownBlock])
theorem kin_B1 {W0 w5 w6 : World} {e size n : Nat} {v : Value} {xs : List Value} (kb : Below W0.heap.size W0 w5) (hO : w5.ownsRow W0.heap.size e size v n xs) (hG : w5.grownBy w6 v.ownBlock) : Below W0.heap.size W0 w6 :=
  kb.grown hG kb.size fun k hk => (hO.lt k hk).1
theorem kin_B2 {W0 w5 w6 : World} {o : Obj} {e size n : Nat} {v : Value} {xs : List Value} (kb : Below W0.heap.size W0 w5) (hO : w5.ownsRow W0.heap.size e size v n xs) (hG : (w5.alloc o).grownBy w6 v.ownBlock) : Below W0.heap.size W0 w6 :=
  (kb.alloc kb.size o).grown hG (by simp; exact Nat.le_succ_of_le kb.size) fun k hk => (hO.lt k hk).1
theorem four1 (a b c d : Value) (ha : a.oneCell' = true) (hb : b.oneCell' = true) (hc : c.oneCell' = true) (hd : d.oneCell' = true) : ∀ u ∈ [a, b, c, d], u.oneCell' = true := by
  intro u hu
  simp only [List.mem_cons, List.not_mem_nil, or_false] at hu
  rcases hu with rfl | rfl | rfl | rfl <;> assumption
set_option maxHeartbeats 20000000 in
set_option maxRecDepth 20000 in
theorem change_ref {w : World} {S : St} (L : Ls) (q l : Int) (dn : Bool) (c : Chg) (hN : RowN w 0 (.slice L.an L.nn L.cn) S.names) (hP : RowP w 0 (.slice L.ap L.np L.cp) S.pend) (hn : S.names.length ≤ 90000) (hp : S.pend.length ≤ 90000)
    (hz : ∀ p ∈ S.names, p.1 ≠ []) (hc : c.src ≠ [] → ∀ i, c.f = some i → findN S.names c.src = some i) :
    Calls Try.prog 49 #[rv L q l dn, chgV c] w fun e w' => ∃ A n k B m j, e = .returned (rv { L with an := A, nn := n, cn := k, ap := B, np := m, cp := j } q l dn) ∧
      RowN w' 0 (.slice A n k) (c.app S.names) ∧ RowP w' 0 (.slice B m j) (S.pend ++ [c]) ∧ Below w.heap.size w w' := by
  obtain ⟨i0, hi0, hz0, hz1, hz2⟩ := info_parts rchg_info
  obtain ⟨K1, hK1⟩ : ∃ K1, K1 = kindC c := ⟨_, rfl⟩
  obtain ⟨K2, hK2⟩ : ∃ K2, K2 = strB (fromC c) := ⟨_, rfl⟩
  obtain ⟨K3, hK3⟩ : ∃ K3, K3 = strB (toC c) := ⟨_, rfl⟩
  obtain ⟨K4, hK4⟩ : ∃ K4 : Int, K4 = (fileC c : Nat) := ⟨_, rfl⟩
  have hcv : chgV c = .agg #[.int .i64 K1, .string K2, .string K3, .int .i64 K4] := by unfold chgV; rw [hK1, hK2, hK3, hK4]
  have HCC : Hid (cellsC c = [.int .i64 K1, .string K2, .string K3, .int .i64 K4]) := Lib.hid (by unfold cellsC; rw [hK1, hK2, hK3, hK4])
  obtain ⟨W3, hW3⟩ : ∃ W3, W3 = (((w.alloc (.cells #[.int .i64 q, .slice L.af L.nf L.cf, .slice L.an L.nn L.cn, .slice L.as_ L.ns L.cs, .slice L.ap L.np L.cp, .int .i64 l, .bool dn] 33)).alloc (.cells #[.int .i64 K1, .string K2, .string K3, .int .i64 K4] 92)).alloc (.cells #[.int .i64 0, .slice none 0 0, .slice none 0 0, .slice none 0 0, .slice none 0 0, .int .i64 0, .bool false] 33)) := ⟨_, rfl⟩
  have hw0 : Whole W3 w.heap.size 33 #[.int .i64 q, .slice L.af L.nf L.cf, .slice L.an L.nn L.cn, .slice L.as_ L.ns L.cs, .slice L.ap L.np L.cp, .int .i64 l, .bool dn] := by
    rw [hW3]; exact ((Whole.new w _ _).alloc _).alloc _
  have hw1 : Whole W3 (w.heap.size + 1) 92 #[.int .i64 K1, .string K2, .string K3, .int .i64 K4] := by
    rw [hW3]
    have := (Whole.new (w.alloc (.cells #[.int .i64 q, .slice L.af L.nf L.cf, .slice L.an L.nn L.cn, .slice L.as_ L.ns L.cs, .slice L.ap L.np L.cp, .int .i64 l, .bool dn] 33)) 92 #[.int .i64 K1, .string K2, .string K3, .int .i64 K4]).alloc (.cells #[.int .i64 0, .slice none 0 0, .slice none 0 0, .slice none 0 0, .slice none 0 0, .int .i64 0, .bool false] 33)
    simpa using this
  have hw2 : Whole W3 (w.heap.size + 1 + 1) 33 #[.int .i64 0, .slice none 0 0, .slice none 0 0, .slice none 0 0, .slice none 0 0, .int .i64 0, .bool false] := by
    rw [hW3]
    have := Whole.new ((w.alloc (.cells #[.int .i64 q, .slice L.af L.nf L.cf, .slice L.an L.nn L.cn, .slice L.as_ L.ns L.cs, .slice L.ap L.np L.cp, .int .i64 l, .bool dn] 33)).alloc (.cells #[.int .i64 K1, .string K2, .string K3, .int .i64 K4] 92)) 33 #[.int .i64 0, .slice none 0 0, .slice none 0 0, .slice none 0 0, .slice none 0 0, .int .i64 0, .bool false]
    simpa using this
  have hB3 : Below w.heap.size w W3 := by
    rw [hW3]; exact (((Below.refl _ w).alloc (Nat.le_refl _) _).alloc (by simp) _).alloc (by simp; omega) _
  have hsz : W3.heap.size = w.heap.size + 3 := by rw [hW3]; simp
  have hmk := make_ref (own_below hN hB3 : RowN W3 0 (.slice L.an L.nn L.cn) S.names) hn c hz hc
  rw [hcv] at hmk ⊢
  have HMK := Lib.hid hmk
  have HP := Lib.hid (own_below hP hB3)
  have H0 := Lib.hid hw0
  have H1 := Lib.hid hw1
  have H2 := Lib.hid hw2
  have HB3 := Lib.hid hB3
  have HSZ := Lib.hid hsz
  have HW3 := Lib.hid hW3
  clear hmk hN hP hw0 hw1 hw2 hB3 hsz hW3 hcv hK1 hK2 hK3 hK4 hz hc
  unfold rv
  go_enter Try.func49, Try.ntmps49
  go_wp2_with fail
  rw [← HW3.out]
  refine Calls.mono HMK.out ?_
  rintro e w4 ⟨v4, rfl, hO4, hB4⟩
  obtain ⟨A4, c4, rfl⟩ := hO4.shape
  have x0 : Whole w4 w.heap.size _ _ := H0.out.below hB4 (by have := HSZ.out; omega)
  have x1 : Whole w4 (w.heap.size + 1) _ _ := H1.out.below hB4 (by have := HSZ.out; omega)
  have x2 : Whole w4 (w.heap.size + 1 + 1) _ _ := H2.out.below hB4 (by have := HSZ.out; omega)
  have HP4 := Lib.hid (own_below HP.out hB4)
  have HB4 := Lib.hid (HB3.out.trans (hB4.mono HB3.out.size))
  have HSZ4 : Hid (w.heap.size + 3 ≤ w4.heap.size) := Lib.hid (by have := HSZ.out; have := hB4.size; omega)
  obtain ⟨N4, hN4⟩ : ∃ N4, N4 = (c.app S.names).length := ⟨_, rfl⟩
  rw [← hN4]
  have HN4 := Lib.hid hN4
  have HO4 := Lib.hid hO4
  have y2 := (x0.cell 2).trans (rfl : _ = some (Value.slice L.an L.nn L.cn))
  have f2 := x0.frozen 2
  have X0 := Lib.hid x0
  have X1 := Lib.hid x1
  have X2 := Lib.hid x2
  clear hO4 hN4 hB4 x0 x1 x2
  go_wp2_with fail
  have z0 : Whole (w4.setCell ⟨w.heap.size, 2, none⟩ (.slice A4 N4 c4)) w.heap.size 33 #[.int .i64 q, .slice L.af L.nf L.cf, .slice A4 N4 c4, .slice L.as_ L.ns L.cs, .slice L.ap L.np L.cp, .int .i64 l, .bool dn] := by
    have := X0.out.put 2 (.slice A4 N4 c4)
    simpa using this
  have z1 := X1.out.far (p := ⟨w.heap.size, 2, none⟩) (by simp) (.slice A4 N4 c4)
  have z2 := X2.out.far (p := ⟨w.heap.size, 2, none⟩) (by simp; omega) (.slice A4 N4 c4)
  have zP := own_keepT HP4.out (gset w4 ⟨w.heap.size, 2, none⟩ (.slice A4 N4 c4)) (by rintro x ⟨⟩; rw [whole_typ X0.out]; decide)
  have zO := own_keepT HO4.out (gset w4 ⟨w.heap.size, 2, none⟩ (.slice A4 N4 c4)) (by rintro x ⟨⟩; rw [whole_typ X0.out]; decide)
  have zB := HB4.out.setCell (p := ⟨w.heap.size, 2, none⟩) (Nat.le_refl _) (.slice A4 N4 c4)
  have zS : w.heap.size + 3 ≤ (w4.setCell ⟨w.heap.size, 2, none⟩ (.slice A4 N4 c4)).heap.size := by rw [size_put]; exact HSZ4.out
  generalize w4.setCell ⟨w.heap.size, 2, none⟩ (.slice A4 N4 c4) = W0 at z0 z1 z2 zP zO zB zS ⊢
  have p4 := (z0.cell 4).trans (rfl : _ = some (Value.slice L.ap L.np L.cp))
  have q0 := (z1.cell 0).trans (rfl : _ = some (Value.int .i64 K1))
  have q1 := (z1.cell 1).trans (rfl : _ = some (Value.string K2))
  have q2 := (z1.cell 2).trans (rfl : _ = some (Value.string K3))
  have q3 := (z1.cell 3).trans (rfl : _ = some (Value.int .i64 K4))
  have Z0 := Lib.hid z0
  have Z1 := Lib.hid z1
  have Z2 := Lib.hid z2
  have ZP := Lib.hid zP
  have ZO := Lib.hid zO
  have ZB := Lib.hid zB
  have ZS := Lib.hid zS
  clear z0 z1 z2 zP zO zB zS y2 f2 X0 X1 X2 HP4 HO4 HB4 HSZ4
  have l0 : w.heap.size < W0.heap.size := by have := ZS.out; omega
  have l1 : w.heap.size + 1 < W0.heap.size := by have := ZS.out; omega
  have k0 : (W0.alloc (.cells #[] 92)).cell? ⟨w.heap.size, 4, none⟩ = some (.slice L.ap L.np L.cp) := ((Z0.out.alloc _).cell 4).trans rfl
  have k1 : (W0.alloc (.cells #[.int .i64 K1, .string K2, .string K3, .int .i64 K4] 92)).cell? ⟨w.heap.size, 4, none⟩ = some (.slice L.ap L.np L.cp) := ((Z0.out.alloc _).cell 4).trans rfl
  have k2 : ((W0.alloc (.cells #[] 92)).alloc (.cells #[.int .i64 K1, .string K2, .string K3, .int .i64 K4] 92)).cell? ⟨w.heap.size, 4, none⟩ = some (.slice L.ap L.np L.cp) := (((Z0.out.alloc _).alloc _).cell 4).trans rfl
  have k3 : ((W0.alloc (.cells #[.int .i64 K1, .string K2, .string K3, .int .i64 K4] 92)).alloc (.cells #[] 92)).cell? ⟨w.heap.size, 4, none⟩ = some (.slice L.ap L.np L.cp) := (((Z0.out.alloc _).alloc _).cell 4).trans rfl
  have j0 : (W0.alloc (.cells #[] 92)).cell? ⟨w.heap.size + 1, 0, none⟩ = some (.int .i64 K1) := ((Z1.out.alloc _).cell 0).trans rfl
  have j1 : (W0.alloc (.cells #[] 92)).cell? ⟨w.heap.size + 1, 1, none⟩ = some (.string K2) := ((Z1.out.alloc _).cell 1).trans rfl
  have j2 : (W0.alloc (.cells #[] 92)).cell? ⟨w.heap.size + 1, 2, none⟩ = some (.string K3) := ((Z1.out.alloc _).cell 2).trans rfl
  have j3 : (W0.alloc (.cells #[] 92)).cell? ⟨w.heap.size + 1, 3, none⟩ = some (.int .i64 K4) := ((Z1.out.alloc _).cell 3).trans rfl
  have H63 : Hid (0 + S.pend.length ≤ maxLen) := Lib.hid (by unfold maxLen; omega)
  have H47 : Hid ((0 + S.pend.length) * 48 ≤ 140737488355328) := Lib.hid (by omega)
  have H63b : Hid (S.pend.length + 1 ≤ maxLen) := Lib.hid (by unfold maxLen; omega)
  have H47b : Hid ((S.pend.length + 1) * 48 ≤ 140737488355328) := Lib.hid (by omega)
  go_region_law (first
    | (refine step_append_row (by rfl) _ _ 31 (by rfl) W0.heap.size 92 i0 (.agg #[.int .i64 0, .string ⟨#[]⟩, .string ⟨#[]⟩, .int .i64 0]) 4 48 Try.underlying31 hi0 hz0 hz1 hz2 rfl (by omega) (.slice (some ⟨W0.heap.size, 0, none⟩) 0 0) 0 [] (by rfl) (own_empty (Whole.new W0 _ _) (Nat.le_refl _)) 0 (.slice L.ap L.np L.cp) S.pend.length (ccells S.pend) (by rfl) (ZP.out.alloc _) (ccells_one S.pend) H63.out H47.out (by simp) ?_; intro v5 w5 hO5 hG5; rw [Nat.zero_add, List.nil_append] at hO5; have kb := kin_E rfl hG5; have hw5 := Z1.out.below kb l1; have r0 := (hw5.cell 0).trans (rfl : _ = some (Value.int .i64 K1)); have r1 := (hw5.cell 1).trans (rfl : _ = some (Value.string K2)); have r2 := (hw5.cell 2).trans (rfl : _ = some (Value.string K3)); have r3 := (hw5.cell 3).trans (rfl : _ = some (Value.int .i64 K4)); have KB := Lib.hid kb; have HO5 := Lib.hid hO5; clear hG5 hO5 kb hw5)
    | (refine step_append_row (by rfl) _ _ 31 (by rfl) W0.heap.size 92 i0 (.agg #[.int .i64 0, .string ⟨#[]⟩, .string ⟨#[]⟩, .int .i64 0]) 4 48 Try.underlying31 hi0 hz0 hz1 hz2 rfl (by omega) (.slice (some ⟨W0.heap.size, 0, none⟩) 0 0) 0 [] (by rfl) (own_empty ((Whole.new W0 _ _).alloc _) (Nat.le_refl _)) 0 (.slice L.ap L.np L.cp) S.pend.length (ccells S.pend) (by rfl) ((ZP.out.alloc _).alloc _) (ccells_one S.pend) H63.out H47.out (by simp; omega) ?_; intro v5 w5 hO5 hG5; rw [Nat.zero_add, List.nil_append] at hO5; obtain ⟨kb, hX⟩ := kin_EX rfl hG5; have HX := Lib.hid hX; clear hX; have hw5 := Z1.out.below kb l1; have r0 := (hw5.cell 0).trans (rfl : _ = some (Value.int .i64 K1)); have r1 := (hw5.cell 1).trans (rfl : _ = some (Value.string K2)); have r2 := (hw5.cell 2).trans (rfl : _ = some (Value.string K3)); have r3 := (hw5.cell 3).trans (rfl : _ = some (Value.int .i64 K4)); have KB := Lib.hid kb; have HO5 := Lib.hid hO5; clear hG5 hO5 kb hw5)
    | (refine step_append_row (by rfl) _ _ 31 (by rfl) W0.heap.size 92 i0 (.agg #[.int .i64 0, .string ⟨#[]⟩, .string ⟨#[]⟩, .int .i64 0]) 4 48 Try.underlying31 hi0 hz0 hz1 hz2 rfl (by omega) (.slice (some ⟨W0.heap.size + 1, 0, none⟩) 0 0) 0 [] (by rfl) (own_empty (by have := Whole.new (W0.alloc (.cells #[.int .i64 K1, .string K2, .string K3, .int .i64 K4] 92)) 92 #[]; rw [World.size_alloc] at this; exact this) (by omega)) 0 (.slice L.ap L.np L.cp) S.pend.length (ccells S.pend) (by rfl) ((ZP.out.alloc _).alloc _) (ccells_one S.pend) H63.out H47.out (by simp; omega) ?_; intro v5 w5 hO5 hG5; rw [Nat.zero_add, List.nil_append] at hO5; obtain ⟨kb, hX⟩ := kin_XE rfl hG5; have HX := Lib.hid hX; clear hX; have hw5 := Z1.out.below kb l1; have r0 := (hw5.cell 0).trans (rfl : _ = some (Value.int .i64 K1)); have r1 := (hw5.cell 1).trans (rfl : _ = some (Value.string K2)); have r2 := (hw5.cell 2).trans (rfl : _ = some (Value.string K3)); have r3 := (hw5.cell 3).trans (rfl : _ = some (Value.int .i64 K4)); have KB := Lib.hid kb; have HO5 := Lib.hid hO5; clear hG5 hO5 kb hw5)
    | (refine step_append_lies _ (by rfl) _ _ 31 (by rfl) W0.heap.size 92 i0 (.agg #[.int .i64 0, .string ⟨#[]⟩, .string ⟨#[]⟩, .int .i64 0]) 4 48 Try.underlying31 hi0 hz0 hz1 hz2 rfl (by omega) v5 S.pend.length (ccells S.pend) (by rfl) HO5.out ⟨W0.heap.size + 1, 0, none⟩ 1 1 [.int .i64 K1, .string K2, .string K3, .int .i64 K4] (by rfl) (by rfl) (World.news_of_block (cs := #[.int .i64 K1, .string K2, .string K3, .int .i64 K4]) (t := 92) (fr := (0, 0)) HX.out) (four1 _ _ _ _ rfl rfl rfl rfl) (by omega) H63b.out H47b.out KB.out.size _ rfl ?_; intro g cap w6 hO6 hG6 hat6 hlt6; have kb6 := kin_B1 KB.out HO5.out hG6; have u0 := Z0.out.below kb6 l0; have mf4 := u0.frozen 4; have m4 := (u0.cell 4).trans (rfl : _ = some (Value.slice L.ap L.np L.cp)); have U0 := Lib.hid u0; have KB6 := Lib.hid kb6; have HO6 := Lib.hid hO6; clear kb6 hO6 u0 hG6 hat6 hlt6)
    | (refine step_append_lies _ (by rfl) _ _ 31 (by rfl) W0.heap.size 92 i0 (.agg #[.int .i64 0, .string ⟨#[]⟩, .string ⟨#[]⟩, .int .i64 0]) 4 48 Try.underlying31 hi0 hz0 hz1 hz2 rfl (by omega) v5 S.pend.length (ccells S.pend) (by rfl) HO5.out ⟨W0.heap.size, 0, none⟩ 1 1 [.int .i64 K1, .string K2, .string K3, .int .i64 K4] (by rfl) (by rfl) (World.news_of_block (cs := #[.int .i64 K1, .string K2, .string K3, .int .i64 K4]) (t := 92) (fr := (0, 0)) HX.out) (four1 _ _ _ _ rfl rfl rfl rfl) (by omega) H63b.out H47b.out KB.out.size _ rfl ?_; intro g cap w6 hO6 hG6 hat6 hlt6; have kb6 := kin_B1 KB.out HO5.out hG6; have u0 := Z0.out.below kb6 l0; have mf4 := u0.frozen 4; have m4 := (u0.cell 4).trans (rfl : _ = some (Value.slice L.ap L.np L.cp)); have U0 := Lib.hid u0; have KB6 := Lib.hid kb6; have HO6 := Lib.hid hO6; clear kb6 hO6 u0 hG6 hat6 hlt6)
    | (refine step_append_lies _ (by rfl) _ _ 31 (by rfl) W0.heap.size 92 i0 (.agg #[.int .i64 0, .string ⟨#[]⟩, .string ⟨#[]⟩, .int .i64 0]) 4 48 Try.underlying31 hi0 hz0 hz1 hz2 rfl (by omega) v5 S.pend.length (ccells S.pend) (by rfl) (HO5.out.alloc _) ⟨w5.heap.size, 0, none⟩ 1 1 [.int .i64 K1, .string K2, .string K3, .int .i64 K4] (by rfl) (by rfl) (World.news_of_block (cs := #[.int .i64 K1, .string K2, .string K3, .int .i64 K4]) (t := 92) (fr := (0, 0)) (heap_alloc_new w5 _)) (four1 _ _ _ _ rfl rfl rfl rfl) (by omega) H63b.out H47b.out (Nat.le_trans KB.out.size (by simp)) _ rfl ?_; intro g cap w6 hO6 hG6 hat6 hlt6; have kb6 := kin_B2 KB.out HO5.out hG6; have u0 := Z0.out.below kb6 l0; have mf4 := u0.frozen 4; have m4 := (u0.cell 4).trans (rfl : _ = some (Value.slice L.ap L.np L.cp)); have U0 := Lib.hid u0; have KB6 := Lib.hid kb6; have HO6 := Lib.hid hO6; clear kb6 hO6 u0 hG6 hat6 hlt6))
  all_goals
    have t0 : Whole (w6.setCell ⟨w.heap.size, 4, none⟩ (.slice (some ⟨g, 0, none⟩) (S.pend.length + 1) cap)) w.heap.size 33 #[.int .i64 q, .slice L.af L.nf L.cf, .slice A4 N4 c4, .slice L.as_ L.ns L.cs, .slice (some ⟨g, 0, none⟩) (S.pend.length + 1) cap, .int .i64 l, .bool dn] := by
      have := U0.out.put 4 (.slice (some ⟨g, 0, none⟩) (S.pend.length + 1) cap)
      simpa using this
    have t2 := (Z2.out.below KB6.out (by have := ZS.out; omega)).far (p := ⟨w.heap.size, 4, none⟩) (by simp; omega) (.slice (some ⟨g, 0, none⟩) (S.pend.length + 1) cap)
    have tP := ownsRow_setCell_below HO6.out (a := ⟨w.heap.size, 4, none⟩) l0 (.slice (some ⟨g, 0, none⟩) (S.pend.length + 1) cap)
    have tO := own_keepT (own_below ZO.out KB6.out) (gset w6 ⟨w.heap.size, 4, none⟩ (.slice (some ⟨g, 0, none⟩) (S.pend.length + 1) cap)) (by rintro x ⟨⟩; rw [whole_typ U0.out]; decide)
    have tB := (ZB.out.trans (KB6.out.mono ZB.out.size)).setCell (p := ⟨w.heap.size, 4, none⟩) (Nat.le_refl _) (.slice (some ⟨g, 0, none⟩) (S.pend.length + 1) cap)
    generalize w6.setCell ⟨w.heap.size, 4, none⟩ (.slice (some ⟨g, 0, none⟩) (S.pend.length + 1) cap) = W7 at t0 t2 tP tO tB ⊢
    have c0 := (t0.cell 0).trans (rfl : _ = some (Value.int .i64 q))
    have c1 := (t0.cell 1).trans (rfl : _ = some (Value.slice L.af L.nf L.cf))
    have c2 := (t0.cell 2).trans (rfl : _ = some (Value.slice A4 N4 c4))
    have c3 := (t0.cell 3).trans (rfl : _ = some (Value.slice L.as_ L.ns L.cs))
    have c4' := (t0.cell 4).trans (rfl : _ = some (Value.slice (some ⟨g, 0, none⟩) (S.pend.length + 1) cap))
    have c5 := (t0.cell 5).trans (rfl : _ = some (Value.int .i64 l))
    have c6 := (t0.cell 6).trans (rfl : _ = some (Value.bool dn))
    have d0 := (t2.cell 0).trans (rfl : _ = some (Value.int .i64 0))
    have d1 := (t2.cell 1).trans (rfl : _ = some (Value.slice none 0 0))
    have d2 := (t2.cell 2).trans (rfl : _ = some (Value.slice none 0 0))
    have d3 := (t2.cell 3).trans (rfl : _ = some (Value.slice none 0 0))
    have d4 := (t2.cell 4).trans (rfl : _ = some (Value.slice none 0 0))
    have d5 := (t2.cell 5).trans (rfl : _ = some (Value.int .i64 0))
    have d6 := (t2.cell 6).trans (rfl : _ = some (Value.bool false))
    have e0 := t2.frozen 0
    have e1 := t2.frozen 1
    have e2 := t2.frozen 2
    have e3 := t2.frozen 3
    have e4 := t2.frozen 4
    have e5 := t2.frozen 5
    have e6 := t2.frozen 6
    have T2 := Lib.hid t2
    have TP := Lib.hid tP
    have TO := Lib.hid tO
    have TB := Lib.hid tB
    clear t0 t2 tP tO tB k0 k1 k2 k3 j0 j1 j2 j3 m4 mf4 l0 l1 p4 q0 q1 q2 q3
    go_wp2_with fail
    refine ret7 rfl rfl rfl (seven_put T2.out _ _ _ _ _ _ _) ⟨_, _, _, _, _, _, rfl, ?_, ?_, ?_⟩
    · show World.ownsRow _ 0 _ 2 (.slice A4 N4 c4) _ _
      rw [HN4.out]
      exact own_keepT TO.out (seven_grown _ _ _ _ _ _ _ _ _) (by rintro x ⟨⟩; rw [whole_typ T2.out]; decide)
    · unfold RowP
      rw [List.length_append, ccells_snoc, HCC.out]
      exact own_base (own_keepT TP.out (seven_grown _ _ _ _ _ _ _ _ _) (by rintro x ⟨⟩; rw [whole_typ T2.out]; decide)) (Nat.zero_le _)
    · exact seven_below TB.out (by omega) _ _ _ _ _ _ _
end Go.Proofs.Yteeomlboifleoaa
