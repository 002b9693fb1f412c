/- The reference's at, put. No statement of the seat is proved here. -/
import Derived.Test.YteeomlboifleoaaRefC
import Derived.Laws.AppendOwnNone
import Derived.Laws.Rows
import Derived.Laws.ResultCell
namespace Go.Proofs.Yteeomlboifleoaa
open Go.RowKit Go.Maps Go.Sort

theorem row_lenG {w : World} {b : Nat} {e size n m c : Nat} {A : Option Addr} {xs : List Value} (h : w.ownsRow b e size (.slice A n c) m xs) : n = m := by
  rcases h.2 with ⟨hv, hz⟩ | ⟨g, cap, cur, hv, _⟩
  · injection hv with _ e2 _
    omega
  · injection hv with _ e2 _
set_option maxHeartbeats 1000000 in
theorem at_ref {w : World} {S : St} (L : Ls) (q l : Int) (dn : Bool) (hN : RowN w 0 (.slice L.an L.nn L.cn) S.names) (hn : S.names.length ≤ 90000) (hd : dn = S.down) (nm : ByteArray) :
    Calls Try.prog 52 #[rv L q l dn, .string nm] w fun e w' => e = .returned (.tuple #[.int .i64 ((openS S nm.data.toList (isN nm.data.toList)).1 : Nat), .int .i64 (openS S nm.data.toList (isN nm.data.toList)).2]) ∧ Below w.heap.size w w' := by
  subst hd
  have hB : Hid (Below w.heap.size w (w.alloc (.cells #[.int .i64 q, .slice L.af L.nf L.cf, .slice L.an L.nn L.cn, .slice L.as_ L.ns L.cs, .slice L.ap L.np L.cp, .int .i64 l, .bool S.down] 33))) := Lib.hid ((Below.refl _ w).alloc (Nat.le_refl _) _)
  have HA := Lib.hid (hN.alloc (.cells #[.int .i64 q, .slice L.af L.nf L.cf, .slice L.an L.nn L.cn, .slice L.as_ L.ns L.cs, .slice L.ap L.np L.cp, .int .i64 l, .bool S.down] 33))
  clear hN
  unfold rv
  cases hdn : S.down
  · cases hok : isN nm.data.toList
    · have hR : Hid (openS S nm.data.toList false = (0, 1)) := Lib.hid (by unfold openS; rw [hdn]; rfl)
      rw [hdn] at HA hB
      have HK := Lib.hid hok
      clear hdn hok
      go_enter Try.func52, Try.ntmps52
      go_wp2_with fail
      refine Calls.mono (isN_ref _ nm) ?_
      rintro e w1 ⟨rfl, rfl⟩
      rw [HK.out]
      go_wp2_with fail
      go_ret2
      exact ⟨by rw [hR.out]; rfl, hB.out⟩
    · have HK := Lib.hid hok
      cases hf : findN S.names nm.data.toList with
      | none =>
        have hFI : Hid (findI S.names nm.data.toList = -1) := Lib.hid (by unfold findI; rw [hf])
        have hR : Hid (openS S nm.data.toList true = (0, 6)) := Lib.hid (by unfold openS; rw [hdn, hf]; rfl)
        rw [hdn] at HA hB
        clear hdn hok hf
        go_enter Try.func52, Try.ntmps52
        go_wp2_with fail
        refine Calls.mono (isN_ref _ nm) ?_
        rintro e w1 ⟨rfl, rfl⟩
        rw [HK.out]
        go_wp2_with fail
        refine Calls.mono (find_any HA.out (by omega) nm) ?_
        rintro e w1 ⟨rfl, rfl⟩
        rw [hFI.out]
        go_wp2_with fail
        go_ret2
        exact ⟨by rw [hR.out]; rfl, hB.out⟩
      | some i =>
        have hFI : Hid (findI S.names nm.data.toList = (i : Nat)) := Lib.hid (by unfold findI; rw [hf])
        have hR : Hid (openS S nm.data.toList true = (i, 0)) := Lib.hid (by unfold openS; rw [hdn, hf]; rfl)
        have e1 : decide ((i : Int) < 0) = false := by simp
        rw [hdn] at HA hB
        clear hdn hok hf
        go_enter Try.func52, Try.ntmps52
        go_wp2_with fail
        refine Calls.mono (isN_ref _ nm) ?_
        rintro e w1 ⟨rfl, rfl⟩
        rw [HK.out]
        go_wp2_with fail
        refine Calls.mono (find_any HA.out (by omega) nm) ?_
        rintro e w1 ⟨rfl, rfl⟩
        rw [hFI.out]
        go_wp2_with fail
        go_ret2
        exact ⟨by rw [hR.out]; rfl, hB.out⟩
  · have hR : Hid (openS S nm.data.toList (isN nm.data.toList) = (0, 5)) := Lib.hid (by unfold openS; rw [hdn]; rfl)
    rw [hdn] at HA hB
    clear hdn
    go_enter Try.func52, Try.ntmps52
    go_wp2_with fail
    go_ret2
    exact ⟨by rw [hR.out]; rfl, hB.out⟩
/-- a row, appended to a row of the call's own -/
theorem wpList_append_row {w : World} {ops : Array Oper} {rest : List Oper} {o : Oper} {a : Act} {Q : Exit → Act → World → Prop} (hgd : o.guard = none) (s x : Operand) (t : TypeId)
    (ho : o.op = .call { callee := .builtin .append, args := #[s, x], argTypes := #[t, t] })
    (base : Nat) (e : TypeId) (i : TypeInfo) (z : Value) (size bytes : Nat) (ht : Try.prog.underlying t = some (.slice e)) (hi : Try.prog.info? e = some i) (hz : i.zero = some z)
    (hsize : i.size = size) (hby : i.bytes = bytes) (hzs : z.cells.size = size) (hsz : 0 < size)
    (v : Value) (n : Nat) (xs : List Value) (hs : a.eval s = v) (hown : w.ownsRow base e size v n xs)
    (b2 : Nat) (v2 : Value) (m : Nat) (ys : List Value) (hx : a.eval x = v2) (hsrc : w.ownsRow b2 e size v2 m ys) (h1 : ∀ u ∈ ys, u.oneCell' = true)
    (h63 : n + m ≤ maxLen) (hbytes : (n + m) * bytes ≤ 140737488355328) (hbase : base ≤ w.heap.size)
    (h : ∀ v' w', w'.ownsRow base e size v' (n + m) (xs ++ ys) → w.grownBy w' v.ownBlock → wpList Try.prog ops Q rest (a.put o.dst v') w') : wpList Try.prog ops Q (o :: rest) a w := by
  have hsrc0 := hsrc
  rcases hsrc.2 with ⟨rfl, rfl⟩ | ⟨g, cap, cur, rfl, _⟩
  · have hy : ys = [] := List.eq_nil_of_length_eq_zero (by have := hsrc.1; simpa using this)
    subst hy
    refine wpList_append_own_none hgd s x t ho base e i size ht hi v n xs hs hown hx ?_
    exact h v w (by simpa using hown) ⟨rfl, rfl, rfl, Nat.le_refl _, fun _ _ _ => rfl⟩
  · exact wpList_append_own w hgd s x t ho base e i z size bytes ht hi hz hsize hby hzs hsz v n xs hs hown ⟨g, 0, none⟩ m cap ys hx hsrc.1 (fun j u hu => hsrc0.cells (g := g) rfl j u hu) h1 h63 hbytes hbase fun v' w' a1 a2 _ => h v' w' a1 a2
theorem ncells_one (N : Nms) : ∀ u ∈ ncells N, u.oneCell' = true := by
  intro u hu
  unfold ncells at hu
  obtain ⟨p, _, hp⟩ := List.mem_flatMap.1 hu
  exact two1 _ _ rfl rfl u hp
theorem file_info : (Try.prog.info? 72).map (fun i => (i.zero, i.size, i.bytes)) = some (some (.agg #[.string ⟨#[]⟩, .int .i64 0]), 2, 24) := by kernel_rfl
def RowF (w : World) (b : Nat) (v : Value) (N : Nms) : Prop := w.ownsRow b 72 2 v N.length (ncells N)
/-! ### a result that is a disk -/
theorem seven_put {w : World} {r t : Nat} {x0 x1 x2 x3 x4 x5 x6 : Value} (h : Whole w r t #[x0, x1, x2, x3, x4, x5, x6]) (a0 a1 a2 a3 a4 a5 a6 : Value) :
    Whole (((((((w.setCell ⟨r, 0, none⟩ a0).setCell ⟨r, 1, none⟩ a1).setCell ⟨r, 2, none⟩ a2).setCell ⟨r, 3, none⟩ a3).setCell ⟨r, 4, none⟩ a4).setCell ⟨r, 5, none⟩ a5).setCell ⟨r, 6, none⟩ a6) r t #[a0, a1, a2, a3, a4, a5, a6] := by
  have := ((((((h.put 0 a0).put 1 a1).put 2 a2).put 3 a3).put 4 a4).put 5 a5).put 6 a6
  simpa using this
theorem seven_below {B : Nat} {a w : World} {r : Nat} (h : Below B a w) (hr : B ≤ r) (a0 a1 a2 a3 a4 a5 a6 : Value) :
    Below B a (((((((w.setCell ⟨r, 0, none⟩ a0).setCell ⟨r, 1, none⟩ a1).setCell ⟨r, 2, none⟩ a2).setCell ⟨r, 3, none⟩ a3).setCell ⟨r, 4, none⟩ a4).setCell ⟨r, 5, none⟩ a5).setCell ⟨r, 6, none⟩ a6) :=
  ((((((h.setCell hr a0).setCell hr a1).setCell hr a2).setCell hr a3).setCell hr a4).setCell hr a5).setCell hr a6
theorem seven_row {w : World} {base e size n r : Nat} {v : Value} {xs : List Value} (h : w.ownsRow base e size v n xs) (hr : r < base) (a0 a1 a2 a3 a4 a5 a6 : Value) :
    (((((((w.setCell ⟨r, 0, none⟩ a0).setCell ⟨r, 1, none⟩ a1).setCell ⟨r, 2, none⟩ a2).setCell ⟨r, 3, none⟩ a3).setCell ⟨r, 4, none⟩ a4).setCell ⟨r, 5, none⟩ a5).setCell ⟨r, 6, none⟩ a6).ownsRow base e size v n xs :=
  ownsRow_setCell_below (ownsRow_setCell_below (ownsRow_setCell_below (ownsRow_setCell_below (ownsRow_setCell_below (ownsRow_setCell_below (ownsRow_setCell_below h (a := ⟨r, 0, none⟩) hr a0) (a := ⟨r, 1, none⟩) hr a1) (a := ⟨r, 2, none⟩) hr a2) (a := ⟨r, 3, none⟩) hr a3) (a := ⟨r, 4, none⟩) hr a4) (a := ⟨r, 5, none⟩) hr a5) (a := ⟨r, 6, none⟩) hr a6
theorem disk_size : (Try.prog.info? 33).map (·.size) = some 7 := by kernel_rfl
theorem ret7 {fn : Func} {R : Ending → World → Prop} {a : Act} {w : World} {p r : Nat} {a0 a1 a2 a3 a4 a5 a6 : Value} (hf : fn.results = #[.cell p 33]) (hd : a.defers = []) (hp : a.tmps.getD p undef = .pointer (some ⟨r, 0, none⟩))
    (h : Whole w r 33 #[a0, a1, a2, a3, a4, a5, a6]) (hR : R (.returned (.agg #[a0, a1, a2, a3, a4, a5, a6])) w) : bodyPost Try.prog fn R .ret a w :=
  bodyPost_ret (results_cell_row hf _ _ r _ _ (0, 0) _ hp h Try.underlying33 rfl disk_size) hd hR
theorem ret72 {fn : Func} {R : Ending → World → Prop} {a : Act} {w : World} {p u r : Nat} {a0 a1 a2 a3 a4 a5 a6 x : Value} (hf : fn.results = #[.cell p 33, .tmp u]) (hd : a.defers = []) (hp : a.tmps.getD p undef = .pointer (some ⟨r, 0, none⟩)) (hx : a.tmps.getD u undef = x)
    (h : Whole w r 33 #[a0, a1, a2, a3, a4, a5, a6]) (hR : R (.returned (.tuple #[.agg #[a0, a1, a2, a3, a4, a5, a6], x])) w) : bodyPost Try.prog fn R .ret a w := by
  refine bodyPost_ret ?_ hd hR
  rw [results_cell_tmp hf, hp, hx]
  simp [asAddr, run_loadVar_row w r 33 _ _ (0, 0) _ h Try.underlying33 rfl disk_size, Result.andThen]
theorem ncells_set : ∀ (F : Nms) (i : Nat) (z : Bys) (s : Nat), i < F.length → ((ncells F).set (i * 2) (.string (strB z))).set (i * 2 + 1) (.int .i64 (s : Nat)) = ncells (F.set i (z, s))
  | [], i, _, _, h => by simp at h
  | p :: r, 0, z, s, _ => rfl
  | p :: r, i + 1, z, s, h => by
    have ih := ncells_set r i z s (by simpa using h)
    have e : ncells (p :: r) = Value.string (strB p.1) :: Value.int .i64 (p.2 : Nat) :: ncells r := rfl
    rw [e, show (i + 1) * 2 = i * 2 + 1 + 1 by omega]
    show Value.string (strB p.1) :: Value.int .i64 (p.2 : Nat) :: (((ncells r).set (i * 2) (.string (strB z))).set (i * 2 + 1) (.int .i64 (s : Nat))) = _
    rw [ih]
    rfl
theorem add1 (w : World) (a b c d : Obj) : Below w.heap.size w ((((w.alloc a).alloc b).alloc c).alloc d) :=
  ((((Below.refl _ w).alloc (Nat.le_refl _) _).alloc (by simp) _).alloc (by simp; omega) _).alloc (by simp; omega) _
theorem put_mid {w W4 w5 : World} {F : Nms} {v5 : Value} {t1 t2 : TypeId} {c0 c1 c2 : Array Value} (h0 : Whole W4 w.heap.size t1 c0) (h1 : Whole W4 (w.heap.size + 1) t2 c1) (h2 : Whole W4 (w.heap.size + 1 + 1) t1 c2)
    (hO : w5.ownsRow (w.heap.size + 1 + 1 + 1) 72 2 v5 (0 + F.length) ([] ++ ncells F)) (hG : W4.grownBy w5 (some (w.heap.size + 1 + 1 + 1))) (hF : 0 < F.length) :
    ∃ g c5, v5 = .slice (some ⟨g, 0, none⟩) F.length c5 ∧ w.heap.size + 1 + 1 + 1 ≤ g ∧ Whole w5 w.heap.size t1 c0 ∧ Whole w5 (w.heap.size + 1) t2 c1 ∧ Whole w5 (w.heap.size + 1 + 1) t1 c2 ∧
      w5.ownsRow (w.heap.size + 1 + 1 + 1) 72 2 (.slice (some ⟨g, 0, none⟩) F.length c5) F.length (ncells F) := by
  rw [Nat.zero_add, List.nil_append] at hO
  have hO' := hO
  rcases hO.2 with ⟨_, hz⟩ | ⟨g, cap, cur, rfl, hg, _⟩
  · omega
  · exact ⟨g, cap, rfl, hg, h0.grown hG (by simp <;> omega), h1.grown hG (by simp <;> omega), h2.grown hG (by simp <;> omega), hO'⟩
theorem put_cells {w : World} {b g c : Nat} {F : Nms} (h : w.ownsRow b 72 2 (.slice (some ⟨g, 0, none⟩) F.length c) F.length (ncells F)) {i : Nat} (hi : i < F.length) :
    ∃ u0, w.cell? ⟨g, i * 2, none⟩ = some u0 ∧ ∃ u1, w.cell? ⟨g, i * 2 + 1, none⟩ = some u1 := by
  obtain ⟨x0, x1⟩ := ncells_at F i F[i] (List.getElem?_eq_getElem hi)
  exact ⟨_, (h.cellAt (i * 2) (by omega)).trans x0, _, (h.cellAt (i * 2 + 1) (by omega)).trans x1⟩
set_option maxHeartbeats 4000000 in
set_option maxRecDepth 20000 in
theorem put_ref {w : World} {F : Nms} (L : Ls) (q l : Int) (dn : Bool) (hF : RowF w 0 (.slice L.af L.nf L.cf) F) (hn : F.length ≤ 90000) (i : Nat) (hi : i < F.length) (z : ByteArray) (s : Nat) :
    Calls Try.prog 50 #[rv L q l dn, .int .i64 (i : Nat), .agg #[.string z, .int .i64 (s : Nat)]] w fun e w' => ∃ A n c, e = .returned (rv { L with af := A, nf := n, cf := c } q l dn) ∧ RowF w' 0 (.slice A n c) (F.set i (z.data.toList, s)) ∧ Below w.heap.size w w' := by
  obtain ⟨i0, hi0, hz0, hz1, hz2⟩ := info_parts file_info
  obtain ⟨W4, hW4⟩ : ∃ W4, W4 = ((((w.alloc (.cells #[.int .i64 q, .slice L.af L.nf L.cf, .slice L.an L.nn L.cn, .slice L.as_ L.ns L.cs, .slice L.ap L.np L.cp, .int .i64 l, .bool dn] 33)).alloc (.cells #[.string z, .int .i64 (s : Nat)] 72)).alloc (.cells #[.int .i64 0, .slice none 0 0, .slice none 0 0, .slice none 0 0, .slice none 0 0, .int .i64 0, .bool false] 33)).alloc (.cells #[] 72)) := ⟨_, rfl⟩
  obtain ⟨w0, w1, w2, _, hB⟩ := four w #[.int .i64 q, .slice L.af L.nf L.cf, .slice L.an L.nn L.cn, .slice L.as_ L.ns L.cs, .slice L.ap L.np L.cp, .int .i64 l, .bool dn] #[.string z, .int .i64 (s : Nat)] #[.int .i64 0, .slice none 0 0, .slice none 0 0, .slice none 0 0, .slice none 0 0, .int .i64 0, .bool false] #[] 33 72 33 72
  have hsz : W4.heap.size = w.heap.size + 4 := by rw [hW4]; simp
  rw [← hW4] at w0 w1 w2 hB
  have HF4 : Hid (W4.ownsRow 0 72 2 (.slice L.af L.nf L.cf) F.length (ncells F)) := Lib.hid (own_below hF hB)
  have HE : Hid (W4.ownsRow (w.heap.size + 1 + 1 + 1) 72 2 (.slice (some ⟨w.heap.size + 1 + 1 + 1, 0, none⟩) 0 0) 0 []) := Lib.hid (by
    rw [hW4]
    have := World.ownsRow_lit (base := w.heap.size + 1 + 1 + 1) (e := 72) (size := 2) ((((w.alloc (.cells #[.int .i64 q, .slice L.af L.nf L.cf, .slice L.an L.nn L.cn, .slice L.as_ L.ns L.cs, .slice L.ap L.np L.cp, .int .i64 l, .bool dn] 33)).alloc (.cells #[.string z, .int .i64 (s : Nat)] 72)).alloc (.cells #[.int .i64 0, .slice none 0 0, .slice none 0 0, .slice none 0 0, .slice none 0 0, .int .i64 0, .bool false] 33))) #[] 0 (by simp) (Nat.zero_le _) rfl
    simpa using this)
  have H0 := Lib.hid w0
  have H1 := Lib.hid w1
  have H2 := Lib.hid w2
  have HB := Lib.hid hB
  have HSZ := Lib.hid hsz
  have HW4 := Lib.hid hW4
  have hil : (i : Int) < (F.length : Int) := by omega
  obtain ⟨k, hk⟩ : ∃ k, k = F.length := ⟨_, rfl⟩
  have HK := Lib.hid hk
  clear hF w0 w1 w2 hB hsz hW4 hi hk
  unfold rv
  go_enter Try.func50, Try.ntmps50
  go_wp2_with (at_builtin; (rw [← HW4.out]; refine wpList_append_row rfl _ _ 29 rfl (w.heap.size + 1 + 1 + 1) 72 i0 (.agg #[.string ⟨#[]⟩, .int .i64 0]) 2 24 Try.underlying29 hi0 hz0 hz1 hz2 rfl (by decide) (.slice (some ⟨w.heap.size + 1 + 1 + 1, 0, none⟩) 0 0) 0 [] rfl HE.out 0 _ F.length (ncells F) rfl HF4.out (ncells_one F) (by unfold maxLen; omega) (by omega) (by have := HSZ.out; omega) ?_; intro v5 w5 hO5 hG5; obtain ⟨g, c5, rfl, hg3, x0, x1, x2, hO⟩ := put_mid H0.out H1.out H2.out hO5 hG5 (by have := HK.out; omega); have HX0 := Lib.hid x0; have HX1 := Lib.hid x1; have HX2 := Lib.hid x2; have HO := Lib.hid hO; have HG := Lib.hid hG5; have HG3 := Lib.hid hg3; have n0 : ¬ (g = w.heap.size) := (by omega); have n1 : ¬ (w.heap.size = g) := (by omega); have n2 : ¬ (g = w.heap.size + 1) := (by omega); have n3 : ¬ (g = w.heap.size + 1 + 1) := (by omega); have n4 : ¬ (w.heap.size + 1 + 1 = g) := (by omega); have n5 : ¬ (w.heap.size + 1 = g) := (by omega); have a0 := (x0.cell 0).trans (rfl : _ = some (Value.int .i64 q)); have a1 := (x0.cell 1).trans (rfl : _ = some (Value.slice L.af L.nf L.cf)); have a2 := (x0.cell 2).trans (rfl : _ = some (Value.slice L.an L.nn L.cn)); have a3 := (x0.cell 3).trans (rfl : _ = some (Value.slice L.as_ L.ns L.cs)); have a4 := (x0.cell 4).trans (rfl : _ = some (Value.slice L.ap L.np L.cp)); have a5 := (x0.cell 5).trans (rfl : _ = some (Value.int .i64 l)); have a6 := (x0.cell 6).trans (rfl : _ = some (Value.bool dn)); have f1 := x0.frozen 1; have b0 := (x1.cell 0).trans (rfl : _ = some (Value.string z)); have b1 := (x1.cell 1).trans (rfl : _ = some (Value.int .i64 (s : Nat))); have d0 := (x2.cell 0).trans (rfl : _ = some (Value.int .i64 0)); have d1 := (x2.cell 1).trans (rfl : _ = some (Value.slice none 0 0)); have d2 := (x2.cell 2).trans (rfl : _ = some (Value.slice none 0 0)); have d3 := (x2.cell 3).trans (rfl : _ = some (Value.slice none 0 0)); have d4 := (x2.cell 4).trans (rfl : _ = some (Value.slice none 0 0)); have d5 := (x2.cell 5).trans (rfl : _ = some (Value.int .i64 0)); have d6 := (x2.cell 6).trans (rfl : _ = some (Value.bool false)); have e0 := x2.frozen 0; have e1 := x2.frozen 1; have e2 := x2.frozen 2; have e3 := x2.frozen 3; have e4 := x2.frozen 4; have e5 := x2.frozen 5; have e6 := x2.frozen 6; obtain ⟨u0, hu0, u1, hu1⟩ := put_cells hO (by have := HK.out; omega : i < F.length); have r0 := hO.frozenAt (i * 2); have r1 := hO.frozenAt (i * 2 + 1); clear hO5 hG5 x0 x1 x2 hO hg3))
  have s1 := ownsRow_setCell_below HO.out (a := ⟨w.heap.size, 1, none⟩) (by show w.heap.size < _; omega) (.slice (some ⟨g, 0, none⟩) F.length c5)
  have s2 := ((s1.stored (i * 2) (.string z)).1.stored (i * 2 + 1) (.int .i64 (s : Nat))).1
  have t1 := (((HX2.out.far (p := ⟨w.heap.size, 1, none⟩) (by simp; omega) (.slice (some ⟨g, 0, none⟩) F.length c5)).far (p := ⟨g, i * 2, none⟩) (by simp; omega) (.string z)).far (p := ⟨g, i * 2 + 1, none⟩) (by simp; omega) (.int .i64 (s : Nat)))
  refine ret7 rfl rfl rfl (seven_put t1 _ _ _ _ _ _ _) ⟨_, _, _, rfl, ?_, ?_⟩
  · have s3 := seven_row s2 (r := w.heap.size + 1 + 1) (by omega) (.int .i64 q) (.slice (some ⟨g, 0, none⟩) F.length c5) (.slice L.an L.nn L.cn) (.slice L.as_ L.ns L.cs) (.slice L.ap L.np L.cp) (.int .i64 l) (.bool dn)
    have e := ncells_set F i z.data.toList s (by omega)
    rw [strB_data] at e
    rw [e] at s3
    unfold RowF
    rw [List.length_set]
    exact own_base s3 (Nat.zero_le _)
  · refine seven_below ?_ (by omega) _ _ _ _ _ _ _
    refine Below.setCell (Below.setCell (Below.setCell (HB.out.grown HG.out (by have := HSZ.out; omega) (fun k hk => by simp [Value.ownBlock] at hk; omega)) ?_ _) ?_ _) ?_ _
    · exact Nat.le_refl _
    · show w.heap.size ≤ g; have := HG3.out; omega
    · show w.heap.size ≤ g; have := HG3.out; omega
end Go.Proofs.Yteeomlboifleoaa
