/- The reference's Do. No statement of the seat is proved here. -/
import Derived.Test.YteeomlboifleoaaRefM
namespace Go.Proofs.Yteeomlboifleoaa
open Go.RowKit Go.Maps Go.Sort
set_option linter.unusedVariables false

theorem results_cell_tmp2 {fn : Func} {p u v : Tmp} {ty : TypeId} (h : fn.results = #[.cell p ty, .tmp u, .tmp v]) (tmps : Array Value) (P : Program) (w : World) :
    (results fn tmps).run P w = ((asAddr (tmps.getD p undef)).run P w).andThen fun a w₁ => ((loadVar ty a).run P w₁).andThen fun x w₂ => .ok (.tuple #[x, tmps.getD u undef, tmps.getD v undef]) w₂ := by
  simp only [results, h]
  simp [Sem.run_bind, Result.andThen]
theorem ret73 {fn : Func} {R : Ending → World → Prop} {a : Act} {w : World} {p u v r : Nat} {a0 a1 a2 a3 a4 a5 a6 x y : Value} (hf : fn.results = #[.cell p 33, .tmp u, .tmp v]) (hd : a.defers = []) (hp : a.tmps.getD p undef = .pointer (some ⟨r, 0, none⟩)) (hx : a.tmps.getD u undef = x) (hy : a.tmps.getD v undef = y)
    (h : Whole w r 33 #[a0, a1, a2, a3, a4, a5, a6]) (hR : R (.returned (.tuple #[.agg #[a0, a1, a2, a3, a4, a5, a6], x, y])) w) : bodyPost Try.prog fn R .ret a w := by
  refine bodyPost_ret ?_ hd hR
  rw [results_cell_tmp2 hf, hp, hx, hy]
  simp [asAddr, run_loadVar_row w r 33 _ _ (0, 0) _ h Try.underlying33 rfl disk_size, Result.andThen]
theorem end73 {fn : Func} {w w2 : World} {a : Act} {p u v r : Nat} {af an as_ ap : Option Addr} {nf cf nn cn ns cs np cp : Nat} {q l : Int} {dn : Bool} {S : St} {n : Int} {s : ByteArray} {z0 z1 z2 z3 z4 z5 z6 : Value} {g : Ending → World → Prop}
    (hf : fn.results = #[.cell p 33, .tmp u, .tmp v]) (hd : a.defers = []) (hp : a.tmps.getD p undef = .pointer (some ⟨r, 0, none⟩)) (hx : a.tmps.getD u undef = .string s) (hy : a.tmps.getD v undef = .int .i64 n)
    (hw : Whole w2 r 33 #[z0, z1, z2, z3, z4, z5, z6]) (hR : RAt w2 ⟨af, nf, cf, an, nn, cn, as_, ns, cs, ap, np, cp⟩ q l dn S) (hB : Below w.heap.size w w2) (hr : w.heap.size ≤ r)
    (h : ∀ w3, Has (rv ⟨af, nf, cf, an, nn, cn, as_, ns, cs, ap, np, cp⟩ q l dn) w3 S → Below w.heap.size w w3 → g (.returned (.tuple #[rv ⟨af, nf, cf, an, nn, cn, as_, ns, cs, ap, np, cp⟩ q l dn, .string s, .int .i64 n])) w3) :
    bodyPost Try.prog fn g .ret a (((((((w2.setCell ⟨r, 0, none⟩ (.int .i64 q)).setCell ⟨r, 1, none⟩ (.slice af nf cf)).setCell ⟨r, 2, none⟩ (.slice an nn cn)).setCell ⟨r, 3, none⟩ (.slice as_ ns cs)).setCell ⟨r, 4, none⟩ (.slice ap np cp)).setCell ⟨r, 5, none⟩ (.int .i64 l)).setCell ⟨r, 6, none⟩ (.bool dn)) :=
  ret73 hf hd hp hx hy (seven_put hw _ _ _ _ _ _ _) (h _ ⟨_, _, _, _, rfl, hR.kept hw (seven_grown _ _ _ _ _ _ _ _ _)⟩ (seven_below hB hr _ _ _ _ _ _ _))
theorem three (w : World) (a b c : Array Value) (ta tb tc : TypeId) :
    Whole (((w.alloc (.cells a ta)).alloc (.cells b tb)).alloc (.cells c tc)) w.heap.size ta a ∧ Whole (((w.alloc (.cells a ta)).alloc (.cells b tb)).alloc (.cells c tc)) (w.heap.size + 1 + 1) tc c ∧
    Below w.heap.size w (((w.alloc (.cells a ta)).alloc (.cells b tb)).alloc (.cells c tc)) := by
  have h0 := Whole.new w ta a
  have h2 := Whole.new ((w.alloc (.cells a ta)).alloc (.cells b tb)) tc c
  simp only [World.size_alloc] at h2
  exact ⟨(h0.alloc _).alloc _, h2, (((Below.refl _ _).alloc (Nat.le_refl _) _).alloc (by simp) _).alloc (by simp; omega) _⟩
theorem left_le {w : World} {L : Ls} {q l : Int} {dn : Bool} {S : St} {k M : Nat} (h : RAt w L q l dn S) (F : Fit k M S) : l ≤ 9223372036854775807 := by
  have := h.el; have := F.lf; omega

set_option maxHeartbeats 2000000 in
theorem Do_0 {w : World} {S : St} {k M : Nat} (L : Ls) (q l : Int) (dn : Bool) (h : RAt w L q l dn S) (F : Fit k M S) (hk : k ≤ 40000) (hM : M ≤ 400000000) (hre : Re S) (hz : Nz S) (hcn : Cons S) (hq : S.quota ≤ 1099511627776 ∧ 0 ≤ S.quota) (c : CallV) (hc : c.fits) (ha : c.a.size ≤ 70) (hb : c.b.size ≤ 300) (hr : c.kind % 8 = 0) :
    Calls Try.prog 13 #[rv L q l dn, c.val] w fun e w' => ∃ V, e = .returned (.tuple #[V, .string ⟨(doS S c).2.1.toArray⟩, .int .i64 (doS S c).2.2]) ∧ Has V w' (doS S c).1 ∧ Below w.heap.size w w' := by
  obtain ⟨af, nf, cf, an, nn, cn, as_, ns, cs, ap, np, cp⟩ := L
  have hl := left_le h F
  have hS : Hid (doS S c = ((appendS S c.a.data.toList c.b.data.toList).1, [], (appendS S c.a.data.toList c.b.data.toList).2)) := Lib.hid (by unfold doS; rw [hr]; rfl)
  have hr1 : ((c.kind : Nat) : Int) % 8 = 0 := by omega
  have hr2 : ((c.kind : Nat) : Int).tmod 8 = 0 := by rw [Int.tmod_eq_emod_of_nonneg (by omega)]; exact hr1
  have hk1 : ((c.kind : Nat) : Int) ≤ 255 := by have := hc.1; omega
  obtain ⟨x0, x2, hB⟩ := three w #[.int .i64 q, .slice af nf cf, .slice an nn cn, .slice as_ ns cs, .slice ap np cp, .int .i64 l, .bool dn] #[.int .u8 (c.kind : Nat), .string c.a, .string c.b, .int .i64 c.n] #[.int .i64 0, .slice none 0 0, .slice none 0 0, .slice none 0 0, .slice none 0 0, .int .i64 0, .bool false] 33 38 33
  have HR := Lib.hid (h.same hB)
  have HH := Lib.hid h
  have HFF := Lib.hid F
  have HNZ := Lib.hid (hz.names F hre)
  have HRE := Lib.hid hre
  have HZ := Lib.hid hz
  have HCN := Lib.hid hcn
  have X2 := Lib.hid x2
  have HB := Lib.hid hB
  have HQ := Lib.hid hq
  have HL := Lib.hid hl
  obtain ⟨a0, a1, a2, a3, a4, a5, a6⟩ := disk_facts x0
  have HX0 := Lib.hid x0
  clear hr hc h F x0 x2 hB hre hz hcn hq hl
  unfold rv CallV.val
  go_enter Try.func13, Try.ntmps13
  go_wp2_with fail
  refine Calls.mono (Append_ref ⟨af, nf, cf, an, nn, cn, as_, ns, cs, ap, np, cp⟩ q l dn HR.out HFF.out (by omega) (by omega) HL.out HNZ.out HQ.out c.a c.b (by omega)) ?_
  rintro e w2 ⟨V, rfl, ⟨⟨af2, nf2, cf2, an2, nn2, cn2, as2, ns2, cs2, ap2, np2, cp2⟩, q2, l2, dn2, rfl, hA⟩, hB2⟩
  have X3 := (X2.out.below hB2 (by simp)).alloc (.cells #[.int .i64 q2, .slice af2 nf2 cf2, .slice an2 nn2 cn2, .slice as2 ns2 cs2, .slice ap2 np2 cp2, .int .i64 l2, .bool dn2] 33)
  have HA := Lib.hid (hA.same ((Below.refl _ w2).alloc (Nat.le_refl _) (.cells #[.int .i64 q2, .slice af2 nf2 cf2, .slice an2 nn2 cn2, .slice as2 ns2 cs2, .slice ap2 np2 cp2, .int .i64 l2, .bool dn2] 33)))
  have HX := Lib.hid X3
  have HBB := Lib.hid ((HB.out.trans (hB2.mono (by simp; omega))).alloc (Nat.le_trans (by simp; omega) hB2.size) (.cells #[.int .i64 q2, .slice af2 nf2 cf2, .slice an2 nn2 cn2, .slice as2 ns2 cs2, .slice ap2 np2 cp2, .int .i64 l2, .bool dn2] 33))
  obtain ⟨⟨d0, d1, d2, d3, d4, d5, d6⟩, e0, e1, e2, e3, e4, e5, e6⟩ := zero_facts X3
  clear X3 hA hB2
  unfold rv
  go_wp2_with fail
  refine end73 rfl rfl rfl rfl rfl HX.out HA.out HBB.out (by omega) fun w3 h3 hB3 => ?_
  rw [hS.out]
  exact ⟨_, rfl, h3, hB3⟩

set_option maxHeartbeats 2000000 in
theorem Do_1 {w : World} {S : St} {k M : Nat} (L : Ls) (q l : Int) (dn : Bool) (h : RAt w L q l dn S) (F : Fit k M S) (hk : k ≤ 40000) (hM : M ≤ 400000000) (hre : Re S) (hz : Nz S) (hcn : Cons S) (hq : S.quota ≤ 1099511627776 ∧ 0 ≤ S.quota) (c : CallV) (hc : c.fits) (ha : c.a.size ≤ 70) (hb : c.b.size ≤ 300) (hr : c.kind % 8 = 1) :
    Calls Try.prog 13 #[rv L q l dn, c.val] w fun e w' => ∃ V, e = .returned (.tuple #[V, .string ⟨(doS S c).2.1.toArray⟩, .int .i64 (doS S c).2.2]) ∧ Has V w' (doS S c).1 ∧ Below w.heap.size w w' := by
  obtain ⟨af, nf, cf, an, nn, cn, as_, ns, cs, ap, np, cp⟩ := L
  have hl := left_le h F
  have hS : Hid (doS S c = ((syncS S c.a.data.toList).1, [], (syncS S c.a.data.toList).2)) := Lib.hid (by unfold doS; rw [hr]; rfl)
  have hr1 : ((c.kind : Nat) : Int) % 8 = 1 := by omega
  have hr2 : ((c.kind : Nat) : Int).tmod 8 = 1 := by rw [Int.tmod_eq_emod_of_nonneg (by omega)]; exact hr1
  have hk1 : ((c.kind : Nat) : Int) ≤ 255 := by have := hc.1; omega
  obtain ⟨x0, x2, hB⟩ := three w #[.int .i64 q, .slice af nf cf, .slice an nn cn, .slice as_ ns cs, .slice ap np cp, .int .i64 l, .bool dn] #[.int .u8 (c.kind : Nat), .string c.a, .string c.b, .int .i64 c.n] #[.int .i64 0, .slice none 0 0, .slice none 0 0, .slice none 0 0, .slice none 0 0, .int .i64 0, .bool false] 33 38 33
  have HR := Lib.hid (h.same hB)
  have HH := Lib.hid h
  have HFF := Lib.hid F
  have HNZ := Lib.hid (hz.names F hre)
  have HRE := Lib.hid hre
  have HZ := Lib.hid hz
  have HCN := Lib.hid hcn
  have X2 := Lib.hid x2
  have HB := Lib.hid hB
  have HQ := Lib.hid hq
  have HL := Lib.hid hl
  obtain ⟨a0, a1, a2, a3, a4, a5, a6⟩ := disk_facts x0
  have HX0 := Lib.hid x0
  clear hr hc h F x0 x2 hB hre hz hcn hq hl
  unfold rv CallV.val
  go_enter Try.func13, Try.ntmps13
  go_wp2_with fail
  refine Calls.mono (Sync_ref ⟨af, nf, cf, an, nn, cn, as_, ns, cs, ap, np, cp⟩ q l dn HR.out HFF.out (by omega) HL.out c.a) ?_
  rintro e w2 ⟨V, rfl, ⟨⟨af2, nf2, cf2, an2, nn2, cn2, as2, ns2, cs2, ap2, np2, cp2⟩, q2, l2, dn2, rfl, hA⟩, hB2⟩
  have X3 := (X2.out.below hB2 (by simp)).alloc (.cells #[.int .i64 q2, .slice af2 nf2 cf2, .slice an2 nn2 cn2, .slice as2 ns2 cs2, .slice ap2 np2 cp2, .int .i64 l2, .bool dn2] 33)
  have HA := Lib.hid (hA.same ((Below.refl _ w2).alloc (Nat.le_refl _) (.cells #[.int .i64 q2, .slice af2 nf2 cf2, .slice an2 nn2 cn2, .slice as2 ns2 cs2, .slice ap2 np2 cp2, .int .i64 l2, .bool dn2] 33)))
  have HX := Lib.hid X3
  have HBB := Lib.hid ((HB.out.trans (hB2.mono (by simp; omega))).alloc (Nat.le_trans (by simp; omega) hB2.size) (.cells #[.int .i64 q2, .slice af2 nf2 cf2, .slice an2 nn2 cn2, .slice as2 ns2 cs2, .slice ap2 np2 cp2, .int .i64 l2, .bool dn2] 33))
  obtain ⟨⟨d0, d1, d2, d3, d4, d5, d6⟩, e0, e1, e2, e3, e4, e5, e6⟩ := zero_facts X3
  clear X3 hA hB2
  unfold rv
  go_wp2_with fail
  refine end73 rfl rfl rfl rfl rfl HX.out HA.out HBB.out (by omega) fun w3 h3 hB3 => ?_
  rw [hS.out]
  exact ⟨_, rfl, h3, hB3⟩

set_option maxHeartbeats 2000000 in
theorem Do_2 {w : World} {S : St} {k M : Nat} (L : Ls) (q l : Int) (dn : Bool) (h : RAt w L q l dn S) (F : Fit k M S) (hk : k ≤ 40000) (hM : M ≤ 400000000) (hre : Re S) (hz : Nz S) (hcn : Cons S) (hq : S.quota ≤ 1099511627776 ∧ 0 ≤ S.quota) (c : CallV) (hc : c.fits) (ha : c.a.size ≤ 70) (hb : c.b.size ≤ 300) (hr : c.kind % 8 = 2) :
    Calls Try.prog 13 #[rv L q l dn, c.val] w fun e w' => ∃ V, e = .returned (.tuple #[V, .string ⟨(doS S c).2.1.toArray⟩, .int .i64 (doS S c).2.2]) ∧ Has V w' (doS S c).1 ∧ Below w.heap.size w w' := by
  obtain ⟨af, nf, cf, an, nn, cn, as_, ns, cs, ap, np, cp⟩ := L
  have hl := left_le h F
  have hS : Hid (doS S c = ((syncDirS S).1, [], (syncDirS S).2)) := Lib.hid (by unfold doS; rw [hr]; rfl)
  have hr1 : ((c.kind : Nat) : Int) % 8 = 2 := by omega
  have hr2 : ((c.kind : Nat) : Int).tmod 8 = 2 := by rw [Int.tmod_eq_emod_of_nonneg (by omega)]; exact hr1
  have hk1 : ((c.kind : Nat) : Int) ≤ 255 := by have := hc.1; omega
  obtain ⟨x0, x2, hB⟩ := three w #[.int .i64 q, .slice af nf cf, .slice an nn cn, .slice as_ ns cs, .slice ap np cp, .int .i64 l, .bool dn] #[.int .u8 (c.kind : Nat), .string c.a, .string c.b, .int .i64 c.n] #[.int .i64 0, .slice none 0 0, .slice none 0 0, .slice none 0 0, .slice none 0 0, .int .i64 0, .bool false] 33 38 33
  have HR := Lib.hid (h.same hB)
  have HH := Lib.hid h
  have HFF := Lib.hid F
  have HNZ := Lib.hid (hz.names F hre)
  have HRE := Lib.hid hre
  have HZ := Lib.hid hz
  have HCN := Lib.hid hcn
  have X2 := Lib.hid x2
  have HB := Lib.hid hB
  have HQ := Lib.hid hq
  have HL := Lib.hid hl
  obtain ⟨a0, a1, a2, a3, a4, a5, a6⟩ := disk_facts x0
  have HX0 := Lib.hid x0
  clear hr hc h F x0 x2 hB hre hz hcn hq hl
  unfold rv CallV.val
  go_enter Try.func13, Try.ntmps13
  go_wp2_with fail
  refine Calls.mono (SyncDir_ref ⟨af, nf, cf, an, nn, cn, as_, ns, cs, ap, np, cp⟩ q l dn HR.out HRE.out HL.out) ?_
  rintro e w2 ⟨V, rfl, ⟨⟨af2, nf2, cf2, an2, nn2, cn2, as2, ns2, cs2, ap2, np2, cp2⟩, q2, l2, dn2, rfl, hA⟩, hB2⟩
  have X3 := (X2.out.below hB2 (by simp)).alloc (.cells #[.int .i64 q2, .slice af2 nf2 cf2, .slice an2 nn2 cn2, .slice as2 ns2 cs2, .slice ap2 np2 cp2, .int .i64 l2, .bool dn2] 33)
  have HA := Lib.hid (hA.same ((Below.refl _ w2).alloc (Nat.le_refl _) (.cells #[.int .i64 q2, .slice af2 nf2 cf2, .slice an2 nn2 cn2, .slice as2 ns2 cs2, .slice ap2 np2 cp2, .int .i64 l2, .bool dn2] 33)))
  have HX := Lib.hid X3
  have HBB := Lib.hid ((HB.out.trans (hB2.mono (by simp; omega))).alloc (Nat.le_trans (by simp; omega) hB2.size) (.cells #[.int .i64 q2, .slice af2 nf2 cf2, .slice an2 nn2 cn2, .slice as2 ns2 cs2, .slice ap2 np2 cp2, .int .i64 l2, .bool dn2] 33))
  obtain ⟨⟨d0, d1, d2, d3, d4, d5, d6⟩, e0, e1, e2, e3, e4, e5, e6⟩ := zero_facts X3
  clear X3 hA hB2
  unfold rv
  go_wp2_with fail
  refine end73 rfl rfl rfl rfl rfl HX.out HA.out HBB.out (by omega) fun w3 h3 hB3 => ?_
  rw [hS.out]
  exact ⟨_, rfl, h3, hB3⟩

set_option maxHeartbeats 2000000 in
theorem Do_3 {w : World} {S : St} {k M : Nat} (L : Ls) (q l : Int) (dn : Bool) (h : RAt w L q l dn S) (F : Fit k M S) (hk : k ≤ 40000) (hM : M ≤ 400000000) (hre : Re S) (hz : Nz S) (hcn : Cons S) (hq : S.quota ≤ 1099511627776 ∧ 0 ≤ S.quota) (c : CallV) (hc : c.fits) (ha : c.a.size ≤ 70) (hb : c.b.size ≤ 300) (hr : c.kind % 8 = 3) :
    Calls Try.prog 13 #[rv L q l dn, c.val] w fun e w' => ∃ V, e = .returned (.tuple #[V, .string ⟨(doS S c).2.1.toArray⟩, .int .i64 (doS S c).2.2]) ∧ Has V w' (doS S c).1 ∧ Below w.heap.size w w' := by
  obtain ⟨af, nf, cf, an, nn, cn, as_, ns, cs, ap, np, cp⟩ := L
  have hl := left_le h F
  have hS : Hid (doS S c = ((renameS S c.a.data.toList c.b.data.toList).1, [], (renameS S c.a.data.toList c.b.data.toList).2)) := Lib.hid (by unfold doS; rw [hr]; rfl)
  have hr1 : ((c.kind : Nat) : Int) % 8 = 3 := by omega
  have hr2 : ((c.kind : Nat) : Int).tmod 8 = 3 := by rw [Int.tmod_eq_emod_of_nonneg (by omega)]; exact hr1
  have hk1 : ((c.kind : Nat) : Int) ≤ 255 := by have := hc.1; omega
  obtain ⟨x0, x2, hB⟩ := three w #[.int .i64 q, .slice af nf cf, .slice an nn cn, .slice as_ ns cs, .slice ap np cp, .int .i64 l, .bool dn] #[.int .u8 (c.kind : Nat), .string c.a, .string c.b, .int .i64 c.n] #[.int .i64 0, .slice none 0 0, .slice none 0 0, .slice none 0 0, .slice none 0 0, .int .i64 0, .bool false] 33 38 33
  have HR := Lib.hid (h.same hB)
  have HH := Lib.hid h
  have HFF := Lib.hid F
  have HNZ := Lib.hid (hz.names F hre)
  have HRE := Lib.hid hre
  have HZ := Lib.hid hz
  have HCN := Lib.hid hcn
  have X2 := Lib.hid x2
  have HB := Lib.hid hB
  have HQ := Lib.hid hq
  have HL := Lib.hid hl
  obtain ⟨a0, a1, a2, a3, a4, a5, a6⟩ := disk_facts x0
  have HX0 := Lib.hid x0
  clear hr hc h F x0 x2 hB hre hz hcn hq hl
  unfold rv CallV.val
  go_enter Try.func13, Try.ntmps13
  go_wp2_with fail
  refine Calls.mono (Rename_ref ⟨af, nf, cf, an, nn, cn, as_, ns, cs, ap, np, cp⟩ q l dn HR.out HFF.out (by omega) HL.out HNZ.out c.a c.b) ?_
  rintro e w2 ⟨V, rfl, ⟨⟨af2, nf2, cf2, an2, nn2, cn2, as2, ns2, cs2, ap2, np2, cp2⟩, q2, l2, dn2, rfl, hA⟩, hB2⟩
  have X3 := (X2.out.below hB2 (by simp)).alloc (.cells #[.int .i64 q2, .slice af2 nf2 cf2, .slice an2 nn2 cn2, .slice as2 ns2 cs2, .slice ap2 np2 cp2, .int .i64 l2, .bool dn2] 33)
  have HA := Lib.hid (hA.same ((Below.refl _ w2).alloc (Nat.le_refl _) (.cells #[.int .i64 q2, .slice af2 nf2 cf2, .slice an2 nn2 cn2, .slice as2 ns2 cs2, .slice ap2 np2 cp2, .int .i64 l2, .bool dn2] 33)))
  have HX := Lib.hid X3
  have HBB := Lib.hid ((HB.out.trans (hB2.mono (by simp; omega))).alloc (Nat.le_trans (by simp; omega) hB2.size) (.cells #[.int .i64 q2, .slice af2 nf2 cf2, .slice an2 nn2 cn2, .slice as2 ns2 cs2, .slice ap2 np2 cp2, .int .i64 l2, .bool dn2] 33))
  obtain ⟨⟨d0, d1, d2, d3, d4, d5, d6⟩, e0, e1, e2, e3, e4, e5, e6⟩ := zero_facts X3
  clear X3 hA hB2
  unfold rv
  go_wp2_with fail
  refine end73 rfl rfl rfl rfl rfl HX.out HA.out HBB.out (by omega) fun w3 h3 hB3 => ?_
  rw [hS.out]
  exact ⟨_, rfl, h3, hB3⟩

set_option maxHeartbeats 2000000 in
theorem Do_4 {w : World} {S : St} {k M : Nat} (L : Ls) (q l : Int) (dn : Bool) (h : RAt w L q l dn S) (F : Fit k M S) (hk : k ≤ 40000) (hM : M ≤ 400000000) (hre : Re S) (hz : Nz S) (hcn : Cons S) (hq : S.quota ≤ 1099511627776 ∧ 0 ≤ S.quota) (c : CallV) (hc : c.fits) (ha : c.a.size ≤ 70) (hb : c.b.size ≤ 300) (hr : c.kind % 8 = 4) :
    Calls Try.prog 13 #[rv L q l dn, c.val] w fun e w' => ∃ V, e = .returned (.tuple #[V, .string ⟨(doS S c).2.1.toArray⟩, .int .i64 (doS S c).2.2]) ∧ Has V w' (doS S c).1 ∧ Below w.heap.size w w' := by
  obtain ⟨af, nf, cf, an, nn, cn, as_, ns, cs, ap, np, cp⟩ := L
  have hl := left_le h F
  have hS : Hid (doS S c = ((removeS S c.a.data.toList).1, [], (removeS S c.a.data.toList).2)) := Lib.hid (by unfold doS; rw [hr]; rfl)
  have hr1 : ((c.kind : Nat) : Int) % 8 = 4 := by omega
  have hr2 : ((c.kind : Nat) : Int).tmod 8 = 4 := by rw [Int.tmod_eq_emod_of_nonneg (by omega)]; exact hr1
  have hk1 : ((c.kind : Nat) : Int) ≤ 255 := by have := hc.1; omega
  obtain ⟨x0, x2, hB⟩ := three w #[.int .i64 q, .slice af nf cf, .slice an nn cn, .slice as_ ns cs, .slice ap np cp, .int .i64 l, .bool dn] #[.int .u8 (c.kind : Nat), .string c.a, .string c.b, .int .i64 c.n] #[.int .i64 0, .slice none 0 0, .slice none 0 0, .slice none 0 0, .slice none 0 0, .int .i64 0, .bool false] 33 38 33
  have HR := Lib.hid (h.same hB)
  have HH := Lib.hid h
  have HFF := Lib.hid F
  have HNZ := Lib.hid (hz.names F hre)
  have HRE := Lib.hid hre
  have HZ := Lib.hid hz
  have HCN := Lib.hid hcn
  have X2 := Lib.hid x2
  have HB := Lib.hid hB
  have HQ := Lib.hid hq
  have HL := Lib.hid hl
  obtain ⟨a0, a1, a2, a3, a4, a5, a6⟩ := disk_facts x0
  have HX0 := Lib.hid x0
  clear hr hc h F x0 x2 hB hre hz hcn hq hl
  unfold rv CallV.val
  go_enter Try.func13, Try.ntmps13
  go_wp2_with fail
  refine Calls.mono (Remove_ref ⟨af, nf, cf, an, nn, cn, as_, ns, cs, ap, np, cp⟩ q l dn HR.out HFF.out (by omega) HL.out HNZ.out c.a) ?_
  rintro e w2 ⟨V, rfl, ⟨⟨af2, nf2, cf2, an2, nn2, cn2, as2, ns2, cs2, ap2, np2, cp2⟩, q2, l2, dn2, rfl, hA⟩, hB2⟩
  have X3 := (X2.out.below hB2 (by simp)).alloc (.cells #[.int .i64 q2, .slice af2 nf2 cf2, .slice an2 nn2 cn2, .slice as2 ns2 cs2, .slice ap2 np2 cp2, .int .i64 l2, .bool dn2] 33)
  have HA := Lib.hid (hA.same ((Below.refl _ w2).alloc (Nat.le_refl _) (.cells #[.int .i64 q2, .slice af2 nf2 cf2, .slice an2 nn2 cn2, .slice as2 ns2 cs2, .slice ap2 np2 cp2, .int .i64 l2, .bool dn2] 33)))
  have HX := Lib.hid X3
  have HBB := Lib.hid ((HB.out.trans (hB2.mono (by simp; omega))).alloc (Nat.le_trans (by simp; omega) hB2.size) (.cells #[.int .i64 q2, .slice af2 nf2 cf2, .slice an2 nn2 cn2, .slice as2 ns2 cs2, .slice ap2 np2 cp2, .int .i64 l2, .bool dn2] 33))
  obtain ⟨⟨d0, d1, d2, d3, d4, d5, d6⟩, e0, e1, e2, e3, e4, e5, e6⟩ := zero_facts X3
  clear X3 hA hB2
  unfold rv
  go_wp2_with fail
  refine end73 rfl rfl rfl rfl rfl HX.out HA.out HBB.out (by omega) fun w3 h3 hB3 => ?_
  rw [hS.out]
  exact ⟨_, rfl, h3, hB3⟩

set_option maxHeartbeats 2000000 in
theorem Do_5 {w : World} {S : St} {k M : Nat} (L : Ls) (q l : Int) (dn : Bool) (h : RAt w L q l dn S) (F : Fit k M S) (hk : k ≤ 40000) (hM : M ≤ 400000000) (hre : Re S) (hz : Nz S) (hcn : Cons S) (hq : S.quota ≤ 1099511627776 ∧ 0 ≤ S.quota) (c : CallV) (hc : c.fits) (ha : c.a.size ≤ 70) (hb : c.b.size ≤ 300) (hr : c.kind % 8 = 5) (hn : 0 ≤ c.n) :
    Calls Try.prog 13 #[rv L q l dn, c.val] w fun e w' => ∃ V, e = .returned (.tuple #[V, .string ⟨(doS S c).2.1.toArray⟩, .int .i64 (doS S c).2.2]) ∧ Has V w' (doS S c).1 ∧ Below w.heap.size w w' := by
  obtain ⟨af, nf, cf, an, nn, cn, as_, ns, cs, ap, np, cp⟩ := L
  have hl := left_le h F
  have hS : Hid (doS S c = ((breakS S c.n).1, [], 0)) := Lib.hid (by unfold doS; rw [hr]; show (((breakS S c.n).1, [], (breakS S c.n).2) : St × Bys × Int) = _; have e : (breakS S c.n).2 = 0 := (by unfold breakS; rw [if_neg (by omega)]; split <;> rfl); rw [e])
  have hr1 : ((c.kind : Nat) : Int) % 8 = 5 := by omega
  have hr2 : ((c.kind : Nat) : Int).tmod 8 = 5 := by rw [Int.tmod_eq_emod_of_nonneg (by omega)]; exact hr1
  have hk1 : ((c.kind : Nat) : Int) ≤ 255 := by have := hc.1; omega
  obtain ⟨x0, x2, hB⟩ := three w #[.int .i64 q, .slice af nf cf, .slice an nn cn, .slice as_ ns cs, .slice ap np cp, .int .i64 l, .bool dn] #[.int .u8 (c.kind : Nat), .string c.a, .string c.b, .int .i64 c.n] #[.int .i64 0, .slice none 0 0, .slice none 0 0, .slice none 0 0, .slice none 0 0, .int .i64 0, .bool false] 33 38 33
  have HR := Lib.hid (h.same hB)
  have HH := Lib.hid h
  have HFF := Lib.hid F
  have HNZ := Lib.hid (hz.names F hre)
  have HRE := Lib.hid hre
  have HZ := Lib.hid hz
  have HCN := Lib.hid hcn
  have X2 := Lib.hid x2
  have HB := Lib.hid hB
  have HQ := Lib.hid hq
  have HL := Lib.hid hl
  obtain ⟨a0, a1, a2, a3, a4, a5, a6⟩ := disk_facts x0
  have HX0 := Lib.hid x0
  clear hr hc h F x0 x2 hB hre hz hcn hq hl
  unfold rv CallV.val
  go_enter Try.func13, Try.ntmps13
  go_wp2_with fail
  refine Calls.mono (Break_ref ⟨af, nf, cf, an, nn, cn, as_, ns, cs, ap, np, cp⟩ q l dn HR.out c.n hn) ?_
  rintro e w2 ⟨V, rfl, ⟨⟨af2, nf2, cf2, an2, nn2, cn2, as2, ns2, cs2, ap2, np2, cp2⟩, q2, l2, dn2, rfl, hA⟩, hB2⟩
  have X3 := (X2.out.below hB2 (by simp))
  have HA := Lib.hid (hA)
  have HX := Lib.hid X3
  have HBB := Lib.hid (HB.out.trans (hB2.mono (by simp; omega)))
  obtain ⟨⟨d0, d1, d2, d3, d4, d5, d6⟩, e0, e1, e2, e3, e4, e5, e6⟩ := zero_facts X3
  clear X3 hA hB2
  unfold rv
  go_wp2_with fail
  refine end73 rfl rfl rfl rfl rfl HX.out HA.out HBB.out (by omega) fun w3 h3 hB3 => ?_
  rw [hS.out]
  exact ⟨_, rfl, h3, hB3⟩

set_option maxHeartbeats 2000000 in
theorem Do_6 {w : World} {S : St} {k M : Nat} (L : Ls) (q l : Int) (dn : Bool) (h : RAt w L q l dn S) (F : Fit k M S) (hk : k ≤ 40000) (hM : M ≤ 400000000) (hre : Re S) (hz : Nz S) (hcn : Cons S) (hq : S.quota ≤ 1099511627776 ∧ 0 ≤ S.quota) (c : CallV) (hc : c.fits) (ha : c.a.size ≤ 70) (hb : c.b.size ≤ 300) (hr : c.kind % 8 = 6) :
    Calls Try.prog 13 #[rv L q l dn, c.val] w fun e w' => ∃ V, e = .returned (.tuple #[V, .string ⟨(doS S c).2.1.toArray⟩, .int .i64 (doS S c).2.2]) ∧ Has V w' (doS S c).1 ∧ Below w.heap.size w w' := by
  obtain ⟨af, nf, cf, an, nn, cn, as_, ns, cs, ap, np, cp⟩ := L
  have hl := left_le h F
  have hS : Hid (doS S c = (restartS S c.b.data.toList, [], 0)) := Lib.hid (by unfold doS; rw [hr]; rfl)
  have hr1 : ((c.kind : Nat) : Int) % 8 = 6 := by omega
  have hr2 : ((c.kind : Nat) : Int).tmod 8 = 6 := by rw [Int.tmod_eq_emod_of_nonneg (by omega)]; exact hr1
  have hk1 : ((c.kind : Nat) : Int) ≤ 255 := by have := hc.1; omega
  obtain ⟨x0, x2, hB⟩ := three w #[.int .i64 q, .slice af nf cf, .slice an nn cn, .slice as_ ns cs, .slice ap np cp, .int .i64 l, .bool dn] #[.int .u8 (c.kind : Nat), .string c.a, .string c.b, .int .i64 c.n] #[.int .i64 0, .slice none 0 0, .slice none 0 0, .slice none 0 0, .slice none 0 0, .int .i64 0, .bool false] 33 38 33
  have HR := Lib.hid (h.same hB)
  have HH := Lib.hid h
  have HFF := Lib.hid F
  have HNZ := Lib.hid (hz.names F hre)
  have HRE := Lib.hid hre
  have HZ := Lib.hid hz
  have HCN := Lib.hid hcn
  have X2 := Lib.hid x2
  have HB := Lib.hid hB
  have HQ := Lib.hid hq
  have HL := Lib.hid hl
  obtain ⟨a0, a1, a2, a3, a4, a5, a6⟩ := disk_facts x0
  have HX0 := Lib.hid x0
  clear hr hc h F x0 x2 hB hre hz hcn hq hl
  unfold rv CallV.val
  go_enter Try.func13, Try.ntmps13
  go_wp2_with fail
  refine Calls.mono (Restart_ref ⟨af, nf, cf, an, nn, cn, as_, ns, cs, ap, np, cp⟩ q l dn HR.out HFF.out (by omega) (by omega) HZ.out HCN.out c.b) ?_
  rintro e w2 ⟨V, rfl, ⟨⟨af2, nf2, cf2, an2, nn2, cn2, as2, ns2, cs2, ap2, np2, cp2⟩, q2, l2, dn2, rfl, hA⟩, hB2⟩
  have X3 := (X2.out.below hB2 (by simp))
  have HA := Lib.hid (hA)
  have HX := Lib.hid X3
  have HBB := Lib.hid (HB.out.trans (hB2.mono (by simp; omega)))
  obtain ⟨⟨d0, d1, d2, d3, d4, d5, d6⟩, e0, e1, e2, e3, e4, e5, e6⟩ := zero_facts X3
  clear X3 hA hB2
  unfold rv
  go_wp2_with fail
  refine end73 rfl rfl rfl rfl rfl HX.out HA.out HBB.out (by omega) fun w3 h3 hB3 => ?_
  rw [hS.out]
  exact ⟨_, rfl, h3, hB3⟩

set_option maxHeartbeats 2000000 in
theorem Do_5n {w : World} {S : St} {k M : Nat} (L : Ls) (q l : Int) (dn : Bool) (h : RAt w L q l dn S) (F : Fit k M S) (hk : k ≤ 40000) (hM : M ≤ 400000000) (hre : Re S) (hz : Nz S) (hcn : Cons S) (hq : S.quota ≤ 1099511627776 ∧ 0 ≤ S.quota) (c : CallV) (hc : c.fits) (ha : c.a.size ≤ 70) (hb : c.b.size ≤ 300) (hr : c.kind % 8 = 5) (hn : c.n < 0) :
    Calls Try.prog 13 #[rv L q l dn, c.val] w fun e w' => ∃ V, e = .returned (.tuple #[V, .string ⟨(doS S c).2.1.toArray⟩, .int .i64 (doS S c).2.2]) ∧ Has V w' (doS S c).1 ∧ Below w.heap.size w w' := by
  obtain ⟨af, nf, cf, an, nn, cn, as_, ns, cs, ap, np, cp⟩ := L
  have hl := left_le h F
  have hS : Hid (doS S c = (S, [], 1)) := Lib.hid (by unfold doS; rw [hr]; show (((breakS S c.n).1, [], (breakS S c.n).2) : St × Bys × Int) = _; unfold breakS; rw [if_pos hn])
  have hr1 : ((c.kind : Nat) : Int) % 8 = 5 := by omega
  have hr2 : ((c.kind : Nat) : Int).tmod 8 = 5 := by rw [Int.tmod_eq_emod_of_nonneg (by omega)]; exact hr1
  have hk1 : ((c.kind : Nat) : Int) ≤ 255 := by have := hc.1; omega
  obtain ⟨x0, x2, hB⟩ := three w #[.int .i64 q, .slice af nf cf, .slice an nn cn, .slice as_ ns cs, .slice ap np cp, .int .i64 l, .bool dn] #[.int .u8 (c.kind : Nat), .string c.a, .string c.b, .int .i64 c.n] #[.int .i64 0, .slice none 0 0, .slice none 0 0, .slice none 0 0, .slice none 0 0, .int .i64 0, .bool false] 33 38 33
  have HR := Lib.hid (h.same hB)
  have HH := Lib.hid h
  have HFF := Lib.hid F
  have HNZ := Lib.hid (hz.names F hre)
  have HRE := Lib.hid hre
  have HZ := Lib.hid hz
  have HCN := Lib.hid hcn
  have X2 := Lib.hid x2
  have HB := Lib.hid hB
  have HQ := Lib.hid hq
  have HL := Lib.hid hl
  obtain ⟨a0, a1, a2, a3, a4, a5, a6⟩ := disk_facts x0
  have HX0 := Lib.hid x0
  clear hr hc h F x0 x2 hB hre hz hcn hq hl
  unfold rv CallV.val
  go_enter Try.func13, Try.ntmps13
  go_wp2_with fail
  have HU := three w #[.int .i64 q, .slice af nf cf, .slice an nn cn, .slice as_ ns cs, .slice ap np cp, .int .i64 l, .bool dn] #[.int .u8 (c.kind : Nat), .string c.a, .string c.b, .int .i64 c.n] #[.int .i64 q, .slice af nf cf, .slice an nn cn, .slice as_ ns cs, .slice ap np cp, .int .i64 l, .bool dn] 33 38 33
  refine ret73 rfl rfl rfl rfl rfl HU.2.1 ?_
  rw [hS.out]
  exact ⟨_, rfl, ⟨⟨af, nf, cf, an, nn, cn, as_, ns, cs, ap, np, cp⟩, q, l, dn, rfl, by
    exact HH.out.same HU.2.2⟩, HU.2.2⟩

set_option maxHeartbeats 2000000 in
theorem Do_7 {w : World} {S : St} {k M : Nat} (L : Ls) (q l : Int) (dn : Bool) (h : RAt w L q l dn S) (F : Fit k M S) (hk : k ≤ 40000) (hM : M ≤ 400000000) (hre : Re S) (hz : Nz S) (hcn : Cons S) (hq : S.quota ≤ 1099511627776 ∧ 0 ≤ S.quota) (c : CallV) (hc : c.fits) (ha : c.a.size ≤ 70) (hb : c.b.size ≤ 300) (hr : c.kind % 8 = 7) :
    Calls Try.prog 13 #[rv L q l dn, c.val] w fun e w' => ∃ V, e = .returned (.tuple #[V, .string ⟨(doS S c).2.1.toArray⟩, .int .i64 (doS S c).2.2]) ∧ Has V w' (doS S c).1 ∧ Below w.heap.size w w' := by
  obtain ⟨af, nf, cf, an, nn, cn, as_, ns, cs, ap, np, cp⟩ := L
  have hl := left_le h F
  have hS : Hid (doS S c = (S, readS S c.a.data.toList)) := Lib.hid (by unfold doS; rw [hr]; rfl)
  have hr1 : ((c.kind : Nat) : Int) % 8 = 7 := by omega
  have hr2 : ((c.kind : Nat) : Int).tmod 8 = 7 := by rw [Int.tmod_eq_emod_of_nonneg (by omega)]; exact hr1
  have hk1 : ((c.kind : Nat) : Int) ≤ 255 := by have := hc.1; omega
  obtain ⟨x0, x2, hB⟩ := three w #[.int .i64 q, .slice af nf cf, .slice an nn cn, .slice as_ ns cs, .slice ap np cp, .int .i64 l, .bool dn] #[.int .u8 (c.kind : Nat), .string c.a, .string c.b, .int .i64 c.n] #[.int .i64 0, .slice none 0 0, .slice none 0 0, .slice none 0 0, .slice none 0 0, .int .i64 0, .bool false] 33 38 33
  have HR := Lib.hid (h.same hB)
  have HH := Lib.hid h
  have HFF := Lib.hid F
  have HNZ := Lib.hid (hz.names F hre)
  have HRE := Lib.hid hre
  have HZ := Lib.hid hz
  have HCN := Lib.hid hcn
  have X2 := Lib.hid x2
  have HB := Lib.hid hB
  have HQ := Lib.hid hq
  have HL := Lib.hid hl
  obtain ⟨a0, a1, a2, a3, a4, a5, a6⟩ := disk_facts x0
  have HX0 := Lib.hid x0
  clear hr hc h F x0 x2 hB hre hz hcn hq hl
  unfold rv CallV.val
  go_enter Try.func13, Try.ntmps13
  go_wp2_with fail
  refine Calls.mono (Read_ref ⟨af, nf, cf, an, nn, cn, as_, ns, cs, ap, np, cp⟩ q l dn HR.out HFF.out (by omega) c.a) ?_
  rintro e w2 ⟨rfl, hB2⟩
  have X3 := X2.out.below hB2 (by simp)
  have y0 := HX0.out.below hB2 (by simp; omega)
  have HA := Lib.hid (HR.out.same hB2)
  have HX := Lib.hid X3
  have HBB := Lib.hid (HB.out.trans (hB2.mono (by simp; omega)))
  obtain ⟨⟨d0, d1, d2, d3, d4, d5, d6⟩, e0, e1, e2, e3, e4, e5, e6⟩ := zero_facts X3
  clear a0 a1 a2 a3 a4 a5 a6
  obtain ⟨a0, a1, a2, a3, a4, a5, a6⟩ := disk_facts y0
  clear X3 hB2 y0
  go_wp2_with fail
  refine end73 rfl rfl rfl rfl rfl HX.out HA.out HBB.out (by omega) fun w3 h3 hB3 => ?_
  rw [hS.out]
  exact ⟨_, rfl, h3, hB3⟩

theorem Do_ref {w : World} {S : St} {k M : Nat} {V : Value} (h : Has V w S) (F : Fit k M S) (hk : k ≤ 40000) (hM : M ≤ 400000000) (hre : Re S) (hz : Nz S) (hcn : Cons S) (hq : S.quota ≤ 1099511627776 ∧ 0 ≤ S.quota) (c : CallV) (hc : c.fits) (ha : c.a.size ≤ 70) (hb : c.b.size ≤ 300) :
    Calls Try.prog 13 #[V, c.val] w fun e w' => ∃ V, e = .returned (.tuple #[V, .string ⟨(doS S c).2.1.toArray⟩, .int .i64 (doS S c).2.2]) ∧ Has V w' (doS S c).1 ∧ Below w.heap.size w w' := by
  obtain ⟨L, q, l, dn, rfl, h⟩ := h
  have hcs : c.kind % 8 = 0 ∨ c.kind % 8 = 1 ∨ c.kind % 8 = 2 ∨ c.kind % 8 = 3 ∨ c.kind % 8 = 4 ∨ c.kind % 8 = 5 ∨ c.kind % 8 = 6 ∨ c.kind % 8 = 7 := by omega
  rcases hcs with hr | hr | hr | hr | hr | hr | hr | hr
  · exact Do_0 L q l dn h F hk hM hre hz hcn hq c hc ha hb hr
  · exact Do_1 L q l dn h F hk hM hre hz hcn hq c hc ha hb hr
  · exact Do_2 L q l dn h F hk hM hre hz hcn hq c hc ha hb hr
  · exact Do_3 L q l dn h F hk hM hre hz hcn hq c hc ha hb hr
  · exact Do_4 L q l dn h F hk hM hre hz hcn hq c hc ha hb hr
  · by_cases hn : c.n < 0
    · exact Do_5n L q l dn h F hk hM hre hz hcn hq c hc ha hb hr hn
    · exact Do_5 L q l dn h F hk hM hre hz hcn hq c hc ha hb hr (by omega)
  · exact Do_6 L q l dn h F hk hM hre hz hcn hq c hc ha hb hr
  · exact Do_7 L q l dn h F hk hM hre hz hcn hq c hc ha hb hr
end Go.Proofs.Yteeomlboifleoaa
