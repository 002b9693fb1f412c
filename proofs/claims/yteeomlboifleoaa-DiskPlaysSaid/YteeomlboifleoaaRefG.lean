/- The reference's disk stands for the abstract one: SyncDir, Break. No statement of the seat is proved here. -/
import Derived.Test.YteeomlboifleoaaRefF
namespace Go.Proofs.Yteeomlboifleoaa
open Go.RowKit Go.Maps Go.Sort

structure RAt (w : World) (L : Ls) (q l : Int) (dn : Bool) (S : St) : Prop where
  files : RowF w 0 (.slice L.af L.nf L.cf) S.files
  names : RowN w 0 (.slice L.an L.nn L.cn) S.names
  safe : RowN w 0 (.slice L.as_ L.ns L.cs) S.safe
  pend : RowP w 0 (.slice L.ap L.np L.cp) S.pend
  eq : q = S.quota
  el : l.toNat = S.left
  lo : -1 ≤ l
  ed : dn = S.down
theorem RAt.same {w w' : World} {L : Ls} {q l : Int} {dn : Bool} {S : St} (h : RAt w L q l dn S) (hb : Below w.heap.size w w') : RAt w' L q l dn S :=
  ⟨own_below h.files hb, own_below h.names hb, own_below h.safe hb, own_below h.pend hb, h.eq, h.el, h.lo, h.ed⟩
/-- rows kept when a disk's block is written -/
theorem RAt.kept {w w' : World} {L : Ls} {q l : Int} {dn : Bool} {S : St} {r : Nat} {cs : Array Value} (h : RAt w L q l dn S) (hr : Whole w r 33 cs) (hg : w.grownBy w' (some r)) : RAt w' L q l dn S :=
  ⟨own_keepT h.files hg (by rintro x ⟨⟩; rw [whole_typ hr]; decide), own_keepT h.names hg (by rintro x ⟨⟩; rw [whole_typ hr]; decide), own_keepT h.safe hg (by rintro x ⟨⟩; rw [whole_typ hr]; decide), own_keepT h.pend hg (by rintro x ⟨⟩; rw [whole_typ hr]; decide), h.eq, h.el, h.lo, h.ed⟩
theorem RAt.done {w : World} {L : Ls} {q l : Int} {dn : Bool} {S : St} (h : RAt w L q l dn S) : RAt w L q (rdone l dn).1 (rdone l dn).2 (count S) := by
  unfold rdone count
  have h1 := h.el
  have h2 := h.lo
  by_cases h0 : 0 < l
  · rw [if_pos h0, if_neg (by omega)]
    refine ⟨h.files, h.names, h.safe, h.pend, h.eq, ?_, ?_, ?_⟩
    · show (l - 1).toNat = S.left - 1; omega
    · show -1 ≤ l - 1; omega
    · show (l - 1 == 0) = decide (S.left - 1 = 0)
      rw [Bool.eq_iff_iff]
      simp only [decide_eq_true_eq, beq_iff_eq]
      omega
  · rw [if_neg h0, if_pos (by omega)]
    exact h
def Has (V : Value) (w : World) (S : St) : Prop := ∃ L q l dn, V = rv L q l dn ∧ RAt w L q l dn S
theorem Has.same {V : Value} {w w' : World} {S : St} (h : Has V w S) (hb : Below w.heap.size w w') : Has V w' S := by
  obtain ⟨L, q, l, dn, e, h⟩ := h
  exact ⟨L, q, l, dn, e, h.same hb⟩
def zeros : Array Value := #[.int .i64 0, .slice none 0 0, .slice none 0 0, .slice none 0 0, .slice none 0 0, .int .i64 0, .bool false]
/-- the end of a call whose last store is its result -/
theorem end72 {fn : Func} {w w2 : World} {a : Act} {p u r : Nat} {af an as_ ap : Option Addr} {nf cf nn cn ns cs np cp : Nat} {q l : Int} {dn : Bool} {S : St} {n : Int} {z0 z1 z2 z3 z4 z5 z6 : Value} {g : Ending → World → Prop}
    (hf : fn.results = #[.cell p 33, .tmp u]) (hd : a.defers = []) (hp : a.tmps.getD p undef = .pointer (some ⟨r, 0, none⟩)) (hx : a.tmps.getD u undef = .int .i64 n)
    (hw : Whole w2 r 33 #[z0, z1, z2, z3, z4, z5, z6]) (hR : RAt w2 ⟨af, nf, cf, an, nn, cn, as_, ns, cs, ap, np, cp⟩ q l dn S) (hB : Below w.heap.size w w2) (hr : w.heap.size ≤ r)
    (h : ∀ w3, Has (rv ⟨af, nf, cf, an, nn, cn, as_, ns, cs, ap, np, cp⟩ q l dn) w3 S → Below w.heap.size w w3 → g (.returned (.tuple #[rv ⟨af, nf, cf, an, nn, cn, as_, ns, cs, ap, np, cp⟩ q l dn, .int .i64 n])) w3) :
    bodyPost Try.prog fn g .ret a (((((((w2.setCell ⟨r, 0, none⟩ (.int .i64 q)).setCell ⟨r, 1, none⟩ (.slice af nf cf)).setCell ⟨r, 2, none⟩ (.slice an nn cn)).setCell ⟨r, 3, none⟩ (.slice as_ ns cs)).setCell ⟨r, 4, none⟩ (.slice ap np cp)).setCell ⟨r, 5, none⟩ (.int .i64 l)).setCell ⟨r, 6, none⟩ (.bool dn)) :=
  ret72 hf hd hp hx (seven_put hw _ _ _ _ _ _ _) (h _ ⟨_, _, _, _, rfl, hR.kept hw (seven_grown _ _ _ _ _ _ _ _ _)⟩ (seven_below hB hr _ _ _ _ _ _ _))
theorem zero_facts {w : World} {r t : Nat} (h : Whole w r t #[.int .i64 0, .slice none 0 0, .slice none 0 0, .slice none 0 0, .slice none 0 0, .int .i64 0, .bool false]) :
    (w.cell? ⟨r, 0, none⟩ = some (.int .i64 0) ∧ w.cell? ⟨r, 1, none⟩ = some (.slice none 0 0) ∧ w.cell? ⟨r, 2, none⟩ = some (.slice none 0 0) ∧ w.cell? ⟨r, 3, none⟩ = some (.slice none 0 0) ∧ w.cell? ⟨r, 4, none⟩ = some (.slice none 0 0) ∧ w.cell? ⟨r, 5, none⟩ = some (.int .i64 0) ∧ w.cell? ⟨r, 6, none⟩ = some (.bool false)) ∧
    (w.frozen? ⟨r, 0, none⟩ = false ∧ w.frozen? ⟨r, 1, none⟩ = false ∧ w.frozen? ⟨r, 2, none⟩ = false ∧ w.frozen? ⟨r, 3, none⟩ = false ∧ w.frozen? ⟨r, 4, none⟩ = false ∧ w.frozen? ⟨r, 5, none⟩ = false ∧ w.frozen? ⟨r, 6, none⟩ = false) :=
  ⟨⟨(h.cell 0).trans rfl, (h.cell 1).trans rfl, (h.cell 2).trans rfl, (h.cell 3).trans rfl, (h.cell 4).trans rfl, (h.cell 5).trans rfl, (h.cell 6).trans rfl⟩,
    h.frozen 0, h.frozen 1, h.frozen 2, h.frozen 3, h.frozen 4, h.frozen 5, h.frozen 6⟩
theorem new2 (w : World) (o : Obj) (t : TypeId) (cs : Array Value) : Whole ((w.alloc o).alloc (.cells cs t)) (w.heap.size + 1) t cs := by
  have := Whole.new (w.alloc o) t cs
  simpa using this
theorem below2 (w : World) (a b : Obj) : Below w.heap.size w ((w.alloc a).alloc b) := ((Below.refl _ w).alloc (Nat.le_refl _) _).alloc (by simp) _
theorem RAt.clean {w : World} {L : Ls} {q l : Int} {dn : Bool} {S : St} (h : RAt w L q l dn S) : RAt w { L with as_ := L.an, ns := L.nn, cs := L.cn, ap := none, np := 0, cp := 0 } q l dn { S with safe := S.names, pend := [] } :=
  ⟨h.files, h.names, h.names, World.ownsRow_nil _ _ _ _, h.eq, h.el, h.lo, h.ed⟩
theorem SyncDir_ref {w : World} {S : St} (L : Ls) (q l : Int) (dn : Bool) (h : RAt w L q l dn S) (hr : Re S) (hl : l ≤ 9223372036854775807) :
    Calls Try.prog 30 #[rv L q l dn] w fun e w' => ∃ V, e = .returned (.tuple #[V, .int .i64 (syncDirS S).2]) ∧ Has V w' (syncDirS S).1 ∧ Below w.heap.size w w' := by
  obtain ⟨af, nf, cf, an, nn, cn, as_, ns, cs, ap, np, cp⟩ := L
  have HH := Lib.hid h
  have hdn := h.ed
  have hlo := h.lo
  clear h
  unfold rv
  cases dn
  · have hR : Hid (syncDirS S = (count (settle S S.pend.length), 0)) := Lib.hid (by unfold syncDirS; rw [← hdn]; rfl)
    have hS : Hid ((settle S S.pend.length) = { S with safe := S.names, pend := [] }) := Lib.hid (by
      unfold settle
      rw [List.take_length, ← hr])
    clear hr hdn
    go_enter Try.func30, Try.ntmps30
    go_wp2_with fail
    refine Calls.mono (done_ref _ ⟨af, nf, cf, an, nn, cn, an, nn, cn, none, 0, 0⟩ q l false hl hlo) ?_
    rintro e w2 ⟨rfl, hB2⟩
    obtain ⟨⟨d0, d1, d2, d3, d4, d5, d6⟩, e0, e1, e2, e3, e4, e5, e6⟩ := zero_facts ((new2 w _ _ _).below hB2 (by simp))
    have HW2 := Lib.hid ((new2 w (.cells #[.int .i64 q, .slice af nf cf, .slice an nn cn, .slice an nn cn, .slice none 0 0, .int .i64 l, .bool false] 33) 33 #[.int .i64 0, .slice none 0 0, .slice none 0 0, .slice none 0 0, .slice none 0 0, .int .i64 0, .bool false]).below hB2 (by simp))
    have HB2 := Lib.hid ((below2 w _ _).trans (hB2.mono (by simp; omega)))
    obtain ⟨l2, hl2⟩ : ∃ x, x = (rdone l false).1 := ⟨_, rfl⟩
    obtain ⟨b2, hb2⟩ : ∃ x, x = (rdone l false).2 := ⟨_, rfl⟩
    rw [← hl2, ← hb2]
    have HA : Hid (RAt w2 ⟨af, nf, cf, an, nn, cn, an, nn, cn, none, 0, 0⟩ q l2 b2 (count { S with safe := S.names, pend := [] })) := Lib.hid (by
      rw [hl2, hb2]
      exact ((HH.out.same HB2.out).clean).done)
    clear hB2 hl2 hb2
    unfold rv
    go_wp2_with fail
    refine end72 rfl rfl rfl rfl HW2.out HA.out HB2.out (by omega) fun w3 h3 hB3 => ?_
    rw [hR.out, hS.out]
    exact ⟨_, rfl, h3, hB3⟩
  · have hR : Hid (syncDirS S = (S, 5)) := Lib.hid (by unfold syncDirS; rw [← hdn]; rfl)
    clear hr hdn
    go_enter Try.func30, Try.ntmps30
    go_wp2_with fail
    refine ret72 rfl rfl rfl rfl (new2 w _ _ _) ?_
    rw [hR.out]
    exact ⟨_, rfl, ⟨⟨af, nf, cf, an, nn, cn, as_, ns, cs, ap, np, cp⟩, q, l, true, rfl, HH.out.same (below2 w _ _)⟩, below2 w _ _⟩
end Go.Proofs.Yteeomlboifleoaa
