/- The reference's Sync, Read. No statement of the seat is proved here. -/
import Derived.Test.YteeomlboifleoaaRefG
namespace Go.Proofs.Yteeomlboifleoaa
open Go.RowKit Go.Maps Go.Sort

theorem strB_list (x : Bys) : (strB x).data.toList = x := by simp [strB]
/-- the cells of a disk's block, in a later world -/
theorem disk_facts {w : World} {r t : Nat} {a0 a1 a2 a3 a4 a5 a6 : Value} (h : Whole w r t #[a0, a1, a2, a3, a4, a5, a6]) :
    w.cell? ⟨r, 0, none⟩ = some a0 ∧ w.cell? ⟨r, 1, none⟩ = some a1 ∧ w.cell? ⟨r, 2, none⟩ = some a2 ∧ w.cell? ⟨r, 3, none⟩ = some a3 ∧ w.cell? ⟨r, 4, none⟩ = some a4 ∧ w.cell? ⟨r, 5, none⟩ = some a5 ∧ w.cell? ⟨r, 6, none⟩ = some a6 :=
  ⟨(h.cell 0).trans rfl, (h.cell 1).trans rfl, (h.cell 2).trans rfl, (h.cell 3).trans rfl, (h.cell 4).trans rfl, (h.cell 5).trans rfl, (h.cell 6).trans rfl⟩
theorem new1 (w : World) (a b : Array Value) (t u : TypeId) : Whole ((w.alloc (.cells a t)).alloc (.cells b u)) w.heap.size t a := (Whole.new w t a).alloc _
theorem RAt.put {w : World} {L : Ls} {q l : Int} {dn : Bool} {S : St} (h : RAt w L q l dn S) {i : Nat} {x : Bys × Nat} {A : Option Addr} {n c : Nat} (hf : RowF w 0 (.slice A n c) (S.files.set i x)) : RAt w { L with af := A, nf := n, cf := c } q l dn (setF S i x) :=
  ⟨hf, h.names, h.safe, h.pend, h.eq, h.el, h.lo, h.ed⟩
theorem at_ref2 {w : World} {S : St} {k M : Nat} (L : Ls) (q l : Int) (dn : Bool) (h : RAt w L q l dn S) (F : Fit k M S) (hk : k ≤ 90000) (nm : ByteArray) :
    Calls Try.prog 52 #[rv L q l dn, .string nm] w fun e w' => e = .returned (.tuple #[.int .i64 ((openS S nm.data.toList (isN nm.data.toList)).1 : Nat), .int .i64 (openS S nm.data.toList (isN nm.data.toList)).2]) ∧ Below w.heap.size w w' :=
  at_ref L q l dn h.names (Nat.le_trans F.nn hk) h.ed nm
set_option maxHeartbeats 1000000 in
theorem Sync_ref {w : World} {S : St} {k M : Nat} (L : Ls) (q l : Int) (dn : Bool) (h : RAt w L q l dn S) (F : Fit k M S) (hk : k ≤ 90000) (hl : l ≤ 9223372036854775807) (nm : ByteArray) :
    Calls Try.prog 29 #[rv L q l dn, .string nm] w fun e w' => ∃ V, e = .returned (.tuple #[V, .int .i64 (syncS S nm.data.toList).2]) ∧ Has V w' (syncS S nm.data.toList).1 ∧ Below w.heap.size w w' := by
  obtain ⟨af, nf, cf, an, nn, cn, as_, ns, cs, ap, np, cp⟩ := L
  have hlo := h.lo
  have hat := at_ref2 _ q l dn (h.same (below2 w (.cells #[.int .i64 q, .slice af nf cf, .slice an nn cn, .slice as_ ns cs, .slice ap np cp, .int .i64 l, .bool dn] 33) (.cells #[.int .i64 0, .slice none 0 0, .slice none 0 0, .slice none 0 0, .slice none 0 0, .int .i64 0, .bool false] 33))) F hk nm
  have HH := Lib.hid h
  have HFF := Lib.hid F
  have x0 := Lib.hid (new1 w #[.int .i64 q, .slice af nf cf, .slice an nn cn, .slice as_ ns cs, .slice ap np cp, .int .i64 l, .bool dn] #[.int .i64 0, .slice none 0 0, .slice none 0 0, .slice none 0 0, .slice none 0 0, .int .i64 0, .bool false] 33 33)
  have x1 := Lib.hid (new2 w (.cells #[.int .i64 q, .slice af nf cf, .slice an nn cn, .slice as_ ns cs, .slice ap np cp, .int .i64 l, .bool dn] 33) 33 #[.int .i64 0, .slice none 0 0, .slice none 0 0, .slice none 0 0, .slice none 0 0, .int .i64 0, .bool false])
  by_cases he : (openS S nm.data.toList (isN nm.data.toList)).2 = 0
  · obtain ⟨_, _, hf⟩ := openS_ok he
    obtain ⟨i, hi⟩ : ∃ i, i = (openS S nm.data.toList (isN nm.data.toList)).1 := ⟨_, rfl⟩
    rw [← hi] at hf
    have hR : Hid (syncS S nm.data.toList = (count (setF S i ((fileAt S i).1, lenOf S i)), 0)) := Lib.hid (by unfold syncS; rw [if_pos he, hi])
    rw [he, ← hi] at hat
    have HAT := Lib.hid hat
    have hil := (F.idn _ (findN_mem hf)).1
    have hnf : nf = S.files.length := row_lenG h.files
    have hiI : (i : Int) < (nf : Int) := by omega
    have HIL := Lib.hid hil
    have HNF := Lib.hid hnf
    clear h F hat he hf hi hil hnf
    unfold rv
    go_enter Try.func29, Try.ntmps29
    go_wp2_with fail
    refine Calls.mono HAT.out ?_
    rintro e w2 ⟨rfl, hB2⟩
    have X0 := Lib.hid (x0.out.below hB2 (by simp; omega))
    have X1 := Lib.hid (x1.out.below hB2 (by simp))
    have HB2 := Lib.hid ((below2 w _ _).trans (hB2.mono (by simp; omega)))
    have HS2 : Hid (w.heap.size + 1 < w2.heap.size) := Lib.hid (by have := hB2.size; simp at this; omega)
    have HR2 := Lib.hid (HH.out.same HB2.out)
    obtain ⟨g, p, rfl, hp, hg, c0, c1⟩ := RowF.at HR2.out.files HIL.out
    obtain ⟨z, hz⟩ : ∃ z, z = strB p.1 := ⟨_, rfl⟩
    rw [← hz] at c0
    obtain ⟨a0, a1, a2, a3, a4, a5, a6⟩ := disk_facts X0.out
    have HZ := Lib.hid hz
    have HP := Lib.hid hp
    clear hB2 hz hp hg
    obtain ⟨b0, b1, b2, b3, b4, b5, b6⟩ := disk_facts (X0.out.alloc (.cells #[.string z, .int .i64 (z.size : Nat)] 72))
    go_wp2_with fail
    have hput := put_ref ⟨some ⟨g, 0, none⟩, nf, cf, an, nn, cn, as_, ns, cs, ap, np, cp⟩ q l dn (own_below HR2.out.files ((Below.refl _ w2).alloc (Nat.le_refl _) (.cells #[.string z, .int .i64 (z.size : Nat)] 72)) : RowF _ 0 _ S.files) (Nat.le_trans HFF.out.nf hk) i HIL.out z z.size
    refine Calls.mono hput ?_
    rintro e w3 ⟨A3, n3, c3, rfl, hF3, hB3⟩
    have hB23 : Below w2.heap.size w2 w3 := ((Below.refl _ w2).alloc (Nat.le_refl _) _).trans (hB3.mono (by simp))
    have HA3 : Hid (RAt w3 ⟨A3, n3, c3, an, nn, cn, as_, ns, cs, ap, np, cp⟩ q l dn (setF S i ((fileAt S i).1, lenOf S i))) := Lib.hid (by
      have e1 : (fileAt S i) = p := by unfold fileAt; rw [List.getD_eq_getElem?_getD, HP.out]; rfl
      have e2 : lenOf S i = z.size := by
        show (fileAt S i).1.length = _
        rw [e1, HZ.out, strB_size]
      rw [e1, e2]
      have e3 : z.data.toList = p.1 := by rw [HZ.out, strB_list]
      rw [e3] at hF3
      exact (HR2.out.same hB23).put hF3)
    have X13 := Lib.hid (X1.out.below hB23 HS2.out)
    have HB3 := Lib.hid (HB2.out.trans (hB23.mono HB2.out.size))
    clear hput hF3 hB3 hB23 a0 a1 a2 a3 a4 a5 a6 b0 b1 b2 b3 b4 b5 b6 c0 c1
    go_wp2_with fail
    refine Calls.mono (done_ref _ ⟨A3, n3, c3, an, nn, cn, as_, ns, cs, ap, np, cp⟩ q l dn hl hlo) ?_
    rintro e w4 ⟨rfl, hB4⟩
    have hA4 := (HA3.out.same hB4).done
    have X14 := Lib.hid (X13.out.below hB4 X13.out.lt)
    obtain ⟨⟨d0, d1, d2, d3, d4, d5, d6⟩, e0, e1, e2, e3, e4, e5, e6⟩ := zero_facts X14.out
    obtain ⟨l2, hl2⟩ : ∃ x, x = (rdone l dn).1 := ⟨_, rfl⟩
    obtain ⟨b2, hb2⟩ : ∃ x, x = (rdone l dn).2 := ⟨_, rfl⟩
    rw [← hl2, ← hb2] at hA4
    rw [← hl2, ← hb2]
    have HA4 := Lib.hid hA4
    have HB4 := Lib.hid (HB3.out.trans (hB4.mono HB3.out.size))
    clear hA4 hB4 hl2 hb2
    unfold rv
    go_wp2_with fail
    refine end72 rfl rfl rfl rfl X14.out HA4.out HB4.out (by omega) fun w3 h3 hB3 => ?_
    rw [hR.out]
    exact ⟨_, rfl, h3, hB3⟩
  · have hR : Hid (syncS S nm.data.toList = (S, (openS S nm.data.toList (isN nm.data.toList)).2)) := Lib.hid (by unfold syncS; rw [if_neg he])
    obtain ⟨i, hi⟩ : ∃ i, i = (openS S nm.data.toList (isN nm.data.toList)).1 := ⟨_, rfl⟩
    obtain ⟨n, hn⟩ : ∃ n, n = (openS S nm.data.toList (isN nm.data.toList)).2 := ⟨_, rfl⟩
    rw [← hi, ← hn] at hat
    rw [← hn] at he hR
    have HAT := Lib.hid hat
    have he2 : (n == 0) = false := by simpa using he
    clear h F hat hi hn he
    unfold rv
    go_enter Try.func29, Try.ntmps29
    go_wp2_with fail
    refine Calls.mono HAT.out ?_
    rintro e w2 ⟨rfl, hB2⟩
    have X0 := Lib.hid (x0.out.below hB2 (by simp; omega))
    have X1 := Lib.hid (x1.out.below hB2 (by simp))
    have HB2 := Lib.hid ((below2 w _ _).trans (hB2.mono (by simp; omega)))
    obtain ⟨a0, a1, a2, a3, a4, a5, a6⟩ := disk_facts X0.out
    obtain ⟨⟨d0, d1, d2, d3, d4, d5, d6⟩, e0, e1, e2, e3, e4, e5, e6⟩ := zero_facts X1.out
    clear hB2
    go_wp2_with fail
    refine end72 rfl rfl rfl rfl X1.out (HH.out.same HB2.out) HB2.out (by omega) fun w3 h3 hB3 => ?_
    rw [hR.out]
    exact ⟨_, rfl, h3, hB3⟩
end Go.Proofs.Yteeomlboifleoaa
