/- LkC: texts LokC, LokD of our own, joined. No statement of the seat is proved here. -/
import Derived.Test.YtkgihfoknpimfaaGreatLkA
import Derived.Test.YtkgihfoknpimfaaGreatZoG
namespace Go.Proofs.YtkgihfoknpimfaaGreat
open Go.RowKit Go.Op
set_option linter.unusedVariables false

theorem retR5 {fn : Func} {R : Ending → World → Prop} {a : Act} {w : World} {p r : Nat} {a0 a1 a2 a3 a4 : Value} (hf : fn.results = #[.cell p 26]) (hd : a.defers = []) (hp : a.tmps.getD p undef = .pointer (some ⟨r, 0, none⟩))
    (h : Whole w r 26 #[a0, a1, a2, a3, a4]) (hR : R (.returned (.agg #[a0, a1, a2, a3, a4])) w) : bodyPost Tryz.prog fn R .ret a w :=
  bodyPost_ret (results_cell_row hf _ _ r _ _ (0, 0) _ hp h Tryz.underlying26 rfl rr_size) hd hR
def rrAgg (x : Rrd) : Value := .agg #[.string x.s, .int .i64 x.t, .int .i64 x.c, .int .i64 x.l, .string x.d]
theorem soa_min {D m r a b c d e : List UInt8} (h : Soa7 D m r a b c d e) : minZ D = (num e : Nat) := by
  unfold minZ
  rw [h.all]
  have he := h.four.2.2.2.2
  rw [List.length_append, he, Nat.add_sub_cancel, List.drop_left' rfl]
theorem num4 {e : List UInt8} (h : e.length = 4) : num e < 4294967296 := by
  obtain ⟨x, y, z, t, rfl⟩ : ∃ x y z t, e = [x, y, z, t] := by
    match e, h with
    | [x, y, z, t], _ => exact ⟨x, y, z, t, rfl⟩
  have h1 := x.toNat_lt
  have h2 := y.toNat_lt
  have h3 := z.toNat_lt
  have h4 := t.toNat_lt
  simp [num]
  omega
/-- what is known of the SOA of a zone -/
theorem zone_soa {nn : List UInt8} {D : List Rrd} (gz : GoodZ nn D) {s : Rrd} (hs : typX 6 D = [s]) :
    noZ D = negR s ∧ 0 ≤ s.l ∧ s.l ≤ 2147483647 ∧ s.toRec.d.length ≤ 65535 ∧ ∃ m r a b c d e, Soa7 s.toRec.d m r a b c d e ∧ minZ s.toRec.d = (num e : Nat) ∧ num e < 4294967296 := by
  obtain ⟨_, _, hm, hl, m, r, a, b, c, d, e, h7⟩ := soa_of gz.isz gz.ok hs
  obtain ⟨_, _, _, ⟨h1, h2⟩, _⟩ := ok_parts (gz.ok s hm).1
  exact ⟨by unfold noZ; rw [hs], h1, h2, hl, m, r, a, b, c, d, e, h7, soa_min h7, num4 h7.four.2.2.2.2⟩
set_option maxHeartbeats 16000000 in
set_option maxRecDepth 20000 in
theorem No_any (N : ByteArray) (nn : List UInt8) (D : List Rrd) (v : Value) (w : World) (hz : ZoneAt w w.heap.size N D v) (gz : GoodZ nn D) :
    Calls Tryz.prog 22 #[v] w fun e w' => e = .returned (rrAgg (noZ D)) ∧ Below w.heap.size w w' := by
  obtain ⟨A, c, s, rfl, hs, hcap, hsoa⟩ := hz
  obtain ⟨hno, hl0, hl1, hdl, m, r, a, b, cc, d, e, h7, hmin, he⟩ := zone_soa gz hsoa
  have H7 := Lib.hid h7
  have HNO := Lib.hid hno
  have HMIN := Lib.hid hmin
  have HDL := Lib.hid hdl
  obtain ⟨ne, hne⟩ : ∃ ne, ne = num e := ⟨_, rfl⟩
  have HNE := Lib.hid hne
  rw [← hne] at he
  have hw0 := Whole.new w zoT #[.string N, .slice A D.length c, .string s.s, .int .i64 s.t, .int .i64 s.c, .int .i64 s.l, .string s.d]
  have hB0 : Below w.heap.size w (w.alloc (.cells #[.string N, .slice A D.length c, .string s.s, .int .i64 s.t, .int .i64 s.c, .int .i64 s.l, .string s.d] zoT)) := (Below.refl _ _).alloc (Nat.le_refl _) _
  obtain ⟨W1, hW1⟩ : ∃ W, W = w.alloc (.cells #[.string N, .slice A D.length c, .string s.s, .int .i64 s.t, .int .i64 s.c, .int .i64 s.l, .string s.d] zoT) := ⟨_, rfl⟩
  rw [← hW1] at hw0 hB0
  have hw1 := Whole.new W1 26 #[.string ⟨#[]⟩, .int .i64 0, .int .i64 0, .int .i64 0, .string ⟨#[]⟩]
  have hB1 : Below W1.heap.size W1 (W1.alloc (.cells #[.string ⟨#[]⟩, .int .i64 0, .int .i64 0, .int .i64 0, .string ⟨#[]⟩] 26)) := (Below.refl _ _).alloc (Nat.le_refl _) _
  obtain ⟨W2, hW2⟩ : ∃ W, W = W1.alloc (.cells #[.string ⟨#[]⟩, .int .i64 0, .int .i64 0, .int .i64 0, .string ⟨#[]⟩] 26) := ⟨_, rfl⟩
  rw [← hW2] at hw1 hB1
  have s1 : W1.heap.size = w.heap.size + 1 := by rw [hW1]; simp
  have hz0 := hw0.below hB1 hw0.lt
  rw [s1] at hw1
  have hB2 : Below w.heap.size w W2 := hB0.trans (hB1.mono hB0.size)
  have HZ0 := Lib.hid hz0
  have HZ1 := Lib.hid hw1
  have HB2 := Lib.hid hB2
  have HW1 := Lib.hid hW1
  have HW2 := Lib.hid hW2
  clear hw0 hB0 hW1 hw1 hB1 hW2 hz0 hB2 s1 h7 hno hmin hne hdl hs hcap hsoa gz
  obtain ⟨c0, c1, c2, c3, c4, c5, c6⟩ := zo_facts HZ0.out
  go_enter Tryz.func22, Tryz.ntmps22
  go_wp2_with fail
  rw [← HW1.out, ← HW2.out]
  go_wp2_with fail
  refine (ZSoa_any N D A c s m r a b cc d e _ H7.out HDL.out).mono ?_
  unfold agg7
  rw [← HNE.out]
  rintro en w3 ⟨rfl, hB⟩
  have HZ1b := Lib.hid (HZ1.out.below hB HZ1.out.lt)
  have HB3 := Lib.hid (HB2.out.trans (hB.mono HB2.out.size))
  have HLT := Lib.hid (show w.heap.size + 1 < w3.heap.size from HZ1b.out.lt)
  clear hB c0 c1 c2 c3 c4 c5 c6
  by_cases hlt : (ne : Int) < s.l
  · obtain ⟨V, hV⟩ : ∃ V, V = (w3.alloc (.cells #[.string s.s, .int .i64 s.t, .int .i64 s.c, .int .i64 (ne : Int), .string s.d] 26)).alloc (.cells #[.string (mk m), .string (mk r), .int .u32 (num a : Nat), .int .u32 (num b : Nat), .int .u32 (num cc : Nat), .int .u32 (num d : Nat), .int .u32 (ne : Nat)] soT) := ⟨_, rfl⟩
    have hz1 : Whole V (w.heap.size + 1) 26 #[.string ⟨#[]⟩, .int .i64 0, .int .i64 0, .int .i64 0, .string ⟨#[]⟩] := by rw [hV]; exact (HZ1b.out.alloc _).alloc _
    have hbV : Below w.heap.size w V := by rw [hV]; exact (HB3.out.alloc HB3.out.size _).alloc (by have := HB3.out.size; rw [World.size_alloc]; omega) _
    have HV := Lib.hid hV
    have HZV := Lib.hid hz1
    have HBV := Lib.hid hbV
    have HRS := Lib.hid (show negR s = ⟨s.s, s.t, s.c, (ne : Int), s.d⟩ by unfold negR; rw [HMIN.out, ← HNE.out, if_pos hlt])
    clear hz1 hbV hV
    obtain ⟨y0, y1, y2, y3, y4⟩ := rr_facts (show Whole V (w.heap.size + 1) rrT (rrA ⟨#[]⟩ ⟨#[]⟩ 0 0 0) from HZV.out)
    have k0 := HZV.out.frozen 0
    have k1 := HZV.out.frozen 1
    have k2 := HZV.out.frozen 2
    have k3 := HZV.out.frozen 3
    have k4 := HZV.out.frozen 4
    rw [HV.out] at y0 y1 y2 y3 y4 k0 k1 k2 k3 k4
    go_wp2_with fail
    rw [← HV.out]
    refine retR5 rfl rfl rfl (five_put HZV.out _ _ _ _ _) ⟨by rw [HNO.out, HRS.out]; rfl, five_below HBV.out (by omega) _ _ _ _ _⟩
  · obtain ⟨V, hV⟩ : ∃ V, V = (w3.alloc (.cells #[.string s.s, .int .i64 s.t, .int .i64 s.c, .int .i64 s.l, .string s.d] 26)).alloc (.cells #[.string (mk m), .string (mk r), .int .u32 (num a : Nat), .int .u32 (num b : Nat), .int .u32 (num cc : Nat), .int .u32 (num d : Nat), .int .u32 (ne : Nat)] soT) := ⟨_, rfl⟩
    have hz1 : Whole V (w.heap.size + 1) 26 #[.string ⟨#[]⟩, .int .i64 0, .int .i64 0, .int .i64 0, .string ⟨#[]⟩] := by rw [hV]; exact (HZ1b.out.alloc _).alloc _
    have hbV : Below w.heap.size w V := by rw [hV]; exact (HB3.out.alloc HB3.out.size _).alloc (by have := HB3.out.size; rw [World.size_alloc]; omega) _
    have HV := Lib.hid hV
    have HZV := Lib.hid hz1
    have HBV := Lib.hid hbV
    have HRS := Lib.hid (show negR s = ⟨s.s, s.t, s.c, s.l, s.d⟩ by unfold negR; rw [HMIN.out, ← HNE.out, if_neg hlt])
    clear hz1 hbV hV
    obtain ⟨y0, y1, y2, y3, y4⟩ := rr_facts (show Whole V (w.heap.size + 1) rrT (rrA ⟨#[]⟩ ⟨#[]⟩ 0 0 0) from HZV.out)
    have k0 := HZV.out.frozen 0
    have k1 := HZV.out.frozen 1
    have k2 := HZV.out.frozen 2
    have k3 := HZV.out.frozen 3
    have k4 := HZV.out.frozen 4
    rw [HV.out] at y0 y1 y2 y3 y4 k0 k1 k2 k3 k4
    go_wp2_with fail
    rw [← HV.out]
    refine retR5 rfl rfl rfl (five_put HZV.out _ _ _ _ _) ⟨by rw [HNO.out, HRS.out]; rfl, five_below HBV.out (by omega) _ _ _ _ _⟩
set_option maxHeartbeats 16000000 in
set_option maxRecDepth 20000 in
theorem RZNo_any (N : ByteArray) (nn : List UInt8) (D : List Rrd) (v : Value) (w : World) (hz : ZRefAt w w.heap.size N D v) (gz : GoodZ nn D) :
    Calls Tryz.prog 23 #[v] w fun e w' => e = .returned (rrAgg (noZ D)) ∧ Below w.heap.size w w' := by
  obtain ⟨A, c, rfl, hs, hcap⟩ := hz
  obtain ⟨s, hsoa⟩ := isZ_soa gz.isz
  have HSOA := Lib.hid hsoa
  have HL := Lib.hid gz.len
  have HSS := Lib.hid hs
  obtain ⟨hno, hl0, hl1, hdl, m, r, a, b, cc, d, e, h7, hmin, he⟩ := zone_soa gz hsoa
  have H7 := Lib.hid h7
  have HNO := Lib.hid hno
  have HMIN := Lib.hid hmin
  have HDL := Lib.hid hdl
  obtain ⟨ne, hne⟩ : ∃ ne, ne = num e := ⟨_, rfl⟩
  have HNE := Lib.hid hne
  rw [← hne] at he
  have hw0 := Whole.new w rzT #[.string N, .slice A D.length c]
  have hB0 : Below w.heap.size w (w.alloc (.cells #[.string N, .slice A D.length c] rzT)) := (Below.refl _ _).alloc (Nat.le_refl _) _
  obtain ⟨W1, hW1⟩ : ∃ W, W = w.alloc (.cells #[.string N, .slice A D.length c] rzT) := ⟨_, rfl⟩
  rw [← hW1] at hw0 hB0
  have hw1 := Whole.new W1 26 #[.string ⟨#[]⟩, .int .i64 0, .int .i64 0, .int .i64 0, .string ⟨#[]⟩]
  have hB1 : Below W1.heap.size W1 (W1.alloc (.cells #[.string ⟨#[]⟩, .int .i64 0, .int .i64 0, .int .i64 0, .string ⟨#[]⟩] 26)) := (Below.refl _ _).alloc (Nat.le_refl _) _
  obtain ⟨W2, hW2⟩ : ∃ W, W = W1.alloc (.cells #[.string ⟨#[]⟩, .int .i64 0, .int .i64 0, .int .i64 0, .string ⟨#[]⟩] 26) := ⟨_, rfl⟩
  rw [← hW2] at hw1 hB1
  have s1 : W1.heap.size = w.heap.size + 1 := by rw [hW1]; simp
  have hz0 := hw0.below hB1 hw0.lt
  rw [s1] at hw1
  have hB2 : Below w.heap.size w W2 := hB0.trans (hB1.mono hB0.size)
  have HZ0 := Lib.hid hz0
  have HZ1 := Lib.hid hw1
  have HB2 := Lib.hid hB2
  have HW1 := Lib.hid hW1
  have HW2 := Lib.hid hW2
  clear hw0 hB0 hW1 hw1 hB1 hW2 hz0 hB2 s1 h7 hno hmin hne hdl hs hcap hsoa gz
  have c0 := (HZ0.out.cell 0).trans rfl
  have c1 := (HZ0.out.cell 1).trans rfl
  go_enter Tryz.func23, Tryz.ntmps23
  go_wp2_with fail
  rw [← HW1.out, ← HW2.out]
  go_wp2_with fail
  refine (ZRSoa_any N D A c D.length s m r a b cc d e _ ((HSS.out.keep HB2.out).more HB2.out.size) (by have := HL.out; omega) HSOA.out H7.out HDL.out).mono ?_
  unfold agg7
  rw [← HNE.out]
  rintro en w3 ⟨rfl, hB⟩
  have HZ1b := Lib.hid (HZ1.out.below hB HZ1.out.lt)
  have HB3 := Lib.hid (HB2.out.trans (hB.mono HB2.out.size))
  have HLT := Lib.hid (show w.heap.size + 1 < w3.heap.size from HZ1b.out.lt)
  clear hB c0 c1
  by_cases hlt : (ne : Int) < s.l
  · obtain ⟨V, hV⟩ : ∃ V, V = (w3.alloc (.cells #[.string s.s, .int .i64 s.t, .int .i64 s.c, .int .i64 (ne : Int), .string s.d] 26)).alloc (.cells #[.string (mk m), .string (mk r), .int .u32 (num a : Nat), .int .u32 (num b : Nat), .int .u32 (num cc : Nat), .int .u32 (num d : Nat), .int .u32 (ne : Nat)] soT) := ⟨_, rfl⟩
    have hz1 : Whole V (w.heap.size + 1) 26 #[.string ⟨#[]⟩, .int .i64 0, .int .i64 0, .int .i64 0, .string ⟨#[]⟩] := by rw [hV]; exact (HZ1b.out.alloc _).alloc _
    have hbV : Below w.heap.size w V := by rw [hV]; exact (HB3.out.alloc HB3.out.size _).alloc (by have := HB3.out.size; rw [World.size_alloc]; omega) _
    have HV := Lib.hid hV
    have HZV := Lib.hid hz1
    have HBV := Lib.hid hbV
    have HRS := Lib.hid (show negR s = ⟨s.s, s.t, s.c, (ne : Int), s.d⟩ by unfold negR; rw [HMIN.out, ← HNE.out, if_pos hlt])
    clear hz1 hbV hV
    obtain ⟨y0, y1, y2, y3, y4⟩ := rr_facts (show Whole V (w.heap.size + 1) rrT (rrA ⟨#[]⟩ ⟨#[]⟩ 0 0 0) from HZV.out)
    have k0 := HZV.out.frozen 0
    have k1 := HZV.out.frozen 1
    have k2 := HZV.out.frozen 2
    have k3 := HZV.out.frozen 3
    have k4 := HZV.out.frozen 4
    rw [HV.out] at y0 y1 y2 y3 y4 k0 k1 k2 k3 k4
    go_wp2_with fail
    rw [← HV.out]
    refine retR5 rfl rfl rfl (five_put HZV.out _ _ _ _ _) ⟨by rw [HNO.out, HRS.out]; rfl, five_below HBV.out (by omega) _ _ _ _ _⟩
  · obtain ⟨V, hV⟩ : ∃ V, V = (w3.alloc (.cells #[.string s.s, .int .i64 s.t, .int .i64 s.c, .int .i64 s.l, .string s.d] 26)).alloc (.cells #[.string (mk m), .string (mk r), .int .u32 (num a : Nat), .int .u32 (num b : Nat), .int .u32 (num cc : Nat), .int .u32 (num d : Nat), .int .u32 (ne : Nat)] soT) := ⟨_, rfl⟩
    have hz1 : Whole V (w.heap.size + 1) 26 #[.string ⟨#[]⟩, .int .i64 0, .int .i64 0, .int .i64 0, .string ⟨#[]⟩] := by rw [hV]; exact (HZ1b.out.alloc _).alloc _
    have hbV : Below w.heap.size w V := by rw [hV]; exact (HB3.out.alloc HB3.out.size _).alloc (by have := HB3.out.size; rw [World.size_alloc]; omega) _
    have HV := Lib.hid hV
    have HZV := Lib.hid hz1
    have HBV := Lib.hid hbV
    have HRS := Lib.hid (show negR s = ⟨s.s, s.t, s.c, s.l, s.d⟩ by unfold negR; rw [HMIN.out, ← HNE.out, if_neg hlt])
    clear hz1 hbV hV
    obtain ⟨y0, y1, y2, y3, y4⟩ := rr_facts (show Whole V (w.heap.size + 1) rrT (rrA ⟨#[]⟩ ⟨#[]⟩ 0 0 0) from HZV.out)
    have k0 := HZV.out.frozen 0
    have k1 := HZV.out.frozen 1
    have k2 := HZV.out.frozen 2
    have k3 := HZV.out.frozen 3
    have k4 := HZV.out.frozen 4
    rw [HV.out] at y0 y1 y2 y3 y4 k0 k1 k2 k3 k4
    go_wp2_with fail
    rw [← HV.out]
    refine retR5 rfl rfl rfl (five_put HZV.out _ _ _ _ _) ⟨by rw [HNO.out, HRS.out]; rfl, five_below HBV.out (by omega) _ _ _ _ _⟩
end Go.Proofs.YtkgihfoknpimfaaGreat
namespace Go.Proofs.YtkgihfoknpimfaaGreat
open Go.RowKit Go.Op
set_option linter.unusedVariables false

def RecsOut (w' : World) (l : List Rrd) (ok : Bool) (e : Ending) : Prop := ∃ A c, e = .returned (.tuple #[.slice A l.length c, .bool ok]) ∧ SeesR w' w'.heap.size A l.length l
theorem own_recs {w : World} {base : Nat} {v : Value} {xs : List Rrd} (h : w.ownsRow base 26 5 v xs.length (rcells xs)) : ∃ A c, v = .slice A xs.length c ∧ SeesR w w.heap.size A xs.length xs := SeesR.own h
/-- the first k records with another name -/
def renTo (P : ByteArray) (k : Nat) (l : List Rrd) : List Rrd := (l.take k).map (fun x => { x with s := P }) ++ l.drop k
theorem renTo_zero (P : ByteArray) (l : List Rrd) : renTo P 0 l = l := rfl
theorem renTo_len (P : ByteArray) (k : Nat) (l : List Rrd) : (renTo P k l).length = l.length := by
  unfold renTo; rw [List.length_append, List.length_map, List.length_take, List.length_drop]; omega
theorem renTo_at (P : ByteArray) {k : Nat} {l : List Rrd} {x : Rrd} (h : l[k]? = some x) : (renTo P k l)[k]? = some x := by
  have hk : k < l.length := (List.getElem?_eq_some_iff.1 h).1
  unfold renTo
  rw [List.getElem?_append_right (by simp; omega)]
  simp only [List.length_map, List.length_take, List.getElem?_drop]
  rw [show k + (k - min k l.length) = k by omega]
  exact h
theorem renTo_step (P : ByteArray) {k : Nat} {l : List Rrd} {x : Rrd} (h : l[k]? = some x) : (renTo P k l).set k { x with s := P } = renTo P (k + 1) l := by
  have hk : k < l.length := (List.getElem?_eq_some_iff.1 h).1
  have hx : l[k] = x := (List.getElem?_eq_some_iff.1 h).2
  unfold renTo
  rw [List.set_append_right _ _ (by simp; omega), List.take_succ_eq_append_getElem hk, List.map_append, List.append_assoc]
  congr 1
  simp only [List.length_map, List.length_take]
  rw [show k - min k l.length = 0 by omega, List.drop_eq_getElem_cons hk, hx]
  rfl
theorem renTo_all (n : List UInt8) (l : List Rrd) : renTo (mk n) l.length l = l.map (renZ n) := by
  unfold renTo; rw [List.take_length, List.drop_length, List.append_nil]; rfl
theorem rcells_name (P : ByteArray) : ∀ (l : List Rrd) (k : Nat) (x : Rrd), l[k]? = some x → (rcells l).set (k * 5) (.string P) = rcells (l.set k { x with s := P })
  | [], k, x, h => by simp at h
  | y :: l, 0, x, h => by
    obtain rfl : y = x := by simpa using h
    simp [rcells]
  | y :: l, k + 1, x, h => by
    have h' : l[k]? = some x := by simpa using h
    rw [List.set_cons_succ, rcells_cons, rcells_cons, ← rcells_name P l k x h', show (k + 1) * 5 = k * 5 + 1 + 1 + 1 + 1 + 1 by omega]
    simp
theorem starN_is {c : List UInt8} (h : nameL c = some (labsZ c)) : starN c = ofN ([42] :: labsZ c) := by unfold starN; rw [h]
theorem fnd_wild {D : List Rrd} {nn n : List UInt8} (hu : underN n nn = true) (hk : knownZ D n = false) : fndZ D nn n = ((atX (starZ D nn n) D).map (renZ n), !(atX (starZ D nn n) D).isEmpty) := by
  unfold fndZ; rw [if_pos hu, if_neg (by rw [hk]; simp)]
theorem fnd_known {D : List Rrd} {nn n : List UInt8} (hu : underN n nn = true) (hk : knownZ D n = true) : fndZ D nn n = (atX n D, true) := by
  unfold fndZ; rw [if_pos hu, if_pos hk]
theorem fnd_no {D : List Rrd} {nn n : List UInt8} (hu : underN n nn = false) : fndZ D nn n = ([], false) := by
  unfold fndZ; rw [if_neg (by rw [hu]; simp)]
set_option maxHeartbeats 8000000 in
set_option maxRecDepth 20000 in
theorem expand_any (N : ByteArray) (nn : List UInt8) (D : List Rrd) (v : Value) (w : World) (hz : ZoneAt w w.heap.size N D v) (gz : GoodZ nn D) (P : ByteArray) (n : List UInt8) (hN : N = mk nn) (hP : P = mk n) (hl : n.length ≤ 1000000) (hu : underN n nn = true) (hk : knownZ D n = false) :
    Calls Tryz.prog 56 #[v, .string P] w fun e w' => RecsOut w' (fndZ D nn n).1 (fndZ D nn n).2 e ∧ Below w.heap.size w w' := by
  have HZV := Lib.hid hz
  obtain ⟨A, c, s, rfl, hs, hcap, hsoa⟩ := hz
  have hw0 := Whole.new w zoT #[.string N, .slice A D.length c, .string s.s, .int .i64 s.t, .int .i64 s.c, .int .i64 s.l, .string s.d]
  have hB0 : Below w.heap.size w (w.alloc (.cells #[.string N, .slice A D.length c, .string s.s, .int .i64 s.t, .int .i64 s.c, .int .i64 s.l, .string s.d] zoT)) := (Below.refl _ _).alloc (Nat.le_refl _) _
  obtain ⟨c0, c1, c2, c3, c4, c5, c6⟩ := zo_facts hw0
  have HW0 := Lib.hid hw0
  have HZ0 := Lib.hid (HZV.out.later hB0)
  have HB0 := Lib.hid hB0
  have GZ := Lib.hid gz
  clear hw0 hB0 hs hcap hsoa
  clear gz
  have HP := Lib.hid hP
  have HN := Lib.hid hN
  obtain ⟨cc, hcc, hcn, hcl, hof, hsn, hsl⟩ := star_is GZ.out hu hk
  have HCC := Lib.hid hcc
  have HCN := Lib.hid hcn
  have HST := Lib.hid (show starN cc = (starZ D nn n, 0) by rw [starN_is hcn, hof])
  obtain ⟨S, hS⟩ : ∃ S, S = mk (starZ D nn n) := ⟨_, rfl⟩
  obtain ⟨C, hC⟩ : ∃ C, C = mk cc := ⟨_, rfl⟩
  obtain ⟨l, hL⟩ : ∃ l, l = atX (starZ D nn n) D := ⟨_, rfl⟩
  obtain ⟨m, hm⟩ : ∃ m, m = l.length := ⟨_, rfl⟩
  have HSL := Lib.hid hsl
  have HS := Lib.hid hS
  have HC := Lib.hid hC
  have HL := Lib.hid hL
  have HM := Lib.hid hm
  have hm1000 : m ≤ 1000 := by rw [hm, hL]; have := atX_len (starZ D nn n) D; have := GZ.out.len; omega
  have HF := Lib.hid (show fndZ D nn n = (l.map (renZ n), !l.isEmpty) by rw [fnd_wild hu hk, hL])
  have HRET := Lib.hid (show (C = mk ((clsZ D nn n).getD [])) by rw [hcc]; exact hC)
  clear hN hP hcc hcn hof hsn hsl hS hC hL hm hu hk
  go_enter Tryz.func56, Tryz.ntmps56
  go_wp2_with fail
  refine (LClosest_any N nn D _ _ HZ0.out GZ.out P n HN.out HP.out hl).mono ?_
  rw [← HRET.out]
  rintro e w1 ⟨rfl, hB⟩
  have hw1 := HW0.out.below hB HW0.out.lt
  obtain ⟨c0, c1, c2, c3, c4, c5, c6⟩ := zo_facts hw1
  have HW1 := Lib.hid hw1
  have HZ1 := Lib.hid (HZ0.out.later hB)
  have HB1 := Lib.hid (HB0.out.trans (hB.mono HB0.out.size))
  clear hB hw1
  go_wp2_with fail
  refine (Star_any C cc _ HC.out (by omega)).mono ?_
  rw [HST.out]
  rw [← HS.out]
  rintro e w2 ⟨rfl, hB⟩
  have hw2 := HW1.out.below hB HW1.out.lt
  obtain ⟨c0, c1, c2, c3, c4, c5, c6⟩ := zo_facts hw2
  have HW2 := Lib.hid hw2
  have HZ2 := Lib.hid (HZ1.out.later hB)
  have HB2 := Lib.hid (HB1.out.trans (hB.mono HB1.out.size))
  clear hB hw2
  go_wp2_with fail
  refine (ZAt_any N D _ _ HZ2.out S (starZ D nn n) HS.out (by have := HSL.out; omega) GZ.out.ok GZ.out.ks (by have := GZ.out.len; omega)).mono ?_
  rw [← HL.out, ← HM.out]
  rintro e w3 ⟨u, rfl, ho, hB⟩
  have HB23 := Lib.hid hB
  obtain ⟨A3, k3, rfl, _⟩ := SeesR.own ho
  have HO3 := Lib.hid ho
  clear ho
  have hw3 := HW2.out.below hB HW2.out.lt
  obtain ⟨c0, c1, c2, c3, c4, c5, c6⟩ := zo_facts hw3
  have HW3 := Lib.hid hw3
  have HZ3 := Lib.hid (HZ2.out.later hB)
  have HB3 := Lib.hid (HB2.out.trans (hB.mono HB2.out.size))
  clear hB hw3
  go_wp2_with fail
  go_loopw [28] (fun i wr => ∃ k : Nat, k ≤ m ∧ i = .int .i64 (k : Nat) ∧ wr.ownsRow w2.heap.size 26 5 (.slice A3 m k3) m (rcells (renTo P k l)) ∧ Below w2.heap.size w2 wr) (fun i _ => m - (intOf i).toNat)
  case atStart => exact ⟨0, Nat.zero_le _, rfl, HO3.out, HB23.out⟩
  case round =>
    obtain ⟨k, hk, rfl, ho, hB⟩ := hrel
    by_cases hkm : k < m
    · obtain ⟨x, hx⟩ : ∃ x, l[k]? = some x := ⟨l[k]'(by have := HM.out; omega), List.getElem?_eq_getElem _⟩
      obtain ⟨g, cap, cur, hA⟩ : ∃ g cap cur, (Value.slice A3 m k3) = .slice (some ⟨g, 0, none⟩) m cap ∧ cur = 0 := by
        rcases ho.2 with ⟨h, h0⟩ | ⟨g, cap, cur, h, _⟩
        · omega
        · exact ⟨g, cap, 0, h, rfl⟩
      obtain ⟨hA, _⟩ := hA
      injection hA with hA _ hc
      subst hA; subst hc
      have hxr := renTo_at P hx
      obtain ⟨x0, x1, x2, x3, x4⟩ := RowX.five (show RowX w2.heap.size g m k3 (renTo P k l) wr from ho) hxr
      have f0 := ho.frozenAt (k * 5)
      obtain ⟨o1, g1⟩ := ho.stored (k * 5) (.string P)
      rw [rcells_name P _ _ _ hxr, renTo_step P hx] at o1
      have HO1 := Lib.hid o1
      have hlt := ho.lt
      have HG := Lib.hid (hB.grown g1 hB.size (fun j hj => (hlt j hj).1))
      clear hx hxr o1 g1 ho hlt hB
      go_wp2_with fail
      go_roundw
      case rel => exact ⟨k + 1, by omega, by go_num, HO1.out, HG.out⟩
      case measure => simp [intOf]; omega
    · obtain rfl : k = m := by omega
      have hen : renTo P k l = l.map (renZ n) := by rw [HM.out, HP.out]; exact renTo_all n l
      obtain ⟨A', c', e1, hs⟩ := SeesR.own ho
      injection e1 with e1 _ e2
      subst e1; subst e2
      rw [hen] at hs
      have HRS := Lib.hid hs
      have HBW := Lib.hid (HB2.out.trans (hB.mono HB2.out.size))
      have HFK := Lib.hid (show fndZ D nn n = (l.map (renZ n), decide (0 < k)) by
        rw [HF.out, HM.out]; cases l <;> simp)
      clear hs hen ho hB
      go_wp2_with fail
      go_ret2
      refine ⟨?_, HBW.out⟩
      rw [HFK.out]
      refine ⟨A3, k3, ?_, ?_⟩
      · show _ = Ending.returned (.tuple #[.slice A3 (l.map (renZ n)).length k3, .bool (decide (0 < k))])
        rw [List.length_map, ← HM.out]
        simp
      · show SeesR _ _ A3 (l.map (renZ n)).length (l.map (renZ n))
        rw [List.length_map, ← HM.out]
        exact HRS.out
set_option maxHeartbeats 8000000 in
set_option maxRecDepth 20000 in
theorem LFind_any (N : ByteArray) (nn : List UInt8) (D : List Rrd) (v : Value) (w : World) (hz : ZoneAt w w.heap.size N D v) (gz : GoodZ nn D) (P : ByteArray) (n : List UInt8) (hN : N = mk nn) (hP : P = mk n) (hl : n.length ≤ 1000000) :
    Calls Tryz.prog 19 #[v, .string P] w fun e w' => RecsOut w' (fndZ D nn n).1 (fndZ D nn n).2 e ∧ Below w.heap.size w w' := by
  have HZV := Lib.hid hz
  obtain ⟨A, c, s, rfl, hs, hcap, hsoa⟩ := hz
  have hw0 := Whole.new w zoT #[.string N, .slice A D.length c, .string s.s, .int .i64 s.t, .int .i64 s.c, .int .i64 s.l, .string s.d]
  have hB0 : Below w.heap.size w (w.alloc (.cells #[.string N, .slice A D.length c, .string s.s, .int .i64 s.t, .int .i64 s.c, .int .i64 s.l, .string s.d] zoT)) := (Below.refl _ _).alloc (Nat.le_refl _) _
  obtain ⟨c0, c1, c2, c3, c4, c5, c6⟩ := zo_facts hw0
  have HW0 := Lib.hid hw0
  have HZ0 := Lib.hid (HZV.out.later hB0)
  have HB0 := Lib.hid hB0
  have GZ := Lib.hid gz
  clear hw0 hB0 hs hcap hsoa
  clear gz
  have HP := Lib.hid hP
  have HN := Lib.hid hN
  have HNL := Lib.hid (right_len GZ.out.nm)
  clear hP hN
  cases hu : underN n nn with
  | false =>
    have HU := Lib.hid (fnd_no (D := D) hu)
    go_enter Tryz.func19, Tryz.ntmps19
    go_wp2_with fail
    refine (Apex_any N D _ _ HZ0.out).mono ?_
    rintro e w1 ⟨rfl, hB⟩
    have hw1 := HW0.out.below hB HW0.out.lt
    obtain ⟨c0, c1, c2, c3, c4, c5, c6⟩ := zo_facts hw1
    have HW1 := Lib.hid hw1
    have HZ1 := Lib.hid (HZ0.out.later hB)
    have HB1 := Lib.hid (HB0.out.trans (hB.mono HB0.out.size))
    clear hB hw1
    go_wp2_with fail
    refine (Under_any P N n nn _ HP.out HN.out (by omega) (by have := HNL.out; omega)).mono ?_
    rw [hu]
    rintro e w2 ⟨rfl, hB⟩
    have hw2 := HW1.out.below hB HW1.out.lt
    obtain ⟨c0, c1, c2, c3, c4, c5, c6⟩ := zo_facts hw2
    have HW2 := Lib.hid hw2
    have HZ2 := Lib.hid (HZ1.out.later hB)
    have HB2 := Lib.hid (HB1.out.trans (hB.mono HB1.out.size))
    clear hB hw2
    clear hu
    go_wp2_with fail
    go_ret2
    refine ⟨?_, HB2.out⟩
    rw [HU.out]
    exact ⟨none, 0, rfl, rfl, fun h => absurd h (by simp)⟩
  | true =>
    have HU := Lib.hid hu
    cases hk : knownZ D n with
    | true =>
      have HF := Lib.hid (fnd_known hu hk)
      obtain ⟨m, hm⟩ : ∃ m, m = (atX n D).length := ⟨_, rfl⟩
      have HM := Lib.hid hm
      clear hm
      go_enter Tryz.func19, Tryz.ntmps19
      go_wp2_with fail
      refine (Apex_any N D _ _ HZ0.out).mono ?_
      rintro e w1 ⟨rfl, hB⟩
      have hw1 := HW0.out.below hB HW0.out.lt
      obtain ⟨c0, c1, c2, c3, c4, c5, c6⟩ := zo_facts hw1
      have HW1 := Lib.hid hw1
      have HZ1 := Lib.hid (HZ0.out.later hB)
      have HB1 := Lib.hid (HB0.out.trans (hB.mono HB0.out.size))
      clear hB hw1
      go_wp2_with fail
      refine (Under_any P N n nn _ HP.out HN.out (by omega) (by have := HNL.out; omega)).mono ?_
      rw [hu]
      rintro e w2 ⟨rfl, hB⟩
      have hw2 := HW1.out.below hB HW1.out.lt
      obtain ⟨c0, c1, c2, c3, c4, c5, c6⟩ := zo_facts hw2
      have HW2 := Lib.hid hw2
      have HZ2 := Lib.hid (HZ1.out.later hB)
      have HB2 := Lib.hid (HB1.out.trans (hB.mono HB1.out.size))
      clear hB hw2
      clear hu
      go_wp2_with fail
      refine (known_any N nn D _ _ HZ2.out GZ.out P n HP.out hl).mono ?_
      rw [hk]
      clear hk
      rintro e w3 ⟨rfl, hB⟩
      have hw3 := HW2.out.below hB HW2.out.lt
      obtain ⟨c0, c1, c2, c3, c4, c5, c6⟩ := zo_facts hw3
      have HW3 := Lib.hid hw3
      have HZ3 := Lib.hid (HZ2.out.later hB)
      have HB3 := Lib.hid (HB2.out.trans (hB.mono HB2.out.size))
      clear hB hw3
      go_wp2_with fail
      refine (ZAt_any N D _ _ HZ3.out P n HP.out hl GZ.out.ok GZ.out.ks (by have := GZ.out.len; omega)).mono ?_
      rw [← HM.out]
      rintro e w4 ⟨u, rfl, ho, hB⟩
      obtain ⟨A4, k4, rfl, hs⟩ := SeesR.own ho
      have HS4 := Lib.hid hs
      clear ho hs
      have hw4 := HW3.out.below hB HW3.out.lt
      obtain ⟨c0, c1, c2, c3, c4, c5, c6⟩ := zo_facts hw4
      have HW4 := Lib.hid hw4
      have HZ4 := Lib.hid (HZ3.out.later hB)
      have HB4 := Lib.hid (HB3.out.trans (hB.mono HB3.out.size))
      clear hB hw4
      go_wp2_with fail
      go_ret2
      refine ⟨?_, HB4.out⟩
      rw [HF.out]
      exact ⟨A4, k4, by rw [HM.out]; rfl, by show SeesR _ _ A4 (atX n D).length _; rw [← HM.out]; exact HS4.out⟩
    | false =>
      go_enter Tryz.func19, Tryz.ntmps19
      go_wp2_with fail
      refine (Apex_any N D _ _ HZ0.out).mono ?_
      rintro e w1 ⟨rfl, hB⟩
      have hw1 := HW0.out.below hB HW0.out.lt
      obtain ⟨c0, c1, c2, c3, c4, c5, c6⟩ := zo_facts hw1
      have HW1 := Lib.hid hw1
      have HZ1 := Lib.hid (HZ0.out.later hB)
      have HB1 := Lib.hid (HB0.out.trans (hB.mono HB0.out.size))
      clear hB hw1
      go_wp2_with fail
      refine (Under_any P N n nn _ HP.out HN.out (by omega) (by have := HNL.out; omega)).mono ?_
      rw [hu]
      rintro e w2 ⟨rfl, hB⟩
      have hw2 := HW1.out.below hB HW1.out.lt
      obtain ⟨c0, c1, c2, c3, c4, c5, c6⟩ := zo_facts hw2
      have HW2 := Lib.hid hw2
      have HZ2 := Lib.hid (HZ1.out.later hB)
      have HB2 := Lib.hid (HB1.out.trans (hB.mono HB1.out.size))
      clear hB hw2
      clear hu
      go_wp2_with fail
      refine (known_any N nn D _ _ HZ2.out GZ.out P n HP.out hl).mono ?_
      rw [hk]
      have HK := Lib.hid hk
      clear hk
      rintro e w3 ⟨rfl, hB⟩
      have hw3 := HW2.out.below hB HW2.out.lt
      obtain ⟨c0, c1, c2, c3, c4, c5, c6⟩ := zo_facts hw3
      have HW3 := Lib.hid hw3
      have HZ3 := Lib.hid (HZ2.out.later hB)
      have HB3 := Lib.hid (HB2.out.trans (hB.mono HB2.out.size))
      clear hB hw3
      go_wp2_with fail
      refine (expand_any N nn D _ _ HZ3.out GZ.out P n HN.out HP.out hl HU.out HK.out).mono ?_
      obtain ⟨F, hF⟩ : ∃ F, F = fndZ D nn n := ⟨_, rfl⟩
      rw [← hF]
      have HF := Lib.hid hF
      clear hF
      rintro e w4 ⟨⟨A4, k4, rfl, hs⟩, hB⟩
      have HS4 := Lib.hid hs
      clear hs
      have hw4 := HW3.out.below hB HW3.out.lt
      obtain ⟨c0, c1, c2, c3, c4, c5, c6⟩ := zo_facts hw4
      have HW4 := Lib.hid hw4
      have HZ4 := Lib.hid (HZ3.out.later hB)
      have HB4 := Lib.hid (HB3.out.trans (hB.mono HB3.out.size))
      clear hB hw4
      go_wp2_with fail
      go_ret2
      refine ⟨?_, HB4.out⟩
      rw [← HF.out]
      exact ⟨A4, k4, rfl, HS4.out⟩
end Go.Proofs.YtkgihfoknpimfaaGreat
