/- ZoH: texts ZonH of our own, joined. No statement of the seat is proved here. -/
import Derived.Test.YtaijcoiepfjecaaGreatZoG
namespace Go.Proofs.YtaijcoiepfjecaaGreat
open Go.RowKit Go.Op
set_option linter.unusedVariables false

/-- the data of an SOA with another serial -/
def serD (m r : List UInt8) (n : Nat) (b c d e : List UInt8) : List UInt8 := m ++ r ++ be n 4 ++ be (num b) 4 ++ be (num c) 4 ++ be (num d) 4 ++ be (num e) 4
theorem be_four {b : List UInt8} (h : b.length = 4) : be (num b) 4 = b := by
  have := be_num b
  rwa [h] at this
theorem ser_self {D m r a b c d e : List UInt8} (h : Soa7 D m r a b c d e) : serD m r (num a) b c d e = D := by
  obtain ⟨l0, l1, l2, l3, l4⟩ := h.four
  unfold serD
  rw [be_four l0, be_four l1, be_four l2, be_four l3, be_four l4]
  exact h.all.symm
theorem ser_soa {D m r a b c d e : List UInt8} (h : Soa7 D m r a b c d e) (n : Nat) : Soa7 (serD m r n b c d e) m r (be n 4) b c d e := by
  obtain ⟨l0, l1, l2, l3, l4⟩ := h.four
  refine ⟨h.nm, ⟨be_length _ _, l1, l2, l3, l4⟩, ?_⟩
  unfold serD
  rw [be_four l1, be_four l2, be_four l3, be_four l4]
theorem ser_again {D m r a b c d e : List UInt8} (n k : Nat) : serD m r n b c d e = serD m r n b c d e := rfl
theorem ser_len {D m r a b c d e : List UInt8} (h : Soa7 D m r a b c d e) (n : Nat) : (serD m r n b c d e).length = D.length := by
  obtain ⟨l0, l1, l2, l3, l4⟩ := h.four
  rw [h.all]
  unfold serD
  simp [be_length, l0, l1, l2, l3, l4]
theorem num_four {n : Nat} (h : n < 4294967296) : num (be n 4) = n := num_be_eq n 4 h
theorem num_lt4 {a : List UInt8} (h : a.length = 4) : num a < 4294967296 := by have := num_lt a; rw [h] at this; omega
theorem ser_ok {s : Rrd} {m r a b c d e : List UInt8} (hs : OkX s) (h1 : s.c = 1) (h6 : s.t = 6) (h : Soa7 s.toRec.d m r a b c d e) (n : Nat) : OkX (withD s (serD m r n b c d e)) := by
  have hl := ser_len h n
  refine ⟨?_, ?_⟩
  · have h0 := hs.1
    unfold okR at h0 ⊢
    have e1 : (withD s (serD m r n b c d e)).toRec.d = serD m r n b c d e := (withD_rec s _).1
    have e2 : (withD s (serD m r n b c d e)).toRec.n = s.toRec.n := rfl
    have e3 : (withD s (serD m r n b c d e)).toRec.t = s.toRec.t := rfl
    have e4 : (withD s (serD m r n b c d e)).toRec.c = s.toRec.c := rfl
    have e5 : (withD s (serD m r n b c d e)).toRec.l = s.toRec.l := rfl
    rw [e1, e2, e3, e4, e5]
    have e6 : tyd s.toRec.t s.toRec.c (serD m r n b c d e).length = 6 := by unfold tyd; rw [if_pos (.inl h1)]; exact h6
    rw [e6, (ser_soa h n).is.1]
    simp only [Bool.and_eq_true] at h0 ⊢
    exact ⟨h0.1, trivial⟩
  · have := hs.data
    unfold withD
    rw [mk_size, hl]; exact this
set_option maxHeartbeats 16000000 in
set_option maxRecDepth 20000 in
theorem ZSer_any (nn : List UInt8) (N : ByteArray) (D : List Rrd) (A : Option Addr) (c : Nat) (s : Rrd) (m r a b cc d e : List UInt8) (n : Nat) (D' : List Rrd) (w : World) (h7 : Soa7 s.toRec.d m r a b cc d e) (hl : s.toRec.d.length ≤ 65535) (hn : n < 4294967296)
    (hs : SeesR w w.heap.size A D.length D) (hcap : InCap A D.length c) (hO : Other nn D s D' (withD s (serD m r n b cc d e))) (hok : OkL D) (hset : SetL cmpX D) (oks : OkX s) (ok' : OkX (withD s (serD m r n b cc d e))) (hDl : D.length ≤ 1000) :
    Calls Tryz.prog 23 #[.agg #[.string N, .slice A D.length c, .string s.s, .int .i64 s.t, .int .i64 s.c, .int .i64 s.l, .string s.d], .int .u32 (n : Nat)] w fun en w' => (∃ v, en = .returned v ∧ ZoneAt w' w'.heap.size N D' v) ∧ Below w.heap.size w w' := by
  obtain ⟨X, hX⟩ : ∃ X, X = mk (serD m r n b cc d e) := ⟨_, rfl⟩
  have hsX : withD s (serD m r n b cc d e) = ⟨s.s, s.t, s.c, s.l, X⟩ := by rw [hX]; rfl
  rw [hsX] at hO ok'
  obtain ⟨l0, l1, l2, l3, l4⟩ := h7.four
  obtain ⟨⟨L1, hL1⟩, ⟨L2, hL2⟩⟩ := h7.nm
  have hm255 : m.length ≤ 2000 := by have := (nameL_is hL1).2.2; omega
  have hr255 : r.length ≤ 2000 := by have := (nameL_is hL2).2.2; omega
  have hnums : n < 4294967296 ∧ num b < 4294967296 ∧ num cc < 4294967296 ∧ num d < 4294967296 ∧ num e < 4294967296 := ⟨hn, num_lt4 l1, num_lt4 l2, num_lt4 l3, num_lt4 l4⟩
  have HNM := Lib.hid (show (nameL m).isSome = true by rw [hL1]; rfl)
  have HNR := Lib.hid (show (nameL r).isSome = true by rw [hL2]; rfl)
  have HNUM := Lib.hid hnums
  have H7 := Lib.hid h7
  have HO := Lib.hid hO
  have HOK := Lib.hid hok
  have HSET := Lib.hid hset
  have HS := Lib.hid oks
  have HS' := Lib.hid ok'
  have HCAP := Lib.hid hcap
  have HXX := Lib.hid (show X = mk (m ++ r ++ be n 4 ++ be (num b) 4 ++ be (num cc) 4 ++ be (num d) 4 ++ be (num e) 4) from hX)
  have hw0 := Whole.new w zoT #[.string N, .slice A D.length c, .string s.s, .int .i64 s.t, .int .i64 s.c, .int .i64 s.l, .string s.d]
  have hB0 : Below w.heap.size w (w.alloc (.cells #[.string N, .slice A D.length c, .string s.s, .int .i64 s.t, .int .i64 s.c, .int .i64 s.l, .string s.d] zoT)) := (Below.refl _ _).alloc (Nat.le_refl _) _
  have hw1 := Whole.new (w.alloc (.cells #[.string N, .slice A D.length c, .string s.s, .int .i64 s.t, .int .i64 s.c, .int .i64 s.l, .string s.d] zoT)) zoT #[.string ⟨#[]⟩, .slice none 0 0, .string ⟨#[]⟩, .int .i64 0, .int .i64 0, .int .i64 0, .string ⟨#[]⟩]
  have hB1 : Below (w.alloc (.cells #[.string N, .slice A D.length c, .string s.s, .int .i64 s.t, .int .i64 s.c, .int .i64 s.l, .string s.d] zoT)).heap.size (w.alloc (.cells #[.string N, .slice A D.length c, .string s.s, .int .i64 s.t, .int .i64 s.c, .int .i64 s.l, .string s.d] zoT)) ((w.alloc (.cells #[.string N, .slice A D.length c, .string s.s, .int .i64 s.t, .int .i64 s.c, .int .i64 s.l, .string s.d] zoT)).alloc (.cells #[.string ⟨#[]⟩, .slice none 0 0, .string ⟨#[]⟩, .int .i64 0, .int .i64 0, .int .i64 0, .string ⟨#[]⟩] zoT)) := (Below.refl _ _).alloc (Nat.le_refl _) _
  have hw0' := hw0.below hB1 hw0.lt
  rw [show (w.alloc (.cells #[.string N, .slice A D.length c, .string s.s, .int .i64 s.t, .int .i64 s.c, .int .i64 s.l, .string s.d] zoT)).heap.size = w.heap.size + 1 by simp] at hw1
  obtain ⟨c0, c1, c2, c3, c4, c5, c6⟩ := zo_facts hw0'
  have hB2 := hB0.trans (hB1.mono hB0.size)
  have HW0 := Lib.hid hw0'
  have HW1 := Lib.hid hw1
  have HB2 := Lib.hid hB2
  have HSS := Lib.hid ((hs.keep hB2).more hB2.size)
  clear hX hsX hO ok' l0 l1 l2 l3 l4 hL1 hL2 hnums h7 hok hset oks hcap hs hw0 hB0 hw1 hB1 hw0' hB2
  go_enter Tryz.func23, Tryz.ntmps23
  go_wp2_with fail
  refine (ZSoa_any N D A c s m r a b cc d e _ H7.out hl).mono ?_
  unfold agg7
  rintro en w3 ⟨rfl, hB⟩
  have hv := Whole.new w3 26 #[.string s.s, .int .i64 s.t, .int .i64 s.c, .int .i64 s.l, .string s.d]
  have hBv : Below w3.heap.size w3 (w3.alloc (.cells #[.string s.s, .int .i64 s.t, .int .i64 s.c, .int .i64 s.l, .string s.d] 26)) := (Below.refl _ _).alloc (Nat.le_refl _) _
  have hu := Whole.new (w3.alloc (.cells #[.string s.s, .int .i64 s.t, .int .i64 s.c, .int .i64 s.l, .string s.d] 26)) soT #[.string (mk m), .string (mk r), .int .u32 (n : Nat), .int .u32 (num b : Nat), .int .u32 (num cc : Nat), .int .u32 (num d : Nat), .int .u32 (num e : Nat)]
  have hBu : Below (w3.alloc (.cells #[.string s.s, .int .i64 s.t, .int .i64 s.c, .int .i64 s.l, .string s.d] 26)).heap.size (w3.alloc (.cells #[.string s.s, .int .i64 s.t, .int .i64 s.c, .int .i64 s.l, .string s.d] 26)) ((w3.alloc (.cells #[.string s.s, .int .i64 s.t, .int .i64 s.c, .int .i64 s.l, .string s.d] 26)).alloc (.cells #[.string (mk m), .string (mk r), .int .u32 (n : Nat), .int .u32 (num b : Nat), .int .u32 (num cc : Nat), .int .u32 (num d : Nat), .int .u32 (num e : Nat)] soT)) := (Below.refl _ _).alloc (Nat.le_refl _) _
  have hv2 := hv.below hBu hv.lt
  rw [show (w3.alloc (.cells #[.string s.s, .int .i64 s.t, .int .i64 s.c, .int .i64 s.l, .string s.d] 26)).heap.size = w3.heap.size + 1 by simp] at hu
  have hBV := hBv.trans (hBu.mono hBv.size)
  obtain ⟨x0, x1, x2, x3, x4, x5, x6⟩ := soa_facts hu
  obtain ⟨f0, f1, f2, f3, f4, f5, f6⟩ := soa_frozen hu
  have hv3 := hv2
  have hBW := hBV
  have hBA := hB.trans (hBW.mono hB.size)
  have HW0b := Lib.hid (HW0.out.below hBA HW0.out.lt)
  have HW1b := Lib.hid (HW1.out.below hBA HW1.out.lt)
  have HBb := Lib.hid (HB2.out.trans (hBA.mono HB2.out.size))
  have HSb := Lib.hid ((HSS.out.keep hBA).more hBA.size)
  have HRR := Lib.hid hv3
  have HLW := Lib.hid (Nat.lt_of_lt_of_le HW1.out.lt hB.size)
  have HLR := Lib.hid hv3.lt
  clear hv hBv hu hBu hv2 hBV hv3 hBW hBA hB c0 c1 c2 c3 c4 c5 c6
  go_wp2_with fail
  refine (Data_yes m r n (num b) (num cc) (num d) (num e) _ hm255 hr255 HNM.out HNR.out HNUM.out).mono ?_
  rw [← HXX.out]
  rintro en w4 ⟨rfl, hB⟩
  have HW0c := Lib.hid (HW0b.out.below hB HW0b.out.lt)
  have HW1c := Lib.hid (HW1b.out.below hB HW1b.out.lt)
  have HBc := Lib.hid (HBb.out.trans (hB.mono HBb.out.size))
  have HSc := Lib.hid ((HSb.out.keep hB).more hB.size)
  have HRc := Lib.hid (HRR.out.below hB HRR.out.lt)
  have HLc := Lib.hid (Nat.lt_of_lt_of_le HLR.out hB.size)
  obtain ⟨c0, c1, c2, c3, c4, c5, c6⟩ := zo_facts HW0c.out
  obtain ⟨y0, y1, y2, y3, y4⟩ := rr_facts (show Whole w4 w3.heap.size rrT (rrA s.s s.d s.t s.c s.l) from HRc.out)
  clear hB x0 x1 x2 x3 x4 x5 x6 f0 f1 f2 f3 f4 f5 f6
  go_wp2_with fail
  refine (Drop_any A D.length c D s _ HSc.out HCAP.out HOK.out HS.out HSET.out (by omega)).mono ?_
  rw [HO.out.hit.1]
  rintro en w5 ⟨v5, rfl, ho5, hB⟩
  obtain ⟨E, hE⟩ : ∃ E, E = dropX cmpX s D := ⟨_, rfl⟩
  rw [← hE] at ho5
  have hne5 : v5.ownBlock ≠ some w3.heap.size := by
    intro e
    have := own_block_ge ho5 _ e
    have := HLc.out
    omega
  have HRd := HRc.out.below hB HRc.out.lt
  have hEl : E.length ≤ 1000 := by
    rw [hE]
    have := dropX_len (cmp := cmpX) (⟨s.s, s.t, s.c, s.l, X⟩ : Rrd) D
    have h2 : (dropX cmpX s D).length ≤ D.length := by
      rw [dropX_is]
      simp only [List.length_append, List.length_take, List.length_drop]
      omega
    omega
  have HP4 := HRd.put 4 (.string X)
  have HR2 : Whole (w5.setCell ⟨w3.heap.size, 4, none⟩ (.string X)) w3.heap.size 26 #[.string s.s, .int .i64 s.t, .int .i64 s.c, .int .i64 s.l, .string X] := by simpa using HP4
  have ho6 := ho5.kept (gset w5 ⟨w3.heap.size, 4, none⟩ (.string X)) (.inr hne5)
  obtain ⟨A5, c5', rfl, hs5, hcap5⟩ := own_sees ho6
  have hBs : Below w4.heap.size w4 (w5.setCell ⟨w3.heap.size, 4, none⟩ (.string X)) → True := fun _ => trivial
  have hB5w : Below w.heap.size w (w5.setCell ⟨w3.heap.size, 4, none⟩ (.string X)) := (HBc.out.trans (hB.mono HBc.out.size)).setCell (p := ⟨w3.heap.size, 4, none⟩) (by have := HLW.out; simp; omega) _
  have hz5 := (HW0c.out.below hB HW0c.out.lt).far (p := ⟨w3.heap.size, 4, none⟩) (show w.heap.size ≠ w3.heap.size by have := HLW.out; omega) (.string X)
  have hw5 := (HW1c.out.below hB HW1c.out.lt).far (p := ⟨w3.heap.size, 4, none⟩) (show w.heap.size + 1 ≠ w3.heap.size by have := HLW.out; omega) (.string X)
  obtain ⟨y0, y1, y2, y3, y4⟩ := rr_facts (show Whole w5 w3.heap.size rrT (rrA s.s s.d s.t s.c s.l) from HRd)
  have k4 := HRd.frozen 4
  obtain ⟨u0, u1, u2, u3, u4⟩ := rr_facts (show Whole (w5.setCell ⟨w3.heap.size, 4, none⟩ (.string X)) w3.heap.size rrT (rrA s.s X s.t s.c s.l) from HR2)
  have HE := Lib.hid hE
  have HOE := Lib.hid (show OkL E by rw [hE]; exact HO.out.okE)
  have HSE := Lib.hid (show SetL cmpX E by rw [hE]; exact HO.out.setE)
  have HPUT := Lib.hid (show putX cmpX ⟨s.s, s.t, s.c, s.l, X⟩ E = D' by rw [hE]; exact HO.out.put)
  have HS5 := Lib.hid hs5
  have HCAP5 := Lib.hid hcap5
  have HB5 := Lib.hid hB5w
  have HZ5 := Lib.hid hz5
  have HW5 := Lib.hid hw5
  have HRR5 := Lib.hid HR2
  clear hB ho5 hne5 HRd HP4 HR2 ho6 hs5 hcap5 hBs hB5w hz5 hw5 hE c0 c1 c2 c3 c4 c5 c6
  go_wp2_with fail
  refine (Put_any A5 E.length c5' E ⟨s.s, s.t, s.c, s.l, X⟩ _ HS5.out HCAP5.out HOE.out HS'.out HSE.out (by omega)).mono ?_
  rw [HPUT.out]
  rintro en w6 ⟨v6, rfl, ho6, hB⟩
  obtain ⟨A6, c6', rfl, hs6, hcap6⟩ := own_sees ho6
  have hz6 := HZ5.out.below hB HZ5.out.lt
  have hw6 := HW5.out.below hB HW5.out.lt
  have hr6 := HRR5.out.below hB HRR5.out.lt
  have HO6 := Lib.hid ho6
  have HW6 := Lib.hid hw6
  have HB6 := Lib.hid (HB5.out.trans (hB.mono HB5.out.size))
  obtain ⟨c0, c1, c2, c3, c4, c5, c6⟩ := zo_facts hz6
  obtain ⟨q0, q1, q2, q3, q4, q5, q6⟩ := zo_facts hw6
  obtain ⟨f0, f1, f2, f3, f4, f5, f6⟩ := zo_frozen hw6
  obtain ⟨u0, u1, u2, u3, u4⟩ := rr_facts (show Whole w6 w3.heap.size rrT (rrA s.s X s.t s.c s.l) from hr6)
  clear hB ho6 hs6 hcap6 hz6 hw6 hr6 y0 y1 y2 y3 y4 k4
  go_wp2_with fail
  refine retZ rfl rfl rfl (sevZ_put HW6.out _ _ _ _ _ _ _) ⟨⟨_, rfl, ?_⟩, sevZ_below HB6.out (by omega) _ _ _ _ _ _ _⟩
  obtain ⟨A7, c7, e7, hs7, hcap7⟩ := own_sees (sevZ_own HO6.out HW6.out (.string N) (.slice A6 D'.length c6') (.string s.s) (.int .i64 s.t) (.int .i64 s.c) (.int .i64 s.l) (.string X))
  obtain ⟨rfl, rfl⟩ : A6 = A7 ∧ c6' = c7 := by simpa using e7
  exact ⟨A6, c6', ⟨s.s, s.t, s.c, s.l, X⟩, rfl, hs7, hcap7, HO.out.typ⟩
theorem retR1 {fn : Func} {R : Ending → World → Prop} {a : Act} {w : World} {p r : Nat} {a0 a1 : Value} (hf : fn.results = #[.cell p rzT]) (hd : a.defers = []) (hp : a.tmps.getD p undef = .pointer (some ⟨r, 0, none⟩))
    (h : Whole w r rzT #[a0, a1]) (hR : R (.returned (.agg #[a0, a1])) w) : bodyPost Tryz.prog fn R .ret a w :=
  bodyPost_ret (results_cell_row hf _ _ r _ _ (0, 0) _ hp h Tryz.underlying32 rfl rz_size) hd hR
theorem rz_field (N : ByteArray) (A : Option Addr) (l c : Nat) (w : World) : (Instr.field rzT (.agg #[.string N, .slice A l c]) 1).run Tryz.prog w = .ok (.slice A l c) w := by
  have a1 := Tryz.isAgg22
  unfold Instr.field
  simp [Sem.run_bind, run_underlying Tryz.underlying32, part, asAgg, Result.andThen, a1]
end Go.Proofs.YtaijcoiepfjecaaGreat
