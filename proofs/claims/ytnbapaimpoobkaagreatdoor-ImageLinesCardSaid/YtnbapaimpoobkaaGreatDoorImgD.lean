/- Parts of the proofs of the statements of image. No statement of the seat is proved here. -/
import Derived.Test.YtnbapaimpoobkaaGreatDoorImgM
import Derived.Test.YtnbapaimpoobkaaGreatDoorRrA
import Derived.Test.YtnbapaimpoobkaaGreatDoorImgB
import Derived.Test.YtnbapaimpoobkaaGreatDoorImgC
import Derived.Deep.RegionHeld3
namespace Go.Proofs.YtnbapaimpoobkaaGreatDoor

/-! ### lines -/
def lineW (n : List UInt8) (t c l : Int) (d : List UInt8) : List UInt8 := textN n ++ blk :: (decI t ++ blk :: (decI c ++ blk :: (decI l ++ blk :: hexL d)))
def lineL (x : Rrd) : List UInt8 := lineW x.toRec.n x.t x.c x.l x.toRec.d
def recL (s : List UInt8) : Option Rrd := match wordsL s with
  | [a, b, c, d, e] => if (readN a).2 = 0 ∧ 0 ≤ numL b ∧ 0 ≤ numL c ∧ 0 ≤ numL d then (unhexL e).map fun x => ⟨mk (readN a).1, numL b, numL c, numL d, mk x⟩ else none
  | _ => none
theorem recL_five {s a b c d e : List UInt8} (h : wordsL s = [a, b, c, d, e]) : recL s = if (readN a).2 = 0 ∧ 0 ≤ numL b ∧ 0 ≤ numL c ∧ 0 ≤ numL d then (unhexL e).map fun x => ⟨mk (readN a).1, numL b, numL c, numL d, mk x⟩ else none := by
  unfold recL; rw [h]
theorem recL_other {s : List UInt8} (h : (wordsL s).length ≠ 5) : recL s = none := by
  unfold recL
  split
  · rename_i h2; rw [h2] at h; exact absurd rfl h
  · rfl
def recsL : List (List UInt8) → Option (List Rrd)
  | [] => some []
  | s :: r => match recL s with | none => none | some x => (recsL r).map (x :: ·)
def Lns (ls : List (List UInt8)) (acc : List Rrd) (k : Nat) : Prop := recsL ls = (recsL (ls.drop k)).map (acc ++ ·)
theorem Lns.start (ls : List (List UInt8)) : Lns ls [] 0 := by unfold Lns; cases h : recsL ls <;> simp [h]
theorem Lns.step {ls : List (List UInt8)} {acc : List Rrd} {k : Nat} {p : List UInt8} {r : Rrd} (h : Lns ls acc k) (hp : ls[k]? = some p) (ho : recL p = some r) : Lns ls (acc ++ [r]) (k + 1) := by
  have hk : k < ls.length := (List.getElem?_eq_some_iff.1 hp).1
  have e : ls[k] = p := (List.getElem?_eq_some_iff.1 hp).2
  unfold Lns at h ⊢
  rw [h, List.drop_eq_getElem_cons hk, e, recsL, ho]
  cases recsL (ls.drop (k + 1)) <;> simp
theorem Lns.fails {ls : List (List UInt8)} {acc : List Rrd} {k : Nat} {p : List UInt8} (h : Lns ls acc k) (hp : ls[k]? = some p) (ho : recL p = none) : recsL ls = none := by
  have hk : k < ls.length := (List.getElem?_eq_some_iff.1 hp).1
  have e : ls[k] = p := (List.getElem?_eq_some_iff.1 hp).2
  unfold Lns at h
  rw [h, List.drop_eq_getElem_cons hk, e, recsL, ho]
  rfl
theorem Lns.ends {ls : List (List UInt8)} {acc : List Rrd} (h : Lns ls acc ls.length) : recsL ls = some acc := by
  unfold Lns at h
  rw [h, List.drop_length, recsL]
  simp
theorem recsL_len : ∀ (ls : List (List UInt8)) (l : List Rrd), recsL ls = some l → l.length = ls.length := by
  intro ls
  induction ls with
  | nil => intro l h; simp [recsL] at h; subst h; rfl
  | cons s r ih =>
    intro l h
    rw [recsL] at h
    cases hx : recL s with
    | none => rw [hx] at h; cases h
    | some x =>
      rw [hx] at h
      cases hr : recsL r with
      | none => rw [hr] at h; cases h
      | some t => rw [hr] at h; simp at h; rw [← h, List.length_cons, List.length_cons, ih t hr]
theorem recL_low {s : List UInt8} {x : Rrd} (h : recL s = some x) : x.s.size ≤ 255 ∧ 2 * x.d.size ≤ s.length ∧ (0 ≤ x.t ∧ x.t < 10000000000) ∧ (0 ≤ x.c ∧ x.c < 10000000000) ∧ (0 ≤ x.l ∧ x.l < 10000000000) := by
  unfold recL at h
  split at h
  · rename_i a b c d e hw
    split at h
    · rename_i hc
      obtain ⟨c1, c2, c3, c4⟩ := hc
      cases hu : unhexL e with
      | none => rw [hu] at h; cases h
      | some z =>
        rw [hu] at h
        simp at h
        subst h
        have h1 := unhex_len _ e (Nat.le_refl _) z hu
        have h2 : e.length ≤ s.length := words_len e (by rw [hw]; simp)
        have h3 : (readN a).1.length ≤ 255 := by
          unfold readN at c1 ⊢
          cases hr : readL a with
          | none => simp
          | some L =>
            rw [hr] at c1
            simp only at c1 ⊢
            unfold ofN at c1 ⊢
            split at c1
            · simp at c1
            · split at c1
              · simp at c1
              · rename_i g1 g2
                rw [if_neg g1, if_neg g2]
                simp only
                omega
        refine ⟨by rw [mk_size]; exact h3, by rw [mk_size]; omega, ⟨c2, numL_lt b⟩, ⟨c3, numL_lt c⟩, ⟨c4, numL_lt d⟩⟩
    · cases h
  · cases h
end Go.Proofs.YtnbapaimpoobkaaGreatDoor
namespace Go.Proofs.YtnbapaimpoobkaaGreatDoor
open Go.RowKit Go.Op

theorem lineW_len (n d : List UInt8) (t c l : Int) (hd : d.length ≤ 70000) (ht : t < 10000000000) (hc : c < 10000000000) (hl : l < 10000000000) : (lineW n t c l d).length ≤ 150000 := by
  have h1 := textN_len n
  have nn : ∀ z : Int, z < 10000000000 → (decI z).length ≤ 10 := fun z hz => by unfold decI; exact dec_len (by omega)
  have h2 := nn t ht
  have h3 := nn c hc
  have h4 := nn l hl
  unfold lineW
  simp only [List.length_append, List.length_cons, hexL_len]
  omega
theorem five_join {g : Nat} {W : World} {a b c d e : List UInt8} (h : Whole W g 9 #[.string (mk a), .string (mk b), .string (mk c), .string (mk d), .string (mk e)]) : ∀ k x, [a, b, c, d, e][k]? = some x → W.cell? ⟨g, k, none⟩ = some (.string (mk x)) := by
  intro k x hx
  refine (h.cell k).trans ?_
  match k, hx with
  | 0, hx => simp at hx; subst hx; rfl
  | 1, hx => simp at hx; subst hx; rfl
  | 2, hx => simp at hx; subst hx; rfl
  | 3, hx => simp at hx; subst hx; rfl
  | 4, hx => simp at hx; subst hx; rfl
set_option maxHeartbeats 8000000 in
set_option maxRecDepth 20000 in
theorem lineOf_any (x : Rrd) (w : World) (he : Env w) (hn : x.toRec.n.length ≤ 1073741824) (ht : 0 ≤ x.t ∧ x.t < 10000000000) (hc : 0 ≤ x.c ∧ x.c < 10000000000) (hl : 0 ≤ x.l ∧ x.l < 10000000000) (hd : x.toRec.d.length ≤ 70000) :
    Calls Tryz.prog 43 #[.agg #[.string x.s, .int .i64 x.t, .int .i64 x.c, .int .i64 x.l, .string x.d]] w fun e w' => e = .returned (.string (mk (lineL x))) ∧ Below w.heap.size w w' := by
  obtain ⟨s, t, c, l, d⟩ := x
  have HS := Lib.hid (rrd_name ⟨s, t, c, l, d⟩)
  have HD := Lib.hid (rrd_data ⟨s, t, c, l, d⟩)
  obtain ⟨nn, hnn⟩ : ∃ nn, nn = (Rrd.mk s t c l d).toRec.n := ⟨_, rfl⟩
  obtain ⟨dd, hdd⟩ : ∃ dd, dd = (Rrd.mk s t c l d).toRec.d := ⟨_, rfl⟩
  have HLL := Lib.hid (show lineL ⟨s, t, c, l, d⟩ = Lib.join [textN nn, decI t, decI c, decI l, hexL dd] [32] by rw [join_five, hnn, hdd]; rfl)
  have HLN := Lib.hid (show (Lib.join [textN nn, decI t, decI c, decI l, hexL dd] [32]).length ≤ 1000000 by rw [join_five]; have := lineW_len nn dd t c l (by rw [hdd]; exact hd) ht.2 hc.2 hl.2; unfold lineW at this; omega)
  rw [← hnn] at HS hn
  rw [← hdd] at HD hd
  simp only at HS HD ht hc hl
  obtain ⟨t0, t1⟩ := ht
  obtain ⟨c0, c1⟩ := hc
  obtain ⟨l0, l1⟩ := hl
  obtain ⟨W, hW⟩ : ∃ W, W = w.alloc (.cells #[.string s, .int .i64 t, .int .i64 c, .int .i64 l, .string d] 27) := ⟨_, rfl⟩
  obtain ⟨g, hg⟩ : ∃ g, g = w.heap.size := ⟨_, rfl⟩
  have HB0 := Lib.hid (show Below w.heap.size w W by rw [hW]; exact (Below.refl _ _).alloc (Nat.le_refl _) _)
  have hWh : Whole W g 27 #[.string s, .int .i64 t, .int .i64 c, .int .i64 l, .string d] := by rw [hW, hg]; exact Whole.new w _ _
  have HE := Lib.hid (fun (W' : World) (h : Below W.heap.size W W') => (he.beyond HB0.out).beyond h)
  have q0 : ∀ W', Below W.heap.size W W' → W'.cell? ⟨g, 0, none⟩ = some (.string s) := fun W' h => (hWh.below h hWh.lt).cell 0
  have q1 : ∀ W', Below W.heap.size W W' → W'.cell? ⟨g, 1, none⟩ = some (.int .i64 t) := fun W' h => (hWh.below h hWh.lt).cell 1
  have q2 : ∀ W', Below W.heap.size W W' → W'.cell? ⟨g, 2, none⟩ = some (.int .i64 c) := fun W' h => (hWh.below h hWh.lt).cell 2
  have q3 : ∀ W', Below W.heap.size W W' → W'.cell? ⟨g, 3, none⟩ = some (.int .i64 l) := fun W' h => (hWh.below h hWh.lt).cell 3
  have q4 : ∀ W', Below W.heap.size W W' → W'.cell? ⟨g, 4, none⟩ = some (.string d) := fun W' h => (hWh.below h hWh.lt).cell 4
  have HWW := Lib.hid hW
  have HG := Lib.hid hg
  have HTXT := Lib.hid (fun (W' : World) (h : Below W.heap.size W W') => dotText_any s nn W' HS.out hn (HE.out W' h).wts)
  have HIT := Lib.hid (fun (W' : World) (h : Below W.heap.size W W') => Itoa_any t W' t0 (by omega) (HE.out W' h))
  have HIC := Lib.hid (fun (W' : World) (h : Below W.heap.size W W') => Itoa_any c W' c0 (by omega) (HE.out W' h))
  have HIL := Lib.hid (fun (W' : World) (h : Below W.heap.size W W') => Itoa_any l W' l0 (by omega) (HE.out W' h))
  have HPR := Lib.hid (fun (W' : World) => pairsOf_any d dd W' HD.out (by omega))
  generalize hT1 : textN nn = x1 at *
  generalize hT2 : decI t = x2 at *
  generalize hT3 : decI c = x3 at *
  generalize hT4 : decI l = x4 at *
  generalize hT5 : hexL dd = x5 at *
  clear hW hg he hWh hnn hdd t0 t1 c0 c1 l0 l1 hT1 hT2 hT3 hT4 hT5 hn hd
  go_enter Tryz.func43, Tryz.ntmps43
  go_wp2_with fail
  rw [← HWW.out, ← HG.out]
  have hb1 : Below W.heap.size W W.drew := (Below.refl _ _).drew
  go_region_held3 (fun w' => Below W.heap.size W w') (go_keep) (first
    | (go_at_call 93; (refine (HTXT.out _ hb1).mono ?_; rintro e w1 ⟨rfl, hB1⟩; have hT1 : Below W.heap.size W w1 := hb1.trans (hB1.mono hb1.size)))
    | (go_at_call 94; (refine (HIL.out _ hT3).mono ?_; rintro e w4 ⟨rfl, hB4⟩; have hT4 : Below W.heap.size W w4 := hT3.trans (hB4.mono hT3.size)))
    | (go_at_call 94; (refine (HIC.out _ hT2).mono ?_; rintro e w3 ⟨rfl, hB3⟩; have hT3 : Below W.heap.size W w3 := hT2.trans (hB3.mono hT2.size)))
    | (go_at_call 94; (refine (HIT.out _ hT1).mono ?_; rintro e w2 ⟨rfl, hB2⟩; have hT2 : Below W.heap.size W w2 := hT1.trans (hB2.mono hT1.size)))
    | (go_at_call 95; (refine (HPR.out _).mono ?_; rintro e w5 ⟨rfl, hB5⟩; have hT5 : Below W.heap.size W w5 := hT4.trans (hB5.mono hT4.size); have hN5 := Whole.new w5 9 #[.string (mk x1), .string (mk x2), .string (mk x3), .string (mk x4), .string (mk x5)]; have hA5 : Below W.heap.size W (w5.alloc (.cells #[.string (mk x1), .string (mk x2), .string (mk x3), .string (mk x4), .string (mk x5)] 9)) := hT5.alloc hT5.size _))
    | (go_at_call 92; (refine (JoinS_any w5.heap.size 5 5 [x1, x2, x3, x4, x5] _ rfl (Nat.le_refl _) hN5.lt (five_join hN5) (by decide) HLN.out).mono ?_; rw [← HLL.out]; rintro e w6 ⟨rfl, hB6⟩; have hT6 : Below W.heap.size W w6 := hA5.trans (hB6.mono hA5.size))))
  all_goals (
    have HBF := Lib.hid (HB0.out.trans (hT6.mono HB0.out.size))
    go_wp2_with fail
    go_ret
    exact ⟨rfl, HBF.out⟩)

theorem ok_nums {x : Rrd} (h : OkX x) : (0 ≤ x.t ∧ x.t < 10000000000) ∧ (0 ≤ x.c ∧ x.c < 10000000000) ∧ (0 ≤ x.l ∧ x.l < 10000000000) ∧ x.toRec.n.length ≤ 1073741824 ∧ x.toRec.d.length ≤ 70000 := by
  have h2 := h.name
  have h3 := h.data
  obtain ⟨_, h4, h5, h6, _⟩ := ok_parts h.1
  have e1 : x.toRec.t = x.t := rfl
  have e2 : x.toRec.c = x.c := rfl
  have e3 : x.toRec.l = x.l := rfl
  refine ⟨⟨?_, ?_⟩, ⟨?_, ?_⟩, ⟨?_, ?_⟩, ?_, ?_⟩ <;> omega
def lineS (x : Rrd) : ByteArray := mk (lineL x)
set_option maxHeartbeats 8000000 in
set_option maxRecDepth 20000 in
theorem Lines_any (N : ByteArray) (D : List Rrd) (z : Value) (w : World) (hz : ZoneAt w w.heap.size N D z) (hD : D.length ≤ 100000) (hok : OkL D) (he : Env w) :
    Calls Tryz.prog 16 #[z] w fun e w' => ∃ u, e = .returned u ∧ w'.ownsRow w.heap.size 9 1 u D.length (texts (D.map lineS)) ∧ Below w.heap.size w w' := by
  obtain ⟨m, hm⟩ : ∃ m, m = D.length := ⟨_, rfl⟩
  have HZA := Lib.hid hz
  have HOKL := Lib.hid hok
  have HE := Lib.hid he
  obtain ⟨A, c, s, rfl, _, _, _⟩ := hz
  obtain ⟨W0, hW0⟩ : ∃ W0, W0 = w.alloc (.cells #[.string N, .slice A D.length c, .string s.s, .int .i64 s.t, .int .i64 s.c, .int .i64 s.l, .string s.d] zoT) := ⟨_, rfl⟩
  have HB0 := Lib.hid (show Below w.heap.size w W0 by rw [hW0]; exact (Below.refl _ _).alloc (Nat.le_refl _) _)
  have HX0 := Lib.hid (show Whole W0 w.heap.size zoT #[.string N, .slice A D.length c, .string s.s, .int .i64 s.t, .int .i64 s.c, .int .i64 s.l, .string s.d] by rw [hW0]; exact Whole.new w zoT _)
  have HW0 := Lib.hid hW0
  have HM := Lib.hid hm
  clear hW0 hok he
  obtain ⟨d0, d1, d2, d3, d4, d5, d6⟩ := zo_facts HX0.out
  rw [← hm] at hD
  clear hm
  go_enter Tryz.func16, Tryz.ntmps16
  go_wp2_with fail
  rw [← HW0.out]
  go_wp2_with fail
  refine (All_any N D _ _ (HZA.out.later HB0.out) (by rw [← HM.out]; omega)).mono ?_
  rintro e w4 ⟨u, rfl, hown, hB4⟩
  have HB4 := Lib.hid (HB0.out.trans (hB4.mono HB0.out.size))
  obtain ⟨R, hRR⟩ : ∃ R, R = W0.heap.size := ⟨_, rfl⟩
  rw [← hRR, ← HM.out] at hown
  obtain ⟨A4, k4, rfl, hs4⟩ := SeesR.own hown
  have HS4 := Lib.hid hs4
  clear hown hB4 hs4 hRR d0 d1 d2 d3 d4 d5 d6
  go_wp2_with fail
  rw [← HM.out]
  go_loopw [3, 9] (fun v i wr => ∃ k : Nat, k ≤ m ∧ i = .int .i64 (k : Nat) ∧ wr.ownsRow w4.heap.size 9 1 v k (texts ((D.take k).map lineS)) ∧ Below w4.heap.size w4 wr) (fun _ i _ => m - (intOf i).toNat)
  case atStart => exact ⟨0, Nat.zero_le _, rfl, World.ownsRow_nil _ _ _ _, Below.refl _ _⟩
  case round =>
    obtain ⟨k, hk, rfl, hO, hBw⟩ := hrel
    have HO := Lib.hid hO
    have HB := Lib.hid hBw
    have HSR := Lib.hid ((HS4.out.keep hBw).more hBw.size)
    obtain ⟨i0, hi0, hz0, hz1, hz2⟩ := info_parts text_info
    have H63 : Hid (k + 1 ≤ maxLen) := Lib.hid (by unfold maxLen; omega)
    have H47 : Hid ((k + 1) * 16 ≤ 140737488355328) := Lib.hid (by omega)
    clear hO hBw
    by_cases hkN : k < m
    · have g1 : (k : Int) < (m : Int) := by omega
      have g0 : (0 : Int) ≤ (k : Int) := by omega
      obtain ⟨b, off, x, rfl, hb, hxk, hx5⟩ := HSR.out.at hkN
      have HXK := Lib.hid hxk
      obtain ⟨x0, x1, x2, x3, x4⟩ := hx5
      obtain ⟨n1, n2, n3, n4, n5⟩ := ok_nums (HOKL.out x (List.mem_of_getElem? hxk))
      have hHX := Whole.new wr rrT (rrA x.s x.d x.t x.c x.l)
      obtain ⟨d0, d1, d2, d3, d4⟩ := rr_facts hHX
      have HBA := Lib.hid (show Below wr.heap.size wr (wr.alloc (.cells #[.string x.s, .int .i64 x.t, .int .i64 x.c, .int .i64 x.l, .string x.d] rrT)) from (Below.refl _ _).alloc (Nat.le_refl _) _)
      have HTK := Lib.hid (show texts ((D.take (k + 1)).map lineS) = texts ((D.take k).map lineS) ++ [.string (lineS x)] by rw [List.take_add_one, hxk]; simp [texts])
      have HLO := Lib.hid (fun (W' : World) (h : Env W') => (lineOf_any x W' h n4 n1 n2 n3 n5))
      clear hHX hxk n1 n2 n3 n4 n5
      unfold rrA at *
      go_wp2_with fail
      refine (HLO.out _ ((HE.out.beyond HB4.out).beyond (HB.out.trans (HBA.out.mono HB.out.size)))).mono ?_
      rintro e w6 ⟨rfl, hB6⟩
      have HB6 := Lib.hid (HBA.out.trans (hB6.mono HBA.out.size))
      clear hB6 x0 x1 x2 x3 x4 d0 d1 d2 d3 d4
      go_wp2_with (at_builtin; refine wpList_append_own _ rfl _ _ 37 rfl w4.heap.size 9 i0 (.string ⟨#[]⟩) 1 16 Tryz.underlying37 hi0 hz0 hz1 hz2 rfl (by decide) _ _ _ rfl ((own_below HO.out HB6.out).alloc _) ⟨w6.heap.size, 0, none⟩ 1 1 [.string (mk (lineL x))] rfl rfl (news1 _ _ _) (one1 _ rfl) H63.out H47.out (by have := HB.out.size; have := HB6.out.size; simp; omega) ?_; intro v2 w2 hown2 hgrow _)
      have HO3 := Lib.hid (show w2.ownsRow w4.heap.size 9 1 v2 (k + 1) (texts ((D.take (k + 1)).map lineS)) by rw [HTK.out]; exact hown2)
      have HA6 := Lib.hid (HB6.out.alloc HB6.out.size (.cells #[.string (mk (lineL x))] 9))
      have HB2 := Lib.hid ((HB.out.trans (HA6.out.mono HB.out.size)).grown hgrow (by have := HB.out.size; have := HA6.out.size; omega) (fun j hj => (HO.out.lt j hj).1))
      clear hown2 hgrow
      go_roundw
      case rel => exact ⟨k + 1, by omega, by go_num, HO3.out, HB2.out⟩
      case measure => simp [intOf]; omega
    · obtain rfl : k = m := by omega
      have HE := Lib.hid (show D.take k = D by rw [HM.out, List.take_length])
      go_wp2_with fail
      go_ret
      exact ⟨_, rfl, by have h := own_less HO.out HB4.out.size; rw [HE.out] at h; rw [← HM.out]; exact h, HB4.out.trans (HB.out.mono HB4.out.size)⟩
end Go.Proofs.YtnbapaimpoobkaaGreatDoor
