/- LoB: texts LogT, LogS, LogD of our own, joined. No statement of the seat is proved here. -/
import Derived.Test.YtggognnjnfphgaaGreatDoorLoA
import Derived.Deep.DeepCutAuto
import Derived.Laws.Rows
import Derived.Test.YtggognnjnfphgaaGreatDoorNaE
import Derived.StillTailTactics
namespace Go.Proofs.YtggognnjnfphgaaGreatDoor
open Go.RowKit Go.Maps Go.Sort

theorem to_of (l : List Rec) : (l.map ofRec).map Rrd.toRec = l := by
  induction l with
  | nil => rfl
  | cons r l ih =>
    rw [List.map_cons, List.map_cons, ih]
    congr 1
def evOf (E : Ent) (A1 : Option Addr) (n1 c1 : Nat) (A2 : Option Addr) (n2 c2 : Nat) : Ev := ⟨E.f, E.t, A1, n1, c1, E.xs.map ofRec, A2, n2, c2, E.ys.map ofRec⟩
theorem evOf_ent (E : Ent) (A1 : Option Addr) (n1 c1 : Nat) (A2 : Option Addr) (n2 c2 : Nat) : (evOf E A1 n1 c1 A2 n2 c2).ent = E := by
  unfold evOf Ev.ent entOf
  rw [to_of, to_of]
theorem seesV_of {B : Nat} {w : World} {E : Ent} {A1 A2 : Option Addr} {n1 c1 n2 c2 : Nat} (h1 : SeesR w w.heap.size A1 n1 (E.xs.map ofRec)) (h2 : SeesR w w.heap.size A2 n2 (E.ys.map ofRec)) (t1 : TyR w A1 rrT) (t2 : TyR w A2 rrT) : SeesV B w (evOf E A1 n1 c1 A2 n2 c2) :=
  ⟨⟨h1, fun _ b off sp e => .inr (t1 b off sp e)⟩, ⟨h2, fun _ b off sp e => .inr (t2 b off sp e)⟩⟩
set_option maxRecDepth 20000 in
theorem step_append_E {w : World} {ops : Array Oper} {o : Oper} {a : Act} {K : Act → World → Prop} {Q : Exit → Act → World → Prop} {E : Prop} (hgd : o.guard = none) (s x : Operand)
    (ho : o.op = .call { callee := .builtin .append, args := #[s, x], argTypes := #[26, 26] }) (base : Nat) (v : Value) (vs : List Ev) (n : Nat) (hs : a.eval s = v) (hown : w.ownsRow base enT 4 v n (ecells vs))
    (G c : Nat) (y : Ev) (hx : a.eval x = .slice (some ⟨G, 0, none⟩) 1 c) (hG : Whole w G enT y.arr) (hlen : n + 1 ≤ 1000000) (hbase : base ≤ w.heap.size) (H : Nat) (hH : w.heap.size = H)
    (h : ∀ g cap w', w'.ownsRow base enT 4 (.slice (some ⟨g, 0, none⟩) (n + 1) cap) (n + 1) (ecells (vs ++ [y])) → w.grownBy w' v.ownBlock → (v.ownBlock = some g ∨ g = H) → g < w'.heap.size → K (a.put o.dst (.slice (some ⟨g, 0, none⟩) (n + 1) cap)) w') :
    if Region.wanted o (yielded ops a.tmps) = true then Oper.wp Tryz.prog o a w K Q else E := by
  obtain ⟨i, hi, hz0, hz1, hz2⟩ := info_parts en_info
  refine step_append_lies w hgd s x 26 ho base enT i _ 4 56 Tryz.underlying26 hi hz0 hz1 hz2 rfl (by decide) v n (ecells vs) hs hown ⟨G, 0, none⟩ 1 c (ecells [y]) hx (by simp [ecells_len]) (ev_news hG) (ecells_plain _) (by decide) (by unfold maxLen; omega) (by omega) hbase H hH ?_
  intro g cap w' h1 h2 h3 h4
  exact h g cap w' (by rw [ecells_append]; exact h1) h2 h3 h4
/-- what a call of take has done that took -/
def Taken (o B R g : Nat) (w w' : World) (T : Nat) (cs : Array Value) (v : Value) (vs : List Ev) (n en : Nat) (S : ByteArray) (E : Ent) : Prop :=
  ∃ (x : Ev) (v' : Value), x.ent = E ∧ Whole w' g T ((cs.setIfInBounds o v').setIfInBounds (o + 1) (.int .i64 ((en : Int) + (8 + (S.size : Int))))) ∧ w'.ownsRow R enT 4 v' (n + 1) (ecells (vs ++ [x])) ∧ SeesVs B w' (vs ++ [x]) ∧
    (∀ k, v'.ownBlock = some k → v.ownBlock = some k ∨ w.heap.size ≤ k) ∧ KeptA (fun k => k = g ∨ v.ownBlock = some k) w w'
theorem whole_apart {w : World} {g T : Nat} {cs : Array Value} {base n : Nat} {v : Value} {xs : List Value} (hW : Whole w g T cs) (hT : T ≠ enT) (ho : w.ownsRow base enT 4 v n xs) : some g ≠ v.ownBlock := by
  intro e
  have h1 := own_typ ho e.symm
  rw [whole_typ hW] at h1
  exact hT h1
/-- .. ahead of the last store -/
def Mid (o B R g : Nat) (w w' : World) (T : Nat) (cs : Array Value) (v v' : Value) (vs : List Ev) (n : Nat) (E : Ent) : Prop :=
  ∃ x : Ev, x.ent = E ∧ Whole w' g T (cs.setIfInBounds o v') ∧ w'.ownsRow R enT 4 v' (n + 1) (ecells (vs ++ [x])) ∧ SeesVs B w' (vs ++ [x]) ∧
    (∀ k, v'.ownBlock = some k → v.ownBlock = some k ∨ w.heap.size ≤ k) ∧ KeptA (fun k => k = g ∨ v.ownBlock = some k) w w'
theorem set_own {w : World} {g T base n : Nat} {cs : Array Value} {v : Value} {xs : List Value} (hW : Whole w g T cs) (hT : T ≠ enT) (h : w.ownsRow base enT 4 v n xs) (o : Nat) (u : Value) : (w.setCell ⟨g, o, none⟩ u).ownsRow base enT 4 v n xs :=
  own_keepT h (dkGset w ⟨g, o, none⟩ u) fun x hx => by injection hx with hx; subst hx; rw [whole_typ hW]; exact hT
theorem mid_of {o B R g n gg cap : Nat} {w w3 w5 : World} {T : Nat} {cs : Array Value} {v : Value} {vs : List Ev} {E : Ent} {x : Ev} {C : Obj} (hE : x.ent = E) (hBR : B ≤ R) (hBg : R ≤ g) (hT : T ≠ enT) (hTr : T ≠ rrT) (hB3 : Below w.heap.size w w3) (hW3 : Whole w3 g T cs) (hR3 : w3.ownsRow R enT 4 v n (ecells vs))
    (hS3 : SeesVs B w3 vs) (hV3 : SeesV B w3 x) (hW5 : Whole w5 g T cs) (hown : w5.ownsRow R enT 4 (.slice (some ⟨gg, 0, none⟩) (n + 1) cap) (n + 1) (ecells (vs ++ [x]))) (hgrow : (w3.alloc C).drew.grownBy w5 v.ownBlock) (hat : v.ownBlock = some gg ∨ gg = w3.heap.size + 1) :
    Mid o B R g w (w5.setCell ⟨g, o, none⟩ (.slice (some ⟨gg, 0, none⟩) (n + 1) cap)) T cs v (.slice (some ⟨gg, 0, none⟩) (n + 1) cap) vs n E := by
  have hg1 : KeptA (fun k => k = g ∨ v.ownBlock = some k) (w3.alloc C).drew w5 := .of_grown hgrow fun k hk => .inr hk
  have hk3 : KeptA (fun k => k = g ∨ v.ownBlock = some k) w3 (w5.setCell ⟨g, o, none⟩ (.slice (some ⟨gg, 0, none⟩) (n + 1) cap)) :=
    ((((KeptA.refl _ w3).alloc C).drew).trans hg1).setCell (.inl rfl) o _
  have hXR : ∀ k, (k = g ∨ v.ownBlock = some k) → R ≤ k := by
    rintro k (rfl | hk)
    · exact hBg
    · exact own_block_ge hR3 k hk
  refine ⟨x, hE, hW5.put o _, set_own hW5 hT hown o _, (hS3.snoc hV3).keepR hBR (hk3.keptX hXR) ?_, ?_, (KeptA.of_below _ hB3).trans hk3⟩
  · rintro k (rfl | hk)
    · rw [whole_typ hW3]; exact hTr
    · rw [own_typ hR3 hk]; decide
  · intro k hk
    have : gg = k := by simpa [Value.ownBlock] using hk
    subst this
    rcases hat with h | h
    · exact .inl h
    · exact .inr (by have := hB3.size; omega)
theorem taken_of {o B R g n en : Nat} {w w6 : World} {T : Nat} {cs : Array Value} {v v' : Value} {vs : List Ev} {S : ByteArray} {E : Ent} (hBR : B ≤ R) (hBg : R ≤ g) (hT : T ≠ enT) (hTr : T ≠ rrT) (h : Mid o B R g w w6 T cs v v' vs n E) (hg : g < w.heap.size) :
    Taken o B R g w (w6.setCell ⟨g, o + 1, none⟩ (.int .i64 ((en : Int) + (8 + (S.size : Int))))) T cs v vs n en S E := by
  obtain ⟨x, h1, h2, h3, h4, h5, h6⟩ := h
  have hk : KeptX R (fun k => k = g) w6 (w6.setCell ⟨g, o + 1, none⟩ (.int .i64 ((en : Int) + (8 + (S.size : Int))))) := (KeptX.refl R (fun k => k = g) w6).setCell hBg (fun _ => rfl) _ _
  refine ⟨x, v', h1, h2.put (o + 1) _, set_own h2 hT h3 _ _, h4.keepR hBR hk ?_, h5, h6.setCell (.inl rfl) _ _⟩
  rintro k rfl
  rw [whole_typ h2]; exact hTr
theorem Mid.drew {o B R g n : Nat} {w w6 : World} {T : Nat} {cs : Array Value} {v v' : Value} {vs : List Ev} {E : Ent} (h : Mid o B R g w w6 T cs v v' vs n E) : Mid o B R g w w6.drew T cs v v' vs n E := by
  obtain ⟨x, h1, h2, h3, h4, h5, h6⟩ := h
  exact ⟨x, h1, h2.drew, h3, h4.keepX (X := fun _ => False) (KeptX.refl B _ w6).drew (fun _ h => h.elim), h5, h6.drew⟩
theorem Size_same (S : ByteArray) (w : World) (hs : S.size ≤ 1073741824) : Calls Tryz.prog 72 #[.string S] w fun e w' => e = .returned (.int .i64 (8 + (S.size : Int))) ∧ w' = w :=
  (Size_any S w hs).mono fun _ _ ⟨h1, h2⟩ => ⟨h1, h2.symm⟩
theorem next_cell {cs : Array Value} {o : Nat} {u v : Value} (h : cs[o + 1]? = some u) : (cs.setIfInBounds o v)[o + 1]? = some u := by
  rw [Array.getElem?_setIfInBounds, if_neg (by omega), h]

set_option maxHeartbeats 4000000 in
set_option maxRecDepth 20000 in
theorem take_no_0 {B g n : Nat} {w : World} {v : Value} {vs : List Ev} (hc : w.cell? ⟨g, 0, none⟩ = some v) (hr : w.ownsRow B enT 4 v n (ecells vs)) (S : ByteArray) (hS : S.size ≤ 800000) (hn : n ≤ 1000000)
    (hno : ofE S = none ∨ ∃ E, ofE S = some E ∧ goesE (lastT (vs.map Ev.ent)) E.f = false) :
    Calls Tryz.prog 45 #[.pointer (some ⟨g, 0, none⟩), .string S] w fun e w' => e = .returned (.bool false) ∧ Below w.heap.size w w' := by
  have hgl : g < w.heap.size := World.block_lt_of_cell? w _ hc
  have HC := Lib.hid hc
  have HR := Lib.hid hr
  clear hc hr
  rcases hno with ho | ⟨E, ho, hg⟩
  · have HE := Lib.hid (show errO (ofE S) = .int .i64 2 by rw [ho]; rfl)
    clear ho
    go_enter Tryz.func45, Tryz.ntmps45
    go_wp2_with fail
    refine (Of_any S _ hS).mono ?_
    unfold OfLeaves
    rw [HE.out]
    rintro e w1 ⟨A1, n1, c1, A2, n2, c2, rfl, _, _, hB, _, _⟩
    obtain ⟨F, hF⟩ : ∃ F, F = ((ofE S).getD zeroE).f := ⟨_, rfl⟩
    obtain ⟨T, hT⟩ : ∃ F, F = ((ofE S).getD zeroE).t := ⟨_, rfl⟩
    rw [← hF, ← hT]
    unfold enA
    have HB := Lib.hid hB
    clear hB hF hT
    go_wp2_with fail
    go_ret
    exact ⟨rfl, HB.out.alloc HB.out.size _⟩
  · have HE := Lib.hid (show errO (ofE S) = .int .i64 0 by rw [ho]; rfl)
    have HO := Lib.hid (show (ofE S).getD zeroE = E by rw [ho]; rfl)
    have HG := Lib.hid hg
    clear ho hg
    go_enter Tryz.func45, Tryz.ntmps45
    go_wp2_with fail
    refine (Of_any S _ hS).mono ?_
    unfold OfLeaves
    rw [HE.out, HO.out]
    rintro e w1 ⟨A1, n1, c1, A2, n2, c2, rfl, _, _, hB, _, _⟩
    unfold enA
    have hb2 : Below w.heap.size w (w1.alloc (.cells #[.int .u32 E.f, .int .u32 E.t, .slice A1 n1 c1, .slice A2 n2 c2] enT)) := hB.alloc hB.size _
    have HB2 := Lib.hid hb2
    have HGO := Lib.hid (by have := goesOn_0 ((hb2.cell (p := ⟨g, 0, none⟩) hgl).trans HC.out) (own_below HR.out hb2) (evOf E A1 n1 c1 A2 n2 c2) hn; rw [show (evOf E A1 n1 c1 A2 n2 c2).f = E.f from rfl, HG.out] at this; exact this :
      Calls Tryz.prog 42 #[.pointer (some ⟨g, 0, none⟩), .agg #[.int .u32 E.f, .int .u32 E.t, .slice A1 n1 c1, .slice A2 n2 c2]] (w1.alloc (.cells #[.int .u32 E.f, .int .u32 E.t, .slice A1 n1 c1, .slice A2 n2 c2] enT)) fun e w' => e = .returned (.bool false) ∧ Below (w1.alloc (.cells #[.int .u32 E.f, .int .u32 E.t, .slice A1 n1 c1, .slice A2 n2 c2] enT)).heap.size (w1.alloc (.cells #[.int .u32 E.f, .int .u32 E.t, .slice A1 n1 c1, .slice A2 n2 c2] enT)) w')
    clear hB hb2
    go_wp2_with fail
    refine Calls.mono HGO.out ?_
    rintro e w3 ⟨rfl, hB3⟩
    have HB3 := Lib.hid (HB2.out.trans (hB3.mono HB2.out.size))
    clear hB3
    go_wp2_with fail
    go_ret
    exact ⟨rfl, HB3.out⟩

set_option maxHeartbeats 8000000 in
set_option maxRecDepth 20000 in
theorem take_yes_0 {B R g n en : Nat} {w : World} {v : Value} {vs : List Ev} {T : Nat} {cs : Array Value} (hW : Whole w g T cs) (h0 : cs[0]? = some v) (h1 : cs[1]? = some (.int .i64 (en : Nat))) (hT : T ≠ enT) (hTr : T ≠ rrT) (hr : w.ownsRow R enT 4 v n (ecells vs)) (hs : SeesVs B w vs) (S : ByteArray) (hS : S.size ≤ 800000) (hn : n ≤ 100000) (hen : en ≤ 100000000)
    (hBR : B ≤ R) (_hB : R ≤ w.heap.size) (hBg : R ≤ g) {E : Ent} (ho : ofE S = some E) (hg : goesE (lastT (vs.map Ev.ent)) E.f = true) :
    Calls Tryz.prog 45 #[.pointer (some ⟨g, 0, none⟩), .string S] w fun e w' => e = .returned (.bool true) ∧ Taken 0 B R g w w' T cs v vs n en S E := by
  have hgl : g < w.heap.size := hW.lt
  have hc : w.cell? ⟨g, 0, none⟩ = some v := (hW.cell 0).trans h0
  have HR := Lib.hid hr
  have HW := Lib.hid hW
  have HS := Lib.hid hs
  have H0 := Lib.hid h0
  have H1 := Lib.hid h1
  have HE := Lib.hid (show errO (ofE S) = .int .i64 0 by rw [ho]; rfl)
  have HO := Lib.hid (show (ofE S).getD zeroE = E by rw [ho]; rfl)
  have HG := Lib.hid hg
  have HC := Lib.hid hc
  have HT := Lib.hid hT
  have HTR := Lib.hid hTr
  clear ho hg hr hW hs h0 h1 hc hT hTr
  go_enter Tryz.func45, Tryz.ntmps45
  go_wp2_with fail
  refine (Of_any S _ hS).mono ?_
  unfold OfLeaves
  rw [HE.out, HO.out]
  rintro e w1 ⟨A1, n1, c1, A2, n2, c2, rfl, s1, s2, hB1, t1, t2⟩
  unfold enA
  have hb2 : Below w.heap.size w (w1.alloc (.cells #[.int .u32 E.f, .int .u32 E.t, .slice A1 n1 c1, .slice A2 n2 c2] enT)) := hB1.alloc hB1.size _
  have HB2 := Lib.hid hb2
  have HX2 := Lib.hid (Whole.new w1 enT (evOf E A1 n1 c1 A2 n2 c2).arr)
  have HV1 := Lib.hid (seesV_of (B := B) (c1 := c1) (c2 := c2) s1 s2 t1 t2)
  have HGO := Lib.hid (by have := goesOn_0 ((hb2.cell (p := ⟨g, 0, none⟩) hgl).trans HC.out) (own_below HR.out hb2) (evOf E A1 n1 c1 A2 n2 c2) (by omega); rw [show (evOf E A1 n1 c1 A2 n2 c2).f = E.f from rfl, HG.out] at this; exact this :
    Calls Tryz.prog 42 #[.pointer (some ⟨g, 0, none⟩), .agg #[.int .u32 E.f, .int .u32 E.t, .slice A1 n1 c1, .slice A2 n2 c2]] (w1.alloc (.cells #[.int .u32 E.f, .int .u32 E.t, .slice A1 n1 c1, .slice A2 n2 c2] enT)) fun e w' => e = .returned (.bool true) ∧ Below (w1.alloc (.cells #[.int .u32 E.f, .int .u32 E.t, .slice A1 n1 c1, .slice A2 n2 c2] enT)).heap.size (w1.alloc (.cells #[.int .u32 E.f, .int .u32 E.t, .slice A1 n1 c1, .slice A2 n2 c2] enT)) w')
  have hw1 : w.heap.size ≤ w1.heap.size := hB1.size
  have HV2 := Lib.hid (HV1.out.keep ((Below.refl w1.heap.size w1).alloc (Nat.le_refl _) (.cells #[.int .u32 E.f, .int .u32 E.t, .slice A1 n1 c1, .slice A2 n2 c2] enT)))
  clear hB1 hb2 s1 s2 t1 t2 HV1
  go_wp2_with fail
  refine Calls.mono HGO.out ?_
  rintro e w3 ⟨rfl, hB3⟩
  have HB3 := Lib.hid (HB2.out.trans (hB3.mono HB2.out.size))
  have HX3 := Lib.hid (HX2.out.below hB3 HX2.out.lt)
  have HV3 := Lib.hid (HV2.out.keep hB3)
  have HW3 := Lib.hid (HW.out.below HB3.out hgl)
  have HR3 := Lib.hid (own_below HR.out HB3.out)
  have HS3 := Lib.hid (HS.out.keep HB3.out)
  have hw3 : w.heap.size ≤ w3.heap.size := HB3.out.size
  have c0 : w3.cell? ⟨g, 0, none⟩ = some v := (HW3.out.cell 0).trans H0.out
  obtain ⟨x0, x1, x2, x3⟩ := (show w3.cell? ⟨w1.heap.size, 0, none⟩ = some (.int .u32 E.f) ∧ w3.cell? ⟨w1.heap.size, 1, none⟩ = some (.int .u32 E.t) ∧ w3.cell? ⟨w1.heap.size, 2, none⟩ = some (.slice A1 n1 c1) ∧ w3.cell? ⟨w1.heap.size, 3, none⟩ = some (.slice A2 n2 c2) from ev_facts HX3.out)
  clear hB3 HX2 HV2 HGO
  go_wp2_with fail
  have HW4 := Lib.hid (HW3.out.alloc (.cells #[.int .u32 E.f, .int .u32 E.t, .slice A1 n1 c1, .slice A2 n2 c2] enT))
  have c4 : (w3.alloc (.cells #[.int .u32 E.f, .int .u32 E.t, .slice A1 n1 c1, .slice A2 n2 c2] enT)).cell? ⟨g, 0, none⟩ = some v := (HW4.out.cell 0).trans H0.out
  have HR4 := Lib.hid (HR3.out.alloc (.cells #[.int .u32 E.f, .int .u32 E.t, .slice A1 n1 c1, .slice A2 n2 c2] enT))
  have HX4 := Lib.hid (show Whole (w3.alloc (.cells #[.int .u32 E.f, .int .u32 E.t, .slice A1 n1 c1, .slice A2 n2 c2] enT)) w3.heap.size enT (evOf E A1 n1 c1 A2 n2 c2).arr from Whole.new w3 enT (evOf E A1 n1 c1 A2 n2 c2).arr)
  have HAP := Lib.hid (whole_apart HW4.out HT.out HR4.out)
  have HBW := Lib.hid (show R ≤ (w3.alloc (.cells #[.int .u32 E.f, .int .u32 E.t, .slice A1 n1 c1, .slice A2 n2 c2] enT)).heap.size by rw [World.size_alloc]; omega)
  go_cut [] (fun wx => ∃ v', Mid 0 B R g w wx T cs v v' vs n E)
  case first =>
    go_region_law (first | (refine step_append_E rfl _ _ rfl R v vs n rfl HR4.out w3.heap.size 1 (evOf E A1 n1 c1 A2 n2 c2) rfl HX4.out (by omega) HBW.out (w3.heap.size + 1) (by simp) ?_; intro gg cap w5 hown5 hgrow5 hat hlt5; have q0 := (HW4.out.drew).grown hgrow5 HAP.out; have c5 : w5.cell? ⟨g, 0, none⟩ = some v := (q0.cell 0).trans H0.out; have f5 := q0.frozen 0))
    all_goals
      have HM := Lib.hid (mid_of (o := 0) (evOf_ent E A1 n1 c1 A2 n2 c2) hBR hBg HT.out HTR.out HB3.out HW3.out HR3.out HS3.out HV3.out q0 hown5 hgrow5 hat)
      clear hown5 hgrow5 hat hlt5 q0 c5 f5
      go_wp2_with fail
      go_meet
      exact ⟨_, HM.out⟩
  case rest =>
    obtain ⟨v', hM⟩ := hcut
    obtain ⟨x, m1, m2, m3⟩ := hM
    have c6 : wc.cell? ⟨g, 1, none⟩ = some (.int .i64 (en : Nat)) := (m2.cell 1).trans (next_cell (o := 0) H1.out)
    have f6 := m2.frozen 1
    have HM := Lib.hid (show Mid 0 B R g w wc T cs v v' vs n E from ⟨x, m1, m2, m3⟩)
    clear m1 m2 m3 x0 x1 x2 x3 c0 HX3 HV3 HW3 HR3 HS3 HW4 c4 HR4 HX4
    go_wp2_with fail
    have c7 : wc.drew.cell? ⟨g, 1, none⟩ = some (.int .i64 (en : Nat)) := c6
    have gI : (en : Int) ≤ 100000000 := by omega
    have gS : (S.size : Int) ≤ 800000 := by omega
    have HSZ := Lib.hid (fun W => Size_same S W (by omega))
    refine wp_region_still_tail 9 (by kernel_rfl) (by kernel_rfl) ?_
    simp only [List.take_succ_cons, List.take_zero, List.drop_succ_cons, List.drop_zero]
    repeat still_step
    still_call (HSZ.out _)
    repeat still_step
    refine wpStill_nil ?_
    change wpList _ _ _ _ _ wc.drew
    have f7 : wc.drew.frozen? ⟨g, 1, none⟩ = false := f6
    have HM7 := Lib.hid (HM.out.drew)
    generalize wc.drew = wd at f7 c7 HM7 ⊢
    go_wp2_with fail
    go_ret
    exact ⟨rfl, taken_of hBR hBg HT.out HTR.out HM7.out hgl⟩

set_option maxHeartbeats 4000000 in
set_option maxRecDepth 20000 in
theorem take_no_2 {B g n : Nat} {w : World} {v : Value} {vs : List Ev} (hc : w.cell? ⟨g, 2, none⟩ = some v) (hr : w.ownsRow B enT 4 v n (ecells vs)) (S : ByteArray) (hS : S.size ≤ 800000) (hn : n ≤ 1000000)
    (hno : ofE S = none ∨ ∃ E, ofE S = some E ∧ goesE (lastT (vs.map Ev.ent)) E.f = false) :
    Calls Tryz.prog 45 #[.pointer (some ⟨g, 2, none⟩), .string S] w fun e w' => e = .returned (.bool false) ∧ Below w.heap.size w w' := by
  have hgl : g < w.heap.size := World.block_lt_of_cell? w _ hc
  have HC := Lib.hid hc
  have HR := Lib.hid hr
  clear hc hr
  rcases hno with ho | ⟨E, ho, hg⟩
  · have HE := Lib.hid (show errO (ofE S) = .int .i64 2 by rw [ho]; rfl)
    clear ho
    go_enter Tryz.func45, Tryz.ntmps45
    go_wp2_with fail
    refine (Of_any S _ hS).mono ?_
    unfold OfLeaves
    rw [HE.out]
    rintro e w1 ⟨A1, n1, c1, A2, n2, c2, rfl, _, _, hB, _, _⟩
    obtain ⟨F, hF⟩ : ∃ F, F = ((ofE S).getD zeroE).f := ⟨_, rfl⟩
    obtain ⟨T, hT⟩ : ∃ F, F = ((ofE S).getD zeroE).t := ⟨_, rfl⟩
    rw [← hF, ← hT]
    unfold enA
    have HB := Lib.hid hB
    clear hB hF hT
    go_wp2_with fail
    go_ret
    exact ⟨rfl, HB.out.alloc HB.out.size _⟩
  · have HE := Lib.hid (show errO (ofE S) = .int .i64 0 by rw [ho]; rfl)
    have HO := Lib.hid (show (ofE S).getD zeroE = E by rw [ho]; rfl)
    have HG := Lib.hid hg
    clear ho hg
    go_enter Tryz.func45, Tryz.ntmps45
    go_wp2_with fail
    refine (Of_any S _ hS).mono ?_
    unfold OfLeaves
    rw [HE.out, HO.out]
    rintro e w1 ⟨A1, n1, c1, A2, n2, c2, rfl, _, _, hB, _, _⟩
    unfold enA
    have hb2 : Below w.heap.size w (w1.alloc (.cells #[.int .u32 E.f, .int .u32 E.t, .slice A1 n1 c1, .slice A2 n2 c2] enT)) := hB.alloc hB.size _
    have HB2 := Lib.hid hb2
    have HGO := Lib.hid (by have := goesOn_2 ((hb2.cell (p := ⟨g, 2, none⟩) hgl).trans HC.out) (own_below HR.out hb2) (evOf E A1 n1 c1 A2 n2 c2) hn; rw [show (evOf E A1 n1 c1 A2 n2 c2).f = E.f from rfl, HG.out] at this; exact this :
      Calls Tryz.prog 42 #[.pointer (some ⟨g, 2, none⟩), .agg #[.int .u32 E.f, .int .u32 E.t, .slice A1 n1 c1, .slice A2 n2 c2]] (w1.alloc (.cells #[.int .u32 E.f, .int .u32 E.t, .slice A1 n1 c1, .slice A2 n2 c2] enT)) fun e w' => e = .returned (.bool false) ∧ Below (w1.alloc (.cells #[.int .u32 E.f, .int .u32 E.t, .slice A1 n1 c1, .slice A2 n2 c2] enT)).heap.size (w1.alloc (.cells #[.int .u32 E.f, .int .u32 E.t, .slice A1 n1 c1, .slice A2 n2 c2] enT)) w')
    clear hB hb2
    go_wp2_with fail
    refine Calls.mono HGO.out ?_
    rintro e w3 ⟨rfl, hB3⟩
    have HB3 := Lib.hid (HB2.out.trans (hB3.mono HB2.out.size))
    clear hB3
    go_wp2_with fail
    go_ret
    exact ⟨rfl, HB3.out⟩

set_option maxHeartbeats 8000000 in
set_option maxRecDepth 20000 in
theorem take_yes_2 {B R g n en : Nat} {w : World} {v : Value} {vs : List Ev} {T : Nat} {cs : Array Value} (hW : Whole w g T cs) (h0 : cs[2]? = some v) (h1 : cs[3]? = some (.int .i64 (en : Nat))) (hT : T ≠ enT) (hTr : T ≠ rrT) (hr : w.ownsRow R enT 4 v n (ecells vs)) (hs : SeesVs B w vs) (S : ByteArray) (hS : S.size ≤ 800000) (hn : n ≤ 100000) (hen : en ≤ 100000000)
    (hBR : B ≤ R) (_hB : R ≤ w.heap.size) (hBg : R ≤ g) {E : Ent} (ho : ofE S = some E) (hg : goesE (lastT (vs.map Ev.ent)) E.f = true) :
    Calls Tryz.prog 45 #[.pointer (some ⟨g, 2, none⟩), .string S] w fun e w' => e = .returned (.bool true) ∧ Taken 2 B R g w w' T cs v vs n en S E := by
  have hgl : g < w.heap.size := hW.lt
  have hc : w.cell? ⟨g, 2, none⟩ = some v := (hW.cell 2).trans h0
  have HR := Lib.hid hr
  have HW := Lib.hid hW
  have HS := Lib.hid hs
  have H0 := Lib.hid h0
  have H1 := Lib.hid h1
  have HE := Lib.hid (show errO (ofE S) = .int .i64 0 by rw [ho]; rfl)
  have HO := Lib.hid (show (ofE S).getD zeroE = E by rw [ho]; rfl)
  have HG := Lib.hid hg
  have HC := Lib.hid hc
  have HT := Lib.hid hT
  have HTR := Lib.hid hTr
  clear ho hg hr hW hs h0 h1 hc hT hTr
  go_enter Tryz.func45, Tryz.ntmps45
  go_wp2_with fail
  refine (Of_any S _ hS).mono ?_
  unfold OfLeaves
  rw [HE.out, HO.out]
  rintro e w1 ⟨A1, n1, c1, A2, n2, c2, rfl, s1, s2, hB1, t1, t2⟩
  unfold enA
  have hb2 : Below w.heap.size w (w1.alloc (.cells #[.int .u32 E.f, .int .u32 E.t, .slice A1 n1 c1, .slice A2 n2 c2] enT)) := hB1.alloc hB1.size _
  have HB2 := Lib.hid hb2
  have HX2 := Lib.hid (Whole.new w1 enT (evOf E A1 n1 c1 A2 n2 c2).arr)
  have HV1 := Lib.hid (seesV_of (B := B) (c1 := c1) (c2 := c2) s1 s2 t1 t2)
  have HGO := Lib.hid (by have := goesOn_2 ((hb2.cell (p := ⟨g, 2, none⟩) hgl).trans HC.out) (own_below HR.out hb2) (evOf E A1 n1 c1 A2 n2 c2) (by omega); rw [show (evOf E A1 n1 c1 A2 n2 c2).f = E.f from rfl, HG.out] at this; exact this :
    Calls Tryz.prog 42 #[.pointer (some ⟨g, 2, none⟩), .agg #[.int .u32 E.f, .int .u32 E.t, .slice A1 n1 c1, .slice A2 n2 c2]] (w1.alloc (.cells #[.int .u32 E.f, .int .u32 E.t, .slice A1 n1 c1, .slice A2 n2 c2] enT)) fun e w' => e = .returned (.bool true) ∧ Below (w1.alloc (.cells #[.int .u32 E.f, .int .u32 E.t, .slice A1 n1 c1, .slice A2 n2 c2] enT)).heap.size (w1.alloc (.cells #[.int .u32 E.f, .int .u32 E.t, .slice A1 n1 c1, .slice A2 n2 c2] enT)) w')
  have hw1 : w.heap.size ≤ w1.heap.size := hB1.size
  have HV2 := Lib.hid (HV1.out.keep ((Below.refl w1.heap.size w1).alloc (Nat.le_refl _) (.cells #[.int .u32 E.f, .int .u32 E.t, .slice A1 n1 c1, .slice A2 n2 c2] enT)))
  clear hB1 hb2 s1 s2 t1 t2 HV1
  go_wp2_with fail
  refine Calls.mono HGO.out ?_
  rintro e w3 ⟨rfl, hB3⟩
  have HB3 := Lib.hid (HB2.out.trans (hB3.mono HB2.out.size))
  have HX3 := Lib.hid (HX2.out.below hB3 HX2.out.lt)
  have HV3 := Lib.hid (HV2.out.keep hB3)
  have HW3 := Lib.hid (HW.out.below HB3.out hgl)
  have HR3 := Lib.hid (own_below HR.out HB3.out)
  have HS3 := Lib.hid (HS.out.keep HB3.out)
  have hw3 : w.heap.size ≤ w3.heap.size := HB3.out.size
  have c0 : w3.cell? ⟨g, 2, none⟩ = some v := (HW3.out.cell 2).trans H0.out
  obtain ⟨x0, x1, x2, x3⟩ := (show w3.cell? ⟨w1.heap.size, 0, none⟩ = some (.int .u32 E.f) ∧ w3.cell? ⟨w1.heap.size, 1, none⟩ = some (.int .u32 E.t) ∧ w3.cell? ⟨w1.heap.size, 2, none⟩ = some (.slice A1 n1 c1) ∧ w3.cell? ⟨w1.heap.size, 3, none⟩ = some (.slice A2 n2 c2) from ev_facts HX3.out)
  clear hB3 HX2 HV2 HGO
  go_wp2_with fail
  have HW4 := Lib.hid (HW3.out.alloc (.cells #[.int .u32 E.f, .int .u32 E.t, .slice A1 n1 c1, .slice A2 n2 c2] enT))
  have c4 : (w3.alloc (.cells #[.int .u32 E.f, .int .u32 E.t, .slice A1 n1 c1, .slice A2 n2 c2] enT)).cell? ⟨g, 2, none⟩ = some v := (HW4.out.cell 2).trans H0.out
  have HR4 := Lib.hid (HR3.out.alloc (.cells #[.int .u32 E.f, .int .u32 E.t, .slice A1 n1 c1, .slice A2 n2 c2] enT))
  have HX4 := Lib.hid (show Whole (w3.alloc (.cells #[.int .u32 E.f, .int .u32 E.t, .slice A1 n1 c1, .slice A2 n2 c2] enT)) w3.heap.size enT (evOf E A1 n1 c1 A2 n2 c2).arr from Whole.new w3 enT (evOf E A1 n1 c1 A2 n2 c2).arr)
  have HAP := Lib.hid (whole_apart HW4.out HT.out HR4.out)
  have HBW := Lib.hid (show R ≤ (w3.alloc (.cells #[.int .u32 E.f, .int .u32 E.t, .slice A1 n1 c1, .slice A2 n2 c2] enT)).heap.size by rw [World.size_alloc]; omega)
  go_cut [] (fun wx => ∃ v', Mid 2 B R g w wx T cs v v' vs n E)
  case first =>
    go_region_law (first | (refine step_append_E rfl _ _ rfl R v vs n rfl HR4.out w3.heap.size 1 (evOf E A1 n1 c1 A2 n2 c2) rfl HX4.out (by omega) HBW.out (w3.heap.size + 1) (by simp) ?_; intro gg cap w5 hown5 hgrow5 hat hlt5; have q0 := (HW4.out.drew).grown hgrow5 HAP.out; have c5 : w5.cell? ⟨g, 2, none⟩ = some v := (q0.cell 2).trans H0.out; have f5 := q0.frozen 2))
    all_goals
      have HM := Lib.hid (mid_of (o := 2) (evOf_ent E A1 n1 c1 A2 n2 c2) hBR hBg HT.out HTR.out HB3.out HW3.out HR3.out HS3.out HV3.out q0 hown5 hgrow5 hat)
      clear hown5 hgrow5 hat hlt5 q0 c5 f5
      go_wp2_with fail
      go_meet
      exact ⟨_, HM.out⟩
  case rest =>
    obtain ⟨v', hM⟩ := hcut
    obtain ⟨x, m1, m2, m3⟩ := hM
    have c6 : wc.cell? ⟨g, 3, none⟩ = some (.int .i64 (en : Nat)) := (m2.cell 3).trans (next_cell (o := 2) H1.out)
    have f6 := m2.frozen 3
    have HM := Lib.hid (show Mid 2 B R g w wc T cs v v' vs n E from ⟨x, m1, m2, m3⟩)
    clear m1 m2 m3 x0 x1 x2 x3 c0 HX3 HV3 HW3 HR3 HS3 HW4 c4 HR4 HX4
    go_wp2_with fail
    have c7 : wc.drew.cell? ⟨g, 3, none⟩ = some (.int .i64 (en : Nat)) := c6
    have gI : (en : Int) ≤ 100000000 := by omega
    have gS : (S.size : Int) ≤ 800000 := by omega
    have HSZ := Lib.hid (fun W => Size_same S W (by omega))
    refine wp_region_still_tail 9 (by kernel_rfl) (by kernel_rfl) ?_
    simp only [List.take_succ_cons, List.take_zero, List.drop_succ_cons, List.drop_zero]
    repeat still_step
    still_call (HSZ.out _)
    repeat still_step
    refine wpStill_nil ?_
    change wpList _ _ _ _ _ wc.drew
    have f7 : wc.drew.frozen? ⟨g, 3, none⟩ = false := f6
    have HM7 := Lib.hid (HM.out.drew)
    generalize wc.drew = wd at f7 c7 HM7 ⊢
    go_wp2_with fail
    go_ret
    exact ⟨rfl, taken_of hBR hBg HT.out HTR.out HM7.out hgl⟩
end Go.Proofs.YtggognnjnfphgaaGreatDoor
namespace Go.Proofs.YtggognnjnfphgaaGreatDoor
open Go.RowKit Go.Maps Go.Sort

theorem frames_le {l : List UInt8} {k : Nat} {x : List UInt8} (hx : (scanL l).1[k]? = some x) : x.length ≤ l.length ∧ (rowF ((scanL l).1.take k)).length ≤ l.length ∧ k ≤ l.length := by
  obtain ⟨_, s2, _⟩ := scan_is l.length l (Nat.le_refl _)
  obtain ⟨s3, s4⟩ := scanL_len l
  have hk : k < (scanL l).1.length := (List.getElem?_eq_some_iff.1 hx).1
  have h1 : rowF (scanL l).1 = rowF ((scanL l).1.take k) ++ rowF ((scanL l).1.drop k) := by rw [← row_append, List.take_append_drop]
  have h2 := congrArg List.length h1
  rw [drop_of hx, rowF_cons, List.length_append, List.length_append, frameL_len] at h2
  omega
theorem Sees.keepX {B : Nat} {X : Nat → Prop} {w w' : World} {A : Option Addr} {n T : Nat} {xs : List Value} (h : Sees w w.heap.size A n xs) (ht : TyR w A T) (hT : mineT T = false) (hT2 : T ≠ 1000001) (hk : KeptX B X w w') (hX : ∀ k, X k → typ w.heap[k]? ≠ T) : Sees w' w'.heap.size A n xs ∧ TyR w' A T := by
  have hsame : ∀ b off sp, A = some ⟨b, off, sp⟩ → b < w.heap.size → w'.heap[b]? = w.heap[b]? := fun b off sp e hb => hk.block b hb (.inr ⟨by rw [ht b off sp e]; exact hT, fun hx => hX b hx (ht b off sp e)⟩)
  refine ⟨⟨h.1, fun hn => ?_⟩, fun b off sp e => ?_⟩
  · obtain ⟨b, off, e, hb, hc⟩ := h.2 hn
    refine ⟨b, off, e, Nat.lt_of_lt_of_le hb hk.size, fun j u hu => ?_⟩
    rw [cell_block (hsame b off none e hb)]
    exact hc j u hu
  · by_cases hb : b < w.heap.size
    · rw [hsame b off sp e hb]; exact ht b off sp e
    · have h1 := ht b off sp e
      rw [Array.getElem?_eq_none (by omega)] at h1
      have h1' : 1000001 = T := h1
      exact absurd h1'.symm hT2
theorem scan_info : (Tryz.prog.info? scT).map (·.size) = some 2 := by kernel_rfl
/-- a return of a scan that lies in memory -/
theorem retS {fn : Func} {R : Ending → World → Prop} {a : Act} {w : World} {p r : Nat} {a0 a1 : Value} (hf : fn.results = #[.cell p scT]) (hd : a.defers = []) (hp : a.tmps.getD p undef = .pointer (some ⟨r, 0, none⟩))
    (h : Whole w r scT #[a0, a1]) (hR : R (.returned (.agg #[a0, a1])) w) : bodyPost Tryz.prog fn R .ret a w :=
  bodyPost_ret (results_cell_row hf _ _ r _ _ (0, 0) _ hp h Tryz.underlying69 rfl scan_info) hd hR
/-- what scanOf leaves -/
def ScanOf (B : Nat) (l : List UInt8) (w : World) (e : Ending) (w' : World) : Prop :=
  ∃ v vs, e = .returned (.agg #[v, .int .i64 ((hadL l).2 : Nat)]) ∧ w'.ownsRow w.heap.size enT 4 v vs.length (ecells vs) ∧ SeesVs B w' vs ∧ vs.map Ev.ent = (hadL l).1 ∧ Below w.heap.size w w'
/-- where its loop stands -/
def ScanSt (B : Nat) (fs : List (List UInt8)) (A : Option Addr) (w : World) (k : Nat) (wr : World) : Prop :=
  ∃ v vs en, vs.length = k ∧ Hads fs k (vs.map Ev.ent) en ∧ wr.ownsRow w.heap.size enT 4 v k (ecells vs) ∧ SeesVs B wr vs ∧ Whole wr w.heap.size scT #[.slice none 0 0, .int .i64 0] ∧ Whole wr (w.heap.size + 1) scT #[v, .int .i64 (en : Nat)] ∧
    Sees wr wr.heap.size A fs.length (texts (fs.map mk)) ∧ TyR wr A 9 ∧ Below w.heap.size w wr
theorem two_put {w : World} {r t : Nat} {x0 x1 : Value} (h : Whole w r t #[x0, x1]) (a0 a1 : Value) : Whole ((w.setCell ⟨r, 0, none⟩ a0).setCell ⟨r, 1, none⟩ a1) r t #[a0, a1] := by
  have := (h.put 0 a0).put 1 a1
  simpa using this
theorem scan_end {B : Nat} {l : List UInt8} {w wr : World} {v : Value} {vs : List Ev} {en : Nat} (hb : B ≤ w.heap.size) (hh : hadF none (scanL l).1 = (vs.map Ev.ent, en)) (ho : wr.ownsRow w.heap.size enT 4 v vs.length (ecells vs)) (hs : SeesVs B wr vs) (h0 : Whole wr w.heap.size scT #[.slice none 0 0, .int .i64 0]) (hB : Below w.heap.size w wr) :
    Whole ((wr.setCell ⟨w.heap.size, 0, none⟩ v).setCell ⟨w.heap.size, 1, none⟩ (.int .i64 (en : Nat))) w.heap.size scT #[v, .int .i64 (en : Nat)] ∧ ScanOf B l w (.returned (.agg #[v, .int .i64 (en : Nat)])) ((wr.setCell ⟨w.heap.size, 0, none⟩ v).setCell ⟨w.heap.size, 1, none⟩ (.int .i64 (en : Nat))) := by
  have hk : KeptX B (fun k => k = w.heap.size) wr ((wr.setCell ⟨w.heap.size, 0, none⟩ v).setCell ⟨w.heap.size, 1, none⟩ (.int .i64 (en : Nat))) := ((KeptX.refl B (fun k => k = w.heap.size) wr).setCell hb (fun _ => rfl) 0 v).setCell hb (fun _ => rfl) 1 _
  have e1 : (hadL l).2 = en := by unfold hadL; rw [hh]
  have e2 : vs.map Ev.ent = (hadL l).1 := by unfold hadL; rw [hh]
  refine ⟨two_put h0 _ _, v, vs, by rw [e1], ?_, hs.keepX hk ?_, e2, (hB.setCell (Nat.le_refl _) _).setCell (Nat.le_refl _) _⟩
  · exact set_own (h0.put 0 v) (by decide) (set_own h0 (by decide) ho 0 v) 1 _
  · rintro k rfl
    rw [whole_typ h0]; decide
theorem scan_next {B k en : Nat} {fs : List (List UInt8)} {A : Option Addr} {w wr w3 : World} {v v' : Value} {vs : List Ev} {y : Ev} {E : Ent} {x : List UInt8} {P : ByteArray} (_hb : B ≤ w.heap.size) (hst : Hads fs (k + 1) (vs.map Ev.ent ++ [E]) (en + (8 + x.length))) (hvl : vs.length = k) (hE : y.ent = E) (hP : P = mk x)
    (t2 : Whole w3 (w.heap.size + 1) scT (((#[v, .int .i64 (en : Nat)] : Array Value).setIfInBounds 0 v').setIfInBounds (0 + 1) (.int .i64 ((en : Int) + (8 + (P.size : Int)))))) (t3 : w3.ownsRow w.heap.size enT 4 v' (k + 1) (ecells (vs ++ [y]))) (t4 : SeesVs B w3 (vs ++ [y]))
    (t6a : KeptA (fun j => j = w.heap.size + 1 ∨ v.ownBlock = some j) wr w3) (h0 : Whole wr w.heap.size scT #[.slice none 0 0, .int .i64 0]) (h1 : Whole wr (w.heap.size + 1) scT #[v, .int .i64 (en : Nat)]) (ho : wr.ownsRow w.heap.size enT 4 v k (ecells vs)) (hse : Sees wr wr.heap.size A fs.length (texts (fs.map mk))) (hty : TyR wr A 9) (hB : Below w.heap.size w wr) :
    ScanSt B fs A w (k + 1) w3 := by
  have t6 : KeptX w.heap.size (fun j => j = w.heap.size + 1 ∨ v.ownBlock = some j) wr w3 := t6a.keptX (by
    rintro j (rfl | hj)
    · exact Nat.le_succ _
    · exact own_block_ge ho j hj)
  have hrow : ∀ j, v.ownBlock = some j → typ wr.heap[j]? = enT := fun j hj => own_typ ho hj
  have hX : ∀ j, (j = w.heap.size + 1 ∨ v.ownBlock = some j) → ∀ T, T ≠ scT → T ≠ enT → typ wr.heap[j]? ≠ T := by
    rintro j (rfl | hj) T hT1 hT2
    · rw [whole_typ h1]; exact fun e => hT1 e.symm
    · rw [hrow j hj]; exact fun e => hT2 e.symm
  obtain ⟨q1, q2⟩ := hse.keepX hty (by decide) (by decide) t6 (fun j hj => hX j hj _ (by decide) (by decide))
  refine ⟨v', vs ++ [y], en + (8 + x.length), by simp [hvl], by rw [List.map_append, List.map_cons, List.map_nil, hE]; exact hst, t3, t4, ?_, ?_, q1, q2, ?_⟩
  · refine t6.whole h0 (by decide) ?_
    rintro (e | hj)
    · omega
    · have := (ho.lt _ hj).1
      have h3 := hrow _ hj
      rw [whole_typ h0] at h3
      exact absurd h3 (by decide)
  · have hz : P.size = x.length := by rw [hP, mk_size]
    have e : (((#[v, .int .i64 (en : Nat)] : Array Value).setIfInBounds 0 v').setIfInBounds (0 + 1) (.int .i64 ((en : Int) + (8 + (P.size : Int))))) = #[v', .int .i64 ((en + (8 + x.length) : Nat) : Int)] := by
      rw [hz]; simp
    rw [← e]; exact t2
  · refine ⟨t6.os.trans hB.os, t6.tape.trans hB.tape, t6.output.trans hB.output, Nat.le_trans hB.size t6.size, fun j hj => ?_⟩
    rw [← hB.block j hj]
    exact t6.block j (Nat.lt_of_lt_of_le hj hB.size) (.inl hj)
set_option maxHeartbeats 8000000 in
set_option maxRecDepth 20000 in
theorem scanOf_any {B : Nat} (S : ByteArray) (l : List UInt8) (w : World) (hS : S = mk l) (hl : l.length ≤ 800000) (hB : B ≤ w.heap.size) : Calls Tryz.prog 33 #[.string S] w (ScanOf B l w) := by
  have HB0 := Lib.hid (((Below.refl w.heap.size w).alloc (Nat.le_refl _) (.cells #[.slice none 0 0, .int .i64 0] scT)).alloc (by simp) (.cells #[.slice none 0 0, .int .i64 0] scT))
  have HW0 := Lib.hid ((Whole.new w scT #[.slice none 0 0, .int .i64 0]).alloc (.cells #[.slice none 0 0, .int .i64 0] scT))
  have hw1 := Whole.new (w.alloc (.cells #[.slice none 0 0, .int .i64 0] scT)) scT #[.slice none 0 0, .int .i64 0]
  rw [World.size_alloc] at hw1
  have HW1 := Lib.hid hw1
  have HS := Lib.hid hS
  clear hw1 hS
  go_enter Tryz.func33, Tryz.ntmps33
  go_wp2_with fail
  refine (Scan_any S l _ HS.out (by omega)).mono ?_
  unfold ScanLeaves
  rintro e w1 ⟨A, c, rfl, hsee, hB1, hty⟩
  obtain ⟨fs, hfs⟩ : ∃ fs, fs = (scanL l).1 := ⟨_, rfl⟩
  obtain ⟨N, hN⟩ : ∃ N, N = fs.length := ⟨_, rfl⟩
  have hN8 : N ≤ 100000 := by have := (scanL_len l).1; rw [hN, hfs]; omega
  rw [← hfs] at hsee ⊢
  have HST := Lib.hid (show ScanSt B fs A w 0 w1 from ⟨.slice none 0 0, [], 0, rfl, Hads.start fs, own_nil _ _ _ _, SeesVs.nil _ _, HW0.out.below hB1 HW0.out.lt, HW1.out.below hB1 HW1.out.lt, hsee, hty, HB0.out.trans (hB1.mono HB0.out.size)⟩)
  rw [← hN]
  have HFS := Lib.hid hfs
  have HN := Lib.hid hN
  clear hsee hB1 hty hfs hN
  go_wp2_with fail
  go_loopw [15] (fun i wr => ∃ k : Nat, k ≤ N ∧ i = .int .i64 (k : Nat) ∧ ScanSt B fs A w k wr) (fun i _ => N - (intOf i).toNat)
  case atStart => exact ⟨0, Nat.zero_le _, rfl, HST.out⟩
  case round =>
    obtain ⟨k, hk, rfl, v, vs, en, hvl, hh, ho, hs, h0, h1, hsee, hty, hB2⟩ := hrel
    obtain ⟨Av, cv, rfl, _, _⟩ := own_shape ho
    have HH := Lib.hid hh
    have HO := Lib.hid ho
    have HSV := Lib.hid hs
    have H0 := Lib.hid h0
    have H1 := Lib.hid h1
    have HSE := Lib.hid hsee
    have HTY := Lib.hid hty
    have HBW := Lib.hid hB2
    have HVL := Lib.hid hvl
    obtain ⟨c0, c1⟩ : wr.cell? ⟨w.heap.size + 1, 0, none⟩ = some (.slice Av k cv) ∧ wr.cell? ⟨w.heap.size + 1, 1, none⟩ = some (.int .i64 (en : Nat)) := ⟨h1.cell 0, h1.cell 1⟩
    clear hh ho hs h0 h1 hsee hty hB2 hvl
    by_cases hkN : k < N
    · have g1 : (k : Int) < (N : Int) := by omega
      obtain ⟨b, off, rfl, hb, hc⟩ := texts_at HSE.out (by rw [← HN.out]; exact hkN)
      obtain ⟨x, hx⟩ : ∃ x, fs[k]? = some x := ⟨fs[k]'(by rw [← HN.out]; exact hkN), List.getElem?_eq_getElem _⟩
      have hxg : (fs.map mk).getD k ByteArray.empty = mk x := by simp [List.getD, List.getElem?_map, hx]
      rw [hxg] at hc
      obtain ⟨P, hP⟩ : ∃ P, P = mk x := ⟨_, rfl⟩
      rw [← hP] at hc
      have hfl := frames_le (l := l) (k := k) (x := x) (by rw [← HFS.out]; exact hx)
      rw [← HFS.out] at hfl
      have hPz : P.size ≤ 800000 := by rw [hP, mk_size]; omega
      have hen : en ≤ 800000 := by have := HH.out.2.1; omega
      have HX := Lib.hid hx
      have HP := Lib.hid hP
      clear hxg hx hP hfl
      go_wp2_with fail
      cases ho : ofE P with
      | none =>
        refine (take_no_0 c0 HO.out P hPz (by omega) (.inl ho)).mono ?_
        have hend := HH.out.none HX.out (by rw [← HP.out]; exact ho)
        rw [HFS.out] at hend
        have HEND := Lib.hid hend
        clear ho hend
        rintro e w3 ⟨rfl, hB3⟩
        have hY0 := H0.out.below hB3 H0.out.lt
        have hY1 := H1.out.below hB3 H1.out.lt
        obtain ⟨d0, d1⟩ : w3.cell? ⟨w.heap.size + 1, 0, none⟩ = some (.slice Av k cv) ∧ w3.cell? ⟨w.heap.size + 1, 1, none⟩ = some (.int .i64 (en : Nat)) := ⟨hY1.cell 0, hY1.cell 1⟩
        obtain ⟨e0, e1, f0, f1⟩ : w3.cell? ⟨w.heap.size, 0, none⟩ = some (.slice none 0 0) ∧ w3.cell? ⟨w.heap.size, 1, none⟩ = some (.int .i64 0) ∧ w3.frozen? ⟨w.heap.size, 0, none⟩ = false ∧ w3.frozen? ⟨w.heap.size, 1, none⟩ = false := ⟨hY0.cell 0, hY0.cell 1, hY0.frozen 0, hY0.frozen 1⟩
        obtain ⟨r1, r2⟩ := scan_end hB HEND.out (by rw [HVL.out]; exact own_below HO.out hB3) (HSV.out.keep hB3) hY0 (HBW.out.trans (hB3.mono HBW.out.size))
        have R1 := Lib.hid r1
        have R2 := Lib.hid r2
        clear hB3 hY0 hY1 r1 r2 c0 c1
        go_wp2_with fail
        exact retS rfl rfl rfl R1.out R2.out
      | some E =>
        cases hg : goesE (lastT (vs.map Ev.ent)) E.f with
        | false =>
          refine (take_no_0 c0 HO.out P hPz (by omega) (.inr ⟨E, ho, hg⟩)).mono ?_
          have hend := HH.out.gap HX.out (by rw [← HP.out]; exact ho) hg
          rw [HFS.out] at hend
          have HEND := Lib.hid hend
          clear ho hg hend
          rintro e w3 ⟨rfl, hB3⟩
          have hY0 := H0.out.below hB3 H0.out.lt
          have hY1 := H1.out.below hB3 H1.out.lt
          obtain ⟨d0, d1⟩ : w3.cell? ⟨w.heap.size + 1, 0, none⟩ = some (.slice Av k cv) ∧ w3.cell? ⟨w.heap.size + 1, 1, none⟩ = some (.int .i64 (en : Nat)) := ⟨hY1.cell 0, hY1.cell 1⟩
          obtain ⟨e0, e1, f0, f1⟩ : w3.cell? ⟨w.heap.size, 0, none⟩ = some (.slice none 0 0) ∧ w3.cell? ⟨w.heap.size, 1, none⟩ = some (.int .i64 0) ∧ w3.frozen? ⟨w.heap.size, 0, none⟩ = false ∧ w3.frozen? ⟨w.heap.size, 1, none⟩ = false := ⟨hY0.cell 0, hY0.cell 1, hY0.frozen 0, hY0.frozen 1⟩
          obtain ⟨r1, r2⟩ := scan_end hB HEND.out (by rw [HVL.out]; exact own_below HO.out hB3) (HSV.out.keep hB3) hY0 (HBW.out.trans (hB3.mono HBW.out.size))
          have R1 := Lib.hid r1
          have R2 := Lib.hid r2
          clear hB3 hY0 hY1 r1 r2 c0 c1
          go_wp2_with fail
          exact retS rfl rfl rfl R1.out R2.out
        | true =>
          refine (take_yes_0 H1.out rfl rfl (by decide) (by decide) HO.out HSV.out P hPz (by omega) (by omega) hB HBW.out.size (Nat.le_succ _) ho hg).mono ?_
          have hst := HH.out.step HX.out (by rw [← HP.out]; exact ho) hg
          have HST2 := Lib.hid hst
          clear ho hg hst
          rintro e w3 ⟨rfl, y, v', t1, t2, t3, t4, t5, t6⟩
          have HNX := Lib.hid (show ScanSt B fs (some ⟨b, off, none⟩) w (k + 1) w3 from scan_next hB HST2.out HVL.out t1 HP.out t2 t3 t4 t6 H0.out H1.out HO.out HSE.out HTY.out HBW.out)
          clear t1 t2 t3 t4 t5 t6 c0 c1
          go_wp2_with fail
          go_roundw
          case rel => exact ⟨k + 1, by omega, by go_num, HNX.out⟩
          case measure => simp [intOf]; omega
    · obtain rfl : k = N := by omega
      have hend := (by have := HH.out; rw [HN.out] at this; exact this : Hads fs fs.length (vs.map Ev.ent) en).ends
      rw [HFS.out] at hend
      have HEND := Lib.hid hend
      have g1 : ¬ (k : Int) < (k : Int) := by omega
      have hY0 := H0.out
      obtain ⟨e0, e1, f0, f1⟩ : wr.cell? ⟨w.heap.size, 0, none⟩ = some (.slice none 0 0) ∧ wr.cell? ⟨w.heap.size, 1, none⟩ = some (.int .i64 0) ∧ wr.frozen? ⟨w.heap.size, 0, none⟩ = false ∧ wr.frozen? ⟨w.heap.size, 1, none⟩ = false := ⟨hY0.cell 0, hY0.cell 1, hY0.frozen 0, hY0.frozen 1⟩
      obtain ⟨r1, r2⟩ := scan_end hB HEND.out (by rw [HVL.out]; exact HO.out) HSV.out hY0 HBW.out
      have R1 := Lib.hid r1
      have R2 := Lib.hid r2
      clear hend hY0 r1 r2
      go_wp2_with fail
      exact retS rfl rfl rfl R1.out R2.out
end Go.Proofs.YtggognnjnfphgaaGreatDoor
namespace Go.Proofs.YtggognnjnfphgaaGreatDoor
open Go.RowKit Go.Maps Go.Sort

set_option maxHeartbeats 400000 in
/-- a string among strings -/
theorem Index_any (A : Option Addr) (n c B : Nat) (L : List (List UInt8)) (V : ByteArray) (v : List UInt8) (w : World) (h : Sees w B A n (textL L)) (hV : V = mk v) (hn : n ≤ 1000000) :
    Calls Tryz.prog 94 #[.slice A n c, .string V] w fun e w' => (∃ r : Int, e = .returned (.int .i64 r) ∧ (0 ≤ r ↔ v ∈ L)) ∧ w = w' := by
  have hl := textL_len h
  have HV := Lib.hid hV
  have HL := Lib.hid hl
  clear hV hl
  go_enter Tryz.func94, Tryz.ntmps94
  go_wp2_with fail
  go_loop [8] (fun i => ∃ k : Nat, k ≤ n ∧ i = .int .i64 k ∧ v ∉ L.take k) (fun i => n - (intOf i).toNat)
  case atStart => exact ⟨0, Nat.zero_le _, rfl, by simp⟩
  case round =>
    obtain ⟨k, hk, rfl, hr⟩ := hrel
    have HR := Lib.hid hr
    clear hr
    by_cases hlt : k < n
    · have hx : k < L.length := by have := HL.out; omega
      obtain ⟨b, off, rfl, _, hc⟩ := textL_at h hlt hx
      obtain ⟨X, hX⟩ : ∃ X, X = mk L[k] := ⟨_, rfl⟩
      rw [← hX] at hc
      have heq : (V.toList == X.toList) = (v == L[k]) := by rw [HV.out, hX, mk_beq]
      by_cases hv : v = L[k]
      · have hq : (V.toList == X.toList) = true := by rw [heq]; simpa using hv
        have hm : v ∈ L := by rw [hv]; exact List.getElem_mem hx
        have HM := Lib.hid hm
        clear heq hX hv hm
        go_wp2_with fail
        go_ret
        exact ⟨⟨k, rfl, ⟨fun _ => HM.out, fun _ => by omega⟩⟩, rfl⟩
      · have hq : (V.toList == X.toList) = false := by rw [heq, beq_eq_false_iff_ne]; exact hv
        have hm : v ∉ L.take (k + 1) := by
          rw [List.take_succ_eq_append_getElem hx, List.mem_append, List.mem_singleton]
          exact fun h => h.elim HR.out hv
        have HM := Lib.hid hm
        clear heq hX hv hm
        go_wp2_with fail
        go_round
        case rel => exact ⟨k + 1, by omega, by go_num, HM.out⟩
        case measure => simp [intOf]; omega
    · obtain rfl : k = n := by omega
      go_wp2_with fail
      go_ret
      have := HR.out
      rw [List.take_of_length_le (by have := HL.out; omega)] at this
      exact ⟨⟨-1, rfl, ⟨fun h => absurd h (by omega), fun h => absurd h this⟩⟩, rfl⟩
theorem Contains_any (A : Option Addr) (n c B : Nat) (L : List (List UInt8)) (V : ByteArray) (v : List UInt8) (w : World) (h : Sees w B A n (textL L)) (hV : V = mk v) (hn : n ≤ 1000000) :
    Calls Tryz.prog 70 #[.slice A n c, .string V] w fun e w' => e = .returned (.bool (decide (v ∈ L))) ∧ w = w' := by
  have HV := Lib.hid hV
  clear hV
  go_enter Tryz.func70, Tryz.ntmps70
  go_wp2_with fail
  refine (Index_any A n c B L V v _ h HV.out hn).mono ?_
  rintro e w1 ⟨⟨r, rfl, hr⟩, rfl⟩
  have HR := Lib.hid hr
  clear hr
  go_wp2_with fail
  go_ret
  refine ⟨ret_bool ?_, rfl⟩
  by_cases hv : v ∈ L
  · simp [hv, HR.out.2 hv]
  · have h0 : ¬ 0 ≤ r := fun h => hv (HR.out.1 h)
    simp [hv]
    omega


/-! ### a journal in memory -/
structure LogAt (B : Nat) (w : World) (g d gen : Nat) (v : Value) (vs : List Ev) (n en : Nat) (br : Bool) : Prop where
  cells : Whole w g logT #[dptr d, .int .u64 (gen : Nat), v, .int .i64 (en : Nat), .bool br]
  row : w.ownsRow B enT 4 v n (ecells vs)
  sees : SeesVs B w vs
  base : B ≤ g
theorem LogAt.disk {B g d gen n en : Nat} {w w' : World} {v : Value} {vs : List Ev} {br : Bool} (h : LogAt B w g d gen v vs n en br) (hk : Kept B w w') : LogAt B w' g d gen v vs n en br :=
  ⟨hk.whole h.cells (by decide), hk.own h.row (by decide), h.sees.keepX (.of_kept (fun _ => False) hk) (fun _ h => h.elim), h.base⟩
theorem LogAt.below {B g d gen n en : Nat} {w w' : World} {v : Value} {vs : List Ev} {br : Bool} (h : LogAt B w g d gen v vs n en br) (hb : Below w.heap.size w w') : LogAt B w' g d gen v vs n en br := h.disk (.of_below hb)
/-- the mark of a broken journal is set -/
theorem LogAt.set {B g d gen n en : Nat} {w : World} {v : Value} {vs : List Ev} {br : Bool} (h : LogAt B w g d gen v vs n en br) (b : Bool) : LogAt B (w.setCell ⟨g, 4, none⟩ (.bool b)) g d gen v vs n en b ∧ KeptX B (fun k => k = g) w (w.setCell ⟨g, 4, none⟩ (.bool b)) := by
  have hk : KeptX B (fun k => k = g) w (w.setCell ⟨g, 4, none⟩ (.bool b)) := (KeptX.refl B (fun k => k = g) w).setCell h.base (fun _ => rfl) 4 _
  have hc := h.cells.put 4 (.bool b)
  refine ⟨⟨by simpa using hc, set_own h.cells (by decide) h.row 4 _, h.sees.keepX hk ?_, h.base⟩, hk⟩
  rintro k rfl
  rw [whole_typ h.cells]; decide
theorem log_facts {B g d gen n en : Nat} {w : World} {v : Value} {vs : List Ev} {br : Bool} (h : LogAt B w g d gen v vs n en br) :
    (w.cell? ⟨g, 0, none⟩ = some (dptr d) ∧ w.cell? ⟨g, 1, none⟩ = some (.int .u64 (gen : Nat)) ∧ w.cell? ⟨g, 2, none⟩ = some v ∧ w.cell? ⟨g, 3, none⟩ = some (.int .i64 (en : Nat)) ∧ w.cell? ⟨g, 4, none⟩ = some (.bool br)) ∧ w.frozen? ⟨g, 4, none⟩ = false :=
  ⟨⟨h.cells.cell 0, h.cells.cell 1, h.cells.cell 2, h.cells.cell 3, h.cells.cell 4⟩, h.cells.frozen 4⟩

/-! ### secure -/
def secureS (S : St) (nm : Bys) (b : Bool) : St × Int := if (syncS S nm).2 ≠ 0 then syncS S nm else if b then syncDirS (syncS S nm).1 else ((syncS S nm).1, 0)
set_option maxHeartbeats 1000000 in
theorem secure_any {B d k M : Nat} {w : World} {S : St} (h : Live B w d k M S) (hk : k ≤ 50000) (nm : ByteArray) (b : Bool) :
    Calls Tryz.prog 69 #[dptr d, .string nm, .bool b] w fun e w' => e = .returned (.int .i64 (secureS S nm.data.toList b).2) ∧ Live B w' d k M (secureS S nm.data.toList b).1 ∧ Kept B w w' := by
  obtain ⟨S1, c1, e1⟩ : ∃ S1 c1, syncS S nm.data.toList = (S1, c1) := ⟨_, _, rfl⟩
  have h1 := live_Sync h nm
  rw [e1] at h1
  have H1 := Lib.hid h1
  clear h1
  by_cases q1 : c1 = 0
  · subst q1
    cases b with
    | false =>
      have HR := Lib.hid (show secureS S nm.data.toList false = (S1, 0) by unfold secureS; rw [e1]; rfl)
      clear e1
      go_enter Tryz.func69, Tryz.ntmps69
      go_wp2_with fail
      refine Calls.mono H1.out ?_
      rintro e w1 ⟨rfl, hL, hK⟩
      have HL := Lib.hid hL
      have HK := Lib.hid hK
      clear hL hK
      go_wp2_with fail
      go_ret
      rw [HR.out]
      exact ⟨rfl, HL.out, HK.out⟩
    | true =>
      obtain ⟨S2, c2, e2⟩ : ∃ S2 c2, syncDirS S1 = (S2, c2) := ⟨_, _, rfl⟩
      have HR := Lib.hid (show secureS S nm.data.toList true = (S2, c2) by unfold secureS; rw [e1, if_neg (by simp), if_pos rfl, e2])
      have E2 := Lib.hid e2
      clear e1 e2
      go_enter Tryz.func69, Tryz.ntmps69
      go_wp2_with fail
      refine Calls.mono H1.out ?_
      rintro e w1 ⟨rfl, hL, hK⟩
      have h2 := live_SyncDir hL hk
      rw [E2.out] at h2
      have H2 := Lib.hid h2
      have HK := Lib.hid hK
      clear hL hK h2
      go_wp2_with fail
      refine Calls.mono H2.out ?_
      rintro e w2 ⟨rfl, hL, hK⟩
      have HL := Lib.hid hL
      have HK2 := Lib.hid (HK.out.trans hK)
      clear hL hK
      go_wp2_with fail
      go_ret
      rw [HR.out]
      exact ⟨rfl, HL.out, HK2.out⟩
  · have g1 : (c1 != 0) = true := by rw [bne_iff_ne]; exact q1
    have HR := Lib.hid (show secureS S nm.data.toList b = (S1, c1) by unfold secureS; rw [e1]; simp only; rw [if_pos q1])
    clear e1 q1
    go_enter Tryz.func69, Tryz.ntmps69
    go_wp2_with fail
    refine Calls.mono H1.out ?_
    rintro e w1 ⟨rfl, hL, hK⟩
    have HL := Lib.hid hL
    have HK := Lib.hid hK
    clear hL hK
    go_wp2_with fail
    go_ret
    rw [HR.out]
    exact ⟨rfl, HL.out, HK.out⟩

/-! ### repair -/
set_option maxHeartbeats 2000000 in
theorem repair_any {B d k M : Nat} {w : World} {S : St} (h : Live B w d k M S) (hk : k ≤ 40000) (hM : M ≤ 400000000) (file good : ByteArray) (hg : good.size ≤ 100000000) :
    Calls Tryz.prog 34 #[dptr d, .string file, .string good] w fun e w' => e = .returned (.int .i64 (repairS S file.data.toList good.data.toList).2) ∧ Live B w' d (k + 6) (M + good.size) (repairS S file.data.toList good.data.toList).1 ∧ Kept B w w' := by
  obtain ⟨S1, c1, e1⟩ : ∃ S1 c1, rep1 S = (S1, c1) := ⟨_, _, rfl⟩
  obtain ⟨S2, c2, e2⟩ : ∃ S2 c2, rep2 S good.data.toList = (S2, c2) := ⟨_, _, rfl⟩
  obtain ⟨S3, c3, e3⟩ : ∃ S3 c3, rep3 S good.data.toList = (S3, c3) := ⟨_, _, rfl⟩
  obtain ⟨S4, c4, e4⟩ : ∃ S4 c4, rep4 S file.data.toList good.data.toList = (S4, c4) := ⟨_, _, rfl⟩
  obtain ⟨S5, c5, e5⟩ : ∃ S5 c5, rep5 S file.data.toList good.data.toList = (S5, c5) := ⟨_, _, rfl⟩
  have F1 := Lib.hid (show removeS S (⟨#[108, 111, 103, 45, 116, 109, 112]⟩ : ByteArray).data.toList = (S1, c1) from e1)
  have F2 := Lib.hid (show appendS S1 (⟨#[108, 111, 103, 45, 116, 109, 112]⟩ : ByteArray).data.toList good.data.toList = (S2, c2) by have := e2; unfold rep2 at this; rw [e1] at this; exact this)
  have F3 := Lib.hid (show syncS S2 (⟨#[108, 111, 103, 45, 116, 109, 112]⟩ : ByteArray).data.toList = (S3, c3) by have := e3; unfold rep3 at this; rw [e2] at this; exact this)
  have F4 := Lib.hid (show renameS S3 (⟨#[108, 111, 103, 45, 116, 109, 112]⟩ : ByteArray).data.toList file.data.toList = (S4, c4) by have := e4; unfold rep4 at this; rw [e3] at this; exact this)
  have F5 := Lib.hid (show syncDirS S4 = (S5, c5) by have := e5; unfold rep5 at this; rw [e4] at this; exact this)
  have E1 := Lib.hid e1
  have E2 := Lib.hid e2
  have E3 := Lib.hid e3
  have E4 := Lib.hid e4
  have E5 := Lib.hid e5
  have H0 := Lib.hid h
  clear e1 e2 e3 e4 e5 h
  go_enter Tryz.func34, Tryz.ntmps34
  go_wp2_with fail
  have h1 := live_Remove H0.out (by omega) ⟨#[108, 111, 103, 45, 116, 109, 112]⟩
  rw [F1.out] at h1
  refine h1.mono ?_
  rintro e w1 ⟨rfl, hL1, hK1⟩
  have HL1 := Lib.hid hL1
  have HK1 := Lib.hid hK1
  clear h1 hL1 hK1
  by_cases q1 : c1 ≠ 0 ∧ c1 ≠ 6
  · have g1 : (c1 != 0) = true := by rw [bne_iff_ne]; exact q1.1
    have g2 : (c1 != 6) = true := by rw [bne_iff_ne]; exact q1.2
    have HR := Lib.hid (show repairS S file.data.toList good.data.toList = (S1, c1) by unfold repairS; rw [E1.out]; simp only; rw [if_pos q1])
    clear q1
    go_wp2_with fail
    go_ret
    rw [HR.out]
    exact ⟨rfl, HL1.out.mono (by omega) (by omega), HK1.out⟩
  · have hcc : c1 = 0 ∨ c1 = 6 := by omega
    rcases hcc with rfl | rfl
    all_goals
      go_wp2_with fail
      have h2 := live_Append HL1.out (by omega) (by omega) ⟨#[108, 111, 103, 45, 116, 109, 112]⟩ good (by omega) (by decide)
      rw [F2.out] at h2
      refine h2.mono ?_
      rintro e w2 ⟨rfl, hL2, hK2⟩
      have HL2 := Lib.hid hL2
      have HK2 := Lib.hid (HK1.out.trans hK2)
      clear h2 hL2 hK2
      by_cases q2 : c2 ≠ 0
      · have g2 : (c2 != 0) = true := by rw [bne_iff_ne]; exact q2
        have HR := Lib.hid (show repairS S file.data.toList good.data.toList = (S2, c2) by unfold repairS; rw [E1.out, E2.out]; simp only; rw [if_neg (by omega), if_pos q2])
        clear q2
        go_wp2_with fail
        go_ret
        rw [HR.out]
        exact ⟨rfl, HL2.out.mono (by omega) (by omega), HK2.out⟩
      obtain rfl : c2 = 0 := by omega
      go_wp2_with fail
      have h3 := live_Sync HL2.out ⟨#[108, 111, 103, 45, 116, 109, 112]⟩
      rw [F3.out] at h3
      refine h3.mono ?_
      rintro e w3 ⟨rfl, hL3, hK3⟩
      have HL3 := Lib.hid hL3
      have HK3 := Lib.hid (HK2.out.trans hK3)
      clear h3 hL3 hK3
      by_cases q3 : c3 ≠ 0
      · have g3 : (c3 != 0) = true := by rw [bne_iff_ne]; exact q3
        have HR := Lib.hid (show repairS S file.data.toList good.data.toList = (S3, c3) by unfold repairS; rw [E1.out, E2.out, E3.out]; simp only; rw [if_neg (by omega), if_neg (by omega), if_pos q3])
        clear q3
        go_wp2_with fail
        go_ret
        rw [HR.out]
        exact ⟨rfl, HL3.out.mono (by omega) (by omega), HK3.out⟩
      obtain rfl : c3 = 0 := by omega
      go_wp2_with fail
      have h4 := live_Rename HL3.out (by omega) ⟨#[108, 111, 103, 45, 116, 109, 112]⟩ file
      rw [F4.out] at h4
      refine h4.mono ?_
      rintro e w4 ⟨rfl, hL4, hK4⟩
      have HL4 := Lib.hid hL4
      have HK4 := Lib.hid (HK3.out.trans hK4)
      clear h4 hL4 hK4
      by_cases q4 : c4 ≠ 0
      · have g4 : (c4 != 0) = true := by rw [bne_iff_ne]; exact q4
        have HR := Lib.hid (show repairS S file.data.toList good.data.toList = (S4, c4) by unfold repairS; rw [E1.out, E2.out, E3.out, E4.out]; simp only; rw [if_neg (by omega), if_neg (by omega), if_neg (by omega), if_pos q4])
        clear q4
        go_wp2_with fail
        go_ret
        rw [HR.out]
        exact ⟨rfl, HL4.out.mono (by omega) (by omega), HK4.out⟩
      obtain rfl : c4 = 0 := by omega
      go_wp2_with fail
      have h5 := live_SyncDir HL4.out (by omega)
      rw [F5.out] at h5
      refine h5.mono ?_
      rintro e w5 ⟨rfl, hL5, hK5⟩
      have HL5 := Lib.hid hL5
      have HK5 := Lib.hid (HK4.out.trans hK5)
      clear h5 hL5 hK5
      have HR := Lib.hid (show repairS S file.data.toList good.data.toList = (S5, c5) by unfold repairS; rw [E1.out, E2.out, E3.out, E4.out, E5.out]; simp only; rw [if_neg (by omega), if_neg (by omega), if_neg (by omega), if_neg (by omega)])
      go_wp2_with fail
      go_ret
      rw [HR.out]
      exact ⟨rfl, HL5.out.mono (by omega) (by omega), HK5.out⟩

/-! ### write -/
theorem mem_find {N : Nms} {k : Bys} : decide (k ∈ N.map (·.1)) = (findN N k).isSome := by
  rw [Bool.eq_iff_iff, decide_eq_true_eq]
  unfold findN
  rw [Option.isSome_map, List.find?_isSome]
  constructor
  · intro h
    obtain ⟨p, hp, e⟩ := List.mem_map.1 h
    exact ⟨p, hp, by simp [e]⟩
  · rintro ⟨p, hp, e⟩
    exact List.mem_map.2 ⟨p, hp, by simpa using e⟩
theorem Contains_still (A : Option Addr) (n c B : Nat) (L : List (List UInt8)) (V : ByteArray) (v : List UInt8) (w : World) (h : Sees w B A n (textL L)) (hV : V = mk v) (hn : n ≤ 1000000) :
    Calls Tryz.prog 70 #[.slice A n c, .string V] w fun e w' => e = .returned (.bool (decide (v ∈ L))) ∧ w' = w :=
  (Contains_any A n c B L V v w h hV hn).mono fun _ _ ⟨h1, h2⟩ => ⟨h1, h2.symm⟩
theorem list_any {B d k M : Nat} {w : World} {S : St} (h : Live B w d k M S) (hk : k ≤ 50000) (hd : S.down = false) :
    Calls Tryz.prog 68 #[dptr d] w fun e w' => ∃ A c, e = .returned (.tuple #[.slice A (S.names.map (·.1)).length c, .int .i64 0]) ∧ Sees w' w'.heap.size A (S.names.map (·.1)).length (textL (S.names.map (·.1))) ∧ Below w.heap.size w w' ∧ TyR w' A 9 := by
  have := List_any h.disk h.fit hk
  unfold listL listE at this
  rw [if_neg (by simp [hd]), if_neg (by simp [hd])] at this
  refine this.mono ?_
  rintro e w' ⟨v, rfl, ho, hb⟩
  have ho' : w'.ownsRow w.heap.size 9 1 v (S.names.map (·.1)).length (textL (S.names.map (·.1))) := by
    have e : (S.names.map (·.1)).map Go.Proofs.encStr = textL (S.names.map (·.1)) := by unfold textL texts; simp only [List.map_map]; rfl
    rw [← e]; exact ho
  obtain ⟨A, c, rfl, hs⟩ := Sees.own ho'
  exact ⟨A, c, rfl, hs, hb, own_ty ho'⟩
theorem list_down {B d k M : Nat} {w : World} {S : St} (h : Live B w d k M S) (hk : k ≤ 50000) (hd : S.down = true) :
    Calls Tryz.prog 68 #[dptr d] w fun e w' => ∃ A c, e = .returned (.tuple #[.slice A 0 c, .int .i64 5]) ∧ Below w.heap.size w w' := by
  have := List_any h.disk h.fit hk
  unfold listL listE at this
  rw [if_pos hd, if_pos hd] at this
  refine this.mono ?_
  rintro e w' ⟨v, rfl, ho, hb⟩
  obtain ⟨A, c, rfl, hs⟩ := Sees.own (xs := textL []) ho
  exact ⟨A, c, rfl, hb⟩
/-- what a call of write leaves -/
def Wrote (B g d gen k M : Nat) (v : Value) (vs : List Ev) (n en : Nat) (W : St × Bool × Int) (w : World) (e : Ending) (w' : World) : Prop :=
  e = .returned (.int .i64 W.2.2) ∧ Live B w' d (k + 2) M W.1 ∧ LogAt B w' g d gen v vs n en W.2.1 ∧ KeptX B (fun k => k = g) w w'
theorem writeL_down {S : St} (file fr : Bys) (h : S.down = true) : writeL S file fr = (S, false, 5) := by unfold writeL; rw [if_pos h]
theorem writeL_one {S S1 : St} {file fr : Bys} {c : Int} (h : S.down = false) (h1 : appendS S file fr = (S1, c)) (hc : c ≠ 0) : writeL S file fr = (S1, false, c) := by
  unfold writeL wr1
  rw [if_neg (by rw [h]; decide), h1, if_pos hc]
theorem writeL_sec {S S1 : St} {file fr : Bys} (h : S.down = false) (h1 : appendS S file fr = (S1, 0)) :
    writeL S file fr = ((secureS S1 file (!(findN S.names file).isSome)).1, decide ((secureS S1 file (!(findN S.names file).isSome)).2 ≠ 0), (secureS S1 file (!(findN S.names file).isSome)).2) := by
  obtain ⟨S2, c2, e2⟩ : ∃ S2 c2, syncS S1 file = (S2, c2) := ⟨_, _, rfl⟩
  obtain ⟨S3, c3, e3⟩ : ∃ S3 c3, syncDirS S2 = (S3, c3) := ⟨_, _, rfl⟩
  have w1 : wr1 S file fr = (S1, 0) := h1
  have w2 : wr2 S file fr = (S2, c2) := by unfold wr2; rw [w1]; exact e2
  have w3 : wr3 S file fr = (S3, c3) := by unfold wr3; rw [w2]; exact e3
  unfold writeL secureS
  rw [w1, w2, w3, e2]
  simp only [e3]
  cases (findN S.names file).isSome <;> by_cases q2 : c2 = 0 <;> by_cases q3 : c3 = 0 <;> simp_all
set_option maxHeartbeats 4000000 in
set_option maxRecDepth 20000 in
theorem write_any {B g d gen n en k M : Nat} {w : World} {v : Value} {vs : List Ev} {S : St} (h : Live B w d k M S) (hk : k ≤ 40000) (hM : M ≤ 400000000) (hl : LogAt B w g d gen v vs n en false) (nm : List UInt8)
    (HN : ∀ W, Calls Tryz.prog 8 #[.int .u64 (gen : Nat)] W fun e w' => e = .returned (.string (mk nm)) ∧ Below W.heap.size W w') (hnm : nm.length ≤ 1000) (fr : ByteArray) (hfr : fr.size ≤ 100000000) :
    Calls Tryz.prog 44 #[.pointer (some ⟨g, 0, none⟩), .string fr] w (Wrote B g d gen k (M + fr.size) v vs n en (writeL S nm fr.data.toList) w) := by
  obtain ⟨F, hF⟩ : ∃ F, F = mk nm := ⟨_, rfl⟩
  have hFd : F.data.toList = nm := by rw [hF]; simp [mk]
  have hFz : F.size ≤ 1000 := by rw [hF, mk_size]; exact hnm
  rw [← hF] at HN
  have HNN := Lib.hid HN
  have HFD := Lib.hid hFd
  have HF := Lib.hid hF
  have HL0 := Lib.hid hl
  have HV0 := Lib.hid h
  obtain ⟨⟨c0, c1, c2, c3, c4⟩, f4⟩ := log_facts hl
  clear HN hFd hl h hF c2 c3 c4 f4
  go_enter Tryz.func44, Tryz.ntmps44
  go_wp2_with fail
  refine (HNN.out _).mono ?_
  rintro e w1 ⟨rfl, hB1⟩
  have HL1 := Lib.hid (HL0.out.below hB1)
  have HV1 := Lib.hid (HV0.out.same hB1)
  have HK1 := Lib.hid (KeptX.of_below (B := B) (fun k => k = g) hB1)
  obtain ⟨⟨a0, a1, _, _, _⟩, _⟩ := log_facts HL1.out
  clear hB1 c0 c1
  cases hd : S.down with
  | true =>
    have HW := Lib.hid (writeL_down nm fr.data.toList hd)
    have HLS := Lib.hid (list_down HV1.out (by omega) hd)
    clear hd
    go_wp2_with fail
    refine Calls.mono HLS.out ?_
    rintro e w2 ⟨A, c, rfl, hB2⟩
    have HL2 := Lib.hid (HL1.out.below hB2)
    have HV2 := Lib.hid (HV1.out.same hB2)
    have HK2 := Lib.hid (HK1.out.trans (KeptX.of_below _ hB2))
    clear hB2 a0 a1
    go_wp2_with fail
    go_ret
    rw [HW.out]
    exact ⟨rfl, HV2.out.mono (by omega) (by omega), HL2.out, HK2.out⟩
  | false =>
    have HLS := Lib.hid (list_any HV1.out (by omega) hd)
    obtain ⟨ns, hns⟩ : ∃ ns, ns = S.names.map (·.1) := ⟨_, rfl⟩
    rw [← hns] at HLS
    have HNS := Lib.hid hns
    have hnl : ns.length ≤ 40000 := by rw [hns, List.length_map]; exact Nat.le_trans HV1.out.fit.nn hk
    have HD := Lib.hid hd
    clear hd hns
    go_wp2_with fail
    refine Calls.mono HLS.out ?_
    rintro e w2 ⟨A, c, rfl, hs, hB2, hty⟩
    have HTY := Lib.hid hty
    have HL2 := Lib.hid (HL1.out.below hB2)
    have HV2 := Lib.hid (HV1.out.same hB2)
    have HK2 := Lib.hid (HK1.out.trans (KeptX.of_below _ hB2))
    have HS2 := Lib.hid hs
    obtain ⟨⟨b0, b1, _, _, _⟩, _⟩ := log_facts HL2.out
    obtain ⟨S1, c1, e1⟩ : ∃ S1 c1, appendS S nm fr.data.toList = (S1, c1) := ⟨_, _, rfl⟩
    have hap := live_Append HV2.out (by omega) (by omega) F fr (by omega) (by omega)
    rw [HFD.out, e1] at hap
    have HAP := Lib.hid hap
    have E1 := Lib.hid e1
    clear hB2 hs a0 a1 hap e1 HLS hty
    go_wp2_with fail
    refine Calls.mono HAP.out ?_
    rintro e w3 ⟨rfl, hL3, hK3⟩
    have HV3 := Lib.hid hL3
    have HL3 := Lib.hid (HL2.out.disk hK3)
    have HK3 := Lib.hid (HK2.out.trans (KeptX.of_kept _ hK3))
    by_cases q1 : c1 = 0
    · subst q1
      have hs3 : Sees w3 w3.heap.size A ns.length (textL ns) := (HS2.out.keepX HTY.out (by decide) (by decide) (KeptX.of_kept (fun _ => False) hK3) (fun _ h => h.elim)).1
      have HS3 := Lib.hid hs3
      obtain ⟨⟨d0, _, _, _, _⟩, _⟩ := log_facts HL3.out
      have d0' : w3.drew.cell? ⟨g, 0, none⟩ = some (dptr d) := d0
      have HCT := Lib.hid (fun W (hW : Sees W W.heap.size A ns.length (textL ns)) => Contains_still A ns.length c W.heap.size ns F nm W hW HF.out (by omega))
      obtain ⟨bb, hbb⟩ : ∃ bb, bb = decide (nm ∈ ns) := ⟨_, rfl⟩
      rw [← hbb] at HCT
      have HBB := Lib.hid hbb
      have HSD := Lib.hid (show Sees w3.drew w3.drew.heap.size A ns.length (textL ns) from hs3)
      clear hL3 hK3 hs3 b0 b1 hbb
      go_wp2_with fail
      refine wp_region_still_tail 9 (by kernel_rfl) (by kernel_rfl) ?_
      simp only [List.take_succ_cons, List.take_zero, List.drop_succ_cons, List.drop_zero]
      repeat still_step
      still_call (HCT.out _ HSD.out)
      repeat still_step
      refine wpStill_nil ?_
      change wpList _ _ _ _ _ w3.drew
      have HL4 := Lib.hid (HL3.out.below (Below.refl w3.heap.size w3).drew)
      have HV4 := Lib.hid (HV3.out.same (Below.refl w3.heap.size w3).drew)
      have HK4 := Lib.hid HK3.out.drew
      clear d0 d0' HSD HCT HL3 HV3 HK3
      generalize w3.drew = w4 at HL4 HV4 HK4 ⊢
      obtain ⟨S5, c5, e5⟩ : ∃ S5 c5, secureS S1 nm (!bb) = (S5, c5) := ⟨_, _, rfl⟩
      have hse := secure_any HV4.out (by omega) F (!bb)
      rw [HFD.out, e5] at hse
      have HSE := Lib.hid hse
      have HW := Lib.hid (show writeL S nm fr.data.toList = (S5, decide (c5 ≠ 0), c5) by
        have h := writeL_sec HD.out E1.out
        rw [← mem_find, ← HNS.out, ← HBB.out, e5] at h
        exact h)
      clear hse e5
      go_wp2_with fail
      refine Calls.mono HSE.out ?_
      rintro e w5 ⟨rfl, hL5, hK5⟩
      have HV5 := Lib.hid hL5
      have HL5 := Lib.hid (HL4.out.disk hK5)
      have HK5 := Lib.hid (HK4.out.trans (KeptX.of_kept _ hK5))
      clear hL5 hK5
      by_cases q5 : c5 = 0
      · subst q5
        go_wp2_with fail
        go_ret
        rw [HW.out]
        exact ⟨rfl, HV5.out, HL5.out, HK5.out⟩
      · have g5 : (c5 != 0) = true := by rw [bne_iff_ne]; exact q5
        have HBR := Lib.hid (show decide (c5 ≠ 0) = true by simpa using q5)
        obtain ⟨⟨_, _, _, _, x4⟩, f4⟩ := log_facts HL5.out
        obtain ⟨p1, p2⟩ := HL5.out.set true
        have P1 := Lib.hid p1
        have P2 := Lib.hid (HK5.out.trans p2)
        have P3 := Lib.hid (HV5.out.set HL5.out.cells (by decide) 4 (.bool true))
        clear q5 p1 p2
        go_wp2_with fail
        go_ret
        rw [HW.out, HBR.out]
        exact ⟨rfl, P3.out, P1.out, P2.out⟩
    · have g1 : (c1 != 0) = true := by rw [bne_iff_ne]; exact q1
      have HW := Lib.hid (writeL_one HD.out E1.out q1)
      clear hL3 hK3 q1 b0 b1
      go_wp2_with fail
      go_ret
      rw [HW.out]
      exact ⟨rfl, HV3.out, HL3.out, HK3.out⟩
end Go.Proofs.YtggognnjnfphgaaGreatDoor
