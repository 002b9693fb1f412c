/- The reference's Bytes. No statement of the seat is proved here. -/
import Derived.Test.YtokjmefleanjaaaGreatMesQ
import Derived.Test.YtokjmefleanjaaaGreatMesD
import Derived.Test.YtokjmefleanjaaaGreatMesN
import Derived.Test.YtokjmefleanjaaaGreatReN
namespace Go.Proofs.YtokjmefleanjaaaGreat
open Go.RowKit Go.Op

set_option maxRecDepth 20000 in
theorem one_any (b : Bool) (n o : Int) (w : World) (ho : o = if b then n else 0) : Calls Tryz.prog 30 #[.bool b, .int .i64 n] w fun e w' => e = .returned (.int .i64 o) ∧ Below w.heap.size w w' := by
  cases b with
  | true =>
    obtain rfl : o = n := by simpa using ho
    clear ho
    go_enter Tryz.func30, Tryz.ntmps30
    go_wp2_with fail
    go_ret
    exact ⟨rfl, Below.refl _ _⟩
  | false =>
    obtain rfl : o = 0 := by simpa using ho
    clear ho
    go_enter Tryz.func30, Tryz.ntmps30
    go_wp2_with fail
    go_ret
    exact ⟨rfl, Below.refl _ _⟩
set_option maxRecDepth 20000 in
theorem two_any (t : Int) (S : ByteArray) (w : World) (h0 : 0 ≤ t) (h1 : t ≤ 65535) (hS : S = mk (be t.toNat 2)) :
    Calls Tryz.prog 31 #[.int .i64 t] w fun e w' => e = .returned (.string S) ∧ Below w.heap.size w w' := by
  have u1 : IntKind.u64.wrap t = t := by rw [IntKind.wrap_u64]; omega
  have HB := Lib.hid (show ∀ w : World, Calls Tryz.prog 59 #[.int .u64 t, .int .i64 2] w fun e w' => e = .returned (.string S) ∧ Below w.heap.size w w' from fun w => by
    rw [hS]; have := RefBytes_any t.toNat 2 w (by decide) (by omega); rw [show ((t.toNat : Nat) : Int) = t by omega] at this; exact this)
  clear hS
  go_enter Tryz.func31, Tryz.ntmps31
  go_wp2_with fail
  refine (HB.out _).mono ?_
  rintro e w1 ⟨rfl, hB1⟩
  have HB1 := Lib.hid hB1
  clear hB1
  go_wp2_with fail
  go_ret
  exact ⟨rfl, HB1.out⟩
theorem ms_later {w : World} {g : Nat} {h : Hd} {q a n d : Value} (k : Whole w g msT (msA h q a n d)) :
    (∀ p : Later w, p.val.cell? ⟨g, 0, none⟩ = some (.int .i64 h.id)) ∧ (∀ p : Later w, p.val.cell? ⟨g, 1, none⟩ = some (.bool h.qr)) ∧ (∀ p : Later w, p.val.cell? ⟨g, 2, none⟩ = some (.int .i64 h.op)) ∧ (∀ p : Later w, p.val.cell? ⟨g, 3, none⟩ = some (.bool h.aa)) ∧
    (∀ p : Later w, p.val.cell? ⟨g, 4, none⟩ = some (.bool h.tc)) ∧ (∀ p : Later w, p.val.cell? ⟨g, 5, none⟩ = some (.bool h.rd)) ∧ (∀ p : Later w, p.val.cell? ⟨g, 6, none⟩ = some (.bool h.ra)) ∧ (∀ p : Later w, p.val.cell? ⟨g, 7, none⟩ = some (.int .i64 h.z)) ∧
    (∀ p : Later w, p.val.cell? ⟨g, 8, none⟩ = some (.int .i64 h.rc)) :=
  ⟨fun p => (k.later p).cell 0, fun p => (k.later p).cell 1, fun p => (k.later p).cell 2, fun p => (k.later p).cell 3, fun p => (k.later p).cell 4, fun p => (k.later p).cell 5, fun p => (k.later p).cell 6, fun p => (k.later p).cell 7, fun p => (k.later p).cell 8⟩
/-- where the reference's Bytes stands -/
structure BSt (w : World) (g pb : Nat) (hd : Hd) (x : Mrd) (l : List UInt8) (K : Kn) (A : Option Addr) (n c : Nat) (W : World) : Prop where
  p : Whole W pb rpT #[.string (mk l), .slice A n c]
  r : Whole W g msT (msV hd x)
  k : RefPk W l K (rpV l A n c)
  b : Below w.heap.size w W
  lt : w.heap.size ≤ pb
  ne : g ≠ pb
section
variable {w W W' : World} {g pb : Nat} {hd : Hd} {x : Mrd} {l l' : List UInt8} {K K' : Kn} {A A' : Option Addr} {n c n' c' : Nat}
theorem bst_below (h : BSt w g pb hd x l K A n c W) (hb : Below W.heap.size W W') : BSt w g pb hd x l K A n c W' :=
  ⟨h.p.below hb h.p.lt, h.r.below hb h.r.lt, h.k.same hb, h.b.trans (hb.mono h.b.size), h.lt, h.ne⟩
theorem bst_msg (h : BSt w g pb hd x l K A n c W) (hl : l.length ≤ l'.length) : BSt w g pb hd x l' K A n c (W.setCell ⟨pb, 0, none⟩ (.string (mk l'))) :=
  ⟨by simpa using h.p.put 0 (.string (mk l')), h.r.far (p := ⟨pb, 0, none⟩) h.ne _, (h.k.msg hl).put h.p (by decide) 0 _, h.b.setCell (p := ⟨pb, 0, none⟩) h.lt _, h.lt, h.ne⟩
theorem bst_pk (h : BSt w g pb hd x l K A n c W) (hk : RefPk W l' K' (rpV l' A' n' c')) :
    BSt w g pb hd x l' K' A' n' c' ((W.setCell ⟨pb, 0, none⟩ (.string (mk l'))).setCell ⟨pb, 1, none⟩ (.slice A' n' c')) :=
  ⟨by simpa using (h.p.put 0 (.string (mk l'))).put 1 (.slice A' n' c'),
   (h.r.far (p := ⟨pb, 0, none⟩) h.ne _).far (p := ⟨pb, 1, none⟩) h.ne _,
   (hk.put h.p (by decide) 0 _).put (h.p.put 0 (.string (mk l'))) (by decide) 1 _,
   (h.b.setCell (p := ⟨pb, 0, none⟩) h.lt _).setCell (p := ⟨pb, 1, none⟩) h.lt _, h.lt, h.ne⟩
theorem bst_facts (h : BSt w g pb hd x l K A n c W) : W.cell? ⟨pb, 0, none⟩ = some (.string (mk l)) ∧ W.cell? ⟨pb, 1, none⟩ = some (.slice A n c) ∧ W.frozen? ⟨pb, 0, none⟩ = false ∧ W.frozen? ⟨pb, 1, none⟩ = false :=
  ⟨h.p.cell 0, h.p.cell 1, h.p.frozen 0, h.p.frozen 1⟩
end
theorem sec_step {α β : Type} {W : β → WSt → WSt} {f : α → β} {xs : List α} {k : Nat} {y : α} (h : xs[k]? = some y) (st : WSt) : secW W ((xs.take (k + 1)).map f) st = W (f y) (secW W ((xs.take k).map f) st) := by
  rw [List.take_add_one, h]
  simp [secW]
theorem bits_sum {h : Hd} (hh : okH h = true) {o1 o2 o3 o4 o5 : Int} (e1 : o1 = if h.qr then 32768 else 0) (e2 : o2 = if h.aa then 1024 else 0) (e3 : o3 = if h.tc then 512 else 0) (e4 : o4 = if h.rd then 256 else 0) (e5 : o5 = if h.ra then 128 else 0) :
    o1 + h.op * 2048 + o2 + o3 + o4 + o5 + h.z * 16 + h.rc = (bitsH h : Nat) ∧ bitsH h ≤ 65535 ∧ (0 ≤ o1 ∧ o1 ≤ 32768) ∧ (0 ≤ o2 ∧ o2 ≤ 1024) ∧ (0 ≤ o3 ∧ o3 ≤ 512) ∧ (0 ≤ o4 ∧ o4 ≤ 256) ∧ (0 ≤ o5 ∧ o5 ≤ 128) := by
  obtain ⟨_, h2, h3, h4⟩ := okH_is hh
  have B : ∀ (b : Bool) (o : Int) (n : Nat), (o = if b then (n : Int) else 0) → o = (bitB b n : Nat) ∧ 0 ≤ o ∧ o ≤ n := fun b o n e => by
    cases b
    · simp at e; subst e; simp [bitB]
    · simp at e; subst e; simp [bitB]
  obtain ⟨a1, b1, c1⟩ := B _ _ 32768 e1
  obtain ⟨a2, b2, c2⟩ := B _ _ 1024 e2
  obtain ⟨a3, b3, c3⟩ := B _ _ 512 e3
  obtain ⟨a4, b4, c4⟩ := B _ _ 256 e4
  obtain ⟨a5, b5, c5⟩ := B _ _ 128 e5
  have hb : bitsH h = bitB h.qr 32768 + h.op.toNat * 2048 + bitB h.aa 1024 + bitB h.tc 512 + bitB h.rd 256 + bitB h.ra 128 + h.z.toNat * 16 + h.rc.toNat := rfl
  refine ⟨by omega, by omega, ⟨b1, c1⟩, ⟨b2, c2⟩, ⟨b3, c3⟩, ⟨b4, c4⟩, ⟨b5, c5⟩⟩

theorem zp_facts {W : World} {pb : Nat} (h : Whole W pb rpT #[.string ⟨#[]⟩, .slice none 0 0]) : W.cell? ⟨pb, 0, none⟩ = some (.string ⟨#[]⟩) ∧ W.cell? ⟨pb, 1, none⟩ = some (.slice none 0 0) ∧ W.frozen? ⟨pb, 0, none⟩ = false ∧ W.frozen? ⟨pb, 1, none⟩ = false :=
  ⟨h.cell 0, h.cell 1, h.frozen 0, h.frozen 1⟩
theorem RefPk.first (w : World) (l : List UInt8) : RefPk w l noneK (rpV l none 0 0) := ⟨none, 0, 0, [], rfl, ⟨rfl, fun h => absurd h (by omega)⟩, rfl, Nat.zero_le _⟩
theorem bst_new {w V W : World} {g : Nat} {hd : Hd} {x : Mrd} {l : List UInt8} (hb : Below w.heap.size w V) (hw : Whole V g msT (msV hd x)) (hc : Below V.heap.size V W) : BSt w g W.heap.size hd x l noneK none 0 0 (W.alloc (.cells #[.string (mk l), .slice none 0 0] rpT)) := by
  have h1 := hb.size
  have h2 := hc.size
  have h3 := hw.lt
  have hb2 := hb.trans (hc.mono h1)
  exact ⟨Whole.new _ _ _, (hw.below hc h3).alloc _, RefPk.first _ _, hb2.alloc hb2.size _, by omega, by omega⟩
theorem bst_set {w V W : World} {g pb : Nat} {hd : Hd} {x : Mrd} {l : List UInt8} (hb : Below w.heap.size w V) (hw : Whole V g msT (msV hd x)) (hc : Below V.heap.size V W) (hp : Whole W pb rpT #[.string ⟨#[]⟩, .slice none 0 0]) (hge : V.heap.size ≤ pb) :
    BSt w g pb hd x l noneK none 0 0 ((W.setCell ⟨pb, 0, none⟩ (.string (mk l))).setCell ⟨pb, 1, none⟩ (.slice none 0 0)) := by
  have h1 := hb.size
  have h3 := hw.lt
  have hne : g ≠ pb := by omega
  have hb2 := hb.trans (hc.mono h1)
  exact ⟨by simpa using (hp.put 0 (.string (mk l))).put 1 (.slice none 0 0), ((hw.below hc h3).far (p := ⟨pb, 0, none⟩) hne _).far (p := ⟨pb, 1, none⟩) hne _, RefPk.first _ _,
    (hb2.setCell (p := ⟨pb, 0, none⟩) (by show w.heap.size ≤ pb; omega) _).setCell (p := ⟨pb, 1, none⟩) (by show w.heap.size ≤ pb; omega) _, by omega, hne⟩
theorem SeesR.set {W : World} {A : Option Addr} {n pb i : Nat} {xs : List Rrd} {u : Value} (h : SeesR W W.heap.size A n xs) (hne : ∀ a, A = some a → a.block ≠ pb) : SeesR (W.setCell ⟨pb, i, none⟩ u) (W.setCell ⟨pb, i, none⟩ u).heap.size A n xs := by
  refine ⟨h.1, fun hn => ?_⟩
  obtain ⟨b, off, e, hlt, hc⟩ := h.2 hn
  have hb : b ≠ pb := hne _ e
  have hk : ∀ o, (W.setCell ⟨pb, i, none⟩ u).cell? ⟨b, o, none⟩ = W.cell? ⟨b, o, none⟩ := fun o => World.cell?_setCell_far W ⟨pb, i, none⟩ ⟨b, o, none⟩ u (fun h => hb h.symm)
  refine ⟨b, off, e, by simpa using hlt, fun j x hx => ?_⟩
  obtain ⟨x0, x1, x2, x3, x4⟩ := hc j x hx
  exact ⟨(hk _).trans x0, (hk _).trans x1, (hk _).trans x2, (hk _).trans x3, (hk _).trans x4⟩
theorem sec_all {m : Mes} {x : Mrd} {hd : Hd} (hm : m = x.toMes hd) : secW writeW ((x.la ++ x.ln ++ x.ld).map Rrd.toRec) (secW queW (x.lq.map Qrd.toQue) (headM m, noneK)) = fullW m := by
  have e : fullW m = secW writeW m.ad (secW writeW m.ns (secW writeW m.an (secW queW m.q (headM m, noneK)))) := rfl
  rw [e, hm]
  show _ = secW writeW (x.ld.map Rrd.toRec) (secW writeW (x.ln.map Rrd.toRec) (secW writeW (x.la.map Rrd.toRec) (secW queW (x.lq.map Qrd.toQue) (headM (x.toMes hd), noneK))))
  simp only [secW, List.map_append, List.foldl_append]
theorem region_split {id : Nat} {l : Array Oper} {Q : Exit → Act → World → Prop} {a A : Act} {w : World} (R : World → Prop) (h1 : (Code.region id l true).wp Tryz.prog (fun e a' w' => match e with | .normal => a' = A ∧ R w' | _ => False) a w) (h2 : ∀ w', R w' → Q .normal A w') : (Code.region id l true).wp Tryz.prog Q a w :=
  Code.wp_mono (fun e a' w' h => by
    cases e with
    | normal => obtain ⟨ha, hr⟩ := h; subst ha; exact h2 w' hr
    | _ => exact h.elim) h1
section
variable {P : Program} {ops : Array Oper} {Q : Exit → Act → World → Prop} {md : Region.Mode} {S : World → Prop}
/-- wpAnyH_take, the operation taken apart -/
theorem takeH {i : Nat} {d : Option Tmp} {op : Op} {ty : TypeId} {ps : String} {af : Array Edge} {gd : Option (Nat × Bool)} {v : Value} {fuel : Nat} {listed : Array Bool} {a : Act} {w : World} (hi : ops[i]? = some (Oper.mk d op ty ps af gd))
    (hs : Region.noSelect ops = true) (hf : Region.free md ops listed i = true) (hr : (Region.ready md ops listed).contains i = true)
    (hQ : ∀ c a w, Q (.panic c) (a.put d v) w → Q (.panic c) a w) (hy : YieldsIf P ops S (Oper.mk d op ty ps af gd) v a) (hS : S w)
    (h : wpAnyH P md ops Q S fuel (listed.setIfInBounds i true) (a.put d v) w) : wpAnyH P md ops Q S (fuel + 1) listed a w :=
  wpAnyH_take hi hs hf hr hQ hy hS h
/-- AllReadyH.cons, the operation taken apart -/
theorem consH {fuel : Nat} {listed : Array Bool} {a : Act} {w : World} {i : Nat} {d : Option Tmp} {op : Op} {ty : TypeId} {ps : String} {af : Array Edge} {gd : Option (Nat × Bool)} {rs : List Nat} (ho : ops[i]? = some (Oper.mk d op ty ps af gd))
    (h : ∀ K' : Act → World → Prop, Shut (∀ a w, S w → (S w → wpAnyH P md ops Q S fuel (listed.setIfInBounds i true) a w) → K' a w) → if Region.wanted (Oper.mk d op ty ps af gd) (yielded ops a.tmps) = true then Oper.wp P (Oper.mk d op ty ps af gd) a w K' Q else K' (a.put d undef) w)
    (hs : AllReadyH P md ops Q S fuel listed a w rs) : AllReadyH P md ops Q S fuel listed a w (i :: rs) := AllReadyH.cons ho h hs
end
set_option maxHeartbeats 8000000 in
set_option maxRecDepth 20000 in
theorem RefBytesM_any (hd : Hd) (x : Mrd) (w : World) (hx : SeesM w w.heap.size x) (hok : okM (x.toMes hd) = true) (hf : fewM x = true) :
    Calls Tryz.prog 10 #[.agg (msV hd x)] w fun e w' => e = .returned (.string (mk (fullW (x.toMes hd)).1)) ∧ Below w.heap.size w w' := by
  obtain ⟨hsm, h30, h10⟩ := fewM_is hf
  obtain ⟨hh, sa, sn, sd, sq⟩ := okM_is hok
  have hh : okH hd = true := hh
  obtain ⟨m, hm⟩ : ∃ m, m = x.toMes hd := ⟨_, rfl⟩
  have HM := Lib.hid hm
  have HOK := Lib.hid (show okM m = true by rw [hm]; exact hok)
  have HF := Lib.hid hf
  have HX := Lib.hid hx
  rw [← hm]
  have hqe : m.q.length = x.qn := by rw [hm, ← hx.q.1]; simp [Mrd.toMes]
  have hae : m.an.length = x.an := by rw [hm, ← hx.a.1]; simp [Mrd.toMes]
  have hne : m.ns.length = x.nn := by rw [hm, ← hx.n.1]; simp [Mrd.toMes]
  have hde : m.ad.length = x.dn := by rw [hm, ← hx.d.1]; simp [Mrd.toMes]
  obtain ⟨S1, f1⟩ : ∃ S, S = mk (be hd.id.toNat 2) := ⟨_, rfl⟩
  obtain ⟨S2, f2⟩ : ∃ S, S = mk (be ((bitsH hd : Nat) : Int).toNat 2) := ⟨_, rfl⟩
  obtain ⟨S3, f3⟩ : ∃ S, S = mk (be (x.qn : Int).toNat 2) := ⟨_, rfl⟩
  obtain ⟨S4, f4⟩ : ∃ S, S = mk (be (x.an : Int).toNat 2) := ⟨_, rfl⟩
  obtain ⟨S5, f5⟩ : ∃ S, S = mk (be (x.nn : Int).toNat 2) := ⟨_, rfl⟩
  obtain ⟨S6, f6⟩ : ∃ S, S = mk (be (x.dn : Int).toNat 2) := ⟨_, rfl⟩
  have z1 : S1.size = 2 := by rw [f1, mk_size, be_length]
  have z2 : S2.size = 2 := by rw [f2, mk_size, be_length]
  have z3 : S3.size = 2 := by rw [f3, mk_size, be_length]
  have z4 : S4.size = 2 := by rw [f4, mk_size, be_length]
  have z5 : S5.size = 2 := by rw [f5, mk_size, be_length]
  have z6 : S6.size = 2 := by rw [f6, mk_size, be_length]
  have HHM := Lib.hid (show S1 ++ S2 ++ S3 ++ S4 ++ S5 ++ S6 = mk (headM m) by
    have e : headM m = be hd.id.toNat 2 ++ be ((bitsH hd : Nat) : Int).toNat 2 ++ be (x.qn : Int).toNat 2 ++ be (x.an : Int).toNat 2 ++ be (x.nn : Int).toNat 2 ++ be (x.dn : Int).toNat 2 := by
      unfold headM
      rw [hqe, hae, hne, hde, hm]
      simp only [Int.toNat_natCast, List.append_assoc]
      rfl
    rw [f1, f2, f3, f4, f5, f6, mk_append, mk_append, mk_append, mk_append, mk_append, e])
  have F1 := Lib.hid f1
  have F2 := Lib.hid f2
  have F3 := Lib.hid f3
  have F4 := Lib.hid f4
  have F5 := Lib.hid f5
  have F6 := Lib.hid f6
  clear f1 f2 f3 f4 f5 f6 hqe hae hne hde
  have hid : 0 ≤ hd.id ∧ hd.id ≤ 65535 := (okH_is hh).1
  have hop : 0 ≤ hd.op ∧ hd.op ≤ 15 := (okH_is hh).2.1
  have hzz : 0 ≤ hd.z ∧ hd.z ≤ 7 := (okH_is hh).2.2.1
  have hrc : 0 ≤ hd.rc ∧ hd.rc ≤ 15 := (okH_is hh).2.2.2
  obtain ⟨o1, e1⟩ : ∃ o : Int, o = if hd.qr then 32768 else 0 := ⟨_, rfl⟩
  obtain ⟨o2, e2⟩ : ∃ o : Int, o = if hd.aa then 1024 else 0 := ⟨_, rfl⟩
  obtain ⟨o3, e3⟩ : ∃ o : Int, o = if hd.tc then 512 else 0 := ⟨_, rfl⟩
  obtain ⟨o4, e4⟩ : ∃ o : Int, o = if hd.rd then 256 else 0 := ⟨_, rfl⟩
  obtain ⟨o5, e5⟩ : ∃ o : Int, o = if hd.ra then 128 else 0 := ⟨_, rfl⟩
  obtain ⟨hsum, hbits, b1, b2, b3, b4, b5⟩ := bits_sum hh e1 e2 e3 e4 e5
  have HSUM := Lib.hid hsum
  have HO1 := Lib.hid (show ∀ (V : World) (q : Later V), Calls Tryz.prog 30 #[.bool hd.qr, .int .i64 32768] q.val fun e w'' => e = .returned (.int .i64 o1) ∧ ∃ q' : Later V, w'' = q'.val from fun V q => later_call (one_any _ _ _ _ e1))
  have HO2 := Lib.hid (show ∀ (V : World) (q : Later V), Calls Tryz.prog 30 #[.bool hd.aa, .int .i64 1024] q.val fun e w'' => e = .returned (.int .i64 o2) ∧ ∃ q' : Later V, w'' = q'.val from fun V q => later_call (one_any _ _ _ _ e2))
  have HO3 := Lib.hid (show ∀ (V : World) (q : Later V), Calls Tryz.prog 30 #[.bool hd.tc, .int .i64 512] q.val fun e w'' => e = .returned (.int .i64 o3) ∧ ∃ q' : Later V, w'' = q'.val from fun V q => later_call (one_any _ _ _ _ e3))
  have HO4 := Lib.hid (show ∀ (V : World) (q : Later V), Calls Tryz.prog 30 #[.bool hd.rd, .int .i64 256] q.val fun e w'' => e = .returned (.int .i64 o4) ∧ ∃ q' : Later V, w'' = q'.val from fun V q => later_call (one_any _ _ _ _ e4))
  have HO5 := Lib.hid (show ∀ (V : World) (q : Later V), Calls Tryz.prog 30 #[.bool hd.ra, .int .i64 128] q.val fun e w'' => e = .returned (.int .i64 o5) ∧ ∃ q' : Later V, w'' = q'.val from fun V q => later_call (one_any _ _ _ _ e5))
  obtain ⟨W, hW⟩ : ∃ W, W = w.alloc (.cells (msV hd x) msT) := ⟨_, rfl⟩
  obtain ⟨g, hg⟩ : ∃ g, g = w.heap.size := ⟨_, rfl⟩
  have HB0 := Lib.hid (show Below w.heap.size w W by rw [hW]; exact (Below.refl _ _).alloc (Nat.le_refl _) _)
  have HW0 := Lib.hid (show Whole W g msT (msV hd x) by rw [hW, hg]; exact Whole.new w msT _)
  have HWW := Lib.hid hW
  have HG := Lib.hid hg
  have HMV := Lib.hid (show msV hd x = #[.int .i64 hd.id, .bool hd.qr, .int .i64 hd.op, .bool hd.aa, .bool hd.tc, .bool hd.rd, .bool hd.ra, .int .i64 hd.z, .int .i64 hd.rc, .slice x.qA x.qn x.qc, .slice x.aA x.an x.ac, .slice x.nA x.nn x.nc, .slice x.dA x.dn x.dc] from rfl)
  clear hW hg hx e1 e2 e3 e4 e5 hsum hm hok hf hsm hh sa sn sd sq
  obtain ⟨d0, d1, d2, d3, d4, d5, d6, d7, d8⟩ := ms_later HW0.out
  rw [HMV.out]
  go_enter Tryz.func10, Tryz.ntmps10
  go_wp2_with fail
  rw [← HMV.out, ← HWW.out, ← HG.out]
  refine region_later (by kernel_rfl) ?_
  repeat (go_big_quiet_step ((first
    | (go_at_call 30; with_reducible exact HO1.out _ _)
    | (go_at_call 30; with_reducible exact HO2.out _ _)
    | (go_at_call 30; with_reducible exact HO3.out _ _)
    | (go_at_call 30; with_reducible exact HO4.out _ _)
    | (go_at_call 30; with_reducible exact HO5.out _ _))))
  refine wpQuiet_nil ?_
  rintro _ ⟨q2, rfl⟩
  obtain ⟨V, hB⟩ := q2
  simp only []
  rw [HSUM.out]
  have HB1 := Lib.hid (HB0.out.trans (hB.mono HB0.out.size))
  have HW1 := Lib.hid (HW0.out.below hB HW0.out.lt)
  clear hB d0 d1 d2 d3 d4 d5 d6 d7 d8
  obtain ⟨c0, _, _, _, _, _, _, _, _, c9, c10, c11, c12⟩ := ms_facts HW1.out
  go_wp2_with fail
  go_cut [4] (fun p4 V' => ∃ pb A n c, p4 = .pointer (some ⟨pb, 0, none⟩) ∧ BSt w g pb hd x (headM m) noneK A n c V')
  case first =>
    have ne0 : ¬ V.heap.size = g := by have h2 := HW1.out.lt; omega
    have en0 : ¬ g = V.heap.size := fun h => ne0 h.symm
    have ne0' : ¬ V.drew.heap.size = g := ne0
    have en0' : ¬ g = V.drew.heap.size := en0
    go_region_held3 (fun w' => w'.cell? ⟨g, 0, none⟩ = some (.int .i64 hd.id) ∧ w'.cell? ⟨g, 9, none⟩ = some (.slice x.qA x.qn x.qc) ∧ w'.cell? ⟨g, 10, none⟩ = some (.slice x.aA x.an x.ac) ∧ w'.cell? ⟨g, 11, none⟩ = some (.slice x.nA x.nn x.nc) ∧ w'.cell? ⟨g, 12, none⟩ = some (.slice x.dA x.dn x.dc)) (go_keep) (first
      | (go_at_call 31; (refine (two_any hd.id S1 _ hid.1 hid.2 F1.out).mono ?_; rintro e w1 ⟨rfl, hB1⟩; have HC1 := Lib.hid (show Below V.heap.size V w1 by (first | exact ((Below.refl V.heap.size V).drew).trans (hB1.mono ((Below.refl V.heap.size V).drew).size) | exact (((Below.refl V.heap.size V).drew).alloc ((Below.refl V.heap.size V).drew).size _).trans (hB1.mono (((Below.refl V.heap.size V).drew).alloc ((Below.refl V.heap.size V).drew).size _).size))); (first | (have HPB := Lib.hid (show Whole w1 V.heap.size rpT #[.string ⟨#[]⟩, .slice none 0 0] from (Whole.new V.drew rpT #[.string ⟨#[]⟩, .slice none 0 0]).below hB1 (Whole.new V.drew rpT #[.string ⟨#[]⟩, .slice none 0 0]).lt); obtain ⟨q0, q1, q2, q3⟩ := zp_facts HPB.out) | (have HPB := Lib.hid (HPB.out.below hB1 HPB.out.lt); obtain ⟨q0, q1, q2, q3⟩ := zp_facts HPB.out) | skip); clear hB1; have ne1 : ¬ w1.heap.size = g := (by have h1 := HC1.out.size; have h2 := HW1.out.lt; omega); have en1 : ¬ g = w1.heap.size := (fun h => ne1 h.symm); obtain ⟨i0, _, _, _, _, _, _, _, _, i9, i10, i11, i12⟩ := ms_facts (HW1.out.below HC1.out HW1.out.lt)))
      | (go_at_call 31; (refine (two_any ((bitsH hd : Nat) : Int) S2 _ (by omega) (by omega) F2.out).mono ?_; rintro e w2 ⟨rfl, hB2⟩; have HC2 := Lib.hid (show Below V.heap.size V w2 by (first | exact HC1.out.trans (hB2.mono HC1.out.size) | exact (HC1.out.alloc HC1.out.size _).trans (hB2.mono (HC1.out.alloc HC1.out.size _).size))); (first | (have HPB := Lib.hid ((Whole.new w1 rpT #[.string ⟨#[]⟩, .slice none 0 0]).below hB2 (Whole.new w1 rpT #[.string ⟨#[]⟩, .slice none 0 0]).lt); obtain ⟨q0, q1, q2, q3⟩ := zp_facts HPB.out) | (have HPB := Lib.hid (HPB.out.below hB2 HPB.out.lt); obtain ⟨q0, q1, q2, q3⟩ := zp_facts HPB.out) | skip); clear hB2; have ne2 : ¬ w2.heap.size = g := (by have h1 := HC2.out.size; have h2 := HW1.out.lt; omega); have en2 : ¬ g = w2.heap.size := (fun h => ne2 h.symm); obtain ⟨i0, _, _, _, _, _, _, _, _, i9, i10, i11, i12⟩ := ms_facts (HW1.out.below HC2.out HW1.out.lt)))
      | (go_at_call 31; (refine (two_any (x.qn : Int) S3 _ (by omega) (by omega) F3.out).mono ?_; rintro e w3 ⟨rfl, hB3⟩; have HC3 := Lib.hid (show Below V.heap.size V w3 by (first | exact HC2.out.trans (hB3.mono HC2.out.size) | exact (HC2.out.alloc HC2.out.size _).trans (hB3.mono (HC2.out.alloc HC2.out.size _).size))); (first | (have HPB := Lib.hid ((Whole.new w2 rpT #[.string ⟨#[]⟩, .slice none 0 0]).below hB3 (Whole.new w2 rpT #[.string ⟨#[]⟩, .slice none 0 0]).lt); obtain ⟨q0, q1, q2, q3⟩ := zp_facts HPB.out) | (have HPB := Lib.hid (HPB.out.below hB3 HPB.out.lt); obtain ⟨q0, q1, q2, q3⟩ := zp_facts HPB.out) | skip); clear hB3; have ne3 : ¬ w3.heap.size = g := (by have h1 := HC3.out.size; have h2 := HW1.out.lt; omega); have en3 : ¬ g = w3.heap.size := (fun h => ne3 h.symm); obtain ⟨i0, _, _, _, _, _, _, _, _, i9, i10, i11, i12⟩ := ms_facts (HW1.out.below HC3.out HW1.out.lt)))
      | (go_at_call 31; (refine (two_any (x.an : Int) S4 _ (by omega) (by omega) F4.out).mono ?_; rintro e w4 ⟨rfl, hB4⟩; have HC4 := Lib.hid (show Below V.heap.size V w4 by (first | exact HC3.out.trans (hB4.mono HC3.out.size) | exact (HC3.out.alloc HC3.out.size _).trans (hB4.mono (HC3.out.alloc HC3.out.size _).size))); (first | (have HPB := Lib.hid ((Whole.new w3 rpT #[.string ⟨#[]⟩, .slice none 0 0]).below hB4 (Whole.new w3 rpT #[.string ⟨#[]⟩, .slice none 0 0]).lt); obtain ⟨q0, q1, q2, q3⟩ := zp_facts HPB.out) | (have HPB := Lib.hid (HPB.out.below hB4 HPB.out.lt); obtain ⟨q0, q1, q2, q3⟩ := zp_facts HPB.out) | skip); clear hB4; have ne4 : ¬ w4.heap.size = g := (by have h1 := HC4.out.size; have h2 := HW1.out.lt; omega); have en4 : ¬ g = w4.heap.size := (fun h => ne4 h.symm); obtain ⟨i0, _, _, _, _, _, _, _, _, i9, i10, i11, i12⟩ := ms_facts (HW1.out.below HC4.out HW1.out.lt)))
      | (go_at_call 31; (refine (two_any (x.nn : Int) S5 _ (by omega) (by omega) F5.out).mono ?_; rintro e w5 ⟨rfl, hB5⟩; have HC5 := Lib.hid (show Below V.heap.size V w5 by (first | exact HC4.out.trans (hB5.mono HC4.out.size) | exact (HC4.out.alloc HC4.out.size _).trans (hB5.mono (HC4.out.alloc HC4.out.size _).size))); (first | (have HPB := Lib.hid ((Whole.new w4 rpT #[.string ⟨#[]⟩, .slice none 0 0]).below hB5 (Whole.new w4 rpT #[.string ⟨#[]⟩, .slice none 0 0]).lt); obtain ⟨q0, q1, q2, q3⟩ := zp_facts HPB.out) | (have HPB := Lib.hid (HPB.out.below hB5 HPB.out.lt); obtain ⟨q0, q1, q2, q3⟩ := zp_facts HPB.out) | skip); clear hB5; have ne5 : ¬ w5.heap.size = g := (by have h1 := HC5.out.size; have h2 := HW1.out.lt; omega); have en5 : ¬ g = w5.heap.size := (fun h => ne5 h.symm); obtain ⟨i0, _, _, _, _, _, _, _, _, i9, i10, i11, i12⟩ := ms_facts (HW1.out.below HC5.out HW1.out.lt)))
      | (go_at_call 31; (refine (two_any (x.dn : Int) S6 _ (by omega) (by omega) F6.out).mono ?_; rintro e w6 ⟨rfl, hB6⟩; have HC6 := Lib.hid (show Below V.heap.size V w6 by (first | exact HC5.out.trans (hB6.mono HC5.out.size) | exact (HC5.out.alloc HC5.out.size _).trans (hB6.mono (HC5.out.alloc HC5.out.size _).size))); (first | (have HPB := Lib.hid ((Whole.new w5 rpT #[.string ⟨#[]⟩, .slice none 0 0]).below hB6 (Whole.new w5 rpT #[.string ⟨#[]⟩, .slice none 0 0]).lt); obtain ⟨q0, q1, q2, q3⟩ := zp_facts HPB.out) | (have HPB := Lib.hid (HPB.out.below hB6 HPB.out.lt); obtain ⟨q0, q1, q2, q3⟩ := zp_facts HPB.out) | skip); clear hB6; have ne6 : ¬ w6.heap.size = g := (by have h1 := HC6.out.size; have h2 := HW1.out.lt; omega); have en6 : ¬ g = w6.heap.size := (fun h => ne6 h.symm); obtain ⟨i0, _, _, _, _, _, _, _, _, i9, i10, i11, i12⟩ := ms_facts (HW1.out.below HC6.out HW1.out.lt))))
    all_goals (
      (try rw [HHM.out])
      go_wp2_with fail
      go_meet
      first
        | exact ⟨_, _, _, _, rfl, bst_new HB1.out HW1.out HC6.out⟩
        | exact ⟨_, _, _, _, rfl, bst_set HB1.out HW1.out HC6.out HPB.out (by first | exact Nat.le_refl _ | exact HC1.out.size | exact HC2.out.size | exact HC3.out.size | exact HC4.out.size | exact HC5.out.size)⟩
        | exact ⟨_, _, _, _, rfl, bst_set HB1.out HW1.out (HC6.out.alloc HC6.out.size _) (Whole.new _ _ _) HC6.out.size⟩
        | trace_state)
  case rest =>
    obtain ⟨pb, A0, n0, k0, rfl, hcut⟩ := hcut
    have HS0 := Lib.hid hcut
    have HALLQ := Lib.hid (show ∀ y ∈ x.lq, okQ y.toQue = true from fun y hy => (okSec_is.1 (okM_is (show okM (x.toMes hd) = true by rw [← HM.out]; exact HOK.out)).2.2.2.2).2 _ (List.mem_map_of_mem hy))
    have HQN := Lib.hid (show x.lq.length = x.qn from HX.out.q.1)
    clear hcut HO1 HO2 HO3 HO4 HO5 HSUM HHM F1 F2 F3 F4 F5 F6 z1 z2 z3 z4 z5 z6 b1 b2 b3 b4 b5 HW1 HB1 HW0 HB0
    go_wp2_with fail
    go_loopw [5] (fun i wr => ∃ (k : Nat) (l : List UInt8) (K : Kn) (A : Option Addr) (n c : Nat), k ≤ x.qn ∧ i = .int .i64 (k : Nat) ∧ secW queW ((x.lq.take k).map Qrd.toQue) (headM m, noneK) = (l, K) ∧ InvK l K ∧ l.length ≤ 12 + 260 * k ∧ BSt w g pb hd x l K A n c wr) (fun i _ => x.qn - (intOf i).toNat)
    case atStart => exact ⟨0, headM m, noneK, A0, n0, k0, Nat.zero_le _, rfl, rfl, noneK_inv _, by rw [headM_len]; omega, HS0.out⟩
    case round =>
      obtain ⟨k, l, K, A, n, c, hk, rfl, hsec, hi, hl, hS⟩ := hrel
      have HS := Lib.hid hS
      have HSEC := Lib.hid hsec
      have HI := Lib.hid hi
      clear hS hsec hi HS0
      obtain ⟨_, _, _, _, _, _, _, _, _, c9, c10, c11, c12⟩ := ms_facts HS.out.r
      obtain ⟨a0, a1, a2, a3⟩ := bst_facts HS.out
      by_cases hkn : k < x.qn
      · have g2 : (k : Int) < (x.qn : Int) := by omega
        obtain ⟨b, off, y, hA, hb, hyk, ht⟩ := (HX.out.keep HS.out.b).q.at hkn
        obtain ⟨y0, y1, y2⟩ := ht
        have HYK := Lib.hid hyk
        have hoky := HALLQ.out y (List.mem_of_getElem? hyk)
        obtain ⟨⟨L, hL⟩, ht0, hc0⟩ := okQ_is hoky
        have ht1 : 0 ≤ y.t ∧ y.t ≤ 65535 := ht0
        have hc1 : 0 ≤ y.c ∧ y.c ≤ 65535 := hc0
        obtain ⟨hgi, ⟨z, hz, hz1, hz2⟩, _⟩ := name_inv hL (st := (l, K)) HI.out
        have hnw : nameW y.toQue.n (l, K) = putL true L l K := by unfold nameW; rw [hL]
        obtain ⟨l1, K1, h1⟩ : ∃ l1 K1, putL true L l K = (l1, K1) := ⟨_, _, rfl⟩
        rw [hnw, h1] at hz hgi
        have hl1 : l1.length ≤ 12 + 260 * k + 255 := by
          have := congrArg List.length hz
          simp only [List.length_append] at this
          omega
        obtain ⟨T, hT⟩ : ∃ T, T = mk (be y.t.toNat 2) := ⟨_, rfl⟩
        obtain ⟨C, hC⟩ : ∃ C, C = mk (be y.c.toNat 2) := ⟨_, rfl⟩
        have zt : T.size = 2 := by rw [hT, mk_size, be_length]
        have zc : C.size = 2 := by rw [hC, mk_size, be_length]
        have zl : (mk l1).size = l1.length := mk_size _
        have HTT := Lib.hid hT
        have HCC := Lib.hid hC
        have HL := Lib.hid hL
        have H1 := Lib.hid h1
        have HGI := Lib.hid hgi
        have HQW := Lib.hid (show queW y.toQue (l, K) = (l1 ++ (be y.t.toNat 2 ++ be y.c.toNat 2), K1) by unfold queW; rw [hnw, h1]; rfl)
        have hbp : ¬ b = pb := by have := HS.out.lt; omega
        have hpb : ¬ pb = b := fun h => hbp h.symm
        have hgp : ¬ g = pb := HS.out.ne
        have hpg : ¬ pb = g := fun h => hgp h.symm
        rw [hA] at c9
        clear hoky ht0 hc0 hgi hz hz1 hz2 hnw h1 hT hC hL hyk c10 c11 c12
        go_wp2_with fail
        obtain ⟨l2, hl2⟩ : ∃ l2, l2 = l1 ++ (be y.t.toNat 2 ++ be y.c.toNat 2) := ⟨_, rfl⟩
        have hl2n : l2.length = l1.length + 4 := by rw [hl2]; simp [be_length]
        have HAP := Lib.hid (show mk l1 ++ (T ++ C) = mk l2 by rw [HTT.out, HCC.out, mk_append, mk_append, hl2])
        have HQW2 := Lib.hid (show queW y.toQue (l, K) = (l2, K1) by rw [HQW.out, hl2])
        have HGI2 := Lib.hid (show InvK l2 K1 by rw [hl2]; exact HGI.out.raw _)
        have HBB := Lib.hid (show ∀ V, Below w.heap.size w V → V.cell? ⟨b, off + k * 3, none⟩ = some (.string y.s) ∧ V.cell? ⟨b, off + k * 3 + 1, none⟩ = some (.int .i64 y.t) ∧ V.cell? ⟨b, off + k * 3 + 2, none⟩ = some (.int .i64 y.c) from fun V hV => by
          obtain ⟨b', off', y', hA', _, hyk', q0, q1, q2⟩ := (HX.out.keep hV).q.at hkn
          rw [hA] at hA'
          injection hA' with hA'
          injection hA' with e1 e2
          subst e1 e2
          rw [HYK.out] at hyk'
          injection hyk' with hyk'
          subst hyk'
          exact ⟨q0, q1, q2⟩)
        clear hl2
        go_cut [] (fun V' => ∃ A n c, BSt w g pb hd x l1 K1 A n c V')
        case first =>
          go_region_with (go_at_call 32; (refine (RefName_at _ l K _ y.s y.toQue.n L true (HS.out.k.same (Below.refl wr.heap.size wr).drew) (by omega) (qrd_name y) HL.out (fun r t h => (HI.out r t h).2.1)).mono ?_; rw [H1.out]; rintro e w5 ⟨v5, rfl, h5, hB5⟩; obtain ⟨A5, n5, c5, rfl, h5⟩ := h5.shape; have hB5 := (Below.refl wr.heap.size wr).drew.trans hB5; have HS5 := Lib.hid (bst_below HS.out hB5); have HS6 := Lib.hid (bst_pk HS5.out h5); obtain ⟨p0, p1, p2, p3⟩ := bst_facts HS5.out; clear hB5 h5))
          all_goals (
            go_wp2_with fail
            go_meet
            exact ⟨_, _, _, HS6.out⟩)
        case rest =>
          obtain ⟨A5, n5, c5, hcut⟩ := hcut
          have HS6 := Lib.hid hcut
          clear hcut a0 a1 a2 a3 c9 y0 y1 y2
          go_wp2_with fail
          obtain ⟨_, _, _, _, _, _, _, _, _, c9, _, _, _⟩ := ms_facts HS6.out.r
          obtain ⟨a0, a1, a2, a3⟩ := bst_facts HS6.out
          obtain ⟨_, y1, y2⟩ := HBB.out _ HS6.out.b
          rw [hA] at c9
          refine region_split (A := ?A) (fun V' => ∃ A n c, BSt w g pb hd x l2 K1 A n c V') ?h1 ?h2
          case h1 =>
            refine wp_region_held_drew (S := fun w' => w'.cell? ⟨g, 9, none⟩ = some (.slice (some ⟨b, off, none⟩) x.qn x.qc) ∧ w'.cell? ⟨b, off + k * 3 + 1, none⟩ = some (.int .i64 y.t) ∧ w'.cell? ⟨b, off + k * 3 + 2, none⟩ = some (.int .i64 y.c)) (by kernel_rfl) ?hS (fun hHeld => ?go)
            case hS => exact ⟨c9, y1, y2⟩
            case go =>
              have hcat : ¬ 9223372036854775807 < l1.length + 4 := by omega
              refine takeH (i := 0) (v := ?_) rfl (by kernel_rfl) (by kernel_rfl) (by kernel_rfl) (fun _ _ _ h => h) (Or.inl ⟨by rfl, ?_⟩) hHeld ?_
              rotate_left
              · (intro w hSw; (try dsimp only at hSw); go_simp; (try with_reducible rfl))
              try simp only [Act.put, List.setIfInBounds_toArray, List.set_cons_zero, List.set_cons_succ]
              refine takeH (i := 2) (v := ?_) rfl (by kernel_rfl) (by kernel_rfl) (by kernel_rfl) (fun _ _ _ h => h) (Or.inl ⟨by rfl, ?_⟩) hHeld ?_
              rotate_left
              · (intro w hSw; (try dsimp only at hSw); go_simp; (try with_reducible rfl))
              try simp only [Act.put, List.setIfInBounds_toArray, List.set_cons_zero, List.set_cons_succ]
              refine takeH (i := 3) (v := ?_) rfl (by kernel_rfl) (by kernel_rfl) (by kernel_rfl) (fun _ _ _ h => h) (Or.inl ⟨by rfl, ?_⟩) hHeld ?_
              rotate_left
              · (intro w hSw; (try dsimp only at hSw); go_simp; (try with_reducible rfl))
              try simp only [Act.put, List.setIfInBounds_toArray, List.set_cons_zero, List.set_cons_succ]
              refine takeH (i := 4) (v := ?_) rfl (by kernel_rfl) (by kernel_rfl) (by kernel_rfl) (fun _ _ _ h => h) (Or.inl ⟨by rfl, ?_⟩) hHeld ?_
              rotate_left
              · (intro w hSw; (try dsimp only at hSw); go_simp; (try with_reducible rfl))
              try simp only [Act.put, List.setIfInBounds_toArray, List.set_cons_zero, List.set_cons_succ]
              refine takeH (i := 5) (v := ?_) rfl (by kernel_rfl) (by kernel_rfl) (by kernel_rfl) (fun _ _ _ h => h) (Or.inl ⟨by rfl, ?_⟩) hHeld ?_
              rotate_left
              · (intro w hSw; (try dsimp only at hSw); go_simp; (try with_reducible rfl))
              try simp only [Act.put, List.setIfInBounds_toArray, List.set_cons_zero, List.set_cons_succ]
              refine takeH (i := 6) (v := ?_) rfl (by kernel_rfl) (by kernel_rfl) (by kernel_rfl) (fun _ _ _ h => h) (Or.inl ⟨by rfl, ?_⟩) hHeld ?_
              rotate_left
              · (intro w hSw; (try dsimp only at hSw); go_simp; (try with_reducible rfl))
              try simp only [Act.put, List.setIfInBounds_toArray, List.set_cons_zero, List.set_cons_succ]
              refine takeH (i := 7) (v := ?_) rfl (by kernel_rfl) (by kernel_rfl) (by kernel_rfl) (fun _ _ _ h => h) (Or.inl ⟨by rfl, ?_⟩) hHeld ?_
              rotate_left
              · (intro w hSw; (try dsimp only at hSw); go_simp; (try with_reducible rfl))
              try simp only [Act.put, List.setIfInBounds_toArray, List.set_cons_zero, List.set_cons_succ]
              refine takeH (i := 9) (v := ?_) rfl (by kernel_rfl) (by kernel_rfl) (by kernel_rfl) (fun _ _ _ h => h) (Or.inl ⟨by rfl, ?_⟩) hHeld ?_
              rotate_left
              · (intro w hSw; (try dsimp only at hSw); go_simp; (try with_reducible rfl))
              try simp only [Act.put, List.setIfInBounds_toArray, List.set_cons_zero, List.set_cons_succ]
              refine takeH (i := 10) (v := ?_) rfl (by kernel_rfl) (by kernel_rfl) (by kernel_rfl) (fun _ _ _ h => h) (Or.inl ⟨by rfl, ?_⟩) hHeld ?_
              rotate_left
              · (intro w hSw; (try dsimp only at hSw); go_simp; (try with_reducible rfl))
              try simp only [Act.put, List.setIfInBounds_toArray, List.set_cons_zero, List.set_cons_succ]
              refine takeH (i := 11) (v := ?_) rfl (by kernel_rfl) (by kernel_rfl) (by kernel_rfl) (fun _ _ _ h => h) (Or.inl ⟨by rfl, ?_⟩) hHeld ?_
              rotate_left
              · (intro w hSw; (try dsimp only at hSw); go_simp; (try with_reducible rfl))
              try simp only [Act.put, List.setIfInBounds_toArray, List.set_cons_zero, List.set_cons_succ]
              refine takeH (i := 12) (v := ?_) rfl (by kernel_rfl) (by kernel_rfl) (by kernel_rfl) (fun _ _ _ h => h) (Or.inl ⟨by rfl, ?_⟩) hHeld ?_
              rotate_left
              · (intro w hSw; (try dsimp only at hSw); go_simp; (try with_reducible rfl))
              try simp only [Act.put, List.setIfInBounds_toArray, List.set_cons_zero, List.set_cons_succ]
              refine takeH (i := 13) (v := ?_) rfl (by kernel_rfl) (by kernel_rfl) (by kernel_rfl) (fun _ _ _ h => h) (Or.inl ⟨by rfl, ?_⟩) hHeld ?_
              rotate_left
              · (intro w hSw; (try dsimp only at hSw); go_simp; (try with_reducible rfl))
              try simp only [Act.put, List.setIfInBounds_toArray, List.set_cons_zero, List.set_cons_succ]
              refine takeH (i := 14) (v := ?_) rfl (by kernel_rfl) (by kernel_rfl) (by kernel_rfl) (fun _ _ _ h => h) (Or.inl ⟨by rfl, ?_⟩) hHeld ?_
              rotate_left
              · (intro w hSw; (try dsimp only at hSw); go_simp; (try with_reducible rfl))
              try simp only [Act.put, List.setIfInBounds_toArray, List.set_cons_zero, List.set_cons_succ]
              refine wpAnyH_ready (rs := [1, 8]) (by kernel_rfl) (by simp) ?_
              refine consH (i := 1) rfl (fun K hK => ?_) (consH (i := 8) rfl (fun K hK => ?_) AllReadyH.nil)
              · go_simp
                refine hK.out _ _ ?_ (fun hHeld => ?_)
                · exact hHeld
                clear hK K
                try simp only [Act.put, List.setIfInBounds_toArray, List.set_cons_zero, List.set_cons_succ]
                refine wpAnyH_ready (rs := [8]) (by kernel_rfl) (by simp) ?_
                refine consH (i := 8) rfl (fun K hK => ?_) AllReadyH.nil
                go_simp
                refine (two_any y.t T _ ht1.1 ht1.2 HTT.out).mono ?_
                rintro e v1 ⟨rfl, hB1⟩
                have HC1 := Lib.hid (bst_below HS6.out ((Below.refl wc.heap.size wc).drew.trans hB1))
                clear hB1
                obtain ⟨p0, _, p2, _⟩ := bst_facts HC1.out
                obtain ⟨_, _, _, _, _, _, _, _, _, p9, _, _, _⟩ := ms_facts HC1.out.r
                rw [hA] at p9
                obtain ⟨_, q1, q2⟩ := HBB.out _ HC1.out.b
                go_wp2_with fail
                refine hK.out _ _ ?_ (fun hHeld => ?_)
                · exact ⟨p9, q1, q2⟩
                clear hK K
                try simp only [Act.put, List.setIfInBounds_toArray, List.set_cons_zero, List.set_cons_succ]
                refine wpAnyH_ready (rs := [15]) (by kernel_rfl) (by simp) ?_
                refine consH (i := 15) rfl (fun K hK => ?_) AllReadyH.nil
                go_simp
                refine (two_any y.c C _ hc1.1 hc1.2 HCC.out).mono ?_
                rintro e v2 ⟨rfl, hB2⟩
                have HC2 := Lib.hid (bst_below HC1.out hB2)
                clear hB2
                obtain ⟨r0, _, r2, _⟩ := bst_facts HC2.out
                obtain ⟨_, _, _, _, _, _, _, _, _, r9, _, _, _⟩ := ms_facts HC2.out.r
                rw [hA] at r9
                obtain ⟨_, s1, s2⟩ := HBB.out _ HC2.out.b
                go_wp2_with fail
                refine hK.out _ _ ?_ (fun hHeld => ?_)
                · exact ⟨r9, s1, s2⟩
                clear hK K
                try simp only [Act.put, List.setIfInBounds_toArray, List.set_cons_zero, List.set_cons_succ]
                refine wpAnyH_ready (rs := [16]) (by kernel_rfl) (by simp) ?_
                refine consH (i := 16) rfl (fun K hK => ?_) AllReadyH.nil
                go_simp
                refine hK.out _ _ ?_ (fun hHeld => ?_)
                · exact hHeld
                clear hK K
                try simp only [Act.put, List.setIfInBounds_toArray, List.set_cons_zero, List.set_cons_succ]
                refine wpAnyH_ready (rs := [17]) (by kernel_rfl) (by simp) ?_
                refine consH (i := 17) rfl (fun K hK => ?_) AllReadyH.nil
                go_simp
                refine hK.out _ _ ?_ (fun hHeld => ?_)
                · exact hHeld
                clear hK K
                try simp only [Act.put, List.setIfInBounds_toArray, List.set_cons_zero, List.set_cons_succ]
                refine wpAnyH_ready (rs := [18]) (by kernel_rfl) (by simp) ?_
                refine consH (i := 18) rfl (fun K hK => ?_) AllReadyH.nil
                go_simp
                refine hK.out _ _ ?_ (fun hHeld => ?_)
                · exact hHeld
                clear hK K
                try simp only [Act.put, List.setIfInBounds_toArray, List.set_cons_zero, List.set_cons_succ]
                refine wpAnyH_ready (rs := [19]) (by kernel_rfl) (by simp) ?_
                refine consH (i := 19) rfl (fun K hK => ?_) AllReadyH.nil
                go_simp
                refine hK.out _ _ ?_ (fun hHeld => ?_)
                · exact ⟨by rw [World.cell?_setCell_far _ _ _ _ hpg]; exact r9, by rw [World.cell?_setCell_far _ _ _ _ hpb]; exact s1, by rw [World.cell?_setCell_far _ _ _ _ hpb]; exact s2⟩
                clear hK K
                try simp only [Act.put, List.setIfInBounds_toArray, List.set_cons_zero, List.set_cons_succ]
                refine wpAnyH_done (by kernel_rfl) ?_ _
                rw [HAP.out]
                refine ⟨?_, _, _, _, bst_msg HC2.out (by omega)⟩
                with_reducible rfl
              · go_simp
                refine (two_any y.t T _ ht1.1 ht1.2 HTT.out).mono ?_
                rintro e v1 ⟨rfl, hB1⟩
                have HC1 := Lib.hid (bst_below HS6.out ((Below.refl wc.heap.size wc).drew.trans hB1))
                clear hB1
                obtain ⟨p0, _, p2, _⟩ := bst_facts HC1.out
                obtain ⟨_, _, _, _, _, _, _, _, _, p9, _, _, _⟩ := ms_facts HC1.out.r
                rw [hA] at p9
                obtain ⟨_, q1, q2⟩ := HBB.out _ HC1.out.b
                go_wp2_with fail
                refine hK.out _ _ ?_ (fun hHeld => ?_)
                · exact ⟨p9, q1, q2⟩
                clear hK K
                try simp only [Act.put, List.setIfInBounds_toArray, List.set_cons_zero, List.set_cons_succ]
                refine wpAnyH_ready (rs := [1, 15]) (by kernel_rfl) (by simp) ?_
                refine consH (i := 1) rfl (fun K hK => ?_) (consH (i := 15) rfl (fun K hK => ?_) AllReadyH.nil)
                · go_simp
                  refine hK.out _ _ ?_ (fun hHeld => ?_)
                  · exact hHeld
                  clear hK K
                  try simp only [Act.put, List.setIfInBounds_toArray, List.set_cons_zero, List.set_cons_succ]
                  refine wpAnyH_ready (rs := [15]) (by kernel_rfl) (by simp) ?_
                  refine consH (i := 15) rfl (fun K hK => ?_) AllReadyH.nil
                  go_simp
                  refine (two_any y.c C _ hc1.1 hc1.2 HCC.out).mono ?_
                  rintro e v2 ⟨rfl, hB2⟩
                  have HC2 := Lib.hid (bst_below HC1.out hB2)
                  clear hB2
                  obtain ⟨r0, _, r2, _⟩ := bst_facts HC2.out
                  obtain ⟨_, _, _, _, _, _, _, _, _, r9, _, _, _⟩ := ms_facts HC2.out.r
                  rw [hA] at r9
                  obtain ⟨_, s1, s2⟩ := HBB.out _ HC2.out.b
                  go_wp2_with fail
                  refine hK.out _ _ ?_ (fun hHeld => ?_)
                  · exact ⟨r9, s1, s2⟩
                  clear hK K
                  try simp only [Act.put, List.setIfInBounds_toArray, List.set_cons_zero, List.set_cons_succ]
                  refine wpAnyH_ready (rs := [16]) (by kernel_rfl) (by simp) ?_
                  refine consH (i := 16) rfl (fun K hK => ?_) AllReadyH.nil
                  go_simp
                  refine hK.out _ _ ?_ (fun hHeld => ?_)
                  · exact hHeld
                  clear hK K
                  try simp only [Act.put, List.setIfInBounds_toArray, List.set_cons_zero, List.set_cons_succ]
                  refine wpAnyH_ready (rs := [17]) (by kernel_rfl) (by simp) ?_
                  refine consH (i := 17) rfl (fun K hK => ?_) AllReadyH.nil
                  go_simp
                  refine hK.out _ _ ?_ (fun hHeld => ?_)
                  · exact hHeld
                  clear hK K
                  try simp only [Act.put, List.setIfInBounds_toArray, List.set_cons_zero, List.set_cons_succ]
                  refine wpAnyH_ready (rs := [18]) (by kernel_rfl) (by simp) ?_
                  refine consH (i := 18) rfl (fun K hK => ?_) AllReadyH.nil
                  go_simp
                  refine hK.out _ _ ?_ (fun hHeld => ?_)
                  · exact hHeld
                  clear hK K
                  try simp only [Act.put, List.setIfInBounds_toArray, List.set_cons_zero, List.set_cons_succ]
                  refine wpAnyH_ready (rs := [19]) (by kernel_rfl) (by simp) ?_
                  refine consH (i := 19) rfl (fun K hK => ?_) AllReadyH.nil
                  go_simp
                  refine hK.out _ _ ?_ (fun hHeld => ?_)
                  · exact ⟨by rw [World.cell?_setCell_far _ _ _ _ hpg]; exact r9, by rw [World.cell?_setCell_far _ _ _ _ hpb]; exact s1, by rw [World.cell?_setCell_far _ _ _ _ hpb]; exact s2⟩
                  clear hK K
                  try simp only [Act.put, List.setIfInBounds_toArray, List.set_cons_zero, List.set_cons_succ]
                  refine wpAnyH_done (by kernel_rfl) ?_ _
                  rw [HAP.out]
                  refine ⟨?_, _, _, _, bst_msg HC2.out (by omega)⟩
                  with_reducible rfl
                · go_simp
                  refine (two_any y.c C _ hc1.1 hc1.2 HCC.out).mono ?_
                  rintro e v2 ⟨rfl, hB2⟩
                  have HC2 := Lib.hid (bst_below HC1.out hB2)
                  clear hB2
                  obtain ⟨r0, _, r2, _⟩ := bst_facts HC2.out
                  obtain ⟨_, _, _, _, _, _, _, _, _, r9, _, _, _⟩ := ms_facts HC2.out.r
                  rw [hA] at r9
                  obtain ⟨_, s1, s2⟩ := HBB.out _ HC2.out.b
                  go_wp2_with fail
                  refine hK.out _ _ ?_ (fun hHeld => ?_)
                  · exact ⟨r9, s1, s2⟩
                  clear hK K
                  try simp only [Act.put, List.setIfInBounds_toArray, List.set_cons_zero, List.set_cons_succ]
                  refine takeH (i := 16) (v := ?_) rfl (by kernel_rfl) (by kernel_rfl) (by kernel_rfl) (fun _ _ _ h => h) (Or.inl ⟨by rfl, ?_⟩) hHeld ?_
                  rotate_left
                  · (intro w hSw; (try dsimp only at hSw); go_simp; (try with_reducible rfl))
                  try simp only [Act.put, List.setIfInBounds_toArray, List.set_cons_zero, List.set_cons_succ]
                  refine wpAnyH_ready (rs := [1]) (by kernel_rfl) (by simp) ?_
                  refine consH (i := 1) rfl (fun K hK => ?_) AllReadyH.nil
                  go_simp
                  refine hK.out _ _ ?_ (fun hHeld => ?_)
                  · exact hHeld
                  clear hK K
                  try simp only [Act.put, List.setIfInBounds_toArray, List.set_cons_zero, List.set_cons_succ]
                  refine wpAnyH_ready (rs := [17]) (by kernel_rfl) (by simp) ?_
                  refine consH (i := 17) rfl (fun K hK => ?_) AllReadyH.nil
                  go_simp
                  refine hK.out _ _ ?_ (fun hHeld => ?_)
                  · exact hHeld
                  clear hK K
                  try simp only [Act.put, List.setIfInBounds_toArray, List.set_cons_zero, List.set_cons_succ]
                  refine wpAnyH_ready (rs := [18]) (by kernel_rfl) (by simp) ?_
                  refine consH (i := 18) rfl (fun K hK => ?_) AllReadyH.nil
                  go_simp
                  refine hK.out _ _ ?_ (fun hHeld => ?_)
                  · exact hHeld
                  clear hK K
                  try simp only [Act.put, List.setIfInBounds_toArray, List.set_cons_zero, List.set_cons_succ]
                  refine wpAnyH_ready (rs := [19]) (by kernel_rfl) (by simp) ?_
                  refine consH (i := 19) rfl (fun K hK => ?_) AllReadyH.nil
                  go_simp
                  refine hK.out _ _ ?_ (fun hHeld => ?_)
                  · exact ⟨by rw [World.cell?_setCell_far _ _ _ _ hpg]; exact r9, by rw [World.cell?_setCell_far _ _ _ _ hpb]; exact s1, by rw [World.cell?_setCell_far _ _ _ _ hpb]; exact s2⟩
                  clear hK K
                  try simp only [Act.put, List.setIfInBounds_toArray, List.set_cons_zero, List.set_cons_succ]
                  refine wpAnyH_done (by kernel_rfl) ?_ _
                  rw [HAP.out]
                  refine ⟨?_, _, _, _, bst_msg HC2.out (by omega)⟩
                  with_reducible rfl
          case h2 =>
            rintro V' ⟨A7, n7, c7, hcut⟩
            have HS7 := Lib.hid hcut
            clear hcut a0 a1 a2 a3 c9 y1 y2
            go_wp2_with fail
            go_roundw
            case rel => exact ⟨k + 1, l2, K1, A7, n7, c7, by omega, by go_num, by rw [sec_step HYK.out, HSEC.out]; exact HQW2.out, HGI2.out, by omega, HS7.out⟩
            case measure => simp [intOf]; omega
      · obtain rfl : k = x.qn := by omega
        have HSECQ := Lib.hid (show secW queW (x.lq.map Qrd.toQue) (headM m, noneK) = (l, K) by have h := HSEC.out; rw [← HQN.out, List.take_length] at h; exact h)
        have HFULL := Lib.hid (sec_all HM.out)
        have HXW := Lib.hid ((HX.out.keep HS.out.b).more HS.out.b.size)
        obtain ⟨N, hN⟩ : ∃ N, N = x.an + x.nn + x.dn := ⟨_, rfl⟩
        obtain ⟨all, hall⟩ : ∃ all, all = x.la ++ x.ln ++ x.ld := ⟨_, rfl⟩
        have HALL := Lib.hid hall
        have HN := Lib.hid hN
        have HOKA := Lib.hid (show ∀ y ∈ all, okR y.toRec = true ∧ y.d.size ≤ 2000 from fun y hy => by
          have hok : okM (x.toMes hd) = true := by rw [← HM.out]; exact HOK.out
          obtain ⟨_, sa, sn, sd, _⟩ := okM_is hok
          have hfew : fewR y = true := by
            have hf := HF.out
            unfold fewM at hf
            simp only [Bool.and_eq_true] at hf
            exact List.all_eq_true.1 hf.1 y (by rw [← HALL.out]; exact hy)
          refine ⟨?_, (fewR_is.1 hfew).2⟩
          rw [HALL.out] at hy
          rcases List.mem_append.1 hy with hy | hy
          · rcases List.mem_append.1 hy with hy | hy
            · exact (okSec_is.1 sa).2 _ (List.mem_map_of_mem hy)
            · exact (okSec_is.1 sn).2 _ (List.mem_map_of_mem hy)
          · exact (okSec_is.1 sd).2 _ (List.mem_map_of_mem hy))
        clear hN hall hkn a0 a1 a2 a3
        go_wp2_with fail
        go_cut [6] (fun v6 V' => ∃ A3 c3, v6 = .slice A3 N c3 ∧ SeesR V' V'.heap.size A3 N all ∧ (∀ a, A3 = some a → a.block ≠ pb) ∧ BSt w g pb hd x l K A n c V')
        case first =>
          have HWE := Lib.hid (HS.out.r.alloc (.cells #[] 39))
          have HBE := Lib.hid (show Below wr.heap.size wr (wr.alloc (.cells #[] 39)) from (Below.refl _ _).alloc (Nat.le_refl _) _)
          have HOE := Lib.hid (own_noneR wr wr.heap.size (Nat.le_refl _))
          obtain ⟨_, _, _, _, _, _, _, _, _, _, e10, e11, e12⟩ := ms_facts HWE.out
          have HPL := Lib.hid HS.out.p.lt
          go_region_held3 (fun w' => w'.cell? ⟨g, 10, none⟩ = some (.slice x.aA x.an x.ac) ∧ w'.cell? ⟨g, 11, none⟩ = some (.slice x.nA x.nn x.nc) ∧ w'.cell? ⟨g, 12, none⟩ = some (.slice x.dA x.dn x.dc)) (go_keep) (first
            | (refine step_append_R (by rfl) (.tmp 99) (.tmp 101) (by rfl) wr.heap.size (.slice (some ⟨wr.heap.size, 0, none⟩) 0 0) 0 [] (by rfl) (own_below HOE.out (Below.refl _ _).drew) (by simp) wr.heap.size x.aA x.an x.ac x.la (by rfl) (HXW.out.a.keep HBE.out.drew) x.an (Nat.zero_add _) (rcells x.la) (by rfl) (by omega) HBE.out.drew.size ?_; intro v1 w1 hown1 hgrow1 hne1; have HB1 := Lib.hid (HBE.out.drew.grown hgrow1 HBE.out.drew.size (fun z hz => by simp [Value.ownBlock] at hz; omega)); have HO1 := Lib.hid hown1; have HN1 := Lib.hid hne1; clear hown1 hgrow1 hne1; obtain ⟨_, _, _, _, _, _, _, _, _, _, j10, j11, j12⟩ := ms_facts (HS.out.r.below HB1.out HS.out.r.lt))
            | (refine step_append_R (by rfl) (.tmp 102) (.tmp 104) (by rfl) wr.heap.size v1 x.an (rcells x.la) (by rfl) HO1.out HN1.out wr.heap.size x.nA x.nn x.nc x.ln (by rfl) (HXW.out.n.keep HB1.out) (x.an + x.nn) rfl (rcells (x.la ++ x.ln)) (by rw [rcells_append]) (by omega) HB1.out.size ?_; intro v2 w2 hown2 hgrow2 hne2; have HB2 := Lib.hid (HB1.out.grown hgrow2 HB1.out.size (fun z hz => (HO1.out.lt z hz).1)); have HO2 := Lib.hid hown2; have HN2 := Lib.hid hne2; clear hown2 hgrow2 hne2; obtain ⟨_, _, _, _, _, _, _, _, _, _, k10, k11, k12⟩ := ms_facts (HS.out.r.below HB2.out HS.out.r.lt))
            | (refine step_append_R (by rfl) (.tmp 105) (.tmp 107) (by rfl) wr.heap.size v2 (x.an + x.nn) (rcells (x.la ++ x.ln)) (by rfl) HO2.out HN2.out wr.heap.size x.dA x.dn x.dc x.ld (by rfl) (HXW.out.d.keep HB2.out) (x.an + x.nn + x.dn) rfl (rcells (x.la ++ x.ln ++ x.ld)) (by rw [rcells_append (x.la ++ x.ln)]) (by omega) HB2.out.size ?_; intro v3 w3 hown3 hgrow3 hne3; have HB3 := Lib.hid (HB2.out.grown hgrow3 HB2.out.size (fun z hz => (HO2.out.lt z hz).1)); obtain ⟨A3, c3, rfl, hsee3⟩ := SeesR.own hown3; have HS3 := Lib.hid hsee3; have HO3 := Lib.hid (fun z hz => (hown3.lt z hz).1); clear hown3 hgrow3 hne3 hsee3; obtain ⟨_, _, _, _, _, _, _, _, _, _, i10, i11, i12⟩ := ms_facts (HS.out.r.below HB3.out HS.out.r.lt)))
          all_goals (
            go_wp2_with fail
            go_meet
            exact ⟨A3, c3, by rw [HN.out], by rw [HALL.out, HN.out]; exact HS3.out, fun a ha => by subst ha; have h1 := HO3.out a.block rfl; have h2 := HPL.out; omega, bst_below HS.out HB3.out⟩)
        case rest =>
          obtain ⟨A3, c3, rfl, hsee, hfar, hst⟩ := hcut
          have HR := Lib.hid hsee
          have HFAR := Lib.hid hfar
          have HT := Lib.hid hst
          have HAL := Lib.hid (show all.length = N from hsee.1)
          have hN30 : N ≤ 30 := by rw [HN.out]; omega
          clear hsee hfar hst HS HXW
          go_wp2_with fail
          go_loopw [7] (fun i vr => ∃ (j : Nat) (l' : List UInt8) (K' : Kn) (A : Option Addr) (n c : Nat), j ≤ N ∧ i = .int .i64 (j : Nat) ∧ secW writeW ((all.take j).map Rrd.toRec) (l, K) = (l', K') ∧ InvK l' K' ∧ l'.length ≤ 2612 + 2300 * j ∧ BSt w g pb hd x l' K' A n c vr ∧ SeesR vr vr.heap.size A3 N all) (fun i _ => N - (intOf i).toNat)
          case atStart => exact ⟨0, l, K, A, n, c, Nat.zero_le _, rfl, rfl, HI.out, by omega, HT.out, HR.out⟩
          case round =>
            obtain ⟨j, l', K', A, n, c, hj, rfl, hsec, hi, hl', hS, hR⟩ := hrel
            have HS := Lib.hid hS
            have HSE := Lib.hid hsec
            have HI' := Lib.hid hi
            have HRR := Lib.hid hR
            clear hS hsec hi hR
            obtain ⟨a0, a1, a2, a3⟩ := bst_facts HS.out
            by_cases hjn : j < N
            · have g2 : (j : Int) < (N : Int) := by omega
              obtain ⟨b, off, y, hA3, hb, hyk, ht⟩ := HRR.out.at hjn
              obtain ⟨y0, y1, y2, y3, y4⟩ := ht
              obtain ⟨hoky, hd2⟩ := HOKA.out y (List.mem_of_getElem? hyk)
              have hdl : y.toRec.d.length ≤ 2000 := by rw [rrd_data y, mk_size] at hd2; exact hd2
              obtain ⟨hgi, z, hz, hz2⟩ := write_inv2 hoky (st := (l', K')) HI'.out
              obtain ⟨l2, K2, h2⟩ : ∃ l2 K2, writeW y.toRec (l', K') = (l2, K2) := ⟨_, _, rfl⟩
              rw [h2] at hgi hz
              have hl2 : l2.length ≤ 2612 + 2300 * (j + 1) := by
                have := congrArg List.length hz
                simp only [List.length_append] at this
                omega
              have HYK := Lib.hid hyk
              have HOKY := Lib.hid hoky
              have HGI := Lib.hid hgi
              have H2 := Lib.hid h2
              clear hyk hoky hgi hz hz2 hd2 hdl h2
              rw [hA3]
              have hbf : b ≠ pb := HFAR.out _ hA3
              go_wp2_with fail
              go_region_with (go_at_call 33; (refine (RefRWrite_any _ l' K' _ y.s y.d y.toRec (HS.out.k.same (Below.refl wr.heap.size wr).drew) (by omega) (rrd_name y) (rrd_data y) HOKY.out HI'.out).mono ?_; rw [H2.out]; rintro e w5 ⟨v5, rfl, h5, hB5⟩; obtain ⟨A5, n5, c5, rfl, h5⟩ := h5.shape; have hB5 := (Below.refl wr.heap.size wr).drew.trans hB5; have HS5 := Lib.hid (bst_below HS.out hB5); have HS6 := Lib.hid (bst_pk HS5.out h5); have HR5 := Lib.hid ((HRR.out.keep hB5).more hB5.size); obtain ⟨p0, p1, p2, p3⟩ := bst_facts HS5.out; clear hB5 h5))
              all_goals (
                have HR6 := Lib.hid (SeesR.set (i := 1) (u := .slice A5 n5 c5) (SeesR.set (i := 0) (u := .string (mk l2)) HR5.out HFAR.out) HFAR.out)
                clear a0 a1 a2 a3 y0 y1 y2 y3 y4 p0 p1 p2 p3
                go_wp2_with fail
                go_roundw
                case rel => exact ⟨j + 1, l2, K2, A5, n5, c5, by omega, by go_num, by rw [sec_step HYK.out, HSE.out]; exact H2.out, HGI.out, hl2, HS6.out, (by rw [← hA3]; exact HR6.out)⟩
                case measure => simp [intOf]; omega)
            · obtain rfl : j = N := by omega
              have HEND := Lib.hid (show l' = (fullW m).1 by
                have h := HSE.out
                rw [← HAL.out, List.take_length, HALL.out, ← HSECQ.out, HFULL.out] at h
                rw [h])
              have HBF := Lib.hid HS.out.b
              go_wp2_with fail
              go_ret
              exact ⟨by rw [HEND.out]; rfl, HBF.out⟩
end Go.Proofs.YtokjmefleanjaaaGreat
