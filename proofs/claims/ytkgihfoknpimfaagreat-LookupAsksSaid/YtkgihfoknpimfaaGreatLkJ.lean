/- LkJ: texts LokJ, LokW, LokX of our own, joined. No statement of the seat is proved here. -/
import Derived.Test.YtkgihfoknpimfaaGreatLkA
import Derived.Deep.RegionHeld3
import Derived.StillTailTactics
import Derived.Test.YtkgihfoknpimfaaGreatLkE
import Derived.Test.YtkgihfoknpimfaaGreatLkF
import Derived.Deep.Cut
namespace Go.Proofs.YtkgihfoknpimfaaGreat
open Go.RowKit Go.Op Go.Deep

section
variable {P : Program} {ops : Array Oper} {Q : Exit → Act → World → Prop} {md : Region.Mode} {S : World → Prop} {m : Nat}
/-- whatever order is picked, and S holds behind every operation but number m -/
def wpAnyJ (P : Program) (md : Region.Mode) (ops : Array Oper) (Q : Exit → Act → World → Prop) (S : World → Prop) (m : Nat) : Nat → Array Bool → Act → World → Prop
  | 0, listed, a, w => Region.ready md ops listed = [] ∧ Q .normal a w
  | fuel + 1, listed, a, w =>
    (Region.ready md ops listed = [] → Q .normal a w) ∧
    ∀ i ∈ Region.ready md ops listed, wpOp P ops Q i (fun a' w' => (i ≠ m → S w') ∧ wpAnyJ P md ops Q S m fuel (listed.setIfInBounds i true) a' w') a w
theorem wpAny_of_J : ∀ (fuel : Nat) (listed : Array Bool) (a : Act) (w : World), wpAnyJ P md ops Q S m fuel listed a w → wpAny P md ops Q fuel listed a w
  | 0, _, _, _, h => h
  | fuel + 1, _, _, _, h => ⟨h.1, fun i hi => wpOp_mono (fun a' w' h' => wpAny_of_J fuel _ a' w' h'.2) (h.2 i hi)⟩
theorem wpAnyJ_first {i : Nat} {oi : Oper} {v : Value} (hi : ops[i]? = some oi) (hsel : ∀ (j : Nat) (o : Oper) cs b, ops[j]? = some o → o.op ≠ .select cs b)
    (hQ : ∀ c a w, Q (.panic c) (a.put oi.dst v) w → Q (.panic c) a w) (hs : Region.sinkB md ops m = true) (hc : Region.chainB md ops m = true) (hm : m < ops.size) (him : i < m) :
    ∀ (fuel : Nat) (listed : Array Bool) (a : Act) (w : World), HeadInv md ops m listed →
      (∀ j oj, ops[j]? = some oj → j ≠ i → listed.getD j true = false → (∀ e ∈ oj.after, Region.binds md e = true → e.on ≠ i) → oi.apart ops oj = true) →
      i ∈ Region.ready md ops listed → YieldsIf P ops S oi v a → S w →
      wpAnyJ P md ops Q S m fuel (listed.setIfInBounds i true) (a.put oi.dst v) w → wpAnyJ P md ops Q S m (fuel + 1) listed a w := by
  intro fuel
  induction fuel with
  | zero =>
    intro listed a w _ _ hr hy hS H
    refine ⟨fun h => (by rw [h] at hr; cases hr), fun j hj => ?_⟩
    by_cases hji : j = i
    · subst hji; exact hy.wpOp hi hS ⟨fun _ => hS, H⟩
    · have := ready_mono hj hji
      rw [H.1] at this
      cases this
  | succ fuel ih =>
    intro listed a w inv hfree hr hy hS H
    refine ⟨fun h => (by rw [h] at hr; cases hr), fun j hj => ?_⟩
    by_cases hji : j = i
    · subst hji; exact hy.wpOp hi hS ⟨fun _ => hS, H⟩
    · have h1 := H.2 j (ready_mono hj hji)
      have hjm : j < m := by
        rcases Nat.lt_or_ge j m with h | h
        · exact h
        · exact absurd hj (tail_waits hs hc hm inv (m - i) i rfl him (mem_ready.1 hr).1 j h)
      obtain ⟨hjun, oj, hoj, hall⟩ := mem_ready.1 hj
      have hnot : ∀ e ∈ oj.after, Region.binds md e = true → e.on ≠ i := fun e he hb heq => by
        have h1 := hall e he hb
        have h0 := (mem_ready.1 hr).1
        rw [heq] at h1
        rcases Nat.lt_or_ge i listed.size with h' | h'
        · simp [h'] at h0 h1; rw [h0] at h1; cases h1
        · simp [Array.getElem?_eq_none h'] at h1
      have h2 := wpOp_putIf hoj (hfree j oj hoj hji hjun hnot) (fun cs b => hsel i oi cs b hi) (fun cs b => hsel j oj cs b hoj) hQ hy h1
      have hfree' : ∀ k ok, ops[k]? = some ok → k ≠ i → (listed.setIfInBounds j true).getD k true = false →
          (∀ e ∈ ok.after, Region.binds md e = true → e.on ≠ i) → oi.apart ops ok = true := fun k ok hk hki hun hno => by
        refine hfree k ok hk hki ?_ hno
        by_cases hjk : j = k
        · subst hjk; exact hjun
        · rw [getD_set_ne true hjk] at hun; exact hun
      refine wpOp_mono (fun a' w' h3 => ⟨h3.2.1, ih (listed.setIfInBounds j true) a' w' (inv.set hj hjm) hfree' (ready_mono hr (Ne.symm hji)) h3.1 (h3.2.1 (by omega)) ?_⟩) h2
      rw [Array.setIfInBounds_comm _ _ hji]
      exact h3.2.2
/-- the same, for listings that come of the beginning -/
def JW (P : Program) (md : Region.Mode) (ops : Array Oper) (Q : Exit → Act → World → Prop) (S : World → Prop) (m fuel : Nat) (listed : Array Bool) (a : Act) (w : World) : Prop := HeadInv md ops m listed → wpAnyJ P md ops Q S m fuel listed a w
def Region.lastB (md : Region.Mode) (ops : Array Oper) (m : Nat) : Bool := Region.noSelect ops && (Region.sinkB md ops m && (Region.chainB md ops m && decide (m < ops.size)))
theorem JW_start {id : Nat} {a : Act} {w : World} (m : Nat) (S : World → Prop) (hm : P.follows .mixedOrders = true) (hS : S w.drew) (h : S w.drew → JW P .any ops Q S m ops.size (Array.replicate ops.size false) a w.drew) : (Code.region id ops true).wp P Q a w :=
  wp_region_any hm (wpAny_of_J _ _ _ _ (h hS ⟨by simp, fun j oj _ hl => (by rw [getD_replicate_false] at hl; cases hl), fun t _ ht => getD_in (by simpa using ht) (getD_replicate_false _ _)⟩))
theorem JW_take {i : Nat} {d : Option Tmp} {op : Op} {ty : TypeId} {ps : String} {af : Array Edge} {gd : Option (Nat × Bool)} {v : Value} {fuel : Nat} {listed : Array Bool} {a : Act} {w : World} (hi : ops[i]? = some (Oper.mk d op ty ps af gd))
    (hB : Region.lastB md ops m = true) (hf : Region.free md ops listed i = true) (hr : (Region.ready md ops listed).contains i = true) (him : decide (i < m) = true)
    (hQ : ∀ c a w, Q (.panic c) (a.put d v) w → Q (.panic c) a w) (hy : YieldsIf P ops S (Oper.mk d op ty ps af gd) v a) (hS : S w)
    (h : JW P md ops Q S m fuel (listed.setIfInBounds i true) (a.put d v) w) : JW P md ops Q S m (fuel + 1) listed a w := by
  intro inv
  simp only [Region.lastB, Bool.and_eq_true, decide_eq_true_eq] at hB
  have hr' : i ∈ Region.ready md ops listed := by simpa using hr
  have him' : i < m := of_decide_eq_true him
  exact wpAnyJ_first hi (Region.noSelect_spec hB.1) hQ hB.2.1 hB.2.2.1 hB.2.2.2 him' fuel listed a w inv (Region.free_spec hi hf) hr' hy hS (h (inv.set hr' him'))
theorem JW_one {i : Nat} {d : Option Tmp} {op : Op} {ty : TypeId} {ps : String} {af : Array Edge} {fuel : Nat} {listed : Array Bool} {a : Act} {w : World} (hi : ops[i]? = some (Oper.mk d op ty ps af none)) (hr : Region.ready md ops listed = [i]) (him : decide (i < m) = true)
    (h : ∀ K' : Act → World → Prop, Shut (∀ a w, S w → (S w → JW P md ops Q S m fuel (listed.setIfInBounds i true) a w) → K' a w) → Oper.wp P (Oper.mk d op ty ps af none) a w K' Q) : JW P md ops Q S m (fuel + 1) listed a w := by
  intro inv
  have him' : i < m := of_decide_eq_true him
  have hi' : i ∈ Region.ready md ops listed := by rw [hr]; simp
  refine ⟨fun h0 => (by rw [hr] at h0; cases h0), fun j hj => ?_⟩
  rw [hr] at hj
  obtain rfl := List.mem_singleton.1 hj
  refine wpOp_step hi fun K' hK => ?_
  rw [if_pos (by simp [Region.wanted])]
  exact h K' fun a w hS hW => hK a w ⟨fun _ => hS, hW hS (inv.set hi' him')⟩
theorem JW_last {d : Option Tmp} {op : Op} {ty : TypeId} {ps : String} {af : Array Edge} {fuel : Nat} {listed : Array Bool} {a : Act} {w : World} (hi : ops[m]? = some (Oper.mk d op ty ps af none)) (hr : Region.ready md ops listed = [m]) (hr0 : Region.ready md ops (listed.setIfInBounds m true) = [])
    (h : ∀ K' : Act → World → Prop, Shut (∀ a w, Q .normal a w → K' a w) → Oper.wp P (Oper.mk d op ty ps af none) a w K' Q) : JW P md ops Q S m (fuel + 1) listed a w := by
  intro _
  refine ⟨fun h0 => (by rw [hr] at h0; cases h0), fun j hj => ?_⟩
  rw [hr] at hj
  obtain rfl := List.mem_singleton.1 hj
  refine wpOp_step hi fun K' hK => ?_
  rw [if_pos (by simp [Region.wanted])]
  refine h K' fun a w hq => hK a w ⟨fun h => absurd rfl h, ?_⟩
  cases fuel with
  | zero => exact ⟨hr0, hq⟩
  | succ f => exact ⟨fun _ => hq, fun k hk => (by rw [hr0] at hk; cases hk)⟩
end
end Go.Proofs.YtkgihfoknpimfaaGreat
namespace Go.Proofs.YtkgihfoknpimfaaGreat
open Go.RowKit Go.Op
set_option linter.unusedVariables false

theorem recs_far1 {w : World} {A : Option Addr} {n : Nat} {xs : List Rrd} {r t : Nat} {i : Int} {z : Bool} {p1 p2 p3 : Option Addr} {n1 n2 n3 c1 c2 c3 : Nat} (h : SeesR w w.heap.size A n xs)
    (hr : Whole w r t #[.int .i64 i, .bool z, .slice p1 n1 c1, .slice p2 n2 c2, .slice p3 n3 c3]) (q : Nat) (u : Value) : SeesR (w.setCell ⟨r, q, none⟩ u) (w.setCell ⟨r, q, none⟩ u).heap.size A n xs := by
  refine ⟨h.1, fun hn => ?_⟩
  obtain ⟨b, off, e, hlt, hc⟩ := h.2 hn
  have hg := grown_put (grow_refl w (some r)) q u
  have hbr : b ≠ r := by
    rintro rfl
    obtain ⟨x, hx⟩ : ∃ x, xs[0]? = some x := ⟨xs[0]'(by rw [h.1]; exact hn), List.getElem?_eq_getElem _⟩
    have h0 := (hc 0 x hx).1
    rw [hr.cell] at h0
    simp only [Nat.zero_mul, Nat.add_zero] at h0
    match off, h0 with
    | 0, h0 => simp at h0
    | 1, h0 => simp at h0
    | 2, h0 => simp at h0
    | 3, h0 => simp at h0
    | 4, h0 => simp at h0
    | o + 5, h0 => simp at h0
  have hk : ∀ o, (w.setCell ⟨r, q, none⟩ u).cell? ⟨b, o, none⟩ = w.cell? ⟨b, o, none⟩ := fun o => World.cell?_of_block (hg.block b hlt (fun e => hbr (by injection e)))
  refine ⟨b, off, e, Nat.lt_of_lt_of_le hlt hg.size, fun j x hx => ?_⟩
  obtain ⟨a0, a1, a2, a3, a4⟩ := hc j x hx
  exact ⟨(hk _).trans a0, (hk _).trans a1, (hk _).trans a2, (hk _).trans a3, (hk _).trans a4⟩
theorem own_noneX (w : World) (base : Nat) (hb : base ≤ w.heap.size) : (w.alloc (.cells #[] 26)).ownsRow base 26 5 (.slice (some ⟨w.heap.size, 0, none⟩) 0 0) 0 (rcells []) := own_noneR w base hb
set_option maxHeartbeats 8000000 in
set_option maxRecDepth 20000 in
theorem RZwith_any (A1 A2 : Option Addr) (k1 k2 : Nat) (la lb : List Rrd) (w : World) (h1 : SeesR w w.heap.size A1 la.length la) (h2 : SeesR w w.heap.size A2 lb.length lb) (hl : la.length + lb.length ≤ 1073741824) :
    Calls Tryz.prog 90 #[.slice A1 la.length k1, .slice A2 lb.length k2] w fun e w' => ∃ u, e = .returned u ∧ w'.ownsRow w.heap.size 26 5 u (la ++ lb).length (rcells (la ++ lb)) ∧ Below w.heap.size w w' := by
  have HBE := Lib.hid (show Below w.heap.size w (w.alloc (.cells #[] 26)) from (Below.refl _ _).alloc (Nat.le_refl _) _)
  have HOE := Lib.hid (own_noneX w w.heap.size (Nat.le_refl _))
  have HS1 := Lib.hid ((h1.keep HBE.out).more HBE.out.size)
  have HS2 := Lib.hid h2
  have HL := Lib.hid hl
  have HL1 := Lib.hid (show 0 + la.length ≤ 1073741824 by omega)
  clear h1 h2 hl
  go_enter Tryz.func90, Tryz.ntmps90
  go_wp2_with (first
    | (at_builtin; (refine wpList_append_R rfl (.tmp 5) _ rfl w.heap.size _ 0 [] rfl HOE.out _ A1 la.length k1 la rfl HS1.out HL1.out HBE.out.size ?_); intro v1 w1 ho hg; (obtain ⟨A3, k3, rfl, _⟩ := SeesR.own ho); (have HO1 := Lib.hid (show w1.ownsRow w.heap.size 26 5 (.slice A3 la.length k3) la.length (rcells la) by simpa using ho)); (have HB1 := Lib.hid (HBE.out.grown hg HBE.out.size (own_block_ge HOE.out))); clear ho hg; (try rw [Nat.zero_add]))
    | (at_builtin; (refine wpList_append_R rfl (.tmp 7) _ rfl w.heap.size _ la.length la rfl HO1.out _ A2 lb.length k2 lb rfl (HS2.out.keep HB1.out) HL.out HB1.out.size ?_); intro v2 w2 ho hg; (have HO2 := Lib.hid ho); (have HB2 := Lib.hid (HB1.out.grown hg HB1.out.size (own_block_ge HO1.out))); clear ho hg))
  go_ret
  exact ⟨_, rfl, by rw [List.length_append]; exact HO2.out, HB2.out⟩
set_option maxHeartbeats 32000000 in
set_option maxRecDepth 20000 in
theorem RZrefer_any (N : ByteArray) (nn : List UInt8) (D : List Rrd) (gz : GoodZ nn D) (v : Value) (w : World) (hz : ZRefAt w w.heap.size N D v) (a : Ans) (Ax Ay Az : Option Addr) (kx ky kz : Nat) (hx : SeesR w w.heap.size Ax a.an.length a.an) (had : a.ad = []) (ny nz : Nat) (hnz : nz = 0) (C : ByteArray) (cut : List UInt8) (hC : C = mk cut) :
    Calls Tryz.prog 89 #[v, .agg #[.int .i64 a.rc, .bool a.aa, .slice Ax a.an.length kx, .slice Ay ny ky, .slice Az nz kz], .string C] w fun e w' => AnsOut w' (referZ D cut a) e ∧ Below w.heap.size w w' := by
  subst hnz
  have HZV := Lib.hid hz
  obtain ⟨A, c, rfl, hs, hcap⟩ := hz
  have GZ := Lib.hid gz
  have HC := Lib.hid hC
  have HX := Lib.hid hx
  obtain ⟨nx, hnx⟩ : ∃ nx, nx = a.an.length := ⟨_, rfl⟩
  have HNX := Lib.hid hnx
  rw [← hnx] at HX ⊢
  obtain ⟨rc, hrc⟩ : ∃ rc : Int, rc = a.rc := ⟨_, rfl⟩
  have HRC := Lib.hid hrc
  rw [← hrc]
  obtain ⟨a1, ha1⟩ : ∃ b : Bool, b = a.aa := ⟨_, rfl⟩
  rw [← ha1]
  obtain ⟨ns, hns⟩ : ∃ ns, ns = setZ D 2 cut := ⟨_, rfl⟩
  obtain ⟨m, hm⟩ : ∃ m, m = ns.length := ⟨_, rfl⟩
  have hm1000 : m ≤ 1000 := by rw [hm, hns]; have := setZ_len D 2 cut; have := GZ.out.len; omega
  have HNS := Lib.hid hns
  have HM := Lib.hid hm
  have hB1 : Below w.heap.size w (w.alloc (.cells #[.string N, .slice A D.length c] rzT)) := (Below.refl _ _).alloc (Nat.le_refl _) _
  have hB2 : Below w.heap.size w ((w.alloc (.cells #[.string N, .slice A D.length c] rzT)).alloc (.cells #[.int .i64 rc, .bool a1, .slice Ax nx kx, .slice Ay ny ky, .slice Az 0 kz] anT)) := hB1.alloc hB1.size _
  have hB3 : Below w.heap.size w (((w.alloc (.cells #[.string N, .slice A D.length c] rzT)).alloc (.cells #[.int .i64 rc, .bool a1, .slice Ax nx kx, .slice Ay ny ky, .slice Az 0 kz] anT)).alloc (.cells #[.int .i64 0, .bool false, .slice none 0 0, .slice none 0 0, .slice none 0 0] anT)) := hB2.alloc hB2.size _
  have hwz := ((Whole.new w rzT #[.string N, .slice A D.length c]).alloc (.cells #[.int .i64 rc, .bool a1, .slice Ax nx kx, .slice Ay ny ky, .slice Az 0 kz] anT)).alloc (.cells #[.int .i64 0, .bool false, .slice none 0 0, .slice none 0 0, .slice none 0 0] anT)
  have hwa := (Whole.new (w.alloc (.cells #[.string N, .slice A D.length c] rzT)) anT #[.int .i64 rc, .bool a1, .slice Ax nx kx, .slice Ay ny ky, .slice Az 0 kz]).alloc (.cells #[.int .i64 0, .bool false, .slice none 0 0, .slice none 0 0, .slice none 0 0] anT)
  have hwr := Whole.new ((w.alloc (.cells #[.string N, .slice A D.length c] rzT)).alloc (.cells #[.int .i64 rc, .bool a1, .slice Ax nx kx, .slice Ay ny ky, .slice Az 0 kz] anT)) anT #[.int .i64 0, .bool false, .slice none 0 0, .slice none 0 0, .slice none 0 0]
  rw [World.size_alloc] at hwa
  rw [World.size_alloc, World.size_alloc] at hwr
  obtain ⟨W3, hW3⟩ : ∃ W, W = (((w.alloc (.cells #[.string N, .slice A D.length c] rzT)).alloc (.cells #[.int .i64 rc, .bool a1, .slice Ax nx kx, .slice Ay ny ky, .slice Az 0 kz] anT)).alloc (.cells #[.int .i64 0, .bool false, .slice none 0 0, .slice none 0 0, .slice none 0 0] anT)) := ⟨_, rfl⟩
  rw [← hW3] at hB3 hwz hwa hwr
  have HB3 := Lib.hid hB3
  have HWZ3 := Lib.hid hwz
  have HWA3 := Lib.hid hwa
  have HWR3 := Lib.hid hwr
  have HW3 := Lib.hid hW3
  clear hs hcap hC hx hnx hrc ha1 hns hm hB1 hB2 hB3 hwz hwa hwr hW3 gz
  have c0 : W3.cell? ⟨w.heap.size, 0, none⟩ = some (.string N) := (HWZ3.out.cell 0).trans rfl
  have c1 : W3.cell? ⟨w.heap.size, 1, none⟩ = some (.slice A D.length c) := (HWZ3.out.cell 1).trans rfl
  rw [HW3.out] at c0 c1
  go_enter Tryz.func89, Tryz.ntmps89
  go_wp2_with fail
  rw [← HW3.out]
  clear c0 c1
  refine (ZRefSet_any N D _ _ (HZV.out.later HB3.out) C cut 2 HC.out (by have := GZ.out.len; omega)).mono ?_
  rw [show typX 2 (atX cut D) = ns from HNS.out.symm, ← HM.out]
  rintro e w4 ⟨u, rfl, ho, hB⟩
  obtain ⟨An, cn, rfl, _⟩ := SeesR.own ho
  have hwa := HWA3.out.below hB HWA3.out.lt
  have HB4 := Lib.hid (HB3.out.trans (hB.mono HB3.out.size))
  have HWZ4 := Lib.hid (HWZ3.out.below hB HWZ3.out.lt)
  have HWA4 := Lib.hid hwa
  have HWR4 := Lib.hid (HWR3.out.below hB HWR3.out.lt)
  have HO4 := Lib.hid ho
  obtain ⟨a0', a1', a2', a3', a4'⟩ := an_cells hwa
  obtain ⟨f0, f1, f2, f3, f4⟩ := an_soft hwa
  clear ho hB hwa
  go_wp2_with fail
  obtain ⟨bz, hbz⟩ : ∃ b, b = w.heap.size := ⟨_, rfl⟩
  obtain ⟨ba, hba⟩ : ∃ b, b = w.heap.size + 1 := ⟨_, rfl⟩
  obtain ⟨br, hbr⟩ : ∃ b, b = w.heap.size + 1 + 1 := ⟨_, rfl⟩
  have hza : bz ≠ ba := by omega
  have hra : br ≠ ba := by omega
  rw [← hbz] at HWZ4
  rw [← hba] at HWA4
  rw [← hbr] at HWR4
  have hwa5 := HWA4.out.put 3 (.slice An m cn)
  have hwa6 : Whole (w4.setCell ⟨ba, 3, none⟩ (.slice An m cn)) ba anT #[.int .i64 rc, .bool a1, .slice Ax nx kx, .slice An m cn, .slice Az 0 kz] := by simpa using hwa5
  have hwz5 := HWZ4.out.far (p := ⟨ba, 3, none⟩) hza (.slice An m cn)
  have hwr5 := HWR4.out.far (p := ⟨ba, 3, none⟩) hra (.slice An m cn)
  have ho5 := HO4.out.kept (gset w4 ⟨ba, 3, none⟩ (.slice An m cn)) (.inr (own_apart HO4.out HWA4.out (by decide)))
  have hb5 := HB4.out.setCell (p := ⟨ba, 3, none⟩) (show w.heap.size ≤ ba by omega) (.slice An m cn)
  have HBZ := Lib.hid hbz
  have HBA := Lib.hid hba
  have HBRR := Lib.hid hbr
  rw [← hbr, ← hba, ← HBZ.out]
  generalize (w4.setCell ⟨ba, 3, none⟩ (.slice An m cn)) = w5 at hwa6 hwz5 hwr5 ho5 hb5 ⊢
  have HWA5 := Lib.hid hwa6
  have HWZ5 := Lib.hid hwz5
  have HWR5 := Lib.hid hwr5
  have HO5 := Lib.hid ho5
  have HB5 := Lib.hid hb5
  clear hwa5 hwa6 hwz5 hwr5 ho5 hb5 a0' a1' a2' a3' a4' f0 f1 f2 f3 f4 hbz hba hbr
  go_wp2_with fail
  go_loopw [7] (fun i wr => ∃ k : Nat, k ≤ m ∧ i = .int .i64 (k : Nat) ∧ (∃ (Ad : Option Addr) (nd kd : Nat) (ad : List Rrd), ad = (ns.take k).flatMap (hostZ D cut) ∧ nd = ad.length ∧ Whole wr ba anT #[.int .i64 rc, .bool a1, .slice Ax nx kx, .slice An m cn, .slice Ad nd kd] ∧ SeesR wr wr.heap.size Ad nd ad) ∧ w5.grownBy wr (some ba)) (fun i _ => m - (intOf i).toNat)
  case atStart => exact ⟨0, Nat.zero_le _, rfl, ⟨Az, 0, kz, [], by simp, rfl, HWA5.out, rfl, fun h => absurd h (by simp)⟩, grow_refl _ _⟩
  case round =>
    obtain ⟨k, hk, rfl, ⟨Ad, nd, kd, ad, had, hnd, hwa, hsd⟩, hg⟩ := hrel
    have HAD := Lib.hid had
    have HND := Lib.hid hnd
    have HWA := Lib.hid hwa
    have HSD := Lib.hid hsd
    have HGR := Lib.hid hg
    have HON := Lib.hid (HO5.out.kept hg (.inr (own_apart HO5.out HWA5.out (by decide))))
    have HWZ := Lib.hid (HWZ5.out.grown hg (by intro e; injection e with e; exact hza e))
    have HWR := Lib.hid (HWR5.out.grown hg (by intro e; injection e with e; exact hra e))
    have HB := Lib.hid (HB5.out.trans ((Below.refl w.heap.size w5).grown hg HB5.out.size (fun j e => by injection e with e; have := HBA.out; omega)))
    obtain ⟨b0, b1, b2, b3, b4⟩ := an_cells hwa
    clear had hnd hwa hsd hg
    by_cases hkm : k < m
    · have g2 : (k : Int) < (m : Int) := by omega
      have g0 : (0 : Int) ≤ (k : Int) := by omega
      obtain ⟨A', c', e1, hsn⟩ := SeesR.own HON.out
      injection e1 with e1 _ e2
      subst e1; subst e2
      obtain ⟨bn, off, x, rfl, hbn, hxk, ht⟩ := hsn.at hkm
      obtain ⟨x0, x1, x2, x3, x4⟩ := ht
      have hxm : x ∈ D := by
        have h := List.mem_of_getElem? hxk
        rw [HNS.out] at h
        exact (atX_mem.1 (typX_mem.1 h).1).1
      have HXD := Lib.hid (rrd_data x)
      have HST := Lib.hid (hosts_step (D := D) (c := cut) hxk)
      have hnd2 : nd ≤ 2000000 := by
        have h1 := hosts_len D cut (ns.take k)
        rw [← HAD.out, ← HND.out] at h1
        have h2 : (ns.take k).length ≤ 1000 := by rw [List.length_take]; omega
        have h3 := GZ.out.len
        have h4 := Nat.mul_le_mul h2 (show 2 * D.length ≤ 2000 by omega)
        omega
      clear hsn hxk hxm
      cases hu : underN x.toRec.d cut with
      | false =>
        have HH := Lib.hid (show hostZ D cut x = [] by unfold hostZ; rw [hu]; rfl)
        go_wp2_with fail
        refine (RefUnder_any x.d C x.toRec.d cut _ HXD.out HC.out).mono ?_
        rw [hu]
        clear hu
        rintro e w6 ⟨rfl, hB⟩
        have HWA6 := Lib.hid (HWA.out.below hB HWA.out.lt)
        have HSD6 := Lib.hid ((HSD.out.keep hB).more hB.size)
        have HG6 := Lib.hid (grownB HGR.out hB)
        clear hB b0 b1 b2 b3 b4 x0 x1 x2 x3 x4
        go_wp2_with fail
        go_roundw
        case rel => exact ⟨k + 1, by omega, by go_num, ⟨Ad, nd, kd, ad, by rw [HST.out, HH.out, List.append_nil]; exact HAD.out, HND.out, HWA6.out, HSD6.out⟩, HG6.out⟩
        case measure => simp [intOf]; omega
      | true =>
        have HH := Lib.hid (show hostZ D cut x = setZ D 1 x.toRec.d ++ setZ D 28 x.toRec.d by unfold hostZ; rw [hu]; rfl)
        obtain ⟨t1, ht1⟩ : ∃ t, t = setZ D 1 x.toRec.d := ⟨_, rfl⟩
        obtain ⟨t2, ht2⟩ : ∃ t, t = setZ D 28 x.toRec.d := ⟨_, rfl⟩
        have HT1 := Lib.hid ht1
        have HT2 := Lib.hid ht2
        have HL1 := Lib.hid (show t1.length ≤ 1000 by rw [ht1]; have := setZ_len D 1 x.toRec.d; have := GZ.out.len; omega)
        have HL2 := Lib.hid (show t2.length ≤ 1000 by rw [ht2]; have := setZ_len D 28 x.toRec.d; have := GZ.out.len; omega)
        clear ht1 ht2
        go_wp2_with fail
        refine (RefUnder_any x.d C x.toRec.d cut _ HXD.out HC.out).mono ?_
        rw [hu]
        clear hu
        rintro e w6 ⟨rfl, hB⟩
        have HWA6 := Lib.hid (HWA.out.below hB HWA.out.lt)
        have HWZ6 := Lib.hid (HWZ.out.below hB HWZ.out.lt)
        have HSD6 := Lib.hid ((HSD.out.keep hB).more hB.size)
        have HG6 := Lib.hid (grownB HGR.out hB)
        have HZ6 := Lib.hid (HZV.out.later (HB.out.trans (hB.mono HB.out.size)))
        have HOE := Lib.hid (own_noneX w6 w6.heap.size (Nat.le_refl _))
        clear hB b0 b1 b2 b3 b4 x0 x1 x2 x3 x4
        have q4 : ∀ w', Below w6.heap.size w6 w' → w'.cell? ⟨ba, 4, none⟩ = some (.slice Ad nd kd) := fun w' h => ((HWA6.out.below h HWA6.out.lt).cell 4).trans rfl
        have z0 : ∀ w', Below w6.heap.size w6 w' → w'.cell? ⟨bz, 0, none⟩ = some (.string N) := fun w' h => ((HWZ6.out.below h HWZ6.out.lt).cell 0).trans rfl
        have z1 : ∀ w', Below w6.heap.size w6 w' → w'.cell? ⟨bz, 1, none⟩ = some (.slice A D.length c) := fun w' h => ((HWZ6.out.below h HWZ6.out.lt).cell 1).trans rfl
        have fr : ∀ w', Below w6.heap.size w6 w' → w'.frozen? ⟨ba, 4, none⟩ = false := fun w' h => (HWA6.out.below h HWA6.out.lt).frozen 4
        go_wp2_with fail
        refine JW_start 13 (fun w' => Below w6.heap.size w6 w') (by kernel_rfl) (Below.refl _ _).drew (fun hHeld => ?_)
        refine JW_take (i := 1) (v := ?_) rfl (by kernel_rfl) (by kernel_rfl) (by kernel_rfl) (by decide) (fun _ _ _ h => h) (Or.inl ⟨by rfl, ?_⟩) hHeld ?_
        rotate_left
        · (intro w hSw; (try dsimp only at hSw); go_simp; (try with_reducible rfl))
        try simp only [Act.put, List.setIfInBounds_toArray, List.set_cons_zero, List.set_cons_succ]
        refine JW_take (i := 2) (v := ?_) rfl (by kernel_rfl) (by kernel_rfl) (by kernel_rfl) (by decide) (fun _ _ _ h => h) (Or.inl ⟨by rfl, ?_⟩) hHeld ?_
        rotate_left
        · (intro w hSw; (try dsimp only at hSw); go_simp; (try with_reducible rfl))
        try simp only [Act.put, List.setIfInBounds_toArray, List.set_cons_zero, List.set_cons_succ]
        refine JW_take (i := 4) (v := ?_) rfl (by kernel_rfl) (by kernel_rfl) (by kernel_rfl) (by decide) (fun _ _ _ h => h) (Or.inl ⟨by rfl, ?_⟩) hHeld ?_
        rotate_left
        · (intro w hSw; (try dsimp only at hSw); go_simp; (try with_reducible rfl))
        try simp only [Act.put, List.setIfInBounds_toArray, List.set_cons_zero, List.set_cons_succ]
        refine JW_take (i := 5) (v := ?_) rfl (by kernel_rfl) (by kernel_rfl) (by kernel_rfl) (by decide) (fun _ _ _ h => h) (Or.inl ⟨by rfl, ?_⟩) hHeld ?_
        rotate_left
        · (intro w hSw; (try dsimp only at hSw); go_simp; (try with_reducible rfl))
        try simp only [Act.put, List.setIfInBounds_toArray, List.set_cons_zero, List.set_cons_succ]
        refine JW_take (i := 8) (v := ?_) rfl (by kernel_rfl) (by kernel_rfl) (by kernel_rfl) (by decide) (fun _ _ _ h => h) (Or.inl ⟨by rfl, ?_⟩) hHeld ?_
        rotate_left
        · (intro w hSw; (try dsimp only at hSw); go_simp; (try with_reducible rfl))
        try simp only [Act.put, List.setIfInBounds_toArray, List.set_cons_zero, List.set_cons_succ]
        refine JW_take (i := 9) (v := ?_) rfl (by kernel_rfl) (by kernel_rfl) (by kernel_rfl) (by decide) (fun _ _ _ h => h) (Or.inl ⟨by rfl, ?_⟩) hHeld ?_
        rotate_left
        · (intro w hSw; (try dsimp only at hSw); go_simp; (try with_reducible rfl))
        try simp only [Act.put, List.setIfInBounds_toArray, List.set_cons_zero, List.set_cons_succ]
        refine JW_one (i := 0) rfl (by kernel_rfl) (by decide) (fun K hK => ?_)
        go_simp
        have hTE : Below w6.heap.size w6 (w6.drew.alloc (.cells #[] 26)) := (Below.refl _ _).drew.alloc (Nat.le_refl _) _
        refine hK.out _ _ hTE (fun hHeld => ?_)
        clear hK
        try simp only [Act.put, List.setIfInBounds_toArray, List.set_cons_zero, List.set_cons_succ]
        refine JW_one (i := 3) rfl (by kernel_rfl) (by decide) (fun K hK => ?_)
        refine wp_append_R (.tmp 29) (.tmp 31) rfl w6.heap.size (.slice (some ⟨w6.heap.size, 0, none⟩) 0 0) 0 [] rfl HOE.out w6.heap.size Ad nd kd ad rfl (HSD6.out.keep hTE) (by omega) hTE.size ?_
        intro v7 w7 ho7 hg7
        obtain ⟨A7, k7, rfl, _⟩ := SeesR.own ho7
        have hT7 := hTE.grown hg7 hTE.size (own_block_ge (show (w6.alloc (.cells #[] 26)).ownsRow w6.heap.size 26 5 (.slice (some ⟨w6.heap.size, 0, none⟩) 0 0) 0 (rcells []) from HOE.out))
        rw [Nat.zero_add, List.nil_append] at ho7
        rw [Nat.zero_add]
        refine hK.out _ _ hT7 (fun hHeld => ?_)
        clear hK
        try simp only [Act.put, List.setIfInBounds_toArray, List.set_cons_zero, List.set_cons_succ]
        refine JW_one (i := 6) rfl (by kernel_rfl) (by decide) (fun K hK => ?_)
        go_simp
        go_at_call 51
        refine (ZRefSet_any N D _ _ (HZ6.out.later hT7) x.d x.toRec.d 1 HXD.out (by have := GZ.out.len; omega)).mono ?_
        rw [show typX 1 (atX x.toRec.d D) = t1 from HT1.out.symm]
        rintro e w8 ⟨u8, rfl, ho8, hB8⟩
        obtain ⟨A8, k8, rfl, hs8⟩ := SeesR.own ho8
        have hT8 := hT7.trans (hB8.mono hT7.size)
        have ho7' := own_keep ho7 hB8
        (try dsimp only)
        refine hK.out _ _ hT8 (fun hHeld => ?_)
        clear hK
        try simp only [Act.put, List.setIfInBounds_toArray, List.set_cons_zero, List.set_cons_succ]
        refine JW_one (i := 7) rfl (by kernel_rfl) (by decide) (fun K hK => ?_)
        refine wp_append_R (.tmp 32) (.tmp 35) rfl w6.heap.size (.slice A7 nd k7) nd ad rfl ho7' w8.heap.size A8 t1.length k8 t1 rfl hs8 (by have := HL1.out; omega) hT8.size ?_
        intro v9 w9 ho9 hg9
        obtain ⟨A9, k9, rfl, _⟩ := SeesR.own ho9
        have hT9 := hT8.grown hg9 hT8.size (own_block_ge ho7')
        refine hK.out _ _ hT9 (fun hHeld => ?_)
        clear hK
        try simp only [Act.put, List.setIfInBounds_toArray, List.set_cons_zero, List.set_cons_succ]
        refine JW_one (i := 10) rfl (by kernel_rfl) (by decide) (fun K hK => ?_)
        go_simp
        go_at_call 51
        refine (ZRefSet_any N D _ _ (HZ6.out.later hT9) x.d x.toRec.d 28 HXD.out (by have := GZ.out.len; omega)).mono ?_
        rw [show typX 28 (atX x.toRec.d D) = t2 from HT2.out.symm]
        rintro e w10 ⟨u10, rfl, ho10, hB10⟩
        obtain ⟨A10, k10, rfl, hs10⟩ := SeesR.own ho10
        have hT10 := hT9.trans (hB10.mono hT9.size)
        have ho9' := own_keep ho9 hB10
        (try dsimp only)
        refine hK.out _ _ hT10 (fun hHeld => ?_)
        clear hK
        try simp only [Act.put, List.setIfInBounds_toArray, List.set_cons_zero, List.set_cons_succ]
        refine JW_one (i := 11) rfl (by kernel_rfl) (by decide) (fun K hK => ?_)
        refine wp_append_R (.tmp 36) (.tmp 39) rfl w6.heap.size (.slice A9 (nd + t1.length) k9) (nd + t1.length) (ad ++ t1) rfl ho9' w10.heap.size A10 t2.length k10 t2 rfl hs10 (by have := HL1.out; have := HL2.out; omega) hT10.size ?_
        intro v11 w11 ho11 hg11
        obtain ⟨A11, k11, rfl, _⟩ := SeesR.own ho11
        have hT11 := hT10.grown hg11 hT10.size (own_block_ge ho9')
        refine hK.out _ _ hT11 (fun hHeld => ?_)
        clear hK
        try simp only [Act.put, List.setIfInBounds_toArray, List.set_cons_zero, List.set_cons_succ]
        refine JW_one (i := 12) rfl (by kernel_rfl) (by decide) (fun K hK => ?_)
        go_simp
        refine hK.out _ _ hT11 (fun hHeld => ?_)
        clear hK
        try simp only [Act.put, List.setIfInBounds_toArray, List.set_cons_zero, List.set_cons_succ]
        refine JW_last rfl (by kernel_rfl) (by kernel_rfl) (fun K hK => ?_)
        have h4 := q4 w11 hT11
        have f4 := fr w11 hT11
        go_simp
        refine hK.out _ _ ?_
        clear hK
        have hwa11 := HWA6.out.below hT11 HWA6.out.lt
        have hwp := hwa11.put 4 (.slice A11 (nd + t1.length + t2.length) k11)
        have HWP := Lib.hid (show Whole (w11.setCell ⟨ba, 4, none⟩ (.slice A11 (nd + t1.length + t2.length) k11)) ba anT #[.int .i64 rc, .bool a1, .slice Ax nx kx, .slice (some ⟨bn, off, none⟩) m cn, .slice A11 (nd + t1.length + t2.length) k11] by simpa using hwp)
        have hoq := ho11.kept (gset w11 ⟨ba, 4, none⟩ (.slice A11 (nd + t1.length + t2.length) k11)) (.inr (own_apart ho11 hwa11 (by decide)))
        have HSQ := Lib.hid (own_sees' hoq)
        have HGQ := Lib.hid (grown_put (grownB HG6.out hT11) 4 (.slice A11 (nd + t1.length + t2.length) k11))
        have HEQ := Lib.hid (show ad ++ t1 ++ t2 = (ns.take (k + 1)).flatMap (hostZ D cut) by
          rw [HST.out, ← HAD.out, HH.out, HT1.out, HT2.out, List.append_assoc])
        have HLN := Lib.hid (show nd + t1.length + t2.length = (ad ++ t1 ++ t2).length by rw [List.length_append, List.length_append, ← HND.out])
        clear q4 z0 z1 fr h4 f4 hwa11 hwp hoq ho7 ho7' ho8 ho9 ho9' ho10 ho11 hg7 hg9 hg11 hs8 hs10 hB8 hB10 hTE hT7 hT8 hT9 hT10 hT11 hHeld
        generalize (w11.setCell ⟨ba, 4, none⟩ (.slice A11 (nd + t1.length + t2.length) k11)) = w12 at HWP HSQ HGQ ⊢
        go_wp2_with fail
        go_roundw
        case rel => exact ⟨k + 1, by omega, by go_num, ⟨A11, _, k11, _, HEQ.out, HLN.out, HWP.out, HSQ.out⟩, HGQ.out⟩
        case measure => simp [intOf]; omega
    · obtain rfl : k = m := by omega
      have g2 : ¬ ((k : Int) < (k : Int)) := by omega
      have hall : ns.take k = ns := List.take_of_length_le (by rw [HM.out]; exact Nat.le_refl _)
      rw [hall] at HAD
      obtain ⟨f0, f1, f2, f3, f4⟩ := an_soft HWA.out
      obtain ⟨r0, r1, r2, r3, r4⟩ := an_cells HWR.out
      obtain ⟨s0, s1, s2, s3, s4⟩ := an_soft HWR.out
      have har : ba ≠ br := fun e => hra e.symm
      have hsx := recs_far1 ((HX.out.keep HB.out).more HB.out.size) HWA.out 1 (.bool (decide (0 < nx)))
      have hsy := recs_far1 (own_sees' HON.out) HWA.out 1 (.bool (decide (0 < nx)))
      have hsz := recs_far1 HSD.out HWA.out 1 (.bool (decide (0 < nx)))
      have hwr2 := HWR.out.far (p := ⟨ba, 1, none⟩) hra (.bool (decide (0 < nx)))
      have HSX := Lib.hid (recs_far5 hsx hwr2)
      have HSY := Lib.hid (recs_far5 hsy hwr2)
      have HSZ := Lib.hid (recs_far5 hsz hwr2)
      have HWR2 := Lib.hid hwr2
      have HBF := Lib.hid (HB.out.setCell (p := ⟨ba, 1, none⟩) (show w.heap.size ≤ ba by have := HBA.out; omega) (.bool (decide (0 < nx))))
      have HBRL := Lib.hid (show w.heap.size ≤ br by have := HBRR.out; omega)
      clear hsx hsy hsz hwr2
      go_wp2_with fail
      refine retA5 rfl rfl rfl (five_put HWR2.out _ _ _ _ _) ⟨?_, five_below HBF.out HBRL.out _ _ _ _ _⟩
      refine ⟨.slice Ax nx kx, .slice An k cn, .slice Ad nd kd, ?_, ?_, ?_, ?_⟩
      · show _ = Ending.returned (.agg #[.int .i64 a.rc, .bool (decide (0 < a.an.length)), _, _, _])
        rw [← HRC.out, ← HNX.out]
      · show RecsAt _ _ a.an
        exact ⟨Ax, kx, by rw [← HNX.out], by rw [← HNX.out]; exact HSX.out _ _ _ _ _⟩
      · show RecsAt _ _ (setZ D 2 cut)
        exact ⟨An, cn, by rw [← HNS.out, ← HM.out], by rw [← HNS.out, ← HM.out]; exact HSY.out _ _ _ _ _⟩
      · show RecsAt _ _ ((setZ D 2 cut).flatMap (hostZ D cut))
        rw [← HNS.out, ← HAD.out]
        exact ⟨Ad, kd, by rw [← HND.out], by rw [← HND.out]; exact HSZ.out _ _ _ _ _⟩
end Go.Proofs.YtkgihfoknpimfaaGreat
namespace Go.Proofs.YtkgihfoknpimfaaGreat
open Go.RowKit Go.Op
set_option linter.unusedVariables false

theorem texts_far1 {w : World} {A : Option Addr} {n : Nat} {L : List (List UInt8)} {r t : Nat} {i : Int} {z : Bool} {p1 p2 p3 : Option Addr} {n1 n2 n3 c1 c2 c3 : Nat} (h : Sees w w.heap.size A n (textL L))
    (hr : Whole w r t #[.int .i64 i, .bool z, .slice p1 n1 c1, .slice p2 n2 c2, .slice p3 n3 c3]) (q : Nat) (u : Value) : Sees (w.setCell ⟨r, q, none⟩ u) (w.setCell ⟨r, q, none⟩ u).heap.size A n (textL L) := by
  refine ⟨h.1, fun hn => ?_⟩
  obtain ⟨b, off, e, hlt, hc⟩ := h.2 hn
  have hg := grown_put (grow_refl w (some r)) q u
  have hbr : b ≠ r := by
    rintro rfl
    have hl := textL_len h
    have h0 := hc 0 (.string (mk (L[0]'(by omega)))) (by simp [textL, texts]; exact ⟨_, List.getElem?_eq_getElem (by omega), rfl⟩)
    rw [hr.cell] at h0
    simp only [Nat.add_zero] at h0
    match off, h0 with
    | 0, h0 => simp at h0
    | 1, h0 => simp at h0
    | 2, h0 => simp at h0
    | 3, h0 => simp at h0
    | 4, h0 => simp at h0
    | o + 5, h0 => simp at h0
  have hk : ∀ o, (w.setCell ⟨r, q, none⟩ u).cell? ⟨b, o, none⟩ = w.cell? ⟨b, o, none⟩ := fun o => World.cell?_of_block (hg.block b hlt (fun e => hbr (by injection e)))
  exact ⟨b, off, e, Nat.lt_of_lt_of_le hlt hg.size, fun j x hx => (hk _).trans (hc j x hx)⟩
theorem recsat_far5 {w : World} {v : Value} {l : List Rrd} {r t : Nat} {i : Int} {z : Bool} {p1 p2 p3 : Option Addr} {n1 n2 n3 c1 c2 c3 : Nat} (h : RecsAt w v l)
    (hr : Whole w r t #[.int .i64 i, .bool z, .slice p1 n1 c1, .slice p2 n2 c2, .slice p3 n3 c3]) (u0 u1 u2 u3 u4 : Value) :
    RecsAt (((((w.setCell ⟨r, 0, none⟩ u0).setCell ⟨r, 1, none⟩ u1).setCell ⟨r, 2, none⟩ u2).setCell ⟨r, 3, none⟩ u3).setCell ⟨r, 4, none⟩ u4) v l := by
  obtain ⟨A, c, e, hs⟩ := h
  exact ⟨A, c, e, recs_far5 hs hr u0 u1 u2 u3 u4⟩
theorem ans_fin {w : World} {r : Nat} {a : Ans} {vx vy vz : Value} (hr : Whole w r anT #[.int .i64 0, .bool false, .slice none 0 0, .slice none 0 0, .slice none 0 0]) (h1 : RecsAt w vx a.an) (h2 : RecsAt w vy a.ns) (h3 : RecsAt w vz a.ad) :
    AnsOut (((((w.setCell ⟨r, 0, none⟩ (.int .i64 a.rc)).setCell ⟨r, 1, none⟩ (.bool a.aa)).setCell ⟨r, 2, none⟩ vx).setCell ⟨r, 3, none⟩ vy).setCell ⟨r, 4, none⟩ vz) a (.returned (.agg #[.int .i64 a.rc, .bool a.aa, vx, vy, vz])) :=
  ⟨vx, vy, vz, rfl, recsat_far5 h1 hr _ _ _ _ _, recsat_far5 h2 hr _ _ _ _ _, recsat_far5 h3 hr _ _ _ _ _⟩
theorem alias_at {l : List Rrd} {x : Rrd} (h : l[0]? = some x) : aliasZ l = x.toRec.d := by
  cases l with
  | nil => simp at h
  | cons y l => simp at h; subst h; rfl
theorem follow_hit {nn to y : List UInt8} {all : List (List UInt8)} (hm : y ∈ all) (h : alikeN y to = true) : followZ nn all to = false := by
  unfold followZ
  rw [List.any_eq_true.2 ⟨y, hm, h⟩]; simp
theorem follow_long {nn to : List UInt8} {all : List (List UInt8)} (h : 8 ≤ all.length) : followZ nn all to = false := by
  unfold followZ
  rw [show decide (all.length < 8) = false from by rw [decide_eq_false_iff_not]; omega]; simp
theorem follow_out {nn to : List UInt8} {all : List (List UInt8)} (h : underN to nn = false) : followZ nn all to = false := by
  unfold followZ; rw [h]; rfl
theorem follow_on {nn to : List UInt8} {all : List (List UInt8)} (h : underN to nn = true) (hn : (all.any fun y => alikeN y to) = false) (hl : all.length < 8) : followZ nn all to = true := by
  unfold followZ; rw [h, hn, decide_eq_true hl]; rfl
theorem askF_stop {D : List Rrd} {nn : List UInt8} {t : Int} {f : Nat} {a r : Ans} {asked : List (List UInt8)} {n m : List UInt8} (h : stepZ D nn t a asked n = (r, m, false)) : askF D nn t (f + 1) a asked n = r := by
  rw [askF, h]; rfl
theorem askF_more {D : List Rrd} {nn : List UInt8} {t : Int} {f : Nat} {a r : Ans} {asked : List (List UInt8)} {n m : List UInt8} (h : stepZ D nn t a asked n = (r, m, true)) : askF D nn t (f + 1) a asked n = askF D nn t f r (asked ++ [n]) m := by
  rw [askF, h]; rfl
set_option maxHeartbeats 32000000 in
set_option maxRecDepth 20000 in
theorem RZask_any (N : ByteArray) (nn : List UInt8) (D : List Rrd) (gz : GoodZ nn D) (hN : N = mk nn) (t : Int) (f : Nat) : ∀ (v : Value) (w : World) (a : Ans) (Ax Ay Az As : Option Addr) (kx ky kz ks nq : Nat) (asked : List (List UInt8)) (P : ByteArray) (n : List UInt8), ZRefAt w w.heap.size N D v → SeesR w w.heap.size Ax a.an.length a.an → a.ns = [] → a.ad = [] →
    Sees w w.heap.size As nq (textL asked) → f + 1 + nq = 8 → a.an.length ≤ 1000 * nq → P = mk n →
    Calls Tryz.prog 45 #[v, .agg #[.int .i64 a.rc, .bool a.aa, .slice Ax a.an.length kx, .slice Ay 0 ky, .slice Az 0 kz], .string P, .int .i64 t, .slice As nq ks] w fun e w' => AnsOut w' (askF D nn t (f + 1) a asked n) e ∧ Below w.heap.size w w' := by
  induction f using Nat.strongRecOn with
  | _ f ih =>
  intro v w a Ax Ay Az As kx ky kz ks nq asked P n hz hx hns had hq hf han hP
  have HIH := Lib.hid ih
  have HZV := Lib.hid hz
  obtain ⟨A, c, rfl, hs, hcap⟩ := hz
  have GZ := Lib.hid gz
  have HN := Lib.hid hN
  have HP := Lib.hid hP
  have HNS := Lib.hid hns
  have HAD := Lib.hid had
  have HF := Lib.hid hf
  have HQL := Lib.hid (textL_len hq)
  have HAN := Lib.hid han
  have hnx8 : a.an.length ≤ 8000 := by omega
  have hnq : nq ≤ 7 := by omega
  have hB1 : Below w.heap.size w (w.alloc (.cells #[.string N, .slice A D.length c] rzT)) := (Below.refl _ _).alloc (Nat.le_refl _) _
  have hB2 : Below w.heap.size w ((w.alloc (.cells #[.string N, .slice A D.length c] rzT)).alloc (.cells #[.int .i64 a.rc, .bool true, .slice Ax a.an.length kx, .slice Ay 0 ky, .slice Az 0 kz] anT)) := hB1.alloc hB1.size _
  have hB3 : Below w.heap.size w (((w.alloc (.cells #[.string N, .slice A D.length c] rzT)).alloc (.cells #[.int .i64 a.rc, .bool true, .slice Ax a.an.length kx, .slice Ay 0 ky, .slice Az 0 kz] anT)).alloc (.cells #[.int .i64 0, .bool false, .slice none 0 0, .slice none 0 0, .slice none 0 0] anT)) := hB2.alloc hB2.size _
  have hwz := ((Whole.new w rzT #[.string N, .slice A D.length c]).alloc (.cells #[.int .i64 a.rc, .bool true, .slice Ax a.an.length kx, .slice Ay 0 ky, .slice Az 0 kz] anT)).alloc (.cells #[.int .i64 0, .bool false, .slice none 0 0, .slice none 0 0, .slice none 0 0] anT)
  have hwa := (Whole.new (w.alloc (.cells #[.string N, .slice A D.length c] rzT)) anT #[.int .i64 a.rc, .bool true, .slice Ax a.an.length kx, .slice Ay 0 ky, .slice Az 0 kz]).alloc (.cells #[.int .i64 0, .bool false, .slice none 0 0, .slice none 0 0, .slice none 0 0] anT)
  have hwr := Whole.new ((w.alloc (.cells #[.string N, .slice A D.length c] rzT)).alloc (.cells #[.int .i64 a.rc, .bool true, .slice Ax a.an.length kx, .slice Ay 0 ky, .slice Az 0 kz] anT)) anT #[.int .i64 0, .bool false, .slice none 0 0, .slice none 0 0, .slice none 0 0]
  rw [World.size_alloc] at hwa
  rw [World.size_alloc, World.size_alloc] at hwr
  obtain ⟨w3, hW3⟩ : ∃ W, W = (((w.alloc (.cells #[.string N, .slice A D.length c] rzT)).alloc (.cells #[.int .i64 a.rc, .bool true, .slice Ax a.an.length kx, .slice Ay 0 ky, .slice Az 0 kz] anT)).alloc (.cells #[.int .i64 0, .bool false, .slice none 0 0, .slice none 0 0, .slice none 0 0] anT)) := ⟨_, rfl⟩
  rw [← hW3] at hB3 hwz hwa hwr
  obtain ⟨bz, hbz⟩ : ∃ b, b = w.heap.size := ⟨_, rfl⟩
  obtain ⟨ba, hba⟩ : ∃ b, b = w.heap.size + 1 := ⟨_, rfl⟩
  obtain ⟨br, hbr⟩ : ∃ b, b = w.heap.size + 1 + 1 := ⟨_, rfl⟩
  have hza : bz ≠ ba := by omega
  have hra : br ≠ ba := by omega
  have har : ba ≠ br := by omega
  have hzr : bz ≠ br := by omega
  have HBA := Lib.hid (show w.heap.size ≤ ba by omega)
  have HBR := Lib.hid (show w.heap.size ≤ br by omega)
  rw [← hbz] at hwz
  rw [← hba] at hwa
  rw [← hbr] at hwr
  have HB3 := Lib.hid hB3
  have HWZ3 := Lib.hid hwz
  have HWA3 := Lib.hid hwa
  have HWR3 := Lib.hid hwr
  have HX3 := Lib.hid ((hx.keep hB3).more hB3.size)
  have HQ3 := Lib.hid ((hq.below hB3).more hB3.size)
  have HZ3 := Lib.hid (HZV.out.later hB3)
  have HW3 := Lib.hid hW3
  have HEZ := Lib.hid hbz
  have HEA := Lib.hid hba
  have HER := Lib.hid hbr
  clear hs hcap hP hns had hx hq hf han hN gz hB1 hB2 hB3 hwz hwa hwr hW3 hbz hba hbr
  clear ih
  have c0 : w3.cell? ⟨bz, 0, none⟩ = some (.string N) := (HWZ3.out.cell 0).trans rfl
  have c1 : w3.cell? ⟨bz, 1, none⟩ = some (.slice A D.length c) := (HWZ3.out.cell 1).trans rfl
  obtain ⟨b0, b1, b2, b3, b4⟩ := an_cells HWA3.out
  obtain ⟨f0, f1, f2, f3, f4⟩ := an_soft HWA3.out
  obtain ⟨r0, r1, r2, r3, r4⟩ := an_cells HWR3.out
  obtain ⟨s0, s1, s2, s3, s4⟩ := an_soft HWR3.out
  rw [HW3.out, HEZ.out] at c0 c1
  go_enter Tryz.func45, Tryz.ntmps45
  go_wp2_with fail
  rw [← HW3.out, ← HER.out, ← HEA.out, ← HEZ.out]
  clear c0 c1 b0 b1 b2 b3 b4 f0 f1 f2 f3 f4 r0 r1 r2 r3 r4 s0 s1 s2 s3 s4
  refine (RZCut_any N nn D GZ.out HN.out _ P n _ _ HP.out HZ3.out (Nat.le_refl _)).mono ?_
  unfold optE
  cases hc : cutZ D nn n with
  | some cut =>
    obtain ⟨C, hC⟩ : ∃ C, C = mk ((some cut : Option (List UInt8)).getD []) := ⟨_, rfl⟩
    rw [← hC]
    have HCC := Lib.hid (show C = mk cut from hC)
    have HST := Lib.hid (show askF D nn t (f + 1) a asked n = referZ D cut ⟨a.rc, true, a.an, a.ns, a.ad⟩ from askF_stop (step_cut t a asked hc))
    clear hC hc
    rintro e w4 ⟨rfl, hB⟩
    have HWZ4 := Lib.hid (HWZ3.out.below hB HWZ3.out.lt)
    have HWA4 := Lib.hid (HWA3.out.below hB HWA3.out.lt)
    have HWR4 := Lib.hid (HWR3.out.below hB HWR3.out.lt)
    have HX4 := Lib.hid ((HX3.out.keep hB).more hB.size)
    have HQ4 := Lib.hid ((HQ3.out.below hB).more hB.size)
    have HB4 := Lib.hid (HB3.out.trans (hB.mono HB3.out.size))
    have HZ4 := Lib.hid (HZ3.out.later hB)
    clear hB
    have c0 : w4.cell? ⟨bz, 0, none⟩ = some (.string N) := (HWZ4.out.cell 0).trans rfl
    have c1 : w4.cell? ⟨bz, 1, none⟩ = some (.slice A D.length c) := (HWZ4.out.cell 1).trans rfl
    obtain ⟨b0, b1, b2, b3, b4⟩ := an_cells HWA4.out
    obtain ⟨f0, f1, f2, f3, f4⟩ := an_soft HWA4.out
    obtain ⟨r0, r1, r2, r3, r4⟩ := an_cells HWR4.out
    obtain ⟨s0, s1, s2, s3, s4⟩ := an_soft HWR4.out
    go_wp2_with fail
    clear c0 c1 b0 b1 b2 b3 b4 f0 f1 f2 f3 f4 r0 r1 r2 r3 r4 s0 s1 s2 s3 s4
    refine (RZrefer_any N nn D GZ.out _ _ HZ4.out ⟨a.rc, true, a.an, a.ns, a.ad⟩ Ax Ay Az kx ky kz HX4.out HAD.out 0 0 rfl C cut HCC.out).mono ?_
    obtain ⟨R, hR⟩ : ∃ R, R = referZ D cut ⟨a.rc, true, a.an, a.ns, a.ad⟩ := ⟨_, rfl⟩
    rw [← hR] at HST ⊢
    clear hR
    rintro e w5 ⟨⟨vx, vy, vz, rfl, ⟨B1, j1, rfl, s1'⟩, ⟨B2, j2, rfl, s2'⟩, ⟨B3, j3, rfl, s3'⟩⟩, hB⟩
    have HS1 := Lib.hid s1'
    have HS2 := Lib.hid s2'
    have HS3 := Lib.hid s3'
    clear s1' s2' s3'
    have HWZ5 := Lib.hid (HWZ4.out.below hB HWZ4.out.lt)
    have HWA5 := Lib.hid (HWA4.out.below hB HWA4.out.lt)
    have HWR5 := Lib.hid (HWR4.out.below hB HWR4.out.lt)
    have HX5 := Lib.hid ((HX4.out.keep hB).more hB.size)
    have HQ5 := Lib.hid ((HQ4.out.below hB).more hB.size)
    have HB5 := Lib.hid (HB4.out.trans (hB.mono HB4.out.size))
    have HZ5 := Lib.hid (HZ4.out.later hB)
    clear hB
    have c0 : w5.cell? ⟨bz, 0, none⟩ = some (.string N) := (HWZ5.out.cell 0).trans rfl
    have c1 : w5.cell? ⟨bz, 1, none⟩ = some (.slice A D.length c) := (HWZ5.out.cell 1).trans rfl
    obtain ⟨b0, b1, b2, b3, b4⟩ := an_cells HWA5.out
    obtain ⟨f0, f1, f2, f3, f4⟩ := an_soft HWA5.out
    obtain ⟨r0, r1, r2, r3, r4⟩ := an_cells HWR5.out
    obtain ⟨s0, s1, s2, s3, s4⟩ := an_soft HWR5.out
    go_wp2_with fail
    clear c0 c1 b0 b1 b2 b3 b4 f0 f1 f2 f3 f4 r0 r1 r2 r3 r4 s0 s1 s2 s3 s4
    refine retA5 rfl rfl rfl (five_put HWR5.out _ _ _ _ _) ⟨?_, five_below HB5.out HBR.out _ _ _ _ _⟩
    rw [HST.out]
    exact ans_fin HWR5.out ⟨B1, j1, rfl, HS1.out⟩ ⟨B2, j2, rfl, HS2.out⟩ ⟨B3, j3, rfl, HS3.out⟩
  | none =>
    rintro e w4 ⟨rfl, hB⟩
    have HWZ4 := Lib.hid (HWZ3.out.below hB HWZ3.out.lt)
    have HWA4 := Lib.hid (HWA3.out.below hB HWA3.out.lt)
    have HWR4 := Lib.hid (HWR3.out.below hB HWR3.out.lt)
    have HX4 := Lib.hid ((HX3.out.keep hB).more hB.size)
    have HQ4 := Lib.hid ((HQ3.out.below hB).more hB.size)
    have HB4 := Lib.hid (HB3.out.trans (hB.mono HB3.out.size))
    have HZ4 := Lib.hid (HZ3.out.later hB)
    clear hB
    have c0 : w4.cell? ⟨bz, 0, none⟩ = some (.string N) := (HWZ4.out.cell 0).trans rfl
    have c1 : w4.cell? ⟨bz, 1, none⟩ = some (.slice A D.length c) := (HWZ4.out.cell 1).trans rfl
    obtain ⟨b0, b1, b2, b3, b4⟩ := an_cells HWA4.out
    obtain ⟨f0, f1, f2, f3, f4⟩ := an_soft HWA4.out
    obtain ⟨r0, r1, r2, r3, r4⟩ := an_cells HWR4.out
    obtain ⟨s0, s1, s2, s3, s4⟩ := an_soft HWR4.out
    go_wp2_with fail
    clear c0 c1 b0 b1 b2 b3 b4 f0 f1 f2 f3 f4 r0 r1 r2 r3 r4 s0 s1 s2 s3 s4
    refine (RZFind_any N nn D GZ.out HN.out _ _ HZ4.out P n HP.out).mono ?_
    have hfl := fnd_len D nn n
    obtain ⟨l, hL⟩ : ∃ l, l = (fndZ D nn n).1 := ⟨_, rfl⟩
    rw [← hL] at hfl
    have HLL := Lib.hid (show l.length ≤ 1000 by have := GZ.out.len; omega)
    have HL := Lib.hid hL
    have HC := Lib.hid hc
    clear hc hfl
    cases hf : (fndZ D nn n).2 with
    | false =>
      have HST := Lib.hid (show askF D nn t (f + 1) a asked n = ⟨3, true, a.an, [noZ D], a.ad⟩ from askF_stop (step_no t a asked HC.out hf))
      rw [← hL]
      clear hL hf
      rintro e w5 ⟨⟨Af, kf, rfl, hsf⟩, hB⟩
      clear hsf
      have HWZ5 := Lib.hid (HWZ4.out.below hB HWZ4.out.lt)
      have HWA5 := Lib.hid (HWA4.out.below hB HWA4.out.lt)
      have HWR5 := Lib.hid (HWR4.out.below hB HWR4.out.lt)
      have HX5 := Lib.hid ((HX4.out.keep hB).more hB.size)
      have HQ5 := Lib.hid ((HQ4.out.below hB).more hB.size)
      have HB5 := Lib.hid (HB4.out.trans (hB.mono HB4.out.size))
      have HZ5 := Lib.hid (HZ4.out.later hB)
      clear hB
      have c0 : w5.cell? ⟨bz, 0, none⟩ = some (.string N) := (HWZ5.out.cell 0).trans rfl
      have c1 : w5.cell? ⟨bz, 1, none⟩ = some (.slice A D.length c) := (HWZ5.out.cell 1).trans rfl
      obtain ⟨b0, b1, b2, b3, b4⟩ := an_cells HWA5.out
      obtain ⟨f0, f1, f2, f3, f4⟩ := an_soft HWA5.out
      obtain ⟨r0, r1, r2, r3, r4⟩ := an_cells HWR5.out
      obtain ⟨s0, s1, s2, s3, s4⟩ := an_soft HWR5.out
      go_wp2_with fail
      have hwa : Whole (w5.setCell ⟨ba, 0, none⟩ (.int .i64 3)) ba anT #[.int .i64 3, .bool true, .slice Ax a.an.length kx, .slice Ay 0 ky, .slice Az 0 kz] := by have h := HWA5.out.put 0 (.int .i64 3); simpa using h
      have hwz := HWZ5.out.far (p := ⟨ba, 0, none⟩) hza (.int .i64 3)
      have hwr := HWR5.out.far (p := ⟨ba, 0, none⟩) hra (.int .i64 3)
      have hx := recs_far1 HX5.out HWA5.out 0 (.int .i64 3)
      have hq := texts_far1 HQ5.out HWA5.out 0 (.int .i64 3)
      have hb := HB5.out.setCell (p := ⟨ba, 0, none⟩) HBA.out (.int .i64 3)
      clear c0 c1 b0 b1 b2 b3 b4 f0 f1 f2 f3 f4 r0 r1 r2 r3 r4 s0 s1 s2 s3 s4
      generalize (w5.setCell ⟨ba, 0, none⟩ (.int .i64 3)) = w6 at hwa hwz hwr hx hq hb  ⊢
      have HWA6 := Lib.hid hwa
      have HWZ6 := Lib.hid hwz
      have HWR6 := Lib.hid hwr
      have HX6 := Lib.hid hx
      have HQ6 := Lib.hid hq
      have HB6 := Lib.hid hb
      have HZ6 := Lib.hid (HZV.out.later hb)
      clear hwa hwz hwr hx hq hb 
      refine (RZNo_any N nn D _ _ HZ6.out GZ.out).mono ?_
      obtain ⟨r, hr⟩ : ∃ r, r = noZ D := ⟨_, rfl⟩
      rw [← hr] at HST ⊢
      unfold rrAgg
      clear hr
      rintro e w7 ⟨rfl, hB⟩
      have HWZ7 := Lib.hid (HWZ6.out.below hB HWZ6.out.lt)
      have HWA7 := Lib.hid (HWA6.out.below hB HWA6.out.lt)
      have HWR7 := Lib.hid (HWR6.out.below hB HWR6.out.lt)
      have HX7 := Lib.hid ((HX6.out.keep hB).more hB.size)
      have HQ7 := Lib.hid ((HQ6.out.below hB).more hB.size)
      have HB7 := Lib.hid (HB6.out.trans (hB.mono HB6.out.size))
      have HZ7 := Lib.hid (HZ6.out.later hB)
      clear hB
      obtain ⟨w8, hW8⟩ : ∃ W, W = (w7.alloc (.cells #[.string r.s, .int .i64 r.t, .int .i64 r.c, .int .i64 r.l, .string r.d] 26)) := ⟨_, rfl⟩
      have hB : Below w7.heap.size w7 w8 := by rw [hW8]; exact (Below.refl _ _).alloc (Nat.le_refl _) _
      have HR8 := Lib.hid (show SeesR w8 w8.heap.size (some ⟨w7.heap.size, 0, none⟩) 1 [r] by
        have h := SeesR.one w7 r
        rw [hW8, World.size_alloc]; exact h)
      have HW8 := Lib.hid hW8
      have HWZ8 := Lib.hid (HWZ7.out.below hB HWZ7.out.lt)
      have HWA8 := Lib.hid (HWA7.out.below hB HWA7.out.lt)
      have HWR8 := Lib.hid (HWR7.out.below hB HWR7.out.lt)
      have HX8 := Lib.hid ((HX7.out.keep hB).more hB.size)
      have HQ8 := Lib.hid ((HQ7.out.below hB).more hB.size)
      have HB8 := Lib.hid (HB7.out.trans (hB.mono HB7.out.size))
      have HZ8 := Lib.hid (HZ7.out.later hB)
      clear hB hW8
      have c0 : w8.cell? ⟨bz, 0, none⟩ = some (.string N) := (HWZ8.out.cell 0).trans rfl
      have c1 : w8.cell? ⟨bz, 1, none⟩ = some (.slice A D.length c) := (HWZ8.out.cell 1).trans rfl
      obtain ⟨b0, b1, b2, b3, b4⟩ := an_cells HWA8.out
      obtain ⟨f0, f1, f2, f3, f4⟩ := an_soft HWA8.out
      obtain ⟨r0, r1, r2, r3, r4⟩ := an_cells HWR8.out
      obtain ⟨s0, s1, s2, s3, s4⟩ := an_soft HWR8.out
      rw [HW8.out] at c0 c1 b0 b1 b2 b3 b4 f0 f1 f2 f3 f4 r0 r1 r2 r3 r4 s0 s1 s2 s3 s4
      go_wp2_with fail
      rw [← HW8.out]
      clear c0 c1 b0 b1 b2 b3 b4 f0 f1 f2 f3 f4 r0 r1 r2 r3 r4 s0 s1 s2 s3 s4
      have hwr := HWR8.out.far (p := ⟨ba, 3, none⟩) hra (.slice (some ⟨w7.heap.size, 0, none⟩) 1 1)
      have hx := recs_far1 HX8.out HWA8.out 3 (.slice (some ⟨w7.heap.size, 0, none⟩) 1 1)
      have hy := recs_far1 HR8.out HWA8.out 3 (.slice (some ⟨w7.heap.size, 0, none⟩) 1 1)
      have hb := HB8.out.setCell (p := ⟨ba, 3, none⟩) HBA.out (.slice (some ⟨w7.heap.size, 0, none⟩) 1 1)
      refine retA5 rfl rfl rfl (five_put hwr _ _ _ _ _) ⟨?_, five_below hb HBR.out _ _ _ _ _⟩
      rw [HST.out]
      exact ans_fin (a := ⟨3, true, a.an, [r], a.ad⟩) hwr ⟨_, _, rfl, hx⟩ ⟨some ⟨w7.heap.size, 0, none⟩, 1, rfl, hy⟩ (by show RecsAt _ _ a.ad; rw [HAD.out]; exact ⟨Az, kz, rfl, rfl, fun h => absurd h (by simp)⟩)
    | true =>
      have HFF := Lib.hid hf
      rw [← hL]
      clear hL hf
      rintro e w5 ⟨⟨Af, kf, rfl, hsf⟩, hB⟩
      have HS5 := Lib.hid hsf
      clear hsf
      have HWZ5 := Lib.hid (HWZ4.out.below hB HWZ4.out.lt)
      have HWA5 := Lib.hid (HWA4.out.below hB HWA4.out.lt)
      have HWR5 := Lib.hid (HWR4.out.below hB HWR4.out.lt)
      have HX5 := Lib.hid ((HX4.out.keep hB).more hB.size)
      have HQ5 := Lib.hid ((HQ4.out.below hB).more hB.size)
      have HB5 := Lib.hid (HB4.out.trans (hB.mono HB4.out.size))
      have HZ5 := Lib.hid (HZ4.out.later hB)
      clear hB
      by_cases ht : t = 255
      · have gt : (t == 255) = true := by rw [beq_iff_eq]; exact ht
        obtain ⟨al, hal⟩ : ∃ al, al = a.an ++ l := ⟨_, rfl⟩
        have HAL := Lib.hid hal
        have HST := Lib.hid (show askF D nn t (f + 1) a asked n = ⟨a.rc, true, al, a.ns, a.ad⟩ by rw [hal, HL.out]; exact askF_stop (step_any a asked HC.out HFF.out ht))
        clear ht hal
        have c0 : w5.cell? ⟨bz, 0, none⟩ = some (.string N) := (HWZ5.out.cell 0).trans rfl
        have c1 : w5.cell? ⟨bz, 1, none⟩ = some (.slice A D.length c) := (HWZ5.out.cell 1).trans rfl
        obtain ⟨b0, b1, b2, b3, b4⟩ := an_cells HWA5.out
        obtain ⟨f0, f1, f2, f3, f4⟩ := an_soft HWA5.out
        obtain ⟨r0, r1, r2, r3, r4⟩ := an_cells HWR5.out
        obtain ⟨s0, s1, s2, s3, s4⟩ := an_soft HWR5.out
        go_wp2_with fail
        clear c0 c1 b0 b1 b2 b3 b4 f0 f1 f2 f3 f4 r0 r1 r2 r3 r4 s0 s1 s2 s3 s4
        refine (RZwith_any Ax Af kx kf a.an l _ HX5.out HS5.out (by have := HLL.out; omega)).mono ?_
        rw [← HAL.out]
        rintro e w6 ⟨u, rfl, ho, hB⟩
        obtain ⟨Av, kv, rfl, hsv⟩ := SeesR.own ho
        have HV6 := Lib.hid hsv
        clear ho hsv
        have HWZ6 := Lib.hid (HWZ5.out.below hB HWZ5.out.lt)
        have HWA6 := Lib.hid (HWA5.out.below hB HWA5.out.lt)
        have HWR6 := Lib.hid (HWR5.out.below hB HWR5.out.lt)
        have HX6 := Lib.hid ((HX5.out.keep hB).more hB.size)
        have HQ6 := Lib.hid ((HQ5.out.below hB).more hB.size)
        have HB6 := Lib.hid (HB5.out.trans (hB.mono HB5.out.size))
        have HZ6 := Lib.hid (HZ5.out.later hB)
        clear hB
        have c0 : w6.cell? ⟨bz, 0, none⟩ = some (.string N) := (HWZ6.out.cell 0).trans rfl
        have c1 : w6.cell? ⟨bz, 1, none⟩ = some (.slice A D.length c) := (HWZ6.out.cell 1).trans rfl
        obtain ⟨b0, b1, b2, b3, b4⟩ := an_cells HWA6.out
        obtain ⟨f0, f1, f2, f3, f4⟩ := an_soft HWA6.out
        obtain ⟨r0, r1, r2, r3, r4⟩ := an_cells HWR6.out
        obtain ⟨s0, s1, s2, s3, s4⟩ := an_soft HWR6.out
        go_wp2_with fail
        clear c0 c1 b0 b1 b2 b3 b4 f0 f1 f2 f3 f4 r0 r1 r2 r3 r4 s0 s1 s2 s3 s4
        have hwr := HWR6.out.far (p := ⟨ba, 2, none⟩) hra (.slice Av al.length kv)
        have hx := recs_far1 HV6.out HWA6.out 2 (.slice Av al.length kv)
        have hb := HB6.out.setCell (p := ⟨ba, 2, none⟩) HBA.out (.slice Av al.length kv)
        refine retA5 rfl rfl rfl (five_put hwr _ _ _ _ _) ⟨?_, five_below hb HBR.out _ _ _ _ _⟩
        rw [HST.out]
        exact ans_fin (a := ⟨a.rc, true, al, a.ns, a.ad⟩) hwr ⟨Av, kv, rfl, hx⟩ (by show RecsAt _ _ a.ns; rw [HNS.out]; exact ⟨Ay, ky, rfl, rfl, fun h => absurd h (by simp)⟩) (by show RecsAt _ _ a.ad; rw [HAD.out]; exact ⟨Az, kz, rfl, rfl, fun h => absurd h (by simp)⟩)
      · have gt : (t == 255) = false := by rw [beq_eq_false_iff_ne]; exact ht
        have HTT := Lib.hid ht
        obtain ⟨l5, hl5⟩ : ∃ l5, l5 = typX 5 l := ⟨_, rfl⟩
        obtain ⟨n5, hn5⟩ : ∃ n5, n5 = l5.length := ⟨_, rfl⟩
        have HL5 := Lib.hid hl5
        have HN5 := Lib.hid hn5
        have hn51000 : n5 ≤ 1000 := by rw [hn5, hl5]; have := typX_len 5 l; have := HLL.out; omega
        clear ht hl5 hn5
        have c0 : w5.cell? ⟨bz, 0, none⟩ = some (.string N) := (HWZ5.out.cell 0).trans rfl
        have c1 : w5.cell? ⟨bz, 1, none⟩ = some (.slice A D.length c) := (HWZ5.out.cell 1).trans rfl
        obtain ⟨b0, b1, b2, b3, b4⟩ := an_cells HWA5.out
        obtain ⟨f0, f1, f2, f3, f4⟩ := an_soft HWA5.out
        obtain ⟨r0, r1, r2, r3, r4⟩ := an_cells HWR5.out
        obtain ⟨s0, s1, s2, s3, s4⟩ := an_soft HWR5.out
        go_wp2_with fail
        clear c0 c1 b0 b1 b2 b3 b4 f0 f1 f2 f3 f4 r0 r1 r2 r3 r4 s0 s1 s2 s3 s4
        refine (RefTyped_any Af l.length kf l 5 _ HS5.out (by have := HLL.out; omega)).mono ?_
        rw [show (l.filter fun x => decide (x.t = 5)) = l5 from HL5.out.symm, ← HN5.out]
        rintro e w6 ⟨u, rfl, ho, hB⟩
        have HO5 := Lib.hid ho
        have HS6 := Lib.hid ((HS5.out.keep hB).more hB.size)
        have HWZ6 := Lib.hid (HWZ5.out.below hB HWZ5.out.lt)
        have HWA6 := Lib.hid (HWA5.out.below hB HWA5.out.lt)
        have HWR6 := Lib.hid (HWR5.out.below hB HWR5.out.lt)
        have HX6 := Lib.hid ((HX5.out.keep hB).more hB.size)
        have HQ6 := Lib.hid ((HQ5.out.below hB).more hB.size)
        have HB6 := Lib.hid (HB5.out.trans (hB.mono HB5.out.size))
        have HZ6 := Lib.hid (HZ5.out.later hB)
        clear hB
        by_cases h5 : t = 5
        · have g5a : (t == 5) = true := by rw [beq_iff_eq]; exact h5
          have g5b : (t != 5) = false := by simp [h5]
          have HST := Lib.hid (show askF D nn t (f + 1) a asked n = ⟨a.rc, true, a.an ++ typX t l, if (typX t l).length = 0 then [noZ D] else a.ns, a.ad⟩ by rw [HL.out]; exact askF_stop (step_typed a asked HC.out HFF.out HTT.out (fun h => h.1 h5)))
          obtain ⟨A5, k5, rfl, _⟩ := SeesR.own ho
          clear h5 ho
          obtain ⟨lt, hlt⟩ : ∃ lt, lt = typX t l := ⟨_, rfl⟩
          have HLT := Lib.hid hlt
          obtain ⟨al, hal⟩ : ∃ al, al = a.an ++ lt := ⟨_, rfl⟩
          have HAL := Lib.hid hal
          rw [← hlt, ← hal] at HST
          clear hal
          have HLTL := Lib.hid (show lt.length ≤ 1000 by rw [hlt]; have := typX_len t l; have := HLL.out; omega)
          clear hlt
          have c0 : w6.cell? ⟨bz, 0, none⟩ = some (.string N) := (HWZ6.out.cell 0).trans rfl
          have c1 : w6.cell? ⟨bz, 1, none⟩ = some (.slice A D.length c) := (HWZ6.out.cell 1).trans rfl
          obtain ⟨b0, b1, b2, b3, b4⟩ := an_cells HWA6.out
          obtain ⟨f0, f1, f2, f3, f4⟩ := an_soft HWA6.out
          obtain ⟨r0, r1, r2, r3, r4⟩ := an_cells HWR6.out
          obtain ⟨s0, s1, s2, s3, s4⟩ := an_soft HWR6.out
          go_wp2_with fail
          clear c0 c1 b0 b1 b2 b3 b4 f0 f1 f2 f3 f4 r0 r1 r2 r3 r4 s0 s1 s2 s3 s4
          refine (RefTyped_any Af l.length kf l t _ HS6.out (by have := HLL.out; omega)).mono ?_
          rw [show (l.filter fun x => decide (x.t = t)) = lt from HLT.out.symm]
          rintro e w7 ⟨u7, rfl, ho7, hB⟩
          obtain ⟨A7, k7, rfl, hs7⟩ := SeesR.own ho7
          have HS7 := Lib.hid hs7
          clear ho7 hs7
          have HWZ7 := Lib.hid (HWZ6.out.below hB HWZ6.out.lt)
          have HWA7 := Lib.hid (HWA6.out.below hB HWA6.out.lt)
          have HWR7 := Lib.hid (HWR6.out.below hB HWR6.out.lt)
          have HX7 := Lib.hid ((HX6.out.keep hB).more hB.size)
          have HQ7 := Lib.hid ((HQ6.out.below hB).more hB.size)
          have HB7 := Lib.hid (HB6.out.trans (hB.mono HB6.out.size))
          have HZ7 := Lib.hid (HZ6.out.later hB)
          clear hB
          have c0 : w7.cell? ⟨bz, 0, none⟩ = some (.string N) := (HWZ7.out.cell 0).trans rfl
          have c1 : w7.cell? ⟨bz, 1, none⟩ = some (.slice A D.length c) := (HWZ7.out.cell 1).trans rfl
          obtain ⟨b0, b1, b2, b3, b4⟩ := an_cells HWA7.out
          obtain ⟨f0, f1, f2, f3, f4⟩ := an_soft HWA7.out
          obtain ⟨r0, r1, r2, r3, r4⟩ := an_cells HWR7.out
          obtain ⟨s0, s1, s2, s3, s4⟩ := an_soft HWR7.out
          go_wp2_with fail
          clear c0 c1 b0 b1 b2 b3 b4 f0 f1 f2 f3 f4 r0 r1 r2 r3 r4 s0 s1 s2 s3 s4
          refine (RZwith_any Ax A7 kx k7 a.an lt _ HX7.out HS7.out (by have := HLTL.out; omega)).mono ?_
          rw [← HAL.out]
          rintro e w8 ⟨u, rfl, ho8, hB⟩
          obtain ⟨Av, kv, rfl, hsv⟩ := SeesR.own ho8
          have HV8 := Lib.hid hsv
          clear ho8 hsv
          have HWZ8 := Lib.hid (HWZ7.out.below hB HWZ7.out.lt)
          have HWA8 := Lib.hid (HWA7.out.below hB HWA7.out.lt)
          have HWR8 := Lib.hid (HWR7.out.below hB HWR7.out.lt)
          have HX8 := Lib.hid ((HX7.out.keep hB).more hB.size)
          have HQ8 := Lib.hid ((HQ7.out.below hB).more hB.size)
          have HB8 := Lib.hid (HB7.out.trans (hB.mono HB7.out.size))
          have HZ8 := Lib.hid (HZ7.out.later hB)
          clear hB
          by_cases hz0 : lt.length = 0
          · have gz1 : ((lt.length : Int) == 0) = true := by rw [beq_iff_eq]; omega
            rw [if_pos hz0] at HST
            clear hz0
            have c0 : w8.cell? ⟨bz, 0, none⟩ = some (.string N) := (HWZ8.out.cell 0).trans rfl
            have c1 : w8.cell? ⟨bz, 1, none⟩ = some (.slice A D.length c) := (HWZ8.out.cell 1).trans rfl
            obtain ⟨b0, b1, b2, b3, b4⟩ := an_cells HWA8.out
            obtain ⟨f0, f1, f2, f3, f4⟩ := an_soft HWA8.out
            obtain ⟨r0, r1, r2, r3, r4⟩ := an_cells HWR8.out
            obtain ⟨s0, s1, s2, s3, s4⟩ := an_soft HWR8.out
            go_wp2_with fail
            have hwa : Whole (w8.setCell ⟨ba, 2, none⟩ (.slice Av al.length kv)) ba anT #[.int .i64 a.rc, .bool true, .slice Av al.length kv, .slice Ay 0 ky, .slice Az 0 kz] := by have h := HWA8.out.put 2 (.slice Av al.length kv); simpa using h
            have hwz := HWZ8.out.far (p := ⟨ba, 2, none⟩) hza (.slice Av al.length kv)
            have hwr := HWR8.out.far (p := ⟨ba, 2, none⟩) hra (.slice Av al.length kv)
            have hx := recs_far1 HX8.out HWA8.out 2 (.slice Av al.length kv)
            have hq := texts_far1 HQ8.out HWA8.out 2 (.slice Av al.length kv)
            have hb := HB8.out.setCell (p := ⟨ba, 2, none⟩) HBA.out (.slice Av al.length kv)
            have hHV := recs_far1 HV8.out HWA8.out 2 (.slice Av al.length kv)
            clear c0 c1 b0 b1 b2 b3 b4 f0 f1 f2 f3 f4 r0 r1 r2 r3 r4 s0 s1 s2 s3 s4
            generalize (w8.setCell ⟨ba, 2, none⟩ (.slice Av al.length kv)) = w9 at hwa hwz hwr hx hq hb hHV ⊢
            have HWA9 := Lib.hid hwa
            have HWZ9 := Lib.hid hwz
            have HWR9 := Lib.hid hwr
            have HX9 := Lib.hid hx
            have HQ9 := Lib.hid hq
            have HB9 := Lib.hid hb
            have HZ9 := Lib.hid (HZV.out.later hb)
            have HV9 := Lib.hid hHV
            clear hwa hwz hwr hx hq hb hHV
            refine (RZNo_any N nn D _ _ HZ9.out GZ.out).mono ?_
            obtain ⟨r, hr⟩ : ∃ r, r = noZ D := ⟨_, rfl⟩
            rw [← hr] at HST ⊢
            unfold rrAgg
            clear hr
            rintro e w10 ⟨rfl, hB⟩
            have HWZ10 := Lib.hid (HWZ9.out.below hB HWZ9.out.lt)
            have HWA10 := Lib.hid (HWA9.out.below hB HWA9.out.lt)
            have HWR10 := Lib.hid (HWR9.out.below hB HWR9.out.lt)
            have HX10 := Lib.hid ((HX9.out.keep hB).more hB.size)
            have HQ10 := Lib.hid ((HQ9.out.below hB).more hB.size)
            have HB10 := Lib.hid (HB9.out.trans (hB.mono HB9.out.size))
            have HZ10 := Lib.hid (HZ9.out.later hB)
            have HV10 := Lib.hid ((HV9.out.keep hB).more hB.size)
            clear hB
            obtain ⟨w11, hW11⟩ : ∃ W, W = (w10.alloc (.cells #[.string r.s, .int .i64 r.t, .int .i64 r.c, .int .i64 r.l, .string r.d] 26)) := ⟨_, rfl⟩
            have hB : Below w10.heap.size w10 w11 := by rw [hW11]; exact (Below.refl _ _).alloc (Nat.le_refl _) _
            have HR11 := Lib.hid (show SeesR w11 w11.heap.size (some ⟨w10.heap.size, 0, none⟩) 1 [r] by
              have h := SeesR.one w10 r
              rw [hW11, World.size_alloc]; exact h)
            have HW11 := Lib.hid hW11
            have HWZ11 := Lib.hid (HWZ10.out.below hB HWZ10.out.lt)
            have HWA11 := Lib.hid (HWA10.out.below hB HWA10.out.lt)
            have HWR11 := Lib.hid (HWR10.out.below hB HWR10.out.lt)
            have HX11 := Lib.hid ((HX10.out.keep hB).more hB.size)
            have HQ11 := Lib.hid ((HQ10.out.below hB).more hB.size)
            have HB11 := Lib.hid (HB10.out.trans (hB.mono HB10.out.size))
            have HZ11 := Lib.hid (HZ10.out.later hB)
            have HV11 := Lib.hid ((HV10.out.keep hB).more hB.size)
            clear hB hW11
            have c0 : w11.cell? ⟨bz, 0, none⟩ = some (.string N) := (HWZ11.out.cell 0).trans rfl
            have c1 : w11.cell? ⟨bz, 1, none⟩ = some (.slice A D.length c) := (HWZ11.out.cell 1).trans rfl
            obtain ⟨b0, b1, b2, b3, b4⟩ := an_cells HWA11.out
            obtain ⟨f0, f1, f2, f3, f4⟩ := an_soft HWA11.out
            obtain ⟨r0, r1, r2, r3, r4⟩ := an_cells HWR11.out
            obtain ⟨s0, s1, s2, s3, s4⟩ := an_soft HWR11.out
            rw [HW11.out] at c0 c1 b0 b1 b2 b3 b4 f0 f1 f2 f3 f4 r0 r1 r2 r3 r4 s0 s1 s2 s3 s4
            go_wp2_with fail
            rw [← HW11.out]
            clear c0 c1 b0 b1 b2 b3 b4 f0 f1 f2 f3 f4 r0 r1 r2 r3 r4 s0 s1 s2 s3 s4
            have hwr := HWR11.out.far (p := ⟨ba, 3, none⟩) hra (.slice (some ⟨w10.heap.size, 0, none⟩) 1 1)
            have hx := recs_far1 HV11.out HWA11.out 3 (.slice (some ⟨w10.heap.size, 0, none⟩) 1 1)
            have hy := recs_far1 HR11.out HWA11.out 3 (.slice (some ⟨w10.heap.size, 0, none⟩) 1 1)
            have hb := HB11.out.setCell (p := ⟨ba, 3, none⟩) HBA.out (.slice (some ⟨w10.heap.size, 0, none⟩) 1 1)
            refine retA5 rfl rfl rfl (five_put hwr _ _ _ _ _) ⟨?_, five_below hb HBR.out _ _ _ _ _⟩
            rw [HST.out]
            exact ans_fin (a := ⟨a.rc, true, al, [r], a.ad⟩) hwr ⟨_, _, rfl, hx⟩ ⟨some ⟨w10.heap.size, 0, none⟩, 1, rfl, hy⟩ (by show RecsAt _ _ a.ad; rw [HAD.out]; exact ⟨Az, kz, rfl, rfl, fun h => absurd h (by simp)⟩)
          · have gz1 : ((lt.length : Int) == 0) = false := by rw [beq_eq_false_iff_ne]; omega
            rw [if_neg hz0] at HST
            clear hz0
            have c0 : w8.cell? ⟨bz, 0, none⟩ = some (.string N) := (HWZ8.out.cell 0).trans rfl
            have c1 : w8.cell? ⟨bz, 1, none⟩ = some (.slice A D.length c) := (HWZ8.out.cell 1).trans rfl
            obtain ⟨b0, b1, b2, b3, b4⟩ := an_cells HWA8.out
            obtain ⟨f0, f1, f2, f3, f4⟩ := an_soft HWA8.out
            obtain ⟨r0, r1, r2, r3, r4⟩ := an_cells HWR8.out
            obtain ⟨s0, s1, s2, s3, s4⟩ := an_soft HWR8.out
            go_wp2_with fail
            clear c0 c1 b0 b1 b2 b3 b4 f0 f1 f2 f3 f4 r0 r1 r2 r3 r4 s0 s1 s2 s3 s4
            have hwr := HWR8.out.far (p := ⟨ba, 2, none⟩) hra (.slice Av al.length kv)
            have hx := recs_far1 HV8.out HWA8.out 2 (.slice Av al.length kv)
            have hb := HB8.out.setCell (p := ⟨ba, 2, none⟩) HBA.out (.slice Av al.length kv)
            refine retA5 rfl rfl rfl (five_put hwr _ _ _ _ _) ⟨?_, five_below hb HBR.out _ _ _ _ _⟩
            rw [HST.out]
            exact ans_fin (a := ⟨a.rc, true, al, a.ns, a.ad⟩) hwr ⟨Av, kv, rfl, hx⟩ (by show RecsAt _ _ a.ns; rw [HNS.out]; exact ⟨Ay, ky, rfl, rfl, fun h => absurd h (by simp)⟩) (by show RecsAt _ _ a.ad; rw [HAD.out]; exact ⟨Az, kz, rfl, rfl, fun h => absurd h (by simp)⟩)
        · have g5a : (t == 5) = false := by rw [beq_eq_false_iff_ne]; exact h5
          have g5b : (t != 5) = true := by simp [h5]
          by_cases hn0 : n5 = 0
          · have gn0 : ¬ (0 : Int) < (n5 : Int) := by omega
            have HST := Lib.hid (show askF D nn t (f + 1) a asked n = ⟨a.rc, true, a.an ++ typX t l, if (typX t l).length = 0 then [noZ D] else a.ns, a.ad⟩ by rw [HL.out]; exact askF_stop (step_typed a asked HC.out HFF.out HTT.out (fun h => by have h2 := h.2; rw [← HL.out, ← HL5.out, ← HN5.out] at h2; omega)))
            obtain ⟨A5, k5, rfl, _⟩ := SeesR.own ho
            clear h5 hn0 ho
            obtain ⟨lt, hlt⟩ : ∃ lt, lt = typX t l := ⟨_, rfl⟩
            have HLT := Lib.hid hlt
            obtain ⟨al, hal⟩ : ∃ al, al = a.an ++ lt := ⟨_, rfl⟩
            have HAL := Lib.hid hal
            rw [← hlt, ← hal] at HST
            clear hal
            have HLTL := Lib.hid (show lt.length ≤ 1000 by rw [hlt]; have := typX_len t l; have := HLL.out; omega)
            clear hlt
            have c0 : w6.cell? ⟨bz, 0, none⟩ = some (.string N) := (HWZ6.out.cell 0).trans rfl
            have c1 : w6.cell? ⟨bz, 1, none⟩ = some (.slice A D.length c) := (HWZ6.out.cell 1).trans rfl
            obtain ⟨b0, b1, b2, b3, b4⟩ := an_cells HWA6.out
            obtain ⟨f0, f1, f2, f3, f4⟩ := an_soft HWA6.out
            obtain ⟨r0, r1, r2, r3, r4⟩ := an_cells HWR6.out
            obtain ⟨s0, s1, s2, s3, s4⟩ := an_soft HWR6.out
            go_wp2_with fail
            clear c0 c1 b0 b1 b2 b3 b4 f0 f1 f2 f3 f4 r0 r1 r2 r3 r4 s0 s1 s2 s3 s4
            refine (RefTyped_any Af l.length kf l t _ HS6.out (by have := HLL.out; omega)).mono ?_
            rw [show (l.filter fun x => decide (x.t = t)) = lt from HLT.out.symm]
            rintro e w7 ⟨u7, rfl, ho7, hB⟩
            obtain ⟨A7, k7, rfl, hs7⟩ := SeesR.own ho7
            have HS7 := Lib.hid hs7
            clear ho7 hs7
            have HWZ7 := Lib.hid (HWZ6.out.below hB HWZ6.out.lt)
            have HWA7 := Lib.hid (HWA6.out.below hB HWA6.out.lt)
            have HWR7 := Lib.hid (HWR6.out.below hB HWR6.out.lt)
            have HX7 := Lib.hid ((HX6.out.keep hB).more hB.size)
            have HQ7 := Lib.hid ((HQ6.out.below hB).more hB.size)
            have HB7 := Lib.hid (HB6.out.trans (hB.mono HB6.out.size))
            have HZ7 := Lib.hid (HZ6.out.later hB)
            clear hB
            have c0 : w7.cell? ⟨bz, 0, none⟩ = some (.string N) := (HWZ7.out.cell 0).trans rfl
            have c1 : w7.cell? ⟨bz, 1, none⟩ = some (.slice A D.length c) := (HWZ7.out.cell 1).trans rfl
            obtain ⟨b0, b1, b2, b3, b4⟩ := an_cells HWA7.out
            obtain ⟨f0, f1, f2, f3, f4⟩ := an_soft HWA7.out
            obtain ⟨r0, r1, r2, r3, r4⟩ := an_cells HWR7.out
            obtain ⟨s0, s1, s2, s3, s4⟩ := an_soft HWR7.out
            go_wp2_with fail
            clear c0 c1 b0 b1 b2 b3 b4 f0 f1 f2 f3 f4 r0 r1 r2 r3 r4 s0 s1 s2 s3 s4
            refine (RZwith_any Ax A7 kx k7 a.an lt _ HX7.out HS7.out (by have := HLTL.out; omega)).mono ?_
            rw [← HAL.out]
            rintro e w8 ⟨u, rfl, ho8, hB⟩
            obtain ⟨Av, kv, rfl, hsv⟩ := SeesR.own ho8
            have HV8 := Lib.hid hsv
            clear ho8 hsv
            have HWZ8 := Lib.hid (HWZ7.out.below hB HWZ7.out.lt)
            have HWA8 := Lib.hid (HWA7.out.below hB HWA7.out.lt)
            have HWR8 := Lib.hid (HWR7.out.below hB HWR7.out.lt)
            have HX8 := Lib.hid ((HX7.out.keep hB).more hB.size)
            have HQ8 := Lib.hid ((HQ7.out.below hB).more hB.size)
            have HB8 := Lib.hid (HB7.out.trans (hB.mono HB7.out.size))
            have HZ8 := Lib.hid (HZ7.out.later hB)
            clear hB
            by_cases hz0 : lt.length = 0
            · have gz1 : ((lt.length : Int) == 0) = true := by rw [beq_iff_eq]; omega
              rw [if_pos hz0] at HST
              clear hz0
              have c0 : w8.cell? ⟨bz, 0, none⟩ = some (.string N) := (HWZ8.out.cell 0).trans rfl
              have c1 : w8.cell? ⟨bz, 1, none⟩ = some (.slice A D.length c) := (HWZ8.out.cell 1).trans rfl
              obtain ⟨b0, b1, b2, b3, b4⟩ := an_cells HWA8.out
              obtain ⟨f0, f1, f2, f3, f4⟩ := an_soft HWA8.out
              obtain ⟨r0, r1, r2, r3, r4⟩ := an_cells HWR8.out
              obtain ⟨s0, s1, s2, s3, s4⟩ := an_soft HWR8.out
              go_wp2_with fail
              have hwa : Whole (w8.setCell ⟨ba, 2, none⟩ (.slice Av al.length kv)) ba anT #[.int .i64 a.rc, .bool true, .slice Av al.length kv, .slice Ay 0 ky, .slice Az 0 kz] := by have h := HWA8.out.put 2 (.slice Av al.length kv); simpa using h
              have hwz := HWZ8.out.far (p := ⟨ba, 2, none⟩) hza (.slice Av al.length kv)
              have hwr := HWR8.out.far (p := ⟨ba, 2, none⟩) hra (.slice Av al.length kv)
              have hx := recs_far1 HX8.out HWA8.out 2 (.slice Av al.length kv)
              have hq := texts_far1 HQ8.out HWA8.out 2 (.slice Av al.length kv)
              have hb := HB8.out.setCell (p := ⟨ba, 2, none⟩) HBA.out (.slice Av al.length kv)
              have hHV := recs_far1 HV8.out HWA8.out 2 (.slice Av al.length kv)
              clear c0 c1 b0 b1 b2 b3 b4 f0 f1 f2 f3 f4 r0 r1 r2 r3 r4 s0 s1 s2 s3 s4
              generalize (w8.setCell ⟨ba, 2, none⟩ (.slice Av al.length kv)) = w9 at hwa hwz hwr hx hq hb hHV ⊢
              have HWA9 := Lib.hid hwa
              have HWZ9 := Lib.hid hwz
              have HWR9 := Lib.hid hwr
              have HX9 := Lib.hid hx
              have HQ9 := Lib.hid hq
              have HB9 := Lib.hid hb
              have HZ9 := Lib.hid (HZV.out.later hb)
              have HV9 := Lib.hid hHV
              clear hwa hwz hwr hx hq hb hHV
              refine (RZNo_any N nn D _ _ HZ9.out GZ.out).mono ?_
              obtain ⟨r, hr⟩ : ∃ r, r = noZ D := ⟨_, rfl⟩
              rw [← hr] at HST ⊢
              unfold rrAgg
              clear hr
              rintro e w10 ⟨rfl, hB⟩
              have HWZ10 := Lib.hid (HWZ9.out.below hB HWZ9.out.lt)
              have HWA10 := Lib.hid (HWA9.out.below hB HWA9.out.lt)
              have HWR10 := Lib.hid (HWR9.out.below hB HWR9.out.lt)
              have HX10 := Lib.hid ((HX9.out.keep hB).more hB.size)
              have HQ10 := Lib.hid ((HQ9.out.below hB).more hB.size)
              have HB10 := Lib.hid (HB9.out.trans (hB.mono HB9.out.size))
              have HZ10 := Lib.hid (HZ9.out.later hB)
              have HV10 := Lib.hid ((HV9.out.keep hB).more hB.size)
              clear hB
              obtain ⟨w11, hW11⟩ : ∃ W, W = (w10.alloc (.cells #[.string r.s, .int .i64 r.t, .int .i64 r.c, .int .i64 r.l, .string r.d] 26)) := ⟨_, rfl⟩
              have hB : Below w10.heap.size w10 w11 := by rw [hW11]; exact (Below.refl _ _).alloc (Nat.le_refl _) _
              have HR11 := Lib.hid (show SeesR w11 w11.heap.size (some ⟨w10.heap.size, 0, none⟩) 1 [r] by
                have h := SeesR.one w10 r
                rw [hW11, World.size_alloc]; exact h)
              have HW11 := Lib.hid hW11
              have HWZ11 := Lib.hid (HWZ10.out.below hB HWZ10.out.lt)
              have HWA11 := Lib.hid (HWA10.out.below hB HWA10.out.lt)
              have HWR11 := Lib.hid (HWR10.out.below hB HWR10.out.lt)
              have HX11 := Lib.hid ((HX10.out.keep hB).more hB.size)
              have HQ11 := Lib.hid ((HQ10.out.below hB).more hB.size)
              have HB11 := Lib.hid (HB10.out.trans (hB.mono HB10.out.size))
              have HZ11 := Lib.hid (HZ10.out.later hB)
              have HV11 := Lib.hid ((HV10.out.keep hB).more hB.size)
              clear hB hW11
              have c0 : w11.cell? ⟨bz, 0, none⟩ = some (.string N) := (HWZ11.out.cell 0).trans rfl
              have c1 : w11.cell? ⟨bz, 1, none⟩ = some (.slice A D.length c) := (HWZ11.out.cell 1).trans rfl
              obtain ⟨b0, b1, b2, b3, b4⟩ := an_cells HWA11.out
              obtain ⟨f0, f1, f2, f3, f4⟩ := an_soft HWA11.out
              obtain ⟨r0, r1, r2, r3, r4⟩ := an_cells HWR11.out
              obtain ⟨s0, s1, s2, s3, s4⟩ := an_soft HWR11.out
              rw [HW11.out] at c0 c1 b0 b1 b2 b3 b4 f0 f1 f2 f3 f4 r0 r1 r2 r3 r4 s0 s1 s2 s3 s4
              go_wp2_with fail
              rw [← HW11.out]
              clear c0 c1 b0 b1 b2 b3 b4 f0 f1 f2 f3 f4 r0 r1 r2 r3 r4 s0 s1 s2 s3 s4
              have hwr := HWR11.out.far (p := ⟨ba, 3, none⟩) hra (.slice (some ⟨w10.heap.size, 0, none⟩) 1 1)
              have hx := recs_far1 HV11.out HWA11.out 3 (.slice (some ⟨w10.heap.size, 0, none⟩) 1 1)
              have hy := recs_far1 HR11.out HWA11.out 3 (.slice (some ⟨w10.heap.size, 0, none⟩) 1 1)
              have hb := HB11.out.setCell (p := ⟨ba, 3, none⟩) HBA.out (.slice (some ⟨w10.heap.size, 0, none⟩) 1 1)
              refine retA5 rfl rfl rfl (five_put hwr _ _ _ _ _) ⟨?_, five_below hb HBR.out _ _ _ _ _⟩
              rw [HST.out]
              exact ans_fin (a := ⟨a.rc, true, al, [r], a.ad⟩) hwr ⟨_, _, rfl, hx⟩ ⟨some ⟨w10.heap.size, 0, none⟩, 1, rfl, hy⟩ (by show RecsAt _ _ a.ad; rw [HAD.out]; exact ⟨Az, kz, rfl, rfl, fun h => absurd h (by simp)⟩)
            · have gz1 : ((lt.length : Int) == 0) = false := by rw [beq_eq_false_iff_ne]; omega
              rw [if_neg hz0] at HST
              clear hz0
              have c0 : w8.cell? ⟨bz, 0, none⟩ = some (.string N) := (HWZ8.out.cell 0).trans rfl
              have c1 : w8.cell? ⟨bz, 1, none⟩ = some (.slice A D.length c) := (HWZ8.out.cell 1).trans rfl
              obtain ⟨b0, b1, b2, b3, b4⟩ := an_cells HWA8.out
              obtain ⟨f0, f1, f2, f3, f4⟩ := an_soft HWA8.out
              obtain ⟨r0, r1, r2, r3, r4⟩ := an_cells HWR8.out
              obtain ⟨s0, s1, s2, s3, s4⟩ := an_soft HWR8.out
              go_wp2_with fail
              clear c0 c1 b0 b1 b2 b3 b4 f0 f1 f2 f3 f4 r0 r1 r2 r3 r4 s0 s1 s2 s3 s4
              have hwr := HWR8.out.far (p := ⟨ba, 2, none⟩) hra (.slice Av al.length kv)
              have hx := recs_far1 HV8.out HWA8.out 2 (.slice Av al.length kv)
              have hb := HB8.out.setCell (p := ⟨ba, 2, none⟩) HBA.out (.slice Av al.length kv)
              refine retA5 rfl rfl rfl (five_put hwr _ _ _ _ _) ⟨?_, five_below hb HBR.out _ _ _ _ _⟩
              rw [HST.out]
              exact ans_fin (a := ⟨a.rc, true, al, a.ns, a.ad⟩) hwr ⟨Av, kv, rfl, hx⟩ (by show RecsAt _ _ a.ns; rw [HNS.out]; exact ⟨Ay, ky, rfl, rfl, fun h => absurd h (by simp)⟩) (by show RecsAt _ _ a.ad; rw [HAD.out]; exact ⟨Az, kz, rfl, rfl, fun h => absurd h (by simp)⟩)
          · have gn0 : (0 : Int) < (n5 : Int) := by omega
            have hn5q : 0 < n5 := by omega
            obtain ⟨A5, k5, rfl, hs5⟩ := SeesR.own ho
            have HSTEP := Lib.hid (step_alias a asked HC.out HFF.out HTT.out h5 (by rw [← HL.out, ← HL5.out, ← HN5.out]; exact hn5q))
            rw [← HL.out, ← HL5.out] at HSTEP
            have HS56 := Lib.hid hs5
            clear h5 hn0 ho hs5
            have c0 : w6.cell? ⟨bz, 0, none⟩ = some (.string N) := (HWZ6.out.cell 0).trans rfl
            have c1 : w6.cell? ⟨bz, 1, none⟩ = some (.slice A D.length c) := (HWZ6.out.cell 1).trans rfl
            obtain ⟨b0, b1, b2, b3, b4⟩ := an_cells HWA6.out
            obtain ⟨f0, f1, f2, f3, f4⟩ := an_soft HWA6.out
            obtain ⟨r0, r1, r2, r3, r4⟩ := an_cells HWR6.out
            obtain ⟨s0, s1, s2, s3, s4⟩ := an_soft HWR6.out
            go_wp2_with fail
            clear c0 c1 b0 b1 b2 b3 b4 f0 f1 f2 f3 f4 r0 r1 r2 r3 r4 s0 s1 s2 s3 s4
            have e5 := HN5.out
            subst e5
            obtain ⟨al, hal⟩ : ∃ al, al = a.an ++ l5 := ⟨_, rfl⟩
            have HAL := Lib.hid hal
            have HALL := Lib.hid (show al.length ≤ 1000 * (nq + 1) by rw [hal, List.length_append]; have := HAN.out; omega)
            rw [← hal] at HSTEP
            clear hal
            refine (RZwith_any Ax A5 kx k5 a.an l5 _ HX6.out HS56.out (by omega)).mono ?_
            rw [← HAL.out]
            rintro e w7 ⟨u, rfl, ho7, hB⟩
            obtain ⟨Av, kv, rfl, hsv⟩ := SeesR.own ho7
            have HV7 := Lib.hid hsv
            clear ho7 hsv
            have HWZ7 := Lib.hid (HWZ6.out.below hB HWZ6.out.lt)
            have HWA7 := Lib.hid (HWA6.out.below hB HWA6.out.lt)
            have HWR7 := Lib.hid (HWR6.out.below hB HWR6.out.lt)
            have HX7 := Lib.hid ((HX6.out.keep hB).more hB.size)
            have HQ7 := Lib.hid ((HQ6.out.below hB).more hB.size)
            have HB7 := Lib.hid (HB6.out.trans (hB.mono HB6.out.size))
            have HZ7 := Lib.hid (HZ6.out.later hB)
            have HS57 := Lib.hid ((HS56.out.keep hB).more hB.size)
            clear hB
            have c0 : w7.cell? ⟨bz, 0, none⟩ = some (.string N) := (HWZ7.out.cell 0).trans rfl
            have c1 : w7.cell? ⟨bz, 1, none⟩ = some (.slice A D.length c) := (HWZ7.out.cell 1).trans rfl
            obtain ⟨b0, b1, b2, b3, b4⟩ := an_cells HWA7.out
            obtain ⟨f0, f1, f2, f3, f4⟩ := an_soft HWA7.out
            obtain ⟨r0, r1, r2, r3, r4⟩ := an_cells HWR7.out
            obtain ⟨s0, s1, s2, s3, s4⟩ := an_soft HWR7.out
            go_upto_region 16 with fail
            have hwa : Whole (w7.setCell ⟨ba, 2, none⟩ (.slice Av al.length kv)) ba anT #[.int .i64 a.rc, .bool true, .slice Av al.length kv, .slice Ay 0 ky, .slice Az 0 kz] := by have h := HWA7.out.put 2 (.slice Av al.length kv); simpa using h
            have hwz := HWZ7.out.far (p := ⟨ba, 2, none⟩) hza (.slice Av al.length kv)
            have hwr := HWR7.out.far (p := ⟨ba, 2, none⟩) hra (.slice Av al.length kv)
            have hx := recs_far1 HX7.out HWA7.out 2 (.slice Av al.length kv)
            have hq := texts_far1 HQ7.out HWA7.out 2 (.slice Av al.length kv)
            have hb := HB7.out.setCell (p := ⟨ba, 2, none⟩) HBA.out (.slice Av al.length kv)
            have hHV := recs_far1 HV7.out HWA7.out 2 (.slice Av al.length kv)
            have hHS5 := recs_far1 HS57.out HWA7.out 2 (.slice Av al.length kv)
            clear c0 c1 b0 b1 b2 b3 b4 f0 f1 f2 f3 f4 r0 r1 r2 r3 r4 s0 s1 s2 s3 s4
            generalize (w7.setCell ⟨ba, 2, none⟩ (.slice Av al.length kv)) = w8 at hwa hwz hwr hx hq hb hHV hHS5 ⊢
            have HWA8 := Lib.hid hwa
            have HWZ8 := Lib.hid hwz
            have HWR8 := Lib.hid hwr
            have HX8 := Lib.hid hx
            have HQ8 := Lib.hid hq
            have HB8 := Lib.hid hb
            have HZ8 := Lib.hid (HZV.out.later hb)
            have HV8 := Lib.hid hHV
            have HS58 := Lib.hid hHS5
            clear hwa hwz hwr hx hq hb hHV hHS5
            have HBE := Lib.hid (show Below w8.heap.size w8 (w8.alloc (.cells #[] 9)) from (Below.refl _ _).alloc (Nat.le_refl _) _)
            have HOE := Lib.hid (show (w8.alloc (.cells #[] 9)).ownsRow w8.heap.size 9 1 (.slice (some ⟨w8.heap.size, 0, none⟩) 0 0) 0 [] from ⟨rfl, .inr ⟨w8.heap.size, 0, #[], rfl, Nat.le_refl _, heap_alloc_new w8 _, Nat.le_refl _, by unfold maxLen; omega, rfl, rfl⟩⟩)
            obtain ⟨m, hm⟩ : ∃ m, m = nq + 1 := ⟨_, rfl⟩
            obtain ⟨all, hall⟩ : ∃ all, all = asked ++ [n] := ⟨_, rfl⟩
            have HM := Lib.hid hm
            have HALLQ := Lib.hid hall
            have HYS := Lib.hid (show textL asked ++ texts [P] = textL all by rw [hall, textL_snoc1, HP.out]; rfl)
            clear hm hall
            go_wp2_with (first
              | (at_builtin; (refine append_seen rfl (.tmp 68) _ rfl w8.heap.size (.slice (some ⟨w8.heap.size, 0, none⟩) 0 0) 0 [] rfl HOE.out (by simp) _ As nq ks (asked.map mk) rfl ((HQ8.out.below HBE.out).more HBE.out.size) nq (by omega) (textL asked) rfl (by omega) HBE.out.size ?_); intro v1 w9 ho hg hne; (obtain ⟨Aq1, cq1, rfl, _⟩ := Sees.own ho); (have HO9 := Lib.hid ho); (have HB9 := Lib.hid (HBE.out.grown hg HBE.out.size (own_block_ge HOE.out))); (have HNE := Lib.hid hne); clear ho hg hne)
              | (at_builtin; (refine append_seen rfl (.tmp 70) _ rfl w8.heap.size _ nq (textL asked) rfl (HO9.out.alloc _) HNE.out _ _ 1 1 [P] rfl (own_textS (own_one w9 _ _ (Nat.le_refl _))) m HM.out.symm (textL all) HYS.out (by have := HM.out; omega) (by rw [World.size_alloc]; have := HB9.out.size; omega) ?_); intro v2 w10 ho hg hne; (obtain ⟨Aq, kq, rfl, hsq⟩ := Sees.own ho); (have HSQ := Lib.hid hsq); (have HB10 := Lib.hid ((HB9.out.alloc HB9.out.size _).grown hg (by rw [World.size_alloc]; have := HB9.out.size; omega) (own_block_ge HO9.out))); clear ho hg hne hsq))
            have hB := HB10.out
            clear HB10 HBE HOE HO9 HB9 HNE HYS
            have HWZ10 := Lib.hid (HWZ8.out.below hB HWZ8.out.lt)
            have HWA10 := Lib.hid (HWA8.out.below hB HWA8.out.lt)
            have HWR10 := Lib.hid (HWR8.out.below hB HWR8.out.lt)
            have HX10 := Lib.hid ((HX8.out.keep hB).more hB.size)
            have HQ10 := Lib.hid ((HQ8.out.below hB).more hB.size)
            have HB10 := Lib.hid (HB8.out.trans (hB.mono HB8.out.size))
            have HZ10 := Lib.hid (HZ8.out.later hB)
            have HV10 := Lib.hid ((HV8.out.keep hB).more hB.size)
            have HS510 := Lib.hid ((HS58.out.keep hB).more hB.size)
            clear hB
            obtain ⟨bn, off, x, rfl, hbn, hxk, hx5⟩ := HS510.out.at (j := 0) hn5q
            obtain ⟨x0, x1, x2, x3, x4⟩ := hx5
            obtain ⟨to, hto⟩ : ∃ to, to = x.toRec.d := ⟨_, rfl⟩
            have HTO := Lib.hid (show x.d = mk to by rw [hto]; exact rrd_data x)
            rw [show aliasZ l5 = to from by rw [hto]; exact alias_at hxk] at HSTEP
            obtain ⟨TO, hTO⟩ : ∃ TO, TO = x.d := ⟨_, rfl⟩
            rw [← hTO] at HTO x4
            have HLA := Lib.hid (show all.length = m by rw [HALLQ.out, HM.out, List.length_append, HQL.out]; rfl)
            have hm8 : m ≤ 8 := by have := HM.out; omega
            rw [← HALLQ.out] at HSTEP
            clear hxk hto hTO
            obtain ⟨q5, hq5⟩ : ∃ q, q = l5.length := ⟨_, rfl⟩
            rw [← hq5]
            have gq5 : (0 : Int) < (q5 : Int) := by omega
            have gq5n : 0 < q5 := by omega
            have gq00 : (0 : Int) ≤ 0 := by omega
            clear gn0 hn5q hq5
            simp only [Nat.zero_mul, Nat.add_zero] at x0 x1 x2 x3 x4
            go_wp2_with fail
            go_simp
            go_wp2_with fail
            clear x0 x1 x2 x3 x4
            go_loopw [18] (fun i wr => ∃ k : Nat, k ≤ m ∧ i = .int .i64 (k : Nat) ∧ ((all.take k).any fun y => alikeN y to) = false ∧ Below w10.heap.size w10 wr) (fun i _ => m - (intOf i).toNat)
            case atStart => exact ⟨0, Nat.zero_le _, rfl, rfl, Below.refl _ _⟩
            case round =>
              obtain ⟨k, hk, rfl, hany, hB⟩ := hrel
              have HANY := Lib.hid hany
              have HBR10 := Lib.hid hB
              clear hany hB
              by_cases hkm : k < m
              · have g2 : (k : Int) < (m : Int) := by omega
                have g0 : (0 : Int) ≤ (k : Int) := by omega
                have hkl : k < all.length := by have := HLA.out; omega
                obtain ⟨bq, oq, rfl, _, hcq⟩ := textL_at (HSQ.out.below HBR10.out) hkm hkl
                obtain ⟨Y, hY⟩ : ∃ Y, Y = mk all[k] := ⟨_, rfl⟩
                rw [← hY] at hcq
                have HY := Lib.hid hY
                obtain ⟨y, hy⟩ : ∃ y, y = all[k] := ⟨_, rfl⟩
                rw [← hy] at HY
                have HST := Lib.hid (show ((all.take (k + 1)).any fun y => alikeN y to) = alikeN y to by
                  rw [List.take_succ_eq_append_getElem hkl, List.any_append, HANY.out, hy]; simp)
                have HMEM := Lib.hid (show y ∈ all by rw [hy]; exact List.getElem_mem hkl)
                clear hY hy
                go_wp2_with fail
                clear hcq
                refine (RefAlike_any Y TO y to _ HY.out HTO.out).mono ?_
                cases hz : alikeN y to with
                | false =>
                  rintro e w11 ⟨rfl, hB⟩
                  have HB11 := Lib.hid (HBR10.out.trans (hB.mono HBR10.out.size))
                  clear hB
                  go_wp2_with fail
                  go_roundw
                  case rel => exact ⟨k + 1, by omega, by go_num, by rw [HST.out]; exact hz, HB11.out⟩
                  case measure => simp [intOf]; omega
                | true =>
                  have HFIN := Lib.hid (show askF D nn t (f + 1) a asked n = ⟨a.rc, true, al, a.ns, a.ad⟩ from askF_stop (m := to) (by rw [HSTEP.out, follow_hit HMEM.out hz]))
                  rintro e w11 ⟨rfl, hB1⟩
                  have hB := HBR10.out.trans (hB1.mono HBR10.out.size)
                  clear hB1
                  have HWZ11 := Lib.hid (HWZ10.out.below hB HWZ10.out.lt)
                  have HWA11 := Lib.hid (HWA10.out.below hB HWA10.out.lt)
                  have HWR11 := Lib.hid (HWR10.out.below hB HWR10.out.lt)
                  have HX11 := Lib.hid ((HX10.out.keep hB).more hB.size)
                  have HQ11 := Lib.hid ((HQ10.out.below hB).more hB.size)
                  have HB11 := Lib.hid (HB10.out.trans (hB.mono HB10.out.size))
                  have HZ11 := Lib.hid (HZ10.out.later hB)
                  have HV11 := Lib.hid ((HV10.out.keep hB).more hB.size)
                  clear hB
                  have c0 : w11.cell? ⟨bz, 0, none⟩ = some (.string N) := (HWZ11.out.cell 0).trans rfl
                  have c1 : w11.cell? ⟨bz, 1, none⟩ = some (.slice A D.length c) := (HWZ11.out.cell 1).trans rfl
                  obtain ⟨b0, b1, b2, b3, b4⟩ := an_cells HWA11.out
                  obtain ⟨f0, f1, f2, f3, f4⟩ := an_soft HWA11.out
                  obtain ⟨r0, r1, r2, r3, r4⟩ := an_cells HWR11.out
                  obtain ⟨s0, s1, s2, s3, s4⟩ := an_soft HWR11.out
                  go_wp2_with fail
                  clear c0 c1 b0 b1 b2 b3 b4 f0 f1 f2 f3 f4 r0 r1 r2 r3 r4 s0 s1 s2 s3 s4
                  refine retA5 rfl rfl rfl (five_put HWR11.out _ _ _ _ _) ⟨?_, five_below HB11.out HBR.out _ _ _ _ _⟩
                  rw [HFIN.out]
                  exact ans_fin (a := ⟨a.rc, true, al, a.ns, a.ad⟩) HWR11.out ⟨Av, kv, rfl, HV11.out⟩ (by show RecsAt _ _ a.ns; rw [HNS.out]; exact ⟨Ay, ky, rfl, rfl, fun h => absurd h (by simp)⟩) (by show RecsAt _ _ a.ad; rw [HAD.out]; exact ⟨Az, kz, rfl, rfl, fun h => absurd h (by simp)⟩)
              · obtain rfl : m = k := by omega
                have g2 : ¬ ((m : Int) < (m : Int)) := by omega
                have HNOT := Lib.hid (show (all.any fun y => alikeN y to) = false by
                  have h := HANY.out
                  rwa [List.take_of_length_le (by rw [HLA.out]; exact Nat.le_refl _)] at h)
                clear hkm
                have HSQ11 := Lib.hid ((HSQ.out.below HBR10.out).more HBR10.out.size)
                have hB := HBR10.out
                have HWZ11 := Lib.hid (HWZ10.out.below hB HWZ10.out.lt)
                have HWA11 := Lib.hid (HWA10.out.below hB HWA10.out.lt)
                have HWR11 := Lib.hid (HWR10.out.below hB HWR10.out.lt)
                have HX11 := Lib.hid ((HX10.out.keep hB).more hB.size)
                have HQ11 := Lib.hid ((HQ10.out.below hB).more hB.size)
                have HB11 := Lib.hid (HB10.out.trans (hB.mono HB10.out.size))
                have HZ11 := Lib.hid (HZ10.out.later hB)
                have HV11 := Lib.hid ((HV10.out.keep hB).more hB.size)
                clear hB
                by_cases hm7 : 8 ≤ m
                · have gm8 : (8 : Int) ≤ (m : Int) := by omega
                  have HFIN := Lib.hid (show askF D nn t (f + 1) a asked n = ⟨a.rc, true, al, a.ns, a.ad⟩ from askF_stop (m := to) (by rw [HSTEP.out, follow_long (by rw [HLA.out]; exact hm7)]))
                  clear hm7
                  have c0 : wr.cell? ⟨bz, 0, none⟩ = some (.string N) := (HWZ11.out.cell 0).trans rfl
                  have c1 : wr.cell? ⟨bz, 1, none⟩ = some (.slice A D.length c) := (HWZ11.out.cell 1).trans rfl
                  obtain ⟨b0, b1, b2, b3, b4⟩ := an_cells HWA11.out
                  obtain ⟨f0, f1, f2, f3, f4⟩ := an_soft HWA11.out
                  obtain ⟨r0, r1, r2, r3, r4⟩ := an_cells HWR11.out
                  obtain ⟨s0, s1, s2, s3, s4⟩ := an_soft HWR11.out
                  go_wp2_with fail
                  clear c0 c1 b0 b1 b2 b3 b4 f0 f1 f2 f3 f4 r0 r1 r2 r3 r4 s0 s1 s2 s3 s4
                  refine retA5 rfl rfl rfl (five_put HWR11.out _ _ _ _ _) ⟨?_, five_below HB11.out HBR.out _ _ _ _ _⟩
                  rw [HFIN.out]
                  exact ans_fin (a := ⟨a.rc, true, al, a.ns, a.ad⟩) HWR11.out ⟨Av, kv, rfl, HV11.out⟩ (by show RecsAt _ _ a.ns; rw [HNS.out]; exact ⟨Ay, ky, rfl, rfl, fun h => absurd h (by simp)⟩) (by show RecsAt _ _ a.ad; rw [HAD.out]; exact ⟨Az, kz, rfl, rfl, fun h => absurd h (by simp)⟩)
                · have gm8 : ¬ (8 : Int) ≤ (m : Int) := by omega
                  have c0 : wr.cell? ⟨bz, 0, none⟩ = some (.string N) := (HWZ11.out.cell 0).trans rfl
                  have c1 : wr.cell? ⟨bz, 1, none⟩ = some (.slice A D.length c) := (HWZ11.out.cell 1).trans rfl
                  obtain ⟨b0, b1, b2, b3, b4⟩ := an_cells HWA11.out
                  obtain ⟨f0, f1, f2, f3, f4⟩ := an_soft HWA11.out
                  obtain ⟨r0, r1, r2, r3, r4⟩ := an_cells HWR11.out
                  obtain ⟨s0, s1, s2, s3, s4⟩ := an_soft HWR11.out
                  go_wp2_with fail
                  clear c0 c1 b0 b1 b2 b3 b4 f0 f1 f2 f3 f4 r0 r1 r2 r3 r4 s0 s1 s2 s3 s4
                  refine (RefUnder_any TO N to nn _ HTO.out HN.out).mono ?_
                  cases hu : underN to nn with
                  | false =>
                    have HFIN := Lib.hid (show askF D nn t (f + 1) a asked n = ⟨a.rc, true, al, a.ns, a.ad⟩ from askF_stop (m := to) (by rw [HSTEP.out, follow_out hu]))
                    rintro e w12 ⟨rfl, hB⟩
                    clear hu
                    have HWZ12 := Lib.hid (HWZ11.out.below hB HWZ11.out.lt)
                    have HWA12 := Lib.hid (HWA11.out.below hB HWA11.out.lt)
                    have HWR12 := Lib.hid (HWR11.out.below hB HWR11.out.lt)
                    have HX12 := Lib.hid ((HX11.out.keep hB).more hB.size)
                    have HQ12 := Lib.hid ((HQ11.out.below hB).more hB.size)
                    have HB12 := Lib.hid (HB11.out.trans (hB.mono HB11.out.size))
                    have HZ12 := Lib.hid (HZ11.out.later hB)
                    have HV12 := Lib.hid ((HV11.out.keep hB).more hB.size)
                    clear hB
                    have c0 : w12.cell? ⟨bz, 0, none⟩ = some (.string N) := (HWZ12.out.cell 0).trans rfl
                    have c1 : w12.cell? ⟨bz, 1, none⟩ = some (.slice A D.length c) := (HWZ12.out.cell 1).trans rfl
                    obtain ⟨b0, b1, b2, b3, b4⟩ := an_cells HWA12.out
                    obtain ⟨f0, f1, f2, f3, f4⟩ := an_soft HWA12.out
                    obtain ⟨r0, r1, r2, r3, r4⟩ := an_cells HWR12.out
                    obtain ⟨s0, s1, s2, s3, s4⟩ := an_soft HWR12.out
                    go_wp2_with fail
                    clear c0 c1 b0 b1 b2 b3 b4 f0 f1 f2 f3 f4 r0 r1 r2 r3 r4 s0 s1 s2 s3 s4
                    refine retA5 rfl rfl rfl (five_put HWR12.out _ _ _ _ _) ⟨?_, five_below HB12.out HBR.out _ _ _ _ _⟩
                    rw [HFIN.out]
                    exact ans_fin (a := ⟨a.rc, true, al, a.ns, a.ad⟩) HWR12.out ⟨Av, kv, rfl, HV12.out⟩ (by show RecsAt _ _ a.ns; rw [HNS.out]; exact ⟨Ay, ky, rfl, rfl, fun h => absurd h (by simp)⟩) (by show RecsAt _ _ a.ad; rw [HAD.out]; exact ⟨Az, kz, rfl, rfl, fun h => absurd h (by simp)⟩)
                  | true =>
                    obtain ⟨f', hf'⟩ : ∃ f', f = f' + 1 := ⟨f - 1, by have h1 := HF.out; have h2 := HM.out; omega⟩
                    have HGO := Lib.hid (show askF D nn t (f + 1) a asked n = askF D nn t (f' + 1) ⟨a.rc, true, al, a.ns, a.ad⟩ all to by
                      rw [askF_more (m := to) (r := ⟨a.rc, true, al, a.ns, a.ad⟩) (by rw [HSTEP.out, follow_on hu HNOT.out (by rw [HLA.out]; omega)]), hf', ← HALLQ.out])
                    have HF' := Lib.hid hf'
                    rintro e w12 ⟨rfl, hB⟩
                    clear hu hf'
                    have HSQ12 := Lib.hid ((HSQ11.out.below hB).more hB.size)
                    have HWZ12 := Lib.hid (HWZ11.out.below hB HWZ11.out.lt)
                    have HWA12 := Lib.hid (HWA11.out.below hB HWA11.out.lt)
                    have HWR12 := Lib.hid (HWR11.out.below hB HWR11.out.lt)
                    have HX12 := Lib.hid ((HX11.out.keep hB).more hB.size)
                    have HQ12 := Lib.hid ((HQ11.out.below hB).more hB.size)
                    have HB12 := Lib.hid (HB11.out.trans (hB.mono HB11.out.size))
                    have HZ12 := Lib.hid (HZ11.out.later hB)
                    have HV12 := Lib.hid ((HV11.out.keep hB).more hB.size)
                    clear hB
                    have c0 : w12.cell? ⟨bz, 0, none⟩ = some (.string N) := (HWZ12.out.cell 0).trans rfl
                    have c1 : w12.cell? ⟨bz, 1, none⟩ = some (.slice A D.length c) := (HWZ12.out.cell 1).trans rfl
                    obtain ⟨b0, b1, b2, b3, b4⟩ := an_cells HWA12.out
                    obtain ⟨f0, f1, f2, f3, f4⟩ := an_soft HWA12.out
                    obtain ⟨r0, r1, r2, r3, r4⟩ := an_cells HWR12.out
                    obtain ⟨s0, s1, s2, s3, s4⟩ := an_soft HWR12.out
                    go_wp2_with fail
                    clear c0 c1 b0 b1 b2 b3 b4 f0 f1 f2 f3 f4 r0 r1 r2 r3 r4 s0 s1 s2 s3 s4
                    have hal7 : al.length ≤ 1000 * m := by have h1 := HALL.out; have h2 := HM.out; omega
                    have hcall := HIH.out f' (by have := HF'.out; omega) _ w12 ⟨a.rc, true, al, a.ns, a.ad⟩ Av Ay Az Aq kv ky kz kq m all TO to HZ12.out HV12.out HNS.out HAD.out HSQ12.out (by have h1 := HF.out; have h2 := HM.out; have h3 := HF'.out; omega) hal7 HTO.out
                    dsimp only at hcall
                    obtain ⟨R, hR⟩ : ∃ R, R = askF D nn t (f' + 1) ⟨a.rc, true, al, a.ns, a.ad⟩ all to := ⟨_, rfl⟩
                    rw [← hR] at HGO hcall
                    clear hR hal7
                    refine hcall.mono ?_
                    clear hcall
                    rintro e w13 ⟨⟨vx, vy, vz, rfl, ⟨B1, j1, rfl, s1'⟩, ⟨B2, j2, rfl, s2'⟩, ⟨B3, j3, rfl, s3'⟩⟩, hB⟩
                    have HS1 := Lib.hid s1'
                    have HS2 := Lib.hid s2'
                    have HS3 := Lib.hid s3'
                    clear s1' s2' s3'
                    have HWZ13 := Lib.hid (HWZ12.out.below hB HWZ12.out.lt)
                    have HWA13 := Lib.hid (HWA12.out.below hB HWA12.out.lt)
                    have HWR13 := Lib.hid (HWR12.out.below hB HWR12.out.lt)
                    have HX13 := Lib.hid ((HX12.out.keep hB).more hB.size)
                    have HQ13 := Lib.hid ((HQ12.out.below hB).more hB.size)
                    have HB13 := Lib.hid (HB12.out.trans (hB.mono HB12.out.size))
                    have HZ13 := Lib.hid (HZ12.out.later hB)
                    clear hB
                    have c0 : w13.cell? ⟨bz, 0, none⟩ = some (.string N) := (HWZ13.out.cell 0).trans rfl
                    have c1 : w13.cell? ⟨bz, 1, none⟩ = some (.slice A D.length c) := (HWZ13.out.cell 1).trans rfl
                    obtain ⟨b0, b1, b2, b3, b4⟩ := an_cells HWA13.out
                    obtain ⟨f0, f1, f2, f3, f4⟩ := an_soft HWA13.out
                    obtain ⟨r0, r1, r2, r3, r4⟩ := an_cells HWR13.out
                    obtain ⟨s0, s1, s2, s3, s4⟩ := an_soft HWR13.out
                    go_wp2_with fail
                    clear c0 c1 b0 b1 b2 b3 b4 f0 f1 f2 f3 f4 r0 r1 r2 r3 r4 s0 s1 s2 s3 s4
                    refine retA5 rfl rfl rfl (five_put HWR13.out _ _ _ _ _) ⟨?_, five_below HB13.out HBR.out _ _ _ _ _⟩
                    rw [HGO.out]
                    exact ans_fin HWR13.out ⟨B1, j1, rfl, HS1.out⟩ ⟨B2, j2, rfl, HS2.out⟩ ⟨B3, j3, rfl, HS3.out⟩
end Go.Proofs.YtkgihfoknpimfaaGreat
