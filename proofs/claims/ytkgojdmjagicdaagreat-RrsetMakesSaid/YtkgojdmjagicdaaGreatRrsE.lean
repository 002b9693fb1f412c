/- Rows of records of one's own; slices.Grow, Concat, Clone at records. No statement of the seat is proved here. -/
import Derived.Test.YtkgojdmjagicdaaGreatRrsA
import Derived.Test.YtkgojdmjagicdaaGreatShl
import Derived.Deep.AppendSrc
import Derived.Deep.RegionHeld3
namespace Go.Proofs.YtkgojdmjagicdaaGreat
open Go.RowKit Go.Op

/-! ### a drawn region, by hand -/
theorem region_split {id : Nat} {l : Array Oper} {Q : Exit → Act → World → Prop} {a A : Act} {w : World} (R : World → Prop) (h1 : (Code.region id l true).wp Tryz.prog (fun e a' w' => match e with | .normal => a' = A ∧ R w' | _ => False) a w) (h2 : ∀ w', R w' → Q .normal A w') : (Code.region id l true).wp Tryz.prog Q a w :=
  Code.wp_mono (fun e a' w' h => by
    cases e with
    | normal => obtain ⟨ha, hr⟩ := h; subst ha; exact h2 w' hr
    | _ => exact h.elim) h1
section
variable {P : Program} {ops : Array Oper} {Q : Exit → Act → World → Prop} {md : Region.Mode} {S : World → Prop}
/-- wpAnyH_take, the operation taken apart -/
theorem takeH {i : Nat} {d : Option Tmp} {op : Op} {ty : TypeId} {ps : String} {af : Array Edge} {gd : Option (Nat × Bool)} {v : Value} {fuel : Nat} {listed : Array Bool} {a : Act} {w : World} (hi : ops[i]? = some (Oper.mk d op ty ps af gd))
    (hs : Region.noSelect ops = true) (hf : Region.free md ops listed i = true) (hr : (Region.ready md ops listed).contains i = true)
    (hQ : ∀ c a w, Q (.panic c) (a.put d v) w → Q (.panic c) a w) (hy : YieldsIf P ops S (Oper.mk d op ty ps af gd) v a) (hS : S w)
    (h : wpAnyH P md ops Q S fuel (listed.setIfInBounds i true) (a.put d v) w) : wpAnyH P md ops Q S (fuel + 1) listed a w :=
  wpAnyH_take hi hs hf hr hQ hy hS h
/-- AllReadyH.cons, the operation taken apart -/
theorem consH {fuel : Nat} {listed : Array Bool} {a : Act} {w : World} {i : Nat} {d : Option Tmp} {op : Op} {ty : TypeId} {ps : String} {af : Array Edge} {gd : Option (Nat × Bool)} {rs : List Nat} (ho : ops[i]? = some (Oper.mk d op ty ps af gd))
    (h : ∀ K' : Act → World → Prop, Shut (∀ a w, S w → (S w → wpAnyH P md ops Q S fuel (listed.setIfInBounds i true) a w) → K' a w) → if Region.wanted (Oper.mk d op ty ps af gd) (yielded ops a.tmps) = true then Oper.wp P (Oper.mk d op ty ps af gd) a w K' Q else K' (a.put d undef) w)
    (hs : AllReadyH P md ops Q S fuel listed a w rs) : AllReadyH P md ops Q S fuel listed a w (i :: rs) := AllReadyH.cons ho h hs
end
theorem own_block_ge {w : World} {base : Nat} {e : TypeId} {k : Nat} {v : Value} {n : Nat} {xs : List Value} (h : w.ownsRow base e k v n xs) : ∀ j, v.ownBlock = some j → base ≤ j := by
  intro j hj
  rcases h.2 with ⟨rfl, _⟩ | ⟨g, cap, cur, rfl, hb, _⟩
  · cases hj
  · have : g = j := by simpa [Value.ownBlock] using hj
    omega
/-- nothing appended to nil -/
theorem run_nil_R (w : World) (ty : TypeId) (c : Nat) : (Builtin.append_ #[22, 22] ty #[.slice none 0 0, .slice none 0 c]).run Tryz.prog w = .ok (.slice none 0 0) w := by
  obtain ⟨i, hi, hz0, hz1, hz2⟩ := info_parts rec_info
  have hs := Src.ofNil (P := Tryz.prog) (size := i.size) w Tryz.underlying22 c
  have hl := hs.len
  have hc := hs.cells
  have hu := run_underlying (P := Tryz.prog) Tryz.underlying22
  simp [Builtin.append_, hu, sizeOf, typeInfo, hi, hl, hc]
set_option maxRecDepth 20000 in
/-- records appended to a row of one's own -/
theorem run_append_R {w : World} (ty : TypeId) {base : Nat} {v : Value} {n : Nat} {xs : List Rrd} (hown : w.ownsRow base 28 5 v n (rcells xs)) {B : Nat} {A : Option Addr} {m : Nat} (c : Nat) {ys : List Rrd} (hr : SeesR w B A m ys)
    (h63 : n + m ≤ 1073741824) (hbase : base ≤ w.heap.size) :
    ∃ v' w', (Builtin.append_ #[22, 22] ty #[v, .slice A m c]).run Tryz.prog w = .ok v' w' ∧ w'.ownsRow base 28 5 v' (n + m) (rcells (xs ++ ys)) ∧ w.grownBy w' v.ownBlock := by
  obtain ⟨i, hi, hz0, hz1, hz2⟩ := info_parts rec_info
  have hkl := rcells_len ys
  rw [hr.1] at hkl
  rcases A with _ | ad
  · have hm : m = 0 := by
      rcases Nat.eq_zero_or_pos m with h0 | h0
      · exact h0
      · obtain ⟨b, off, e, _⟩ := hr.2 h0
        cases e
    subst hm
    obtain rfl : ys = [] := List.eq_nil_of_length_eq_zero hr.1
    rw [List.append_nil, Nat.add_zero]
    have hs := Src.ofNil (P := Tryz.prog) (size := i.size) w Tryz.underlying22 c
    rcases hown.2 with ⟨rfl, h0⟩ | ⟨g, cap, cur, rfl, h1, h2, h3, h4⟩
    · subst h0
      exact ⟨_, _, run_nil_R w ty c, hown, World.grownBy.refl w _⟩
    · have hrun := run_append_room_src (P := Tryz.prog) w 22 22 ty 28 i Tryz.underlying22 hi g 0 n cap (.slice none 0 c) 0 [] hs h3 (by simp) (by simp)
      have hsame : w.setCells g (0 + n * i.size) [] = w := rfl
      rw [hsame] at hrun
      exact ⟨_, _, hrun, hown, World.grownBy.refl w _⟩
  · have hcells : ∀ j u, (rcells ys)[j]? = some u → w.cell? (ad.add j) = some u := by
      intro j u hu
      have hj : j < (rcells ys).length := (List.getElem?_eq_some_iff.1 hu).1
      obtain ⟨b, off, e, _, hc⟩ := hr.cells (by omega)
      injection e with e
      subst e
      rw [show (⟨b, off, none⟩ : Addr).add j = ⟨b, off + j, none⟩ from by unfold Addr.add; split <;> simp_all]
      exact hc j u hu
    obtain ⟨v', w', h1, h2, h3, _⟩ := run_append_own (P := Tryz.prog) w base 22 ty 28 i (.agg #[.string ⟨#[]⟩, .int .i64 0, .int .i64 0, .int .i64 0, .string ⟨#[]⟩]) 5 56 Tryz.underlying22 hi hz0 hz1 hz2 rfl (by decide) v n (rcells xs) hown ad m c (rcells ys) hkl hcells (rcells_one ys) (by unfold maxLen; omega) (by omega) hbase
    exact ⟨v', w', h1, by rw [rcells_append]; exact h2, h3⟩
theorem wp_append_R {w : World} {o : Oper} {a : Act} {K : Act → World → Prop} {Q : Exit → Act → World → Prop} (s x : Operand)
    (ho : o.op = .call { callee := .builtin .append, args := #[s, x], argTypes := #[22, 22] }) (base : Nat) (v : Value) (n : Nat) (xs : List Rrd) (hs : a.eval s = v) (hown : w.ownsRow base 28 5 v n (rcells xs))
    (B : Nat) (A : Option Addr) (m c : Nat) (ys : List Rrd) (hx : a.eval x = .slice A m c) (hr : SeesR w B A m ys) (h63 : n + m ≤ 1073741824) (hbase : base ≤ w.heap.size)
    (h : ∀ v' w', w'.ownsRow base 28 5 v' (n + m) (rcells (xs ++ ys)) → w.grownBy w' v.ownBlock → K (a.put o.dst v') w') : o.wp Tryz.prog a w K Q := by
  obtain ⟨v', w', hrun, h1, h2⟩ := run_append_R o.type hown c hr h63 hbase
  unfold Oper.wp execOp
  simp only [ho, resolve, invoke, builtin, Sem.run_bind, Sem.run_pure, Result.andThen_ok, List.map_toArray, List.map_cons, List.map_nil, hs, hx, hrun]
  exact h v' w' h1 h2
theorem wpList_append_R {w : World} {ops : Array Oper} {rest : List Oper} {o : Oper} {a : Act} {Q : Exit → Act → World → Prop} (hgd : o.guard = none) (s x : Operand)
    (ho : o.op = .call { callee := .builtin .append, args := #[s, x], argTypes := #[22, 22] }) (base : Nat) (v : Value) (n : Nat) (xs : List Rrd) (hs : a.eval s = v) (hown : w.ownsRow base 28 5 v n (rcells xs))
    (B : Nat) (A : Option Addr) (m c : Nat) (ys : List Rrd) (hx : a.eval x = .slice A m c) (hr : SeesR w B A m ys) (h63 : n + m ≤ 1073741824) (hbase : base ≤ w.heap.size)
    (h : ∀ v' w', w'.ownsRow base 28 5 v' (n + m) (rcells (xs ++ ys)) → w.grownBy w' v.ownBlock → wpList Tryz.prog ops Q rest (a.put o.dst v') w') : wpList Tryz.prog ops Q (o :: rest) a w :=
  wpList_plain hgd fun _ hK => wp_append_R s x ho base v n xs hs hown B A m c ys hx hr h63 hbase fun v' w' h1 h2 => hK _ _ (h v' w' h1 h2)
theorem own_nil (w : World) (base : Nat) (e : TypeId) (k : Nat) : w.ownsRow base e k (.slice none 0 0) 0 [] := ⟨by simp, .inl ⟨rfl, rfl⟩⟩

/-! ### slices.Grow of nil -/
theorem Grow_any (N : Nat) (w : World) (hN : N ≤ 1073741824) :
    Calls Tryz.prog 48 #[.slice none 0 0, .int .i64 (N : Nat)] w fun e w' => ∃ v, e = .returned v ∧ w'.ownsRow w.heap.size 28 5 v 0 (rcells []) ∧ Below w.heap.size w w' := by
  rcases Nat.eq_zero_or_pos N with h0 | h0
  · subst h0
    refine Calls.mono (Any8.slices_Grow_room growL none 0 0 0 w (Nat.le_refl _) (by decide) (by decide) (Nat.le_refl _)) ?_
    rintro e w' ⟨rfl, rfl⟩
    exact ⟨_, rfl, own_nil _ _ _ _, Below.refl _ _⟩
  · obtain ⟨i, hi, hz0, hz1, hz2⟩ := info_parts rec_info
    refine Calls.mono (Any8.slices_Grow_grow growL i (.agg #[.string ⟨#[]⟩, .int .i64 0, .int .i64 0, .int .i64 0, .string ⟨#[]⟩]) hi hz0 (by rw [hz1]; decide) none 0 0 N [] w (Nat.le_refl _) (by omega) (by rw [hz2]; omega) (by omega) (by simp) (fun _ => rfl) (fun a h => by cases h)) ?_
    rintro e w' ⟨rfl, rfl⟩
    have hge := grownCap_ge w (0 + N) 0 (growL_ren.t 25)
    have hle := grownCap_le_maxLen w (0 + N) 0 (growL_ren.t 25) (by unfold maxLen; omega)
    revert hge hle
    generalize grownCap w (0 + N) 0 (growL_ren.t 25) = G
    intro hge hle
    refine ⟨_, rfl, ⟨rfl, .inr ⟨w.heap.size, G, _, rfl, Nat.le_refl _, heap_alloc_new w.drew _, Nat.zero_le _, hle, ?_, by simp [rcells]⟩⟩, (Below.refl _ _).drew.alloc (Nat.le_refl _) _⟩
    have hzc : ∀ k, (Builtin.zeroCells (Value.cells (.agg #[.string ⟨#[]⟩, .int .i64 0, .int .i64 0, .int .i64 0, .string ⟨#[]⟩])) k).size = k * 5 := fun k => by rw [size_zeroCells]; rfl
    simp only [Array.size_append, hzc]
    simp
    omega

/-! ### slices.Concat -/
structure Slot where
  A : Option Addr
  n : Nat
  c : Nat
  l : List Rrd
/-- slices of records that lie in a row -/
def SeesSl (w : World) (B : Nat) (A : Option Addr) (ss : List Slot) : Prop :=
  (∃ b off, A = some ⟨b, off, none⟩ ∧ b < B ∧ ∀ j s, ss[j]? = some s → w.cell? ⟨b, off + j, none⟩ = some (.slice s.A s.n s.c)) ∧ ∀ s ∈ ss, SeesR w B s.A s.n s.l
def joinS (ss : List Slot) : List Rrd := ss.flatMap fun s => s.l
theorem joinS_snoc (ss : List Slot) (s : Slot) : joinS (ss ++ [s]) = joinS ss ++ s.l := by simp [joinS]
theorem joinS_take {ss : List Slot} {k : Nat} {s : Slot} (h : ss[k]? = some s) : joinS (ss.take (k + 1)) = joinS (ss.take k) ++ s.l := by
  rw [List.take_add_one, h]
  exact joinS_snoc _ _
theorem joinS_le (ss : List Slot) (k : Nat) : (joinS (ss.take k)).length ≤ (joinS ss).length := by
  have : joinS ss = joinS (ss.take k) ++ joinS (ss.drop k) := by
    unfold joinS
    rw [← List.flatMap_append, List.take_append_drop]
  rw [this]
  simp
theorem SeesSl.keep {w w' : World} {B : Nat} {A : Option Addr} {ss : List Slot} (h : SeesSl w B A ss) (hb : Below B w w') : SeesSl w' B A ss := by
  obtain ⟨⟨b, off, e, hlt, hc⟩, h2⟩ := h
  exact ⟨⟨b, off, e, hlt, fun j s hs => (hb.cell hlt).trans (hc j s hs)⟩, fun s hs => (h2 s hs).keep hb⟩
set_option maxHeartbeats 4000000 in
set_option maxRecDepth 20000 in
theorem Concat_any (A : Option Addr) (K c : Nat) (ss : List Slot) (w : World) (h : SeesSl w w.heap.size A ss) (hK : ss.length = K) (hk : K ≤ 1000) (hN : (joinS ss).length ≤ 1073741824) :
    Calls Tryz.prog 29 #[.slice A K c] w fun e w' =>
      ∃ v, e = .returned v ∧ w'.ownsRow w.heap.size 28 5 v (joinS ss).length (rcells (joinS ss)) ∧ Below w.heap.size w w' := by
  obtain ⟨⟨b, off, rfl, hb, hc⟩, hs⟩ := h
  have HC := Lib.hid hc
  have HS := Lib.hid hs
  have HK := Lib.hid hK
  have HNN := Lib.hid hN
  clear hc hs hK hN
  go_enter Tryz.func29, Tryz.ntmps29
  go_wp2_with fail
  go_loopw [3, 11] (fun s i wr => ∃ k : Nat, k ≤ K ∧ i = .int .i64 (k : Nat) ∧ s = .int .i64 ((joinS (ss.take k)).length : Nat) ∧ wr = w) (fun _ i _ => K - (intOf i).toNat)
  case atStart => exact ⟨0, Nat.zero_le _, rfl, rfl, rfl⟩
  case round =>
    obtain ⟨k, hkK, rfl, rfl, hwr⟩ := hrel
    obtain rfl := hwr.symm
    by_cases hlt : k < K
    · have g2 : (k : Int) < (K : Int) := by omega
      have g0 : (0 : Int) ≤ (k : Int) := by omega
      obtain ⟨s, hs⟩ : ∃ s, ss[k]? = some s := ⟨ss[k]'(by have := HK.out; omega), List.getElem?_eq_getElem _⟩
      have hcell := HC.out k s hs
      have hsl := (HS.out s (List.mem_of_getElem? hs)).1
      have e1 := joinS_take hs
      have e2 := congrArg List.length e1
      rw [List.length_append, hsl] at e2
      have e3 := joinS_le ss (k + 1)
      have e4 := HNN.out
      obtain ⟨a, ha⟩ : ∃ a, a = (joinS (ss.take k)).length := ⟨_, rfl⟩
      rw [← ha] at e2 ⊢
      have g5 : ¬ ((a : Int) + (s.n : Int) < 0) := by omega
      have g6 : wrap64 ((a : Int) + (s.n : Int)) = (a : Int) + (s.n : Int) := by unfold wrap64; omega
      have E2 := Lib.hid e2
      have HA := Lib.hid ha
      clear e1 e2 e3 e4 hsl ha
      go_wp2_with fail
      go_roundw
      case rel => exact ⟨k + 1, by omega, by go_num, by rw [E2.out]; go_num, trivial⟩
      case measure => simp [intOf]; omega
    · obtain rfl : k = K := by omega
      have HT := Lib.hid (show joinS (ss.take k) = joinS ss by rw [← HK.out, List.take_length])
      rw [HT.out]
      have HNN2 := Lib.hid HNN.out
      go_wp2_with fail
      refine (Grow_any _ _ HNN2.out).mono ?_
      rintro e w1 ⟨v1, rfl, hown, hB⟩
      have HO1 := Lib.hid hown
      have HB1 := Lib.hid hB
      clear hown hB
      have hw1 := HB1.out.size
      go_wp2_with fail
      go_loopw [6, 27] (fun t i wr => ∃ j : Nat, j ≤ k ∧ i = .int .i64 (j : Nat) ∧ wr.ownsRow w.heap.size 28 5 t (joinS (ss.take j)).length (rcells (joinS (ss.take j))) ∧ Below w.heap.size w wr) (fun _ i _ => k - (intOf i).toNat)
      case atStart => exact ⟨0, Nat.zero_le _, rfl, HO1.out, HB1.out⟩
      case round =>
        obtain ⟨j, hjk, rfl, hown, hB⟩ := hrel
        have HO := Lib.hid hown
        have HB := Lib.hid hB
        clear hown hB
        by_cases hlt2 : j < k
        · have g2 : (j : Int) < (k : Int) := by omega
          have g0 : (0 : Int) ≤ (j : Int) := by omega
          obtain ⟨s, hs⟩ : ∃ s, ss[j]? = some s := ⟨ss[j]'(by have := HK.out; omega), List.getElem?_eq_getElem _⟩
          have hcell := (HB.out.cell hb).trans (HC.out j s hs)
          have HSL := Lib.hid ((HS.out s (List.mem_of_getElem? hs)).keep HB.out)
          have hsl := (HS.out s (List.mem_of_getElem? hs)).1
          have e1 := joinS_take hs
          have e2 := congrArg List.length e1
          rw [List.length_append, hsl] at e2
          have e3 := joinS_le ss (j + 1)
          have e4 := HNN.out
          have E1 := Lib.hid e1
          have E2 := Lib.hid e2
          have E5 := Lib.hid (show (joinS (ss.take j)).length + s.n ≤ 1073741824 by omega)
          clear e1 e2 e3 e4 hsl
          go_wp2_with (at_builtin; (refine wpList_append_R rfl _ _ rfl w.heap.size _ _ _ rfl HO.out w.heap.size _ _ _ _ rfl HSL.out E5.out HB.out.size ?_); intro v' w' ho hg)
          have HO2 := Lib.hid (show w'.ownsRow w.heap.size 28 5 v' (joinS (ss.take (j + 1))).length (rcells (joinS (ss.take (j + 1)))) by rw [E2.out, E1.out]; exact ho)
          have HB2 := Lib.hid (HB.out.grown hg HB.out.size (own_block_ge HO.out))
          clear ho hg
          go_wp2_with fail
          go_roundw
          case rel => exact ⟨j + 1, by omega, by go_num, HO2.out, HB2.out⟩
          case measure => simp [intOf]; omega
        · obtain rfl : j = k := by omega
          have HO3 := Lib.hid (show wr.ownsRow w.heap.size 28 5 u6 (joinS ss).length (rcells (joinS ss)) by rw [← HT.out]; exact HO.out)
          go_wp2_with fail
          go_ret
          exact ⟨_, rfl, HO3.out, HB.out⟩
end Go.Proofs.YtkgojdmjagicdaaGreat
