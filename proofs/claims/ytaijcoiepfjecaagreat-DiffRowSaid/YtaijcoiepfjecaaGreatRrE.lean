/- RrE: texts RrsE, RrsF, RrsG of our own, joined. No statement of the seat is proved here. -/
import Derived.Test.YtaijcoiepfjecaaGreatRrsA
import Derived.Test.YtaijcoiepfjecaaGreatShl
import Derived.Deep.AppendSrc
import Derived.Deep.RegionHeld3
import Derived.Test.YtaijcoiepfjecaaGreatRrD
import Derived.Lib.SliceRun
import Derived.Deep.RegionWith
namespace Go.Proofs.YtaijcoiepfjecaaGreat
open Go.RowKit Go.Op

/-! ### a drawn region, by hand -/
theorem region_split {id : Nat} {l : Array Oper} {Q : Exit → Act → World → Prop} {a A : Act} {w : World} (R : World → Prop) (h1 : (Code.region id l true).wp Tryz.prog (fun e a' w' => match e with | .normal => a' = A ∧ R w' | _ => False) a w) (h2 : ∀ w', R w' → Q .normal A w') : (Code.region id l true).wp Tryz.prog Q a w :=
  Code.wp_mono (fun e a' w' h => by
    cases e with
    | normal => obtain ⟨ha, hr⟩ := h; subst ha; exact h2 w' hr
    | _ => exact h.elim) h1
section
variable {P : Program} {ops : Array Oper} {Q : Exit → Act → World → Prop} {md : Region.Mode} {S : World → Prop}
/-- wpAnyH_take, the operation taken apart -/
theorem takeH {i : Nat} {d : Option Tmp} {op : Op} {ty : TypeId} {ps : String} {af : Array Edge} {gd : Option (Nat × Bool)} {v : Value} {fuel : Nat} {listed : Array Bool} {a : Act} {w : World} (hi : ops[i]? = some (Oper.mk d op ty ps af gd))
    (hs : Region.noSelect ops = true) (hf : Region.free md ops listed i = true) (hr : (Region.ready md ops listed).contains i = true)
    (hQ : ∀ c a w, Q (.panic c) (a.put d v) w → Q (.panic c) a w) (hy : YieldsIf P ops S (Oper.mk d op ty ps af gd) v a) (hS : S w)
    (h : wpAnyH P md ops Q S fuel (listed.setIfInBounds i true) (a.put d v) w) : wpAnyH P md ops Q S (fuel + 1) listed a w :=
  wpAnyH_take hi hs hf hr hQ hy hS h
/-- AllReadyH.cons, the operation taken apart -/
theorem consH {fuel : Nat} {listed : Array Bool} {a : Act} {w : World} {i : Nat} {d : Option Tmp} {op : Op} {ty : TypeId} {ps : String} {af : Array Edge} {gd : Option (Nat × Bool)} {rs : List Nat} (ho : ops[i]? = some (Oper.mk d op ty ps af gd))
    (h : ∀ K' : Act → World → Prop, Shut (∀ a w, S w → (S w → wpAnyH P md ops Q S fuel (listed.setIfInBounds i true) a w) → K' a w) → if Region.wanted (Oper.mk d op ty ps af gd) (yielded ops a.tmps) = true then Oper.wp P (Oper.mk d op ty ps af gd) a w K' Q else K' (a.put d undef) w)
    (hs : AllReadyH P md ops Q S fuel listed a w rs) : AllReadyH P md ops Q S fuel listed a w (i :: rs) := AllReadyH.cons ho h hs
end
theorem own_block_ge {w : World} {base : Nat} {e : TypeId} {k : Nat} {v : Value} {n : Nat} {xs : List Value} (h : w.ownsRow base e k v n xs) : ∀ j, v.ownBlock = some j → base ≤ j := by
  intro j hj
  rcases h.2 with ⟨rfl, _⟩ | ⟨g, cap, cur, rfl, hb, _⟩
  · cases hj
  · have : g = j := by simpa [Value.ownBlock] using hj
    omega
/-- nothing appended to nil -/
theorem run_nil_R (w : World) (ty : TypeId) (c : Nat) : (Builtin.append_ #[22, 22] ty #[.slice none 0 0, .slice none 0 c]).run Tryz.prog w = .ok (.slice none 0 0) w := by
  obtain ⟨i, hi, hz0, hz1, hz2⟩ := info_parts rec_info
  have hs := Src.ofNil (P := Tryz.prog) (size := i.size) w Tryz.underlying22 c
  have hl := hs.len
  have hc := hs.cells
  have hu := run_underlying (P := Tryz.prog) Tryz.underlying22
  simp [Builtin.append_, hu, sizeOf, typeInfo, hi, hl, hc]
set_option maxRecDepth 20000 in
/-- records appended to a row of one's own -/
theorem run_append_R {w : World} (ty : TypeId) {base : Nat} {v : Value} {n : Nat} {xs : List Rrd} (hown : w.ownsRow base 26 5 v n (rcells xs)) {B : Nat} {A : Option Addr} {m : Nat} (c : Nat) {ys : List Rrd} (hr : SeesR w B A m ys)
    (h63 : n + m ≤ 1073741824) (hbase : base ≤ w.heap.size) :
    ∃ v' w', (Builtin.append_ #[22, 22] ty #[v, .slice A m c]).run Tryz.prog w = .ok v' w' ∧ w'.ownsRow base 26 5 v' (n + m) (rcells (xs ++ ys)) ∧ w.grownBy w' v.ownBlock := by
  obtain ⟨i, hi, hz0, hz1, hz2⟩ := info_parts rec_info
  have hkl := rcells_len ys
  rw [hr.1] at hkl
  rcases A with _ | ad
  · have hm : m = 0 := by
      rcases Nat.eq_zero_or_pos m with h0 | h0
      · exact h0
      · obtain ⟨b, off, e, _⟩ := hr.2 h0
        cases e
    subst hm
    obtain rfl : ys = [] := List.eq_nil_of_length_eq_zero hr.1
    rw [List.append_nil, Nat.add_zero]
    have hs := Src.ofNil (P := Tryz.prog) (size := i.size) w Tryz.underlying22 c
    rcases hown.2 with ⟨rfl, h0⟩ | ⟨g, cap, cur, rfl, h1, h2, h3, h4⟩
    · subst h0
      exact ⟨_, _, run_nil_R w ty c, hown, World.grownBy.refl w _⟩
    · have hrun := run_append_room_src (P := Tryz.prog) w 22 22 ty 26 i Tryz.underlying22 hi g 0 n cap (.slice none 0 c) 0 [] hs h3 (by simp) (by simp)
      have hsame : w.setCells g (0 + n * i.size) [] = w := rfl
      rw [hsame] at hrun
      exact ⟨_, _, hrun, hown, World.grownBy.refl w _⟩
  · have hcells : ∀ j u, (rcells ys)[j]? = some u → w.cell? (ad.add j) = some u := by
      intro j u hu
      have hj : j < (rcells ys).length := (List.getElem?_eq_some_iff.1 hu).1
      obtain ⟨b, off, e, _, hc⟩ := hr.cells (by omega)
      injection e with e
      subst e
      rw [show (⟨b, off, none⟩ : Addr).add j = ⟨b, off + j, none⟩ from by unfold Addr.add; split <;> simp_all]
      exact hc j u hu
    obtain ⟨v', w', h1, h2, h3, _⟩ := run_append_own (P := Tryz.prog) w base 22 ty 26 i (.agg #[.string ⟨#[]⟩, .int .i64 0, .int .i64 0, .int .i64 0, .string ⟨#[]⟩]) 5 56 Tryz.underlying22 hi hz0 hz1 hz2 rfl (by decide) v n (rcells xs) hown ad m c (rcells ys) hkl hcells (rcells_one ys) (by unfold maxLen; omega) (by omega) hbase
    exact ⟨v', w', h1, by rw [rcells_append]; exact h2, h3⟩
theorem wp_append_R {w : World} {o : Oper} {a : Act} {K : Act → World → Prop} {Q : Exit → Act → World → Prop} (s x : Operand)
    (ho : o.op = .call { callee := .builtin .append, args := #[s, x], argTypes := #[22, 22] }) (base : Nat) (v : Value) (n : Nat) (xs : List Rrd) (hs : a.eval s = v) (hown : w.ownsRow base 26 5 v n (rcells xs))
    (B : Nat) (A : Option Addr) (m c : Nat) (ys : List Rrd) (hx : a.eval x = .slice A m c) (hr : SeesR w B A m ys) (h63 : n + m ≤ 1073741824) (hbase : base ≤ w.heap.size)
    (h : ∀ v' w', w'.ownsRow base 26 5 v' (n + m) (rcells (xs ++ ys)) → w.grownBy w' v.ownBlock → K (a.put o.dst v') w') : o.wp Tryz.prog a w K Q := by
  obtain ⟨v', w', hrun, h1, h2⟩ := run_append_R o.type hown c hr h63 hbase
  unfold Oper.wp execOp
  simp only [ho, resolve, invoke, builtin, Sem.run_bind, Sem.run_pure, Result.andThen_ok, List.map_toArray, List.map_cons, List.map_nil, hs, hx, hrun]
  exact h v' w' h1 h2
theorem wpList_append_R {w : World} {ops : Array Oper} {rest : List Oper} {o : Oper} {a : Act} {Q : Exit → Act → World → Prop} (hgd : o.guard = none) (s x : Operand)
    (ho : o.op = .call { callee := .builtin .append, args := #[s, x], argTypes := #[22, 22] }) (base : Nat) (v : Value) (n : Nat) (xs : List Rrd) (hs : a.eval s = v) (hown : w.ownsRow base 26 5 v n (rcells xs))
    (B : Nat) (A : Option Addr) (m c : Nat) (ys : List Rrd) (hx : a.eval x = .slice A m c) (hr : SeesR w B A m ys) (h63 : n + m ≤ 1073741824) (hbase : base ≤ w.heap.size)
    (h : ∀ v' w', w'.ownsRow base 26 5 v' (n + m) (rcells (xs ++ ys)) → w.grownBy w' v.ownBlock → wpList Tryz.prog ops Q rest (a.put o.dst v') w') : wpList Tryz.prog ops Q (o :: rest) a w :=
  wpList_plain hgd fun _ hK => wp_append_R s x ho base v n xs hs hown B A m c ys hx hr h63 hbase fun v' w' h1 h2 => hK _ _ (h v' w' h1 h2)
theorem own_nil (w : World) (base : Nat) (e : TypeId) (k : Nat) : w.ownsRow base e k (.slice none 0 0) 0 [] := ⟨by simp, .inl ⟨rfl, rfl⟩⟩

/-! ### slices.Grow of nil -/
theorem Grow_any (N : Nat) (w : World) (hN : N ≤ 1073741824) :
    Calls Tryz.prog 80 #[.slice none 0 0, .int .i64 (N : Nat)] w fun e w' => ∃ v, e = .returned v ∧ w'.ownsRow w.heap.size 26 5 v 0 (rcells []) ∧ Below w.heap.size w w' := by
  rcases Nat.eq_zero_or_pos N with h0 | h0
  · subst h0
    refine Calls.mono (Any8.slices_Grow_room growL none 0 0 0 w (Nat.le_refl _) (by decide) (by decide) (Nat.le_refl _)) ?_
    rintro e w' ⟨rfl, rfl⟩
    exact ⟨_, rfl, own_nil _ _ _ _, Below.refl _ _⟩
  · obtain ⟨i, hi, hz0, hz1, hz2⟩ := info_parts rec_info
    refine Calls.mono (Any8.slices_Grow_grow growL i (.agg #[.string ⟨#[]⟩, .int .i64 0, .int .i64 0, .int .i64 0, .string ⟨#[]⟩]) hi hz0 (by rw [hz1]; decide) none 0 0 N [] w (Nat.le_refl _) (by omega) (by rw [hz2]; omega) (by omega) (by simp) (fun _ => rfl) (fun a h => by cases h)) ?_
    rintro e w' ⟨rfl, rfl⟩
    have hge := grownCap_ge w (0 + N) 0 (growL_ren.t 25)
    have hle := grownCap_le_maxLen w (0 + N) 0 (growL_ren.t 25) (by unfold maxLen; omega)
    revert hge hle
    generalize grownCap w (0 + N) 0 (growL_ren.t 25) = G
    intro hge hle
    refine ⟨_, rfl, ⟨rfl, .inr ⟨w.heap.size, G, _, rfl, Nat.le_refl _, heap_alloc_new w.drew _, Nat.zero_le _, hle, ?_, by simp [rcells]⟩⟩, (Below.refl _ _).drew.alloc (Nat.le_refl _) _⟩
    have hzc : ∀ k, (Builtin.zeroCells (Value.cells (.agg #[.string ⟨#[]⟩, .int .i64 0, .int .i64 0, .int .i64 0, .string ⟨#[]⟩])) k).size = k * 5 := fun k => by rw [size_zeroCells]; rfl
    simp only [Array.size_append, hzc]
    simp
    omega

/-! ### slices.Concat -/
structure Slot where
  A : Option Addr
  n : Nat
  c : Nat
  l : List Rrd
/-- slices of records that lie in a row -/
def SeesSl (w : World) (B : Nat) (A : Option Addr) (ss : List Slot) : Prop :=
  (∃ b off, A = some ⟨b, off, none⟩ ∧ b < B ∧ ∀ j s, ss[j]? = some s → w.cell? ⟨b, off + j, none⟩ = some (.slice s.A s.n s.c)) ∧ ∀ s ∈ ss, SeesR w B s.A s.n s.l
def joinS (ss : List Slot) : List Rrd := ss.flatMap fun s => s.l
theorem joinS_snoc (ss : List Slot) (s : Slot) : joinS (ss ++ [s]) = joinS ss ++ s.l := by simp [joinS]
theorem joinS_take {ss : List Slot} {k : Nat} {s : Slot} (h : ss[k]? = some s) : joinS (ss.take (k + 1)) = joinS (ss.take k) ++ s.l := by
  rw [List.take_add_one, h]
  exact joinS_snoc _ _
theorem joinS_le (ss : List Slot) (k : Nat) : (joinS (ss.take k)).length ≤ (joinS ss).length := by
  have : joinS ss = joinS (ss.take k) ++ joinS (ss.drop k) := by
    unfold joinS
    rw [← List.flatMap_append, List.take_append_drop]
  rw [this]
  simp
theorem SeesSl.keep {w w' : World} {B : Nat} {A : Option Addr} {ss : List Slot} (h : SeesSl w B A ss) (hb : Below B w w') : SeesSl w' B A ss := by
  obtain ⟨⟨b, off, e, hlt, hc⟩, h2⟩ := h
  exact ⟨⟨b, off, e, hlt, fun j s hs => (hb.cell hlt).trans (hc j s hs)⟩, fun s hs => (h2 s hs).keep hb⟩
set_option maxHeartbeats 4000000 in
set_option maxRecDepth 20000 in
theorem Concat_any (A : Option Addr) (K c : Nat) (ss : List Slot) (w : World) (h : SeesSl w w.heap.size A ss) (hK : ss.length = K) (hk : K ≤ 1000) (hN : (joinS ss).length ≤ 1073741824) :
    Calls Tryz.prog 39 #[.slice A K c] w fun e w' =>
      ∃ v, e = .returned v ∧ w'.ownsRow w.heap.size 26 5 v (joinS ss).length (rcells (joinS ss)) ∧ Below w.heap.size w w' := by
  obtain ⟨⟨b, off, rfl, hb, hc⟩, hs⟩ := h
  have HC := Lib.hid hc
  have HS := Lib.hid hs
  have HK := Lib.hid hK
  have HNN := Lib.hid hN
  clear hc hs hK hN
  go_enter Tryz.func39, Tryz.ntmps39
  go_wp2_with fail
  go_loopw [3, 11] (fun s i wr => ∃ k : Nat, k ≤ K ∧ i = .int .i64 (k : Nat) ∧ s = .int .i64 ((joinS (ss.take k)).length : Nat) ∧ wr = w) (fun _ i _ => K - (intOf i).toNat)
  case atStart => exact ⟨0, Nat.zero_le _, rfl, rfl, rfl⟩
  case round =>
    obtain ⟨k, hkK, rfl, rfl, hwr⟩ := hrel
    obtain rfl := hwr.symm
    by_cases hlt : k < K
    · have g2 : (k : Int) < (K : Int) := by omega
      have g0 : (0 : Int) ≤ (k : Int) := by omega
      obtain ⟨s, hs⟩ : ∃ s, ss[k]? = some s := ⟨ss[k]'(by have := HK.out; omega), List.getElem?_eq_getElem _⟩
      have hcell := HC.out k s hs
      have hsl := (HS.out s (List.mem_of_getElem? hs)).1
      have e1 := joinS_take hs
      have e2 := congrArg List.length e1
      rw [List.length_append, hsl] at e2
      have e3 := joinS_le ss (k + 1)
      have e4 := HNN.out
      obtain ⟨a, ha⟩ : ∃ a, a = (joinS (ss.take k)).length := ⟨_, rfl⟩
      rw [← ha] at e2 ⊢
      have g5 : ¬ ((a : Int) + (s.n : Int) < 0) := by omega
      have g6 : wrap64 ((a : Int) + (s.n : Int)) = (a : Int) + (s.n : Int) := by unfold wrap64; omega
      have E2 := Lib.hid e2
      have HA := Lib.hid ha
      clear e1 e2 e3 e4 hsl ha
      go_wp2_with fail
      go_roundw
      case rel => exact ⟨k + 1, by omega, by go_num, by rw [E2.out]; go_num, trivial⟩
      case measure => simp [intOf]; omega
    · obtain rfl : k = K := by omega
      have HT := Lib.hid (show joinS (ss.take k) = joinS ss by rw [← HK.out, List.take_length])
      rw [HT.out]
      have HNN2 := Lib.hid HNN.out
      go_wp2_with fail
      refine (Grow_any _ _ HNN2.out).mono ?_
      rintro e w1 ⟨v1, rfl, hown, hB⟩
      have HO1 := Lib.hid hown
      have HB1 := Lib.hid hB
      clear hown hB
      have hw1 := HB1.out.size
      go_wp2_with fail
      go_loopw [6, 27] (fun t i wr => ∃ j : Nat, j ≤ k ∧ i = .int .i64 (j : Nat) ∧ wr.ownsRow w.heap.size 26 5 t (joinS (ss.take j)).length (rcells (joinS (ss.take j))) ∧ Below w.heap.size w wr) (fun _ i _ => k - (intOf i).toNat)
      case atStart => exact ⟨0, Nat.zero_le _, rfl, HO1.out, HB1.out⟩
      case round =>
        obtain ⟨j, hjk, rfl, hown, hB⟩ := hrel
        have HO := Lib.hid hown
        have HB := Lib.hid hB
        clear hown hB
        by_cases hlt2 : j < k
        · have g2 : (j : Int) < (k : Int) := by omega
          have g0 : (0 : Int) ≤ (j : Int) := by omega
          obtain ⟨s, hs⟩ : ∃ s, ss[j]? = some s := ⟨ss[j]'(by have := HK.out; omega), List.getElem?_eq_getElem _⟩
          have hcell := (HB.out.cell hb).trans (HC.out j s hs)
          have HSL := Lib.hid ((HS.out s (List.mem_of_getElem? hs)).keep HB.out)
          have hsl := (HS.out s (List.mem_of_getElem? hs)).1
          have e1 := joinS_take hs
          have e2 := congrArg List.length e1
          rw [List.length_append, hsl] at e2
          have e3 := joinS_le ss (j + 1)
          have e4 := HNN.out
          have E1 := Lib.hid e1
          have E2 := Lib.hid e2
          have E5 := Lib.hid (show (joinS (ss.take j)).length + s.n ≤ 1073741824 by omega)
          clear e1 e2 e3 e4 hsl
          go_wp2_with (at_builtin; (refine wpList_append_R rfl _ _ rfl w.heap.size _ _ _ rfl HO.out w.heap.size _ _ _ _ rfl HSL.out E5.out HB.out.size ?_); intro v' w' ho hg)
          have HO2 := Lib.hid (show w'.ownsRow w.heap.size 26 5 v' (joinS (ss.take (j + 1))).length (rcells (joinS (ss.take (j + 1)))) by rw [E2.out, E1.out]; exact ho)
          have HB2 := Lib.hid (HB.out.grown hg HB.out.size (own_block_ge HO.out))
          clear ho hg
          go_wp2_with fail
          go_roundw
          case rel => exact ⟨j + 1, by omega, by go_num, HO2.out, HB2.out⟩
          case measure => simp [intOf]; omega
        · obtain rfl : j = k := by omega
          have HO3 := Lib.hid (show wr.ownsRow w.heap.size 26 5 u6 (joinS ss).length (rcells (joinS ss)) by rw [← HT.out]; exact HO.out)
          go_wp2_with fail
          go_ret
          exact ⟨_, rfl, HO3.out, HB.out⟩
end Go.Proofs.YtaijcoiepfjecaaGreat
namespace Go.Proofs.YtaijcoiepfjecaaGreat
open Go.RowKit Go.Op

/-- a slice's room -/
def InCap (A : Option Addr) (n c : Nat) : Prop := n ≤ c ∧ c ≤ 9223372036854775807 ∧ (A = none → c = 0) ∧ (∀ ad, A = some ad → 0 < c → ad.spot = none)
theorem SeesR.some {w : World} {B : Nat} {ad : Addr} {n : Nat} {xs : List Rrd} (h : SeesR w B (some ad) n xs) (hn : 0 < n) : ∃ b off, ad = ⟨b, off, none⟩ ∧ b < B := by
  obtain ⟨b, off, e, hb, _⟩ := h.2 hn
  injection e with e
  exact ⟨b, off, e, hb⟩
theorem SeesR.take {w : World} {B : Nat} {A : Option Addr} {n : Nat} {xs : List Rrd} (h : SeesR w B A n xs) {i : Nat} (hi : i ≤ n) : SeesR w B A i (xs.take i) := by
  refine ⟨by rw [List.length_take, h.1]; omega, fun h0 => ?_⟩
  obtain ⟨b, off, e, hb, hc⟩ := h.2 (by omega)
  exact ⟨b, off, e, hb, fun j x hx => hc j x (by rw [List.getElem?_take] at hx; split at hx <;> first | exact hx | cases hx)⟩
theorem SeesR.drop {w : World} {B : Nat} {b off n : Nat} {xs : List Rrd} (h : SeesR w B (Option.some ⟨b, off, none⟩) n xs) {i : Nat} (hi : i ≤ n) : SeesR w B (Option.some ⟨b, off + i * 5, none⟩) (n - i) (xs.drop i) := by
  refine ⟨by rw [List.length_drop, h.1], fun h0 => ?_⟩
  obtain ⟨b', off', e, hb, hc⟩ := h.2 (by omega)
  obtain ⟨rfl, rfl⟩ : b = b' ∧ off = off' := by simpa using e
  refine ⟨b, off + i * 5, rfl, hb, fun j x hx => ?_⟩
  rw [List.getElem?_drop] at hx
  obtain ⟨x0, x1, x2, x3, x4⟩ := hc (i + j) x hx
  have e0 : off + i * 5 + j * 5 = off + (i + j) * 5 := by omega
  rw [e0]
  exact ⟨x0, x1, x2, x3, x4⟩
theorem SeesR.one (w : World) (r : Rrd) : SeesR (w.alloc (.cells #[.string r.s, .int .i64 r.t, .int .i64 r.c, .int .i64 r.l, .string r.d] 26)) (w.heap.size + 1) (Option.some ⟨w.heap.size, 0, none⟩) 1 [r] := by
  refine ⟨rfl, fun _ => ⟨w.heap.size, 0, rfl, by omega, fun j x hx => ?_⟩⟩
  cases j with
  | zero =>
    simp only [List.getElem?_cons_zero, Option.some.injEq] at hx
    subst hx
    simp only [Nat.zero_mul, Nat.zero_add]
    exact box_five w r
  | succ j => simp at hx

set_option maxHeartbeats 4000000 in
set_option maxRecDepth 20000 in
theorem Clone_any (A : Option Addr) (n c : Nat) (xs : List Rrd) (w : World) (hx : SeesR w w.heap.size A n xs) (hn : n ≤ 1073741824) :
    Calls Tryz.prog 41 #[.slice A n c] w fun e w' => ∃ v, e = .returned v ∧ w'.ownsRow w.heap.size 26 5 v n (rcells xs) ∧ Below w.heap.size w w' := by
  have HX := Lib.hid hx
  have q22 : ∀ (w : World) (a : Option Addr) (n c n' c' : Nat), (binOp .eql 22 (.slice a n c) (.slice none n' c')).run Tryz.prog w = .ok (.bool a.isNone) w := fun w a n c n' c' => Lib.run_eql_slice_nil w _ _ a n c n' c' Tryz.underlying22
  clear hx
  rcases A with _ | ad
  · have hm : n = 0 := by
      rcases Nat.eq_zero_or_pos n with h0 | h0
      · exact h0
      · obtain ⟨b, off, e, _⟩ := HX.out.2 h0
        cases e
    have hxs : xs = [] := List.eq_nil_of_length_eq_zero (by rw [HX.out.1, hm])
    subst hm hxs
    clear HX
    go_enter Tryz.func41, Tryz.ntmps41
    go_wp2_with fail
    go_ret
    exact ⟨_, rfl, own_nil _ _ _ _, Below.refl _ _⟩
  · have HO := Lib.hid (own_noneR w w.heap.size (Nat.le_refl _))
    have HB := Lib.hid (show Below w.heap.size w (w.alloc (.cells #[] 26)) from (Below.refl _ _).alloc (Nat.le_refl _) _)
    have HX2 := Lib.hid (HX.out.keep HB.out)
    have HN := Lib.hid (show 0 + n ≤ 1073741824 by omega)
    go_enter Tryz.func41, Tryz.ntmps41
    go_wp2_with (at_builtin; (refine wpList_append_R rfl _ _ rfl w.heap.size _ 0 [] rfl HO.out w.heap.size _ _ _ _ rfl HX2.out HN.out HB.out.size ?_); intro v' w' ho hg)
    rw [Nat.zero_add, List.nil_append] at ho
    have HO2 := Lib.hid ho
    have HB2 := Lib.hid (HB.out.grown hg HB.out.size (own_block_ge HO.out))
    clear ho hg
    go_wp2_with fail
    go_ret
    exact ⟨_, rfl, HO2.out, HB2.out⟩

/-- does Put say that the set was another? -/
def otherX (r : Rrd) (xs : List Rrd) : Bool := match findX cmpX r xs with | some x => !eqX x r | none => true
theorem three_slots {w W : World} (s0 s2 : Slot) (r : Rrd) (t : TypeId) (hB : Below w.heap.size w W) (h0 : SeesR w w.heap.size s0.A s0.n s0.l) (h2 : SeesR w w.heap.size s2.A s2.n s2.l) :
    SeesSl ((W.alloc (.cells #[.string r.s, .int .i64 r.t, .int .i64 r.c, .int .i64 r.l, .string r.d] 26)).alloc (.cells #[.slice s0.A s0.n s0.c, .slice (some ⟨W.heap.size, 0, none⟩) 1 1, .slice s2.A s2.n s2.c] t))
      (W.heap.size + 1 + 1) (some ⟨W.heap.size + 1, 0, none⟩) [s0, ⟨some ⟨W.heap.size, 0, none⟩, 1, 1, [r]⟩, s2] := by
  obtain ⟨W1, hW1⟩ : ∃ W1, W1 = W.alloc (.cells #[.string r.s, .int .i64 r.t, .int .i64 r.c, .int .i64 r.l, .string r.d] 26) := ⟨_, rfl⟩
  have hs : W1.heap.size = W.heap.size + 1 := by rw [hW1]; simp
  have hone : SeesR W1 (W.heap.size + 1) (some ⟨W.heap.size, 0, none⟩) 1 [r] := by rw [hW1]; exact SeesR.one W r
  have hB1 : Below w.heap.size w W1 := by rw [hW1]; exact hB.alloc hB.size _
  rw [← hW1, ← hs]
  obtain ⟨W2, hW2⟩ : ∃ W2, W2 = W1.alloc (.cells #[.slice s0.A s0.n s0.c, .slice (some ⟨W.heap.size, 0, none⟩) 1 1, .slice s2.A s2.n s2.c] t) := ⟨_, rfl⟩
  have hw := Whole.new W1 t #[.slice s0.A s0.n s0.c, .slice (some ⟨W.heap.size, 0, none⟩) 1 1, .slice s2.A s2.n s2.c]
  rw [← hW2] at hw ⊢
  have hB2 : Below W1.heap.size W1 W2 := by rw [hW2]; exact (Below.refl _ _).alloc (Nat.le_refl _) _
  have hBw : Below w.heap.size w W2 := hB1.trans (hB2.mono hB1.size)
  refine ⟨⟨W1.heap.size, 0, rfl, by omega, fun j s hs => ?_⟩, fun s hs => ?_⟩
  · match j, hs with
    | 0, hs => obtain rfl : s0 = s := by simpa using hs
               exact hw.cell 0
    | 1, hs => simp at hs; subst hs; exact hw.cell 1
    | 2, hs => obtain rfl : s2 = s := by simpa using hs
               exact hw.cell 2
    | j + 3, hs => simp at hs
  · simp only [List.mem_cons, List.not_mem_nil, or_false] at hs
    have hle : w.heap.size ≤ W1.heap.size + 1 := by have := hB1.size; omega
    rcases hs with rfl | rfl | rfl
    · exact (h0.keep hBw).more hle
    · exact (((hs ▸ hone : SeesR W1 (W.heap.size + 1) _ 1 [r])).keep (hB2.mono (by omega))).more (by omega)
    · exact (h2.keep hBw).more hle


theorem own_less {w : World} {b b' : Nat} {e : TypeId} {k : Nat} {v : Value} {n : Nat} {xs : List Value} (h : w.ownsRow b e k v n xs) (hb : b' ≤ b) : w.ownsRow b' e k v n xs := by
  obtain ⟨h1, h2⟩ := h
  refine ⟨h1, ?_⟩
  rcases h2 with h2 | ⟨g, cap, cur, h3, h4, h5⟩
  · exact .inl h2
  · exact .inr ⟨g, cap, cur, h3, by omega, h5⟩
theorem seesR_none {w : World} {B : Nat} {A : Option Addr} {n k : Nat} {xs : List Rrd} (hn : n = 0) (hk : xs.length ≤ k) : SeesR w B A n (xs.drop k) :=
  ⟨by rw [List.length_drop]; omega, fun h => absurd h (by omega)⟩
theorem joinS3 {A0 A1 A2 : Option Addr} {n0 n1 n2 c0 c1 c2 : Nat} {l0 l2 : List Rrd} {r : Rrd} : joinS [⟨A0, n0, c0, l0⟩, ⟨A1, n1, c1, [r]⟩, ⟨A2, n2, c2, l2⟩] = l0 ++ r :: l2 := by simp [joinS]
theorem three_drew {w W : World} {p : Nat} {A0 A2 : Option Addr} {n2 c0 c2 : Nat} {l0 l2 : List Rrd} (r : Rrd) (t : TypeId) (hB : Below w.heap.size w W) (h0 : SeesR w w.heap.size A0 p l0) (h2 : SeesR w w.heap.size A2 n2 l2) :
    SeesSl ((W.alloc (.cells #[.string r.s, .int .i64 r.t, .int .i64 r.c, .int .i64 r.l, .string r.d] 26)).alloc (.cells #[.slice A0 p c0, .slice (some ⟨W.heap.size, 0, none⟩) 1 1, .slice A2 n2 c2] t)).drew
      ((W.alloc (.cells #[.string r.s, .int .i64 r.t, .int .i64 r.c, .int .i64 r.l, .string r.d] 26)).alloc (.cells #[.slice A0 p c0, .slice (some ⟨W.heap.size, 0, none⟩) 1 1, .slice A2 n2 c2] t)).drew.heap.size (some ⟨W.heap.size + 1, 0, none⟩) [⟨A0, p, c0, l0⟩, ⟨some ⟨W.heap.size, 0, none⟩, 1, 1, [r]⟩, ⟨A2, n2, c2, l2⟩] := by
  have h := three_slots ⟨A0, p, c0, l0⟩ ⟨A2, n2, c2, l2⟩ r t hB h0 h2
  have e : ((W.alloc (.cells #[.string r.s, .int .i64 r.t, .int .i64 r.c, .int .i64 r.l, .string r.d] 26)).alloc (.cells #[.slice A0 p c0, .slice (some ⟨W.heap.size, 0, none⟩) 1 1, .slice A2 n2 c2] t)).drew.heap.size = W.heap.size + 1 + 1 := by simp
  rw [e]
  exact h.keep (Below.refl _ _).drew
theorem below_two {W V : World} {o1 o2 : Obj} (h : Below ((W.alloc o1).alloc o2).drew.heap.size ((W.alloc o1).alloc o2).drew V) : Below W.heap.size W V := by
  have h1 : Below W.heap.size W ((W.alloc o1).alloc o2).drew := (((Below.refl _ _).alloc (Nat.le_refl _) o1).alloc (by simp) o2).drew
  exact h1.trans (h.mono h1.size)

set_option maxHeartbeats 8000000 in
set_option maxRecDepth 20000 in
theorem Put_hit (b off n c : Nat) (xs : List Rrd) (r : Rrd) (w : World) (hx : SeesR w w.heap.size (some ⟨b, off, none⟩) n xs) (hcap : n ≤ c) (hok : OkL xs) (hr : OkX r) (hs : SetL cmpX xs) (hn : n ≤ 1000000) (hit : hitX cmpX r xs = true) :
    Calls Tryz.prog 45 #[.slice (some ⟨b, off, none⟩) n c, .agg #[.string r.s, .int .i64 r.t, .int .i64 r.c, .int .i64 r.l, .string r.d]] w fun e w' =>
      ∃ v, e = .returned (.tuple #[v, .bool (otherX r xs)]) ∧ w'.ownsRow w.heap.size 26 5 v (putX cmpX r xs).length (rcells (putX cmpX r xs)) ∧ Below w.heap.size w w' := by
  obtain ⟨p, hp⟩ : ∃ p, p = posX cmpX r xs := ⟨_, rfl⟩
  have hpn : p < n := by have := hitX_lt r xs hit; rw [hx.1] at this; omega
  obtain ⟨_, _, x, hA, hb, hxp, hfx⟩ := hx.at hpn
  obtain ⟨rfl, rfl⟩ := (by simpa using hA : b = _ ∧ off = _)
  have hput : putX cmpX r xs = xs.take p ++ r :: xs.drop (p + 1) := by rw [putX_is, hit, ← hp]; rfl
  have hoth : otherX r xs = !eqX x r := by unfold otherX; rw [findX_is, hit, ← hp, if_pos rfl, hxp]
  have HB0 := Lib.hid (show Below w.heap.size w (w.alloc (.cells #[.string r.s, .int .i64 r.t, .int .i64 r.c, .int .i64 r.l, .string r.d] 26)) from (Below.refl _ _).alloc (Nat.le_refl _) _)
  obtain ⟨p0, p1, p2, p3, p4⟩ := box_five w r
  have HBX := Lib.hid (box_five w r)
  have HX0 := Lib.hid hx
  have HFX := Lib.hid hfx
  have HX := Lib.hid ((hx.keep HB0.out).more HB0.out.size)
  have HOK := Lib.hid hok
  have HR := Lib.hid hr
  have HS := Lib.hid hs
  have HIT := Lib.hid hit
  have HP := Lib.hid hp
  have HPUT := Lib.hid hput
  have HOTH := Lib.hid hoth
  have hne := rr_neq x r
  have hgd := fun op a b => rr_guard op a b x r
  have g0 : (0 : Int) ≤ (p : Int) := by omega
  have g1 : (p : Int) < (n : Int) := by omega
  have g2 : (p : Int) ≤ (n : Int) := by omega
  have g3 : (n : Int) ≤ (c : Int) := by omega
  have g4 : (p : Int) ≤ (c : Int) := by omega
  have g5 : (p : Int) + 1 ≤ (n : Int) := by omega
  have g6 : (0 : Int) ≤ (p : Int) + 1 := by omega
  clear hx hok hr hs hit hp hA hput hoth hxp hfx
  go_enter Tryz.func45, Tryz.ntmps45
  go_wp2_with fail
  refine (position_any _ n c xs r _ HX.out HOK.out HR.out HS.out (by omega)).mono ?_
  rw [HIT.out, ← HP.out]
  rintro e w1 ⟨rfl, hB⟩
  have HB1 := Lib.hid (HB0.out.trans (hB.mono HB0.out.size))
  obtain ⟨p0, p1, p2, p3, p4⟩ := HBX.out.keep hB (by simp)
  obtain ⟨q0, q1, q2, q3, q4⟩ := HFX.out.keep HB1.out hb
  have HT := Lib.hid (show SeesR w w.heap.size (some ⟨b, off, none⟩) p (xs.take p) from HX0.out.take (by omega))
  have HLEN := Lib.hid (show (xs.take p ++ r :: xs.drop (p + 1)).length ≤ 1073741824 by
    have := HX0.out.1
    simp
    omega)
  have g7 : (p : Int) ≤ (p : Int) + 1 := by omega
  have HBX1 := Lib.hid (HBX.out.keep hB (by simp))
  have HFX1 := Lib.hid (HFX.out.keep HB1.out hb)
  have HWL := Lib.hid (show w.heap.size < w1.heap.size by have := hB.size; simp at this; omega)
  have HBL := Lib.hid (show b < w1.heap.size from Nat.lt_of_lt_of_le hb HB1.out.size)
  clear hB
  go_wp2_with fail
  case inl hcc =>
    have H2 := Lib.hid (show SeesR w w.heap.size (some ⟨b, off, none⟩) (n - (p + 1)) (xs.drop (p + 1)) from seesR_none (by omega) (by rw [HX0.out.1]; omega))
    go_region_held3 (fun w' => w'.cell? ⟨w.heap.size, 0, none⟩ = some (.string r.s) ∧ w'.cell? ⟨w.heap.size, 0 + 1, none⟩ = some (.int .i64 r.t) ∧ w'.cell? ⟨w.heap.size, 0 + 2, none⟩ = some (.int .i64 r.c) ∧ w'.cell? ⟨w.heap.size, 0 + 3, none⟩ = some (.int .i64 r.l) ∧ w'.cell? ⟨w.heap.size, 0 + 4, none⟩ = some (.string r.d) ∧
      w'.cell? ⟨b, off + p * 5, none⟩ = some (.string x.s) ∧ w'.cell? ⟨b, off + p * 5 + 1, none⟩ = some (.int .i64 x.t) ∧ w'.cell? ⟨b, off + p * 5 + 2, none⟩ = some (.int .i64 x.c) ∧ w'.cell? ⟨b, off + p * 5 + 3, none⟩ = some (.int .i64 x.l) ∧ w'.cell? ⟨b, off + p * 5 + 4, none⟩ = some (.string x.d)) (go_keep)
      (first | (go_at_call 39; (refine (Concat_any _ 3 _ _ _ (three_drew r _ HB1.out HT.out H2.out) rfl (by decide) (by rw [joinS3]; exact HLEN.out)).mono ?_; rw [joinS3]; rintro e w3 ⟨v3, rfl, ho3, hB3⟩; have hB3' := below_two hB3; obtain ⟨k0, k1, k2, k3, k4⟩ := HBX1.out.keep hB3' HWL.out; obtain ⟨m0, m1, m2, m3, m4⟩ := HFX1.out.keep hB3' HBL.out)))
    all_goals (
      have HO3 := Lib.hid ho3
      have HB3 := Lib.hid hB3'
      clear ho3 hB3
      go_wp2_with fail
      go_ret2
      exact ⟨v3, by rw [HOTH.out]; rfl, by rw [HPUT.out]; exact own_less HO3.out (by have := HB1.out.size; simp; omega), HB1.out.trans (HB3.out.mono HB1.out.size)⟩)
  case inr hcc =>
    have H2 := Lib.hid (show SeesR w w.heap.size (some ⟨b, off + (p + 1) * 5, none⟩) (n - (p + 1)) (xs.drop (p + 1)) from HX0.out.drop (by omega))
    go_region_held3 (fun w' => w'.cell? ⟨w.heap.size, 0, none⟩ = some (.string r.s) ∧ w'.cell? ⟨w.heap.size, 0 + 1, none⟩ = some (.int .i64 r.t) ∧ w'.cell? ⟨w.heap.size, 0 + 2, none⟩ = some (.int .i64 r.c) ∧ w'.cell? ⟨w.heap.size, 0 + 3, none⟩ = some (.int .i64 r.l) ∧ w'.cell? ⟨w.heap.size, 0 + 4, none⟩ = some (.string r.d) ∧
      w'.cell? ⟨b, off + p * 5, none⟩ = some (.string x.s) ∧ w'.cell? ⟨b, off + p * 5 + 1, none⟩ = some (.int .i64 x.t) ∧ w'.cell? ⟨b, off + p * 5 + 2, none⟩ = some (.int .i64 x.c) ∧ w'.cell? ⟨b, off + p * 5 + 3, none⟩ = some (.int .i64 x.l) ∧ w'.cell? ⟨b, off + p * 5 + 4, none⟩ = some (.string x.d)) (go_keep)
      (first | (go_at_call 39; (refine (Concat_any _ 3 _ _ _ (three_drew r _ HB1.out HT.out H2.out) rfl (by decide) (by rw [joinS3]; exact HLEN.out)).mono ?_; rw [joinS3]; rintro e w3 ⟨v3, rfl, ho3, hB3⟩; have hB3' := below_two hB3; obtain ⟨k0, k1, k2, k3, k4⟩ := HBX1.out.keep hB3' HWL.out; obtain ⟨m0, m1, m2, m3, m4⟩ := HFX1.out.keep hB3' HBL.out)))
    all_goals (
      have HO3 := Lib.hid ho3
      have HB3 := Lib.hid hB3'
      clear ho3 hB3
      go_wp2_with fail
      go_ret2
      exact ⟨v3, by rw [HOTH.out]; rfl, by rw [HPUT.out]; exact own_less HO3.out (by have := HB1.out.size; simp; omega), HB1.out.trans (HB3.out.mono HB1.out.size)⟩)
set_option maxHeartbeats 8000000 in
set_option maxRecDepth 20000 in
theorem Put_miss (b off n c : Nat) (xs : List Rrd) (r : Rrd) (w : World) (hx : SeesR w w.heap.size (some ⟨b, off, none⟩) n xs) (hcap : n ≤ c) (hok : OkL xs) (hr : OkX r) (hs : SetL cmpX xs) (hn : n ≤ 1000000) (hit : hitX cmpX r xs = false) :
    Calls Tryz.prog 45 #[.slice (some ⟨b, off, none⟩) n c, .agg #[.string r.s, .int .i64 r.t, .int .i64 r.c, .int .i64 r.l, .string r.d]] w fun e w' =>
      ∃ v, e = .returned (.tuple #[v, .bool (otherX r xs)]) ∧ w'.ownsRow w.heap.size 26 5 v (putX cmpX r xs).length (rcells (putX cmpX r xs)) ∧ Below w.heap.size w w' := by
  obtain ⟨p, hp⟩ : ∃ p, p = posX cmpX r xs := ⟨_, rfl⟩
  have hpn : p ≤ n := by have := posX_le (cmp := cmpX) r xs; rw [hx.1] at this; omega
  have hput : putX cmpX r xs = xs.take p ++ r :: xs.drop p := by rw [putX_is, hit, ← hp]; rfl
  have hoth : otherX r xs = true := by unfold otherX; rw [findX_is, hit]; rfl
  have HB0 := Lib.hid (show Below w.heap.size w (w.alloc (.cells #[.string r.s, .int .i64 r.t, .int .i64 r.c, .int .i64 r.l, .string r.d] 26)) from (Below.refl _ _).alloc (Nat.le_refl _) _)
  obtain ⟨p0, p1, p2, p3, p4⟩ := box_five w r
  have HBX := Lib.hid (box_five w r)
  have HX0 := Lib.hid hx
  have HX := Lib.hid ((hx.keep HB0.out).more HB0.out.size)
  have HOK := Lib.hid hok
  have HR := Lib.hid hr
  have HS := Lib.hid hs
  have HIT := Lib.hid hit
  have HP := Lib.hid hp
  have HPUT := Lib.hid hput
  have HOTH := Lib.hid hoth
  have g0 : (0 : Int) ≤ (p : Int) := by omega
  have g2 : (p : Int) ≤ (n : Int) := by omega
  have g3 : (n : Int) ≤ (c : Int) := by omega
  have g4 : (p : Int) ≤ (c : Int) := by omega
  clear hx hok hr hs hit hp hput hoth
  go_enter Tryz.func45, Tryz.ntmps45
  go_wp2_with fail
  refine (position_any _ n c xs r _ HX.out HOK.out HR.out HS.out (by omega)).mono ?_
  rw [HIT.out, ← HP.out]
  rintro e w1 ⟨rfl, hB⟩
  have HB1 := Lib.hid (HB0.out.trans (hB.mono HB0.out.size))
  obtain ⟨p0, p1, p2, p3, p4⟩ := HBX.out.keep hB (by simp)
  have HT := Lib.hid (show SeesR w w.heap.size (some ⟨b, off, none⟩) p (xs.take p) from HX0.out.take (by omega))
  have HLEN := Lib.hid (show (xs.take p ++ r :: xs.drop p).length ≤ 1073741824 by
    have := HX0.out.1
    simp
    omega)
  have HBX1 := Lib.hid (HBX.out.keep hB (by simp))
  have HWL := Lib.hid (show w.heap.size < w1.heap.size by have := hB.size; simp at this; omega)
  clear hB
  go_wp2_with fail
  case inl hcc =>
    have H2 := Lib.hid (show SeesR w w.heap.size (some ⟨b, off, none⟩) (n - p) (xs.drop p) from seesR_none (by omega) (by rw [HX0.out.1]; omega))
    refine wp_region_held_drew (S := fun w' => w'.cell? ⟨w.heap.size, 0, none⟩ = some (.string r.s) ∧ w'.cell? ⟨w.heap.size, 0 + 1, none⟩ = some (.int .i64 r.t) ∧ w'.cell? ⟨w.heap.size, 0 + 2, none⟩ = some (.int .i64 r.c) ∧ w'.cell? ⟨w.heap.size, 0 + 3, none⟩ = some (.int .i64 r.l) ∧ w'.cell? ⟨w.heap.size, 0 + 4, none⟩ = some (.string r.d)) (by kernel_rfl) ?hS (fun hHeld => ?go)
    case hS => exact ⟨p0, p1, p2, p3, p4⟩
    case go =>
      refine takeH (i := 0) (v := ?_) rfl (by kernel_rfl) (by kernel_rfl) (by kernel_rfl) (fun _ _ _ h => h) (Or.inl ⟨by rfl, ?_⟩) hHeld ?_
      rotate_left
      · (intro w hSw; (try dsimp only at hSw); go_simp; (try with_reducible rfl))
      try simp only [Act.put, List.setIfInBounds_toArray, List.set_cons_zero, List.set_cons_succ]
      refine takeH (i := 1) (v := ?_) rfl (by kernel_rfl) (by kernel_rfl) (by kernel_rfl) (fun _ _ _ h => h) (Or.inl ⟨by rfl, ?_⟩) hHeld ?_
      rotate_left
      · (intro w hSw; (try dsimp only at hSw); go_simp; (try with_reducible rfl))
      try simp only [Act.put, List.setIfInBounds_toArray, List.set_cons_zero, List.set_cons_succ]
      refine takeH (i := 2) (v := ?_) rfl (by kernel_rfl) (by kernel_rfl) (by kernel_rfl) (fun _ _ _ h => h) (Or.inl ⟨by rfl, ?_⟩) hHeld ?_
      rotate_left
      · (intro w hSw; (try dsimp only at hSw); go_simp; (try with_reducible rfl))
      try simp only [Act.put, List.setIfInBounds_toArray, List.set_cons_zero, List.set_cons_succ]
      refine takeH (i := 5) (v := ?_) rfl (by kernel_rfl) (by kernel_rfl) (by kernel_rfl) (fun _ _ _ h => h) (Or.inl ⟨by rfl, ?_⟩) hHeld ?_
      rotate_left
      · (intro w hSw; (try dsimp only at hSw); go_simp; (try with_reducible rfl))
      try simp only [Act.put, List.setIfInBounds_toArray, List.set_cons_zero, List.set_cons_succ]
      refine takeH (i := 8) (v := ?_) rfl (by kernel_rfl) (by kernel_rfl) (by kernel_rfl) (fun _ _ _ h => h) (Or.inl ⟨by rfl, ?_⟩) hHeld ?_
      rotate_left
      · (intro w hSw; (try dsimp only at hSw); go_simp; (try with_reducible rfl))
      try simp only [Act.put, List.setIfInBounds_toArray, List.set_cons_zero, List.set_cons_succ]
      refine takeH (i := 9) (v := ?_) rfl (by kernel_rfl) (by kernel_rfl) (by kernel_rfl) (fun _ _ _ h => h) (Or.inl ⟨by rfl, ?_⟩) hHeld ?_
      rotate_left
      · (intro w hSw; (try dsimp only at hSw); go_simp; (try with_reducible rfl))
      try simp only [Act.put, List.setIfInBounds_toArray, List.set_cons_zero, List.set_cons_succ]
      refine takeH (i := 3) (v := ?_) rfl (by kernel_rfl) (by kernel_rfl) (by kernel_rfl) (fun _ _ _ h => h) (Or.inl ⟨by rfl, ?_⟩) hHeld ?_
      rotate_left
      · (intro w hSw; (try dsimp only at hSw); go_simp; (try with_reducible rfl))
      try simp only [Act.put, List.setIfInBounds_toArray, List.set_cons_zero, List.set_cons_succ]
      refine wpAnyH_ready (rs := [4]) (by kernel_rfl) (by simp) ?_
      refine consH (i := 4) rfl (fun K hK => ?_) AllReadyH.nil
      go_simp
      refine hK.out _ _ ?_ (fun hHeld => ?_)
      · go_keep
      clear hK K
      try simp only [Act.put, List.setIfInBounds_toArray, List.set_cons_zero, List.set_cons_succ]
      refine wpAnyH_ready (rs := [6]) (by kernel_rfl) (by simp) ?_
      refine consH (i := 6) rfl (fun K hK => ?_) AllReadyH.nil
      go_simp
      refine hK.out _ _ ?_ (fun hHeld => ?_)
      · go_keep
      clear hK K
      try simp only [Act.put, List.setIfInBounds_toArray, List.set_cons_zero, List.set_cons_succ]
      refine wpAnyH_ready (rs := [7]) (by kernel_rfl) (by simp) ?_
      refine consH (i := 7) rfl (fun K hK => ?_) AllReadyH.nil
      go_simp
      refine (Concat_any _ 3 _ _ _ (three_drew r _ HB1.out HT.out H2.out) rfl (by decide) (by rw [joinS3]; exact HLEN.out)).mono ?_
      rw [joinS3]
      rintro e w3 ⟨v3, rfl, ho3, hB3⟩
      have hB3' := below_two hB3
      obtain ⟨k0, k1, k2, k3, k4⟩ := HBX1.out.keep hB3' HWL.out
      go_wp2_with fail
      refine hK.out _ _ ?_ (fun hHeld => ?_)
      · exact ⟨k0, k1, k2, k3, k4⟩
      clear hK K
      try simp only [Act.put, List.setIfInBounds_toArray, List.set_cons_zero, List.set_cons_succ]
      refine takeH (i := 10) (v := ?_) rfl (by kernel_rfl) (by kernel_rfl) (by kernel_rfl) (fun _ _ _ h => h) (Or.inl ⟨by rfl, ?_⟩) hHeld ?_
      rotate_left
      · (intro w hSw; (try dsimp only at hSw); go_simp; (try with_reducible rfl))
      try simp only [Act.put, List.setIfInBounds_toArray, List.set_cons_zero, List.set_cons_succ]
      refine takeH (i := 11) (v := undef) rfl (by kernel_rfl) (by kernel_rfl) (by kernel_rfl) (fun _ _ _ h => h) (Or.inr ⟨by rfl, rfl⟩) hHeld ?_
      try simp only [Act.put, List.setIfInBounds_toArray, List.set_cons_zero, List.set_cons_succ]
      refine takeH (i := 12) (v := undef) rfl (by kernel_rfl) (by kernel_rfl) (by kernel_rfl) (fun _ _ _ h => h) (Or.inr ⟨by rfl, rfl⟩) hHeld ?_
      try simp only [Act.put, List.setIfInBounds_toArray, List.set_cons_zero, List.set_cons_succ]
      refine takeH (i := 13) (v := undef) rfl (by kernel_rfl) (by kernel_rfl) (by kernel_rfl) (fun _ _ _ h => h) (Or.inr ⟨by rfl, rfl⟩) hHeld ?_
      try simp only [Act.put, List.setIfInBounds_toArray, List.set_cons_zero, List.set_cons_succ]
      refine takeH (i := 14) (v := undef) rfl (by kernel_rfl) (by kernel_rfl) (by kernel_rfl) (fun _ _ _ h => h) (Or.inr ⟨by rfl, rfl⟩) hHeld ?_
      try simp only [Act.put, List.setIfInBounds_toArray, List.set_cons_zero, List.set_cons_succ]
      refine takeH (i := 15) (v := undef) rfl (by kernel_rfl) (by kernel_rfl) (by kernel_rfl) (fun _ _ _ h => h) (Or.inr ⟨by rfl, rfl⟩) hHeld ?_
      try simp only [Act.put, List.setIfInBounds_toArray, List.set_cons_zero, List.set_cons_succ]
      refine takeH (i := 16) (v := undef) rfl (by kernel_rfl) (by kernel_rfl) (by kernel_rfl) (fun _ _ _ h => h) (Or.inr ⟨by rfl, rfl⟩) hHeld ?_
      try simp only [Act.put, List.setIfInBounds_toArray, List.set_cons_zero, List.set_cons_succ]
      refine takeH (i := 17) (v := ?_) rfl (by kernel_rfl) (by kernel_rfl) (by kernel_rfl) (fun _ _ _ h => h) (Or.inl ⟨by rfl, ?_⟩) hHeld ?_
      rotate_left
      · (intro w hSw; (try dsimp only at hSw); go_simp; (try with_reducible rfl))
      try simp only [Act.put, List.setIfInBounds_toArray, List.set_cons_zero, List.set_cons_succ]
      refine takeH (i := 18) (v := ?_) rfl (by kernel_rfl) (by kernel_rfl) (by kernel_rfl) (fun _ _ _ h => h) (Or.inl ⟨by rfl, ?_⟩) hHeld ?_
      rotate_left
      · (intro w hSw; (try dsimp only at hSw); go_simp; (try with_reducible rfl))
      try simp only [Act.put, List.setIfInBounds_toArray, List.set_cons_zero, List.set_cons_succ]
      refine takeH (i := 19) (v := ?_) rfl (by kernel_rfl) (by kernel_rfl) (by kernel_rfl) (fun _ _ _ h => h) (Or.inl ⟨by rfl, ?_⟩) hHeld ?_
      rotate_left
      · (intro w hSw; (try dsimp only at hSw); go_simp; (try with_reducible rfl))
      try simp only [Act.put, List.setIfInBounds_toArray, List.set_cons_zero, List.set_cons_succ]
      refine wpAnyH_done (by kernel_rfl) ?_ _
      have HO3 := Lib.hid ho3
      have HB3 := Lib.hid hB3'
      clear ho3 hB3
      go_wp2_with fail
      go_ret2
      exact ⟨v3, by rw [HOTH.out]; rfl, by rw [HPUT.out]; exact own_less HO3.out (by have := HB1.out.size; simp; omega), HB1.out.trans (HB3.out.mono HB1.out.size)⟩
  case inr hcc =>
    have H2 := Lib.hid (show SeesR w w.heap.size (some ⟨b, off + p * 5, none⟩) (n - p) (xs.drop p) from HX0.out.drop (by omega))
    refine wp_region_held_drew (S := fun w' => w'.cell? ⟨w.heap.size, 0, none⟩ = some (.string r.s) ∧ w'.cell? ⟨w.heap.size, 0 + 1, none⟩ = some (.int .i64 r.t) ∧ w'.cell? ⟨w.heap.size, 0 + 2, none⟩ = some (.int .i64 r.c) ∧ w'.cell? ⟨w.heap.size, 0 + 3, none⟩ = some (.int .i64 r.l) ∧ w'.cell? ⟨w.heap.size, 0 + 4, none⟩ = some (.string r.d)) (by kernel_rfl) ?hS (fun hHeld => ?go)
    case hS => exact ⟨p0, p1, p2, p3, p4⟩
    case go =>
      refine takeH (i := 0) (v := ?_) rfl (by kernel_rfl) (by kernel_rfl) (by kernel_rfl) (fun _ _ _ h => h) (Or.inl ⟨by rfl, ?_⟩) hHeld ?_
      rotate_left
      · (intro w hSw; (try dsimp only at hSw); go_simp; (try with_reducible rfl))
      try simp only [Act.put, List.setIfInBounds_toArray, List.set_cons_zero, List.set_cons_succ]
      refine takeH (i := 1) (v := ?_) rfl (by kernel_rfl) (by kernel_rfl) (by kernel_rfl) (fun _ _ _ h => h) (Or.inl ⟨by rfl, ?_⟩) hHeld ?_
      rotate_left
      · (intro w hSw; (try dsimp only at hSw); go_simp; (try with_reducible rfl))
      try simp only [Act.put, List.setIfInBounds_toArray, List.set_cons_zero, List.set_cons_succ]
      refine takeH (i := 2) (v := ?_) rfl (by kernel_rfl) (by kernel_rfl) (by kernel_rfl) (fun _ _ _ h => h) (Or.inl ⟨by rfl, ?_⟩) hHeld ?_
      rotate_left
      · (intro w hSw; (try dsimp only at hSw); go_simp; (try with_reducible rfl))
      try simp only [Act.put, List.setIfInBounds_toArray, List.set_cons_zero, List.set_cons_succ]
      refine takeH (i := 5) (v := ?_) rfl (by kernel_rfl) (by kernel_rfl) (by kernel_rfl) (fun _ _ _ h => h) (Or.inl ⟨by rfl, ?_⟩) hHeld ?_
      rotate_left
      · (intro w hSw; (try dsimp only at hSw); go_simp; (try with_reducible rfl))
      try simp only [Act.put, List.setIfInBounds_toArray, List.set_cons_zero, List.set_cons_succ]
      refine takeH (i := 8) (v := ?_) rfl (by kernel_rfl) (by kernel_rfl) (by kernel_rfl) (fun _ _ _ h => h) (Or.inl ⟨by rfl, ?_⟩) hHeld ?_
      rotate_left
      · (intro w hSw; (try dsimp only at hSw); go_simp; (try with_reducible rfl))
      try simp only [Act.put, List.setIfInBounds_toArray, List.set_cons_zero, List.set_cons_succ]
      refine takeH (i := 9) (v := ?_) rfl (by kernel_rfl) (by kernel_rfl) (by kernel_rfl) (fun _ _ _ h => h) (Or.inl ⟨by rfl, ?_⟩) hHeld ?_
      rotate_left
      · (intro w hSw; (try dsimp only at hSw); go_simp; (try with_reducible rfl))
      try simp only [Act.put, List.setIfInBounds_toArray, List.set_cons_zero, List.set_cons_succ]
      refine takeH (i := 3) (v := ?_) rfl (by kernel_rfl) (by kernel_rfl) (by kernel_rfl) (fun _ _ _ h => h) (Or.inl ⟨by rfl, ?_⟩) hHeld ?_
      rotate_left
      · (intro w hSw; (try dsimp only at hSw); go_simp; (try with_reducible rfl))
      try simp only [Act.put, List.setIfInBounds_toArray, List.set_cons_zero, List.set_cons_succ]
      refine wpAnyH_ready (rs := [4]) (by kernel_rfl) (by simp) ?_
      refine consH (i := 4) rfl (fun K hK => ?_) AllReadyH.nil
      go_simp
      refine hK.out _ _ ?_ (fun hHeld => ?_)
      · go_keep
      clear hK K
      try simp only [Act.put, List.setIfInBounds_toArray, List.set_cons_zero, List.set_cons_succ]
      refine wpAnyH_ready (rs := [6]) (by kernel_rfl) (by simp) ?_
      refine consH (i := 6) rfl (fun K hK => ?_) AllReadyH.nil
      go_simp
      refine hK.out _ _ ?_ (fun hHeld => ?_)
      · go_keep
      clear hK K
      try simp only [Act.put, List.setIfInBounds_toArray, List.set_cons_zero, List.set_cons_succ]
      refine wpAnyH_ready (rs := [7]) (by kernel_rfl) (by simp) ?_
      refine consH (i := 7) rfl (fun K hK => ?_) AllReadyH.nil
      go_simp
      refine (Concat_any _ 3 _ _ _ (three_drew r _ HB1.out HT.out H2.out) rfl (by decide) (by rw [joinS3]; exact HLEN.out)).mono ?_
      rw [joinS3]
      rintro e w3 ⟨v3, rfl, ho3, hB3⟩
      have hB3' := below_two hB3
      obtain ⟨k0, k1, k2, k3, k4⟩ := HBX1.out.keep hB3' HWL.out
      go_wp2_with fail
      refine hK.out _ _ ?_ (fun hHeld => ?_)
      · exact ⟨k0, k1, k2, k3, k4⟩
      clear hK K
      try simp only [Act.put, List.setIfInBounds_toArray, List.set_cons_zero, List.set_cons_succ]
      refine takeH (i := 10) (v := ?_) rfl (by kernel_rfl) (by kernel_rfl) (by kernel_rfl) (fun _ _ _ h => h) (Or.inl ⟨by rfl, ?_⟩) hHeld ?_
      rotate_left
      · (intro w hSw; (try dsimp only at hSw); go_simp; (try with_reducible rfl))
      try simp only [Act.put, List.setIfInBounds_toArray, List.set_cons_zero, List.set_cons_succ]
      refine takeH (i := 11) (v := undef) rfl (by kernel_rfl) (by kernel_rfl) (by kernel_rfl) (fun _ _ _ h => h) (Or.inr ⟨by rfl, rfl⟩) hHeld ?_
      try simp only [Act.put, List.setIfInBounds_toArray, List.set_cons_zero, List.set_cons_succ]
      refine takeH (i := 12) (v := undef) rfl (by kernel_rfl) (by kernel_rfl) (by kernel_rfl) (fun _ _ _ h => h) (Or.inr ⟨by rfl, rfl⟩) hHeld ?_
      try simp only [Act.put, List.setIfInBounds_toArray, List.set_cons_zero, List.set_cons_succ]
      refine takeH (i := 13) (v := undef) rfl (by kernel_rfl) (by kernel_rfl) (by kernel_rfl) (fun _ _ _ h => h) (Or.inr ⟨by rfl, rfl⟩) hHeld ?_
      try simp only [Act.put, List.setIfInBounds_toArray, List.set_cons_zero, List.set_cons_succ]
      refine takeH (i := 14) (v := undef) rfl (by kernel_rfl) (by kernel_rfl) (by kernel_rfl) (fun _ _ _ h => h) (Or.inr ⟨by rfl, rfl⟩) hHeld ?_
      try simp only [Act.put, List.setIfInBounds_toArray, List.set_cons_zero, List.set_cons_succ]
      refine takeH (i := 15) (v := undef) rfl (by kernel_rfl) (by kernel_rfl) (by kernel_rfl) (fun _ _ _ h => h) (Or.inr ⟨by rfl, rfl⟩) hHeld ?_
      try simp only [Act.put, List.setIfInBounds_toArray, List.set_cons_zero, List.set_cons_succ]
      refine takeH (i := 16) (v := undef) rfl (by kernel_rfl) (by kernel_rfl) (by kernel_rfl) (fun _ _ _ h => h) (Or.inr ⟨by rfl, rfl⟩) hHeld ?_
      try simp only [Act.put, List.setIfInBounds_toArray, List.set_cons_zero, List.set_cons_succ]
      refine takeH (i := 17) (v := ?_) rfl (by kernel_rfl) (by kernel_rfl) (by kernel_rfl) (fun _ _ _ h => h) (Or.inl ⟨by rfl, ?_⟩) hHeld ?_
      rotate_left
      · (intro w hSw; (try dsimp only at hSw); go_simp; (try with_reducible rfl))
      try simp only [Act.put, List.setIfInBounds_toArray, List.set_cons_zero, List.set_cons_succ]
      refine takeH (i := 18) (v := ?_) rfl (by kernel_rfl) (by kernel_rfl) (by kernel_rfl) (fun _ _ _ h => h) (Or.inl ⟨by rfl, ?_⟩) hHeld ?_
      rotate_left
      · (intro w hSw; (try dsimp only at hSw); go_simp; (try with_reducible rfl))
      try simp only [Act.put, List.setIfInBounds_toArray, List.set_cons_zero, List.set_cons_succ]
      refine takeH (i := 19) (v := ?_) rfl (by kernel_rfl) (by kernel_rfl) (by kernel_rfl) (fun _ _ _ h => h) (Or.inl ⟨by rfl, ?_⟩) hHeld ?_
      rotate_left
      · (intro w hSw; (try dsimp only at hSw); go_simp; (try with_reducible rfl))
      try simp only [Act.put, List.setIfInBounds_toArray, List.set_cons_zero, List.set_cons_succ]
      refine wpAnyH_done (by kernel_rfl) ?_ _
      have HO3 := Lib.hid ho3
      have HB3 := Lib.hid hB3'
      clear ho3 hB3
      go_wp2_with fail
      go_ret2
      exact ⟨v3, by rw [HOTH.out]; rfl, by rw [HPUT.out]; exact own_less HO3.out (by have := HB1.out.size; simp; omega), HB1.out.trans (HB3.out.mono HB1.out.size)⟩

set_option maxHeartbeats 8000000 in
set_option maxRecDepth 20000 in
theorem Put_nil (r : Rrd) (w : World) (hr : OkX r) :
    Calls Tryz.prog 45 #[.slice none 0 0, .agg #[.string r.s, .int .i64 r.t, .int .i64 r.c, .int .i64 r.l, .string r.d]] w fun e w' =>
      ∃ v, e = .returned (.tuple #[v, .bool true]) ∧ w'.ownsRow w.heap.size 26 5 v 1 (rcells [r]) ∧ Below w.heap.size w w' := by
  have hx : SeesR w w.heap.size none 0 [] := ⟨rfl, fun h => absurd h (by omega)⟩
  have HB0 := Lib.hid (show Below w.heap.size w (w.alloc (.cells #[.string r.s, .int .i64 r.t, .int .i64 r.c, .int .i64 r.l, .string r.d] 26)) from (Below.refl _ _).alloc (Nat.le_refl _) _)
  obtain ⟨p0, p1, p2, p3, p4⟩ := box_five w r
  have HBX := Lib.hid (box_five w r)
  have HX0 := Lib.hid hx
  have HX := Lib.hid ((hx.keep HB0.out).more HB0.out.size)
  have HR := Lib.hid hr
  clear hx hr
  go_enter Tryz.func45, Tryz.ntmps45
  go_wp2_with fail
  refine (position_any _ 0 0 [] r _ HX.out (fun x h => by cases h) HR.out List.Pairwise.nil (by omega)).mono ?_
  rintro e w1 ⟨rfl, hB⟩
  have HB1 := Lib.hid (HB0.out.trans (hB.mono HB0.out.size))
  obtain ⟨p0, p1, p2, p3, p4⟩ := HBX.out.keep hB (by simp)
  have HBX1 := Lib.hid (HBX.out.keep hB (by simp))
  have HWL := Lib.hid (show w.heap.size < w1.heap.size by have := hB.size; simp at this; omega)
  clear hB
  simp only [posX, hitX]
  go_wp2_with fail
  refine wp_region_held_drew (S := fun w' => w'.cell? ⟨w.heap.size, 0, none⟩ = some (.string r.s) ∧ w'.cell? ⟨w.heap.size, 0 + 1, none⟩ = some (.int .i64 r.t) ∧ w'.cell? ⟨w.heap.size, 0 + 2, none⟩ = some (.int .i64 r.c) ∧ w'.cell? ⟨w.heap.size, 0 + 3, none⟩ = some (.int .i64 r.l) ∧ w'.cell? ⟨w.heap.size, 0 + 4, none⟩ = some (.string r.d)) (by kernel_rfl) ?hS (fun hHeld => ?go)
  case hS => exact ⟨p0, p1, p2, p3, p4⟩
  case go =>
    refine takeH (i := 0) (v := ?_) rfl (by kernel_rfl) (by kernel_rfl) (by kernel_rfl) (fun _ _ _ h => h) (Or.inl ⟨by rfl, ?_⟩) hHeld ?_
    rotate_left
    · (intro w hSw; (try dsimp only at hSw); go_simp; (try with_reducible rfl))
    try simp only [Act.put, List.setIfInBounds_toArray, List.set_cons_zero, List.set_cons_succ]
    refine takeH (i := 1) (v := ?_) rfl (by kernel_rfl) (by kernel_rfl) (by kernel_rfl) (fun _ _ _ h => h) (Or.inl ⟨by rfl, ?_⟩) hHeld ?_
    rotate_left
    · (intro w hSw; (try dsimp only at hSw); go_simp; (try with_reducible rfl))
    try simp only [Act.put, List.setIfInBounds_toArray, List.set_cons_zero, List.set_cons_succ]
    refine takeH (i := 2) (v := ?_) rfl (by kernel_rfl) (by kernel_rfl) (by kernel_rfl) (fun _ _ _ h => h) (Or.inl ⟨by rfl, ?_⟩) hHeld ?_
    rotate_left
    · (intro w hSw; (try dsimp only at hSw); go_simp; (try with_reducible rfl))
    try simp only [Act.put, List.setIfInBounds_toArray, List.set_cons_zero, List.set_cons_succ]
    refine takeH (i := 5) (v := ?_) rfl (by kernel_rfl) (by kernel_rfl) (by kernel_rfl) (fun _ _ _ h => h) (Or.inl ⟨by rfl, ?_⟩) hHeld ?_
    rotate_left
    · (intro w hSw; (try dsimp only at hSw); go_simp; (try with_reducible rfl))
    try simp only [Act.put, List.setIfInBounds_toArray, List.set_cons_zero, List.set_cons_succ]
    refine takeH (i := 8) (v := ?_) rfl (by kernel_rfl) (by kernel_rfl) (by kernel_rfl) (fun _ _ _ h => h) (Or.inl ⟨by rfl, ?_⟩) hHeld ?_
    rotate_left
    · (intro w hSw; (try dsimp only at hSw); go_simp; (try with_reducible rfl))
    try simp only [Act.put, List.setIfInBounds_toArray, List.set_cons_zero, List.set_cons_succ]
    refine takeH (i := 9) (v := ?_) rfl (by kernel_rfl) (by kernel_rfl) (by kernel_rfl) (fun _ _ _ h => h) (Or.inl ⟨by rfl, ?_⟩) hHeld ?_
    rotate_left
    · (intro w hSw; (try dsimp only at hSw); go_simp; (try with_reducible rfl))
    try simp only [Act.put, List.setIfInBounds_toArray, List.set_cons_zero, List.set_cons_succ]
    refine takeH (i := 3) (v := ?_) rfl (by kernel_rfl) (by kernel_rfl) (by kernel_rfl) (fun _ _ _ h => h) (Or.inl ⟨by rfl, ?_⟩) hHeld ?_
    rotate_left
    · (intro w hSw; (try dsimp only at hSw); go_simp; (try with_reducible rfl))
    try simp only [Act.put, List.setIfInBounds_toArray, List.set_cons_zero, List.set_cons_succ]
    refine wpAnyH_ready (rs := [4]) (by kernel_rfl) (by simp) ?_
    refine consH (i := 4) rfl (fun K hK => ?_) AllReadyH.nil
    go_simp
    refine hK.out _ _ ?_ (fun hHeld => ?_)
    · go_keep
    clear hK K
    try simp only [Act.put, List.setIfInBounds_toArray, List.set_cons_zero, List.set_cons_succ]
    refine wpAnyH_ready (rs := [6]) (by kernel_rfl) (by simp) ?_
    refine consH (i := 6) rfl (fun K hK => ?_) AllReadyH.nil
    go_simp
    refine hK.out _ _ ?_ (fun hHeld => ?_)
    · go_keep
    clear hK K
    try simp only [Act.put, List.setIfInBounds_toArray, List.set_cons_zero, List.set_cons_succ]
    refine wpAnyH_ready (rs := [7]) (by kernel_rfl) (by simp) ?_
    refine consH (i := 7) rfl (fun K hK => ?_) AllReadyH.nil
    go_simp
    refine (Concat_any _ 3 _ _ _ (three_drew (l0 := []) (l2 := []) r _ HB1.out HX0.out HX0.out) rfl (by decide) (by rw [joinS3]; simp)).mono ?_
    rw [joinS3]
    rintro e w3 ⟨v3, rfl, ho3, hB3⟩
    have hB3' := below_two hB3
    obtain ⟨k0, k1, k2, k3, k4⟩ := HBX1.out.keep hB3' HWL.out
    go_wp2_with fail
    refine hK.out _ _ ?_ (fun hHeld => ?_)
    · exact ⟨k0, k1, k2, k3, k4⟩
    clear hK K
    try simp only [Act.put, List.setIfInBounds_toArray, List.set_cons_zero, List.set_cons_succ]
    refine takeH (i := 10) (v := ?_) rfl (by kernel_rfl) (by kernel_rfl) (by kernel_rfl) (fun _ _ _ h => h) (Or.inl ⟨by rfl, ?_⟩) hHeld ?_
    rotate_left
    · (intro w hSw; (try dsimp only at hSw); go_simp; (try with_reducible rfl))
    try simp only [Act.put, List.setIfInBounds_toArray, List.set_cons_zero, List.set_cons_succ]
    refine takeH (i := 11) (v := undef) rfl (by kernel_rfl) (by kernel_rfl) (by kernel_rfl) (fun _ _ _ h => h) (Or.inr ⟨by rfl, rfl⟩) hHeld ?_
    try simp only [Act.put, List.setIfInBounds_toArray, List.set_cons_zero, List.set_cons_succ]
    refine takeH (i := 12) (v := undef) rfl (by kernel_rfl) (by kernel_rfl) (by kernel_rfl) (fun _ _ _ h => h) (Or.inr ⟨by rfl, rfl⟩) hHeld ?_
    try simp only [Act.put, List.setIfInBounds_toArray, List.set_cons_zero, List.set_cons_succ]
    refine takeH (i := 13) (v := undef) rfl (by kernel_rfl) (by kernel_rfl) (by kernel_rfl) (fun _ _ _ h => h) (Or.inr ⟨by rfl, rfl⟩) hHeld ?_
    try simp only [Act.put, List.setIfInBounds_toArray, List.set_cons_zero, List.set_cons_succ]
    refine takeH (i := 14) (v := undef) rfl (by kernel_rfl) (by kernel_rfl) (by kernel_rfl) (fun _ _ _ h => h) (Or.inr ⟨by rfl, rfl⟩) hHeld ?_
    try simp only [Act.put, List.setIfInBounds_toArray, List.set_cons_zero, List.set_cons_succ]
    refine takeH (i := 15) (v := undef) rfl (by kernel_rfl) (by kernel_rfl) (by kernel_rfl) (fun _ _ _ h => h) (Or.inr ⟨by rfl, rfl⟩) hHeld ?_
    try simp only [Act.put, List.setIfInBounds_toArray, List.set_cons_zero, List.set_cons_succ]
    refine takeH (i := 16) (v := undef) rfl (by kernel_rfl) (by kernel_rfl) (by kernel_rfl) (fun _ _ _ h => h) (Or.inr ⟨by rfl, rfl⟩) hHeld ?_
    try simp only [Act.put, List.setIfInBounds_toArray, List.set_cons_zero, List.set_cons_succ]
    refine takeH (i := 17) (v := ?_) rfl (by kernel_rfl) (by kernel_rfl) (by kernel_rfl) (fun _ _ _ h => h) (Or.inl ⟨by rfl, ?_⟩) hHeld ?_
    rotate_left
    · (intro w hSw; (try dsimp only at hSw); go_simp; (try with_reducible rfl))
    try simp only [Act.put, List.setIfInBounds_toArray, List.set_cons_zero, List.set_cons_succ]
    refine takeH (i := 18) (v := ?_) rfl (by kernel_rfl) (by kernel_rfl) (by kernel_rfl) (fun _ _ _ h => h) (Or.inl ⟨by rfl, ?_⟩) hHeld ?_
    rotate_left
    · (intro w hSw; (try dsimp only at hSw); go_simp; (try with_reducible rfl))
    try simp only [Act.put, List.setIfInBounds_toArray, List.set_cons_zero, List.set_cons_succ]
    refine takeH (i := 19) (v := ?_) rfl (by kernel_rfl) (by kernel_rfl) (by kernel_rfl) (fun _ _ _ h => h) (Or.inl ⟨by rfl, ?_⟩) hHeld ?_
    rotate_left
    · (intro w hSw; (try dsimp only at hSw); go_simp; (try with_reducible rfl))
    try simp only [Act.put, List.setIfInBounds_toArray, List.set_cons_zero, List.set_cons_succ]
    refine wpAnyH_done (by kernel_rfl) ?_ _
    have HO3 := Lib.hid ho3
    have HB3 := Lib.hid hB3'
    clear ho3 hB3
    go_wp2_with fail
    go_ret2
    exact ⟨v3, rfl, own_less HO3.out (by have := HB1.out.size; simp; omega), HB1.out.trans (HB3.out.mono HB1.out.size)⟩

set_option maxHeartbeats 8000000 in
set_option maxRecDepth 20000 in
theorem Put_zero (ad : Addr) (r : Rrd) (w : World) (hr : OkX r) :
    Calls Tryz.prog 45 #[.slice (some ad) 0 0, .agg #[.string r.s, .int .i64 r.t, .int .i64 r.c, .int .i64 r.l, .string r.d]] w fun e w' =>
      ∃ v, e = .returned (.tuple #[v, .bool true]) ∧ w'.ownsRow w.heap.size 26 5 v 1 (rcells [r]) ∧ Below w.heap.size w w' := by
  have hx : SeesR w w.heap.size (some ad) 0 [] := ⟨rfl, fun h => absurd h (by omega)⟩
  have HB0 := Lib.hid (show Below w.heap.size w (w.alloc (.cells #[.string r.s, .int .i64 r.t, .int .i64 r.c, .int .i64 r.l, .string r.d] 26)) from (Below.refl _ _).alloc (Nat.le_refl _) _)
  obtain ⟨p0, p1, p2, p3, p4⟩ := box_five w r
  have HBX := Lib.hid (box_five w r)
  have HX0 := Lib.hid hx
  have HX := Lib.hid ((hx.keep HB0.out).more HB0.out.size)
  have HR := Lib.hid hr
  clear hx hr
  go_enter Tryz.func45, Tryz.ntmps45
  go_wp2_with fail
  refine (position_any _ 0 0 [] r _ HX.out (fun x h => by cases h) HR.out List.Pairwise.nil (by omega)).mono ?_
  rintro e w1 ⟨rfl, hB⟩
  have HB1 := Lib.hid (HB0.out.trans (hB.mono HB0.out.size))
  obtain ⟨p0, p1, p2, p3, p4⟩ := HBX.out.keep hB (by simp)
  have HBX1 := Lib.hid (HBX.out.keep hB (by simp))
  have HWL := Lib.hid (show w.heap.size < w1.heap.size by have := hB.size; simp at this; omega)
  clear hB
  simp only [posX, hitX]
  go_wp2_with fail
  refine wp_region_held_drew (S := fun w' => w'.cell? ⟨w.heap.size, 0, none⟩ = some (.string r.s) ∧ w'.cell? ⟨w.heap.size, 0 + 1, none⟩ = some (.int .i64 r.t) ∧ w'.cell? ⟨w.heap.size, 0 + 2, none⟩ = some (.int .i64 r.c) ∧ w'.cell? ⟨w.heap.size, 0 + 3, none⟩ = some (.int .i64 r.l) ∧ w'.cell? ⟨w.heap.size, 0 + 4, none⟩ = some (.string r.d)) (by kernel_rfl) ?hS (fun hHeld => ?go)
  case hS => exact ⟨p0, p1, p2, p3, p4⟩
  case go =>
    refine takeH (i := 0) (v := ?_) rfl (by kernel_rfl) (by kernel_rfl) (by kernel_rfl) (fun _ _ _ h => h) (Or.inl ⟨by rfl, ?_⟩) hHeld ?_
    rotate_left
    · (intro w hSw; (try dsimp only at hSw); go_simp; (try with_reducible rfl))
    try simp only [Act.put, List.setIfInBounds_toArray, List.set_cons_zero, List.set_cons_succ]
    refine takeH (i := 1) (v := ?_) rfl (by kernel_rfl) (by kernel_rfl) (by kernel_rfl) (fun _ _ _ h => h) (Or.inl ⟨by rfl, ?_⟩) hHeld ?_
    rotate_left
    · (intro w hSw; (try dsimp only at hSw); go_simp; (try with_reducible rfl))
    try simp only [Act.put, List.setIfInBounds_toArray, List.set_cons_zero, List.set_cons_succ]
    refine takeH (i := 2) (v := ?_) rfl (by kernel_rfl) (by kernel_rfl) (by kernel_rfl) (fun _ _ _ h => h) (Or.inl ⟨by rfl, ?_⟩) hHeld ?_
    rotate_left
    · (intro w hSw; (try dsimp only at hSw); go_simp; (try with_reducible rfl))
    try simp only [Act.put, List.setIfInBounds_toArray, List.set_cons_zero, List.set_cons_succ]
    refine takeH (i := 5) (v := ?_) rfl (by kernel_rfl) (by kernel_rfl) (by kernel_rfl) (fun _ _ _ h => h) (Or.inl ⟨by rfl, ?_⟩) hHeld ?_
    rotate_left
    · (intro w hSw; (try dsimp only at hSw); go_simp; (try with_reducible rfl))
    try simp only [Act.put, List.setIfInBounds_toArray, List.set_cons_zero, List.set_cons_succ]
    refine takeH (i := 8) (v := ?_) rfl (by kernel_rfl) (by kernel_rfl) (by kernel_rfl) (fun _ _ _ h => h) (Or.inl ⟨by rfl, ?_⟩) hHeld ?_
    rotate_left
    · (intro w hSw; (try dsimp only at hSw); go_simp; (try with_reducible rfl))
    try simp only [Act.put, List.setIfInBounds_toArray, List.set_cons_zero, List.set_cons_succ]
    refine takeH (i := 9) (v := ?_) rfl (by kernel_rfl) (by kernel_rfl) (by kernel_rfl) (fun _ _ _ h => h) (Or.inl ⟨by rfl, ?_⟩) hHeld ?_
    rotate_left
    · (intro w hSw; (try dsimp only at hSw); go_simp; (try with_reducible rfl))
    try simp only [Act.put, List.setIfInBounds_toArray, List.set_cons_zero, List.set_cons_succ]
    refine takeH (i := 3) (v := ?_) rfl (by kernel_rfl) (by kernel_rfl) (by kernel_rfl) (fun _ _ _ h => h) (Or.inl ⟨by rfl, ?_⟩) hHeld ?_
    rotate_left
    · (intro w hSw; (try dsimp only at hSw); go_simp; (try with_reducible rfl))
    try simp only [Act.put, List.setIfInBounds_toArray, List.set_cons_zero, List.set_cons_succ]
    refine wpAnyH_ready (rs := [4]) (by kernel_rfl) (by simp) ?_
    refine consH (i := 4) rfl (fun K hK => ?_) AllReadyH.nil
    go_simp
    refine hK.out _ _ ?_ (fun hHeld => ?_)
    · go_keep
    clear hK K
    try simp only [Act.put, List.setIfInBounds_toArray, List.set_cons_zero, List.set_cons_succ]
    refine wpAnyH_ready (rs := [6]) (by kernel_rfl) (by simp) ?_
    refine consH (i := 6) rfl (fun K hK => ?_) AllReadyH.nil
    go_simp
    refine hK.out _ _ ?_ (fun hHeld => ?_)
    · go_keep
    clear hK K
    try simp only [Act.put, List.setIfInBounds_toArray, List.set_cons_zero, List.set_cons_succ]
    refine wpAnyH_ready (rs := [7]) (by kernel_rfl) (by simp) ?_
    refine consH (i := 7) rfl (fun K hK => ?_) AllReadyH.nil
    go_simp
    refine (Concat_any _ 3 _ _ _ (three_drew (l0 := []) (l2 := []) r _ HB1.out HX0.out HX0.out) rfl (by decide) (by rw [joinS3]; simp)).mono ?_
    rw [joinS3]
    rintro e w3 ⟨v3, rfl, ho3, hB3⟩
    have hB3' := below_two hB3
    obtain ⟨k0, k1, k2, k3, k4⟩ := HBX1.out.keep hB3' HWL.out
    go_wp2_with fail
    refine hK.out _ _ ?_ (fun hHeld => ?_)
    · exact ⟨k0, k1, k2, k3, k4⟩
    clear hK K
    try simp only [Act.put, List.setIfInBounds_toArray, List.set_cons_zero, List.set_cons_succ]
    refine takeH (i := 10) (v := ?_) rfl (by kernel_rfl) (by kernel_rfl) (by kernel_rfl) (fun _ _ _ h => h) (Or.inl ⟨by rfl, ?_⟩) hHeld ?_
    rotate_left
    · (intro w hSw; (try dsimp only at hSw); go_simp; (try with_reducible rfl))
    try simp only [Act.put, List.setIfInBounds_toArray, List.set_cons_zero, List.set_cons_succ]
    refine takeH (i := 11) (v := undef) rfl (by kernel_rfl) (by kernel_rfl) (by kernel_rfl) (fun _ _ _ h => h) (Or.inr ⟨by rfl, rfl⟩) hHeld ?_
    try simp only [Act.put, List.setIfInBounds_toArray, List.set_cons_zero, List.set_cons_succ]
    refine takeH (i := 12) (v := undef) rfl (by kernel_rfl) (by kernel_rfl) (by kernel_rfl) (fun _ _ _ h => h) (Or.inr ⟨by rfl, rfl⟩) hHeld ?_
    try simp only [Act.put, List.setIfInBounds_toArray, List.set_cons_zero, List.set_cons_succ]
    refine takeH (i := 13) (v := undef) rfl (by kernel_rfl) (by kernel_rfl) (by kernel_rfl) (fun _ _ _ h => h) (Or.inr ⟨by rfl, rfl⟩) hHeld ?_
    try simp only [Act.put, List.setIfInBounds_toArray, List.set_cons_zero, List.set_cons_succ]
    refine takeH (i := 14) (v := undef) rfl (by kernel_rfl) (by kernel_rfl) (by kernel_rfl) (fun _ _ _ h => h) (Or.inr ⟨by rfl, rfl⟩) hHeld ?_
    try simp only [Act.put, List.setIfInBounds_toArray, List.set_cons_zero, List.set_cons_succ]
    refine takeH (i := 15) (v := undef) rfl (by kernel_rfl) (by kernel_rfl) (by kernel_rfl) (fun _ _ _ h => h) (Or.inr ⟨by rfl, rfl⟩) hHeld ?_
    try simp only [Act.put, List.setIfInBounds_toArray, List.set_cons_zero, List.set_cons_succ]
    refine takeH (i := 16) (v := undef) rfl (by kernel_rfl) (by kernel_rfl) (by kernel_rfl) (fun _ _ _ h => h) (Or.inr ⟨by rfl, rfl⟩) hHeld ?_
    try simp only [Act.put, List.setIfInBounds_toArray, List.set_cons_zero, List.set_cons_succ]
    refine takeH (i := 17) (v := ?_) rfl (by kernel_rfl) (by kernel_rfl) (by kernel_rfl) (fun _ _ _ h => h) (Or.inl ⟨by rfl, ?_⟩) hHeld ?_
    rotate_left
    · (intro w hSw; (try dsimp only at hSw); go_simp; (try with_reducible rfl))
    try simp only [Act.put, List.setIfInBounds_toArray, List.set_cons_zero, List.set_cons_succ]
    refine takeH (i := 18) (v := ?_) rfl (by kernel_rfl) (by kernel_rfl) (by kernel_rfl) (fun _ _ _ h => h) (Or.inl ⟨by rfl, ?_⟩) hHeld ?_
    rotate_left
    · (intro w hSw; (try dsimp only at hSw); go_simp; (try with_reducible rfl))
    try simp only [Act.put, List.setIfInBounds_toArray, List.set_cons_zero, List.set_cons_succ]
    refine takeH (i := 19) (v := ?_) rfl (by kernel_rfl) (by kernel_rfl) (by kernel_rfl) (fun _ _ _ h => h) (Or.inl ⟨by rfl, ?_⟩) hHeld ?_
    rotate_left
    · (intro w hSw; (try dsimp only at hSw); go_simp; (try with_reducible rfl))
    try simp only [Act.put, List.setIfInBounds_toArray, List.set_cons_zero, List.set_cons_succ]
    refine wpAnyH_done (by kernel_rfl) ?_ _
    have HO3 := Lib.hid ho3
    have HB3 := Lib.hid hB3'
    clear ho3 hB3
    go_wp2_with fail
    go_ret2
    exact ⟨v3, rfl, own_less HO3.out (by have := HB1.out.size; simp; omega), HB1.out.trans (HB3.out.mono HB1.out.size)⟩
theorem Put_any (A : Option Addr) (n c : Nat) (xs : List Rrd) (r : Rrd) (w : World) (hx : SeesR w w.heap.size A n xs) (hcap : InCap A n c) (hok : OkL xs) (hr : OkX r) (hs : SetL cmpX xs) (hn : n ≤ 1000000) :
    Calls Tryz.prog 45 #[.slice A n c, .agg #[.string r.s, .int .i64 r.t, .int .i64 r.c, .int .i64 r.l, .string r.d]] w fun e w' =>
      ∃ v, e = .returned (.tuple #[v, .bool (otherX r xs)]) ∧ w'.ownsRow w.heap.size 26 5 v (putX cmpX r xs).length (rcells (putX cmpX r xs)) ∧ Below w.heap.size w w' := by
  obtain ⟨h1, h2, h3, h4⟩ := hcap
  rcases A with _ | ad
  · have hc := h3 rfl
    subst hc
    obtain rfl : n = 0 := by omega
    obtain rfl : xs = [] := List.eq_nil_of_length_eq_zero hx.1
    exact Put_nil r w hr
  · rcases Nat.eq_zero_or_pos c with hc | hc
    · subst hc
      obtain rfl : n = 0 := by omega
      obtain rfl : xs = [] := List.eq_nil_of_length_eq_zero hx.1
      exact Put_zero ad r w hr
    · have hsp := h4 ad rfl hc
      obtain ⟨b, off, spot⟩ := ad
      simp only at hsp
      subst hsp
      cases hit : hitX cmpX r xs with
      | true => exact Put_hit b off n c xs r w hx h1 hok hr hs hn hit
      | false => exact Put_miss b off n c xs r w hx h1 hok hr hs hn hit
end Go.Proofs.YtaijcoiepfjecaaGreat
namespace Go.Proofs.YtaijcoiepfjecaaGreat
open Go.RowKit Go.Op

theorem joinS2 {A0 A2 : Option Addr} {n0 n2 c0 c2 : Nat} {l0 l2 : List Rrd} : joinS [⟨A0, n0, c0, l0⟩, ⟨A2, n2, c2, l2⟩] = l0 ++ l2 := by simp [joinS]
theorem two_drew {w W : World} {p : Nat} {A0 A2 : Option Addr} {n2 c0 c2 : Nat} {l0 l2 : List Rrd} (t : TypeId) (hB : Below w.heap.size w W) (h0 : SeesR w w.heap.size A0 p l0) (h2 : SeesR w w.heap.size A2 n2 l2) :
    SeesSl (W.alloc (.cells #[.slice A0 p c0, .slice A2 n2 c2] t)).drew (W.alloc (.cells #[.slice A0 p c0, .slice A2 n2 c2] t)).drew.heap.size (some ⟨W.heap.size, 0, none⟩) [⟨A0, p, c0, l0⟩, ⟨A2, n2, c2, l2⟩] := by
  have hw := Whole.new W t #[.slice A0 p c0, .slice A2 n2 c2]
  obtain ⟨W2, hW2⟩ : ∃ W2, W2 = W.alloc (.cells #[.slice A0 p c0, .slice A2 n2 c2] t) := ⟨_, rfl⟩
  have hsz : W2.heap.size = W.heap.size + 1 := by rw [hW2]; simp
  have hBw : Below w.heap.size w W2 := by rw [hW2]; exact hB.alloc hB.size _
  rw [← hW2] at hw ⊢
  have e : W2.drew.heap.size = W2.heap.size := rfl
  rw [e]
  refine SeesSl.keep (w := W2) ⟨⟨W.heap.size, 0, rfl, by omega, fun j s hs => ?_⟩, fun s hs => ?_⟩ (Below.refl _ _).drew
  · match j, hs with
    | 0, hs => simp at hs; subst hs; exact hw.cell 0
    | 1, hs => simp at hs; subst hs; exact hw.cell 1
    | j + 2, hs => simp at hs
  · simp only [List.mem_cons, List.not_mem_nil, or_false] at hs
    rcases hs with rfl | rfl
    · exact (h0.keep hBw).more hBw.size
    · exact (h2.keep hBw).more hBw.size
theorem below_one {W V : World} {o1 : Obj} (h : Below (W.alloc o1).drew.heap.size (W.alloc o1).drew V) : Below W.heap.size W V := by
  have h1 : Below W.heap.size W (W.alloc o1).drew := ((Below.refl _ _).alloc (Nat.le_refl _) o1).drew
  exact h1.trans (h.mono h1.size)

set_option maxHeartbeats 8000000 in
set_option maxRecDepth 20000 in
theorem Drop_hit (b off n c : Nat) (xs : List Rrd) (r : Rrd) (w : World) (hx : SeesR w w.heap.size (some ⟨b, off, none⟩) n xs) (hcap : n ≤ c) (hok : OkL xs) (hr : OkX r) (hs : SetL cmpX xs) (hn : n ≤ 1000000) (hit : hitX cmpX r xs = true) :
    Calls Tryz.prog 44 #[.slice (some ⟨b, off, none⟩) n c, .agg #[.string r.s, .int .i64 r.t, .int .i64 r.c, .int .i64 r.l, .string r.d]] w fun e w' =>
      ∃ v, e = .returned (.tuple #[v, .bool true]) ∧ w'.ownsRow w.heap.size 26 5 v (dropX cmpX r xs).length (rcells (dropX cmpX r xs)) ∧ Below w.heap.size w w' := by
  obtain ⟨p, hp⟩ : ∃ p, p = posX cmpX r xs := ⟨_, rfl⟩
  have hpn : p < n := by have := hitX_lt r xs hit; rw [hx.1] at this; omega
  have hput : dropX cmpX r xs = xs.take p ++ xs.drop (p + 1) := by rw [dropX_is, hit, ← hp]; rfl
  have HB0 := Lib.hid (show Below w.heap.size w (w.alloc (.cells #[.string r.s, .int .i64 r.t, .int .i64 r.c, .int .i64 r.l, .string r.d] 26)) from (Below.refl _ _).alloc (Nat.le_refl _) _)
  obtain ⟨p0, p1, p2, p3, p4⟩ := box_five w r
  have HX0 := Lib.hid hx
  have HX := Lib.hid ((hx.keep HB0.out).more HB0.out.size)
  have HOK := Lib.hid hok
  have HR := Lib.hid hr
  have HS := Lib.hid hs
  have HIT := Lib.hid hit
  have HP := Lib.hid hp
  have HPUT := Lib.hid hput
  have g0 : (0 : Int) ≤ (p : Int) := by omega
  have g1 : (p : Int) < (n : Int) := by omega
  have g2 : (p : Int) ≤ (n : Int) := by omega
  have g3 : (n : Int) ≤ (c : Int) := by omega
  have g4 : (p : Int) ≤ (c : Int) := by omega
  have g5 : (p : Int) + 1 ≤ (n : Int) := by omega
  have g6 : (0 : Int) ≤ (p : Int) + 1 := by omega
  have g7 : (p : Int) ≤ (p : Int) + 1 := by omega
  have g8 : IntKind.i64.wrap ((p : Int) + 1) = (p : Int) + 1 := by simp [IntKind.wrap, IntKind.bits, IntKind.signed]; omega
  have g9 : ((p : Int) + 1).toNat = p + 1 := by omega
  have HT := Lib.hid (show SeesR w w.heap.size (some ⟨b, off, none⟩) p (xs.take p) from HX0.out.take (by omega))
  have HLEN := Lib.hid (show (xs.take p ++ xs.drop (p + 1)).length ≤ 1073741824 by
    have := HX0.out.1
    simp
    omega)
  clear hx hok hr hs hit hp hput
  by_cases hcc : c = p + 1
  · subst hcc
    have H2 := Lib.hid (show SeesR w w.heap.size (some ⟨b, off, none⟩) 0 (xs.drop (p + 1)) from seesR_none rfl (by rw [HX0.out.1]; omega))
    go_enter Tryz.func44, Tryz.ntmps44
    go_wp2_with fail
    refine (position_any _ n _ xs r _ HX.out HOK.out HR.out HS.out (by omega)).mono ?_
    rw [HIT.out, ← HP.out]
    rintro e w1 ⟨rfl, hB⟩
    have HB1 := Lib.hid (HB0.out.trans (hB.mono HB0.out.size))
    clear hB p0 p1 p2 p3 p4
    go_wp2_with fail
    go_region_with (first | (go_at_call 39; (refine (Concat_any _ 2 _ _ _ (two_drew _ HB1.out HT.out H2.out) rfl (by decide) (by rw [joinS2]; exact HLEN.out)).mono ?_; rw [joinS2]; rintro e w3 ⟨v3, rfl, ho3, hB3⟩; have hB3' := below_one hB3)))
    all_goals (
      have HO3 := Lib.hid ho3
      have HB3 := Lib.hid hB3'
      clear ho3 hB3
      go_wp2_with fail
      go_ret2
      exact ⟨v3, rfl, by rw [HPUT.out]; exact own_less HO3.out (by have := HB1.out.size; simp; omega), HB1.out.trans (HB3.out.mono HB1.out.size)⟩)
  · have H2 := Lib.hid (show SeesR w w.heap.size (some ⟨b, off + (p + 1) * 5, none⟩) (n - (p + 1)) (xs.drop (p + 1)) from HX0.out.drop (by omega))
    go_enter Tryz.func44, Tryz.ntmps44
    go_wp2_with fail
    refine (position_any _ n _ xs r _ HX.out HOK.out HR.out HS.out (by omega)).mono ?_
    rw [HIT.out, ← HP.out]
    rintro e w1 ⟨rfl, hB⟩
    have HB1 := Lib.hid (HB0.out.trans (hB.mono HB0.out.size))
    clear hB p0 p1 p2 p3 p4
    go_wp2_with fail
    go_region_with (first | (go_at_call 39; (refine (Concat_any _ 2 _ _ _ (two_drew _ HB1.out HT.out H2.out) rfl (by decide) (by rw [joinS2]; exact HLEN.out)).mono ?_; rw [joinS2]; rintro e w3 ⟨v3, rfl, ho3, hB3⟩; have hB3' := below_one hB3)))
    all_goals (
      have HO3 := Lib.hid ho3
      have HB3 := Lib.hid hB3'
      clear ho3 hB3
      go_wp2_with fail
      go_ret2
      exact ⟨v3, rfl, by rw [HPUT.out]; exact own_less HO3.out (by have := HB1.out.size; simp; omega), HB1.out.trans (HB3.out.mono HB1.out.size)⟩)

set_option maxHeartbeats 8000000 in
set_option maxRecDepth 20000 in
theorem Drop_miss (A : Option Addr) (n c : Nat) (xs : List Rrd) (r : Rrd) (w : World) (hx : SeesR w w.heap.size A n xs) (hok : OkL xs) (hr : OkX r) (hs : SetL cmpX xs) (hn : n ≤ 1000000) (hit : hitX cmpX r xs = false) :
    Calls Tryz.prog 44 #[.slice A n c, .agg #[.string r.s, .int .i64 r.t, .int .i64 r.c, .int .i64 r.l, .string r.d]] w fun e w' =>
      ∃ v, e = .returned (.tuple #[v, .bool false]) ∧ w'.ownsRow w.heap.size 26 5 v (dropX cmpX r xs).length (rcells (dropX cmpX r xs)) ∧ Below w.heap.size w w' := by
  have HB0 := Lib.hid (show Below w.heap.size w (w.alloc (.cells #[.string r.s, .int .i64 r.t, .int .i64 r.c, .int .i64 r.l, .string r.d] 26)) from (Below.refl _ _).alloc (Nat.le_refl _) _)
  obtain ⟨p0, p1, p2, p3, p4⟩ := box_five w r
  have HX0 := Lib.hid hx
  have HX := Lib.hid ((hx.keep HB0.out).more HB0.out.size)
  have HOK := Lib.hid hok
  have HR := Lib.hid hr
  have HS := Lib.hid hs
  have HIT := Lib.hid hit
  have HNN := Lib.hid (show n ≤ 1073741824 by omega)
  have HPUT := Lib.hid (dropX_no (cmp := cmpX) r xs hit)
  clear hx hok hr hs hit
  go_enter Tryz.func44, Tryz.ntmps44
  go_wp2_with fail
  refine (position_any _ n _ xs r _ HX.out HOK.out HR.out HS.out HNN.out).mono ?_
  rw [HIT.out]
  rintro e w1 ⟨rfl, hB⟩
  have HB1 := Lib.hid (HB0.out.trans (hB.mono HB0.out.size))
  have HX1 := Lib.hid ((HX0.out.keep HB1.out).more HB1.out.size)
  clear hB p0 p1 p2 p3 p4
  go_wp2_with fail
  refine (Clone_any _ _ _ _ _ HX1.out HNN.out).mono ?_
  rintro e w3 ⟨v3, rfl, ho3, hB3⟩
  have HO3 := Lib.hid ho3
  have HB3 := Lib.hid hB3
  clear ho3 hB3
  go_wp2_with fail
  go_ret2
  exact ⟨v3, rfl, by rw [HPUT.out, HX0.out.1]; exact own_less HO3.out HB1.out.size, HB1.out.trans (HB3.out.mono HB1.out.size)⟩
theorem Drop_any (A : Option Addr) (n c : Nat) (xs : List Rrd) (r : Rrd) (w : World) (hx : SeesR w w.heap.size A n xs) (hcap : InCap A n c) (hok : OkL xs) (hr : OkX r) (hs : SetL cmpX xs) (hn : n ≤ 1000000) :
    Calls Tryz.prog 44 #[.slice A n c, .agg #[.string r.s, .int .i64 r.t, .int .i64 r.c, .int .i64 r.l, .string r.d]] w fun e w' =>
      ∃ v, e = .returned (.tuple #[v, .bool (hitX cmpX r xs)]) ∧ w'.ownsRow w.heap.size 26 5 v (dropX cmpX r xs).length (rcells (dropX cmpX r xs)) ∧ Below w.heap.size w w' := by
  obtain ⟨h1, h2, h3, h4⟩ := hcap
  cases hit : hitX cmpX r xs with
  | true =>
    have hlt := hitX_lt r xs hit
    rw [hx.1] at hlt
    rcases A with _ | ad
    · obtain ⟨b, off, e, _⟩ := hx.2 (by omega)
      cases e
    · have hsp := h4 ad rfl (by omega)
      obtain ⟨b, off, spot⟩ := ad
      simp only at hsp
      subst hsp
      exact Drop_hit b off n c xs r w hx h1 hok hr hs hn hit
  | false => exact Drop_miss A n c xs r w hx hok hr hs hn hit

/-! ### Find -/
theorem below5 (V : World) (p : Nat) (s d : ByteArray) (t c l : Int) : Below p V (((((V.setCell ⟨p, 0, none⟩ (.string s)).setCell ⟨p, 1, none⟩ (.int .i64 t)).setCell ⟨p, 2, none⟩ (.int .i64 c)).setCell ⟨p, 3, none⟩ (.int .i64 l)).setCell ⟨p, 4, none⟩ (.string d)) :=
  (((((Below.refl p V).setCell (p := ⟨p, 0, none⟩) (Nat.le_refl p) (.string s)).setCell (p := ⟨p, 1, none⟩) (Nat.le_refl p) (.int .i64 t)).setCell (p := ⟨p, 2, none⟩) (Nat.le_refl p) (.int .i64 c)).setCell (p := ⟨p, 3, none⟩) (Nat.le_refl p) (.int .i64 l)).setCell (p := ⟨p, 4, none⟩) (Nat.le_refl p) (.string d)
theorem rr_size : (Tryz.prog.info? rrT).map (·.size) = some 5 := by kernel_rfl
theorem ret52 {fn : Func} {R : Ending → World → Prop} {a : Act} {w : World} {p u r : Nat} {a0 a1 a2 a3 a4 x : Value} (hf : fn.results = #[.cell p rrT, .tmp u]) (hd : a.defers = []) (hp : a.tmps.getD p undef = .pointer (some ⟨r, 0, none⟩)) (hx : a.tmps.getD u undef = x)
    (h : Whole w r rrT #[a0, a1, a2, a3, a4]) (hR : R (.returned (.tuple #[.agg #[a0, a1, a2, a3, a4], x])) w) : bodyPost Tryz.prog fn R .ret a w := by
  refine bodyPost_ret ?_ hd hR
  have hp' : a.tmps[p]?.getD undef = .pointer (some ⟨r, 0, none⟩) := by simpa using hp
  have hx' : a.tmps[u]?.getD undef = x := by simpa using hx
  simp [results, hf, hp', hx', asAddr, run_loadVar_row w r rrT _ _ (0, 0) _ h Tryz.underlying26 rfl rr_size, Result.andThen]
theorem five_put {w : World} {r t : Nat} {x0 x1 x2 x3 x4 : Value} (h : Whole w r t #[x0, x1, x2, x3, x4]) (a0 a1 a2 a3 a4 : Value) :
    Whole (((((w.setCell ⟨r, 0, none⟩ a0).setCell ⟨r, 1, none⟩ a1).setCell ⟨r, 2, none⟩ a2).setCell ⟨r, 3, none⟩ a3).setCell ⟨r, 4, none⟩ a4) r t #[a0, a1, a2, a3, a4] := by
  have := ((((h.put 0 a0).put 1 a1).put 2 a2).put 3 a3).put 4 a4
  simpa using this
def zeroR : Rrd := ⟨⟨#[]⟩, 0, 0, 0, ⟨#[]⟩⟩
end Go.Proofs.YtaijcoiepfjecaaGreat
