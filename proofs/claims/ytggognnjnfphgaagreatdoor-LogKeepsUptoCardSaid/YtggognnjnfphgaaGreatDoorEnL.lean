/- EnL: texts EntL of our own, joined. No statement of the seat is proved here. -/
import Derived.Test.YtggognnjnfphgaaGreatDoorReQ
import Derived.Test.YtggognnjnfphgaaGreatDoorShl
import Derived.Test.YtggognnjnfphgaaGreatDoorOcJ
import Derived.Lib.SmallJoins
import Derived.Deep.Fields
import Derived.Deep.AppendSrc
import Derived.Deep.RegionHeld3
import Derived.Lib.SliceRun
namespace Go.Proofs.YtggognnjnfphgaaGreatDoor
open Go.RowKit Go.Op

theorem SeesR.more {W : World} {B B' n : Nat} {A : Option Addr} {xs : List Rrd} (h : SeesR W B A n xs) (hB : B ≤ B') : SeesR W B' A n xs :=
  ⟨h.1, fun hn => by
    obtain ⟨b, off, e, hlt, hc⟩ := h.2 hn
    exact ⟨b, off, e, Nat.lt_of_lt_of_le hlt hB, hc⟩⟩
theorem rrd_name (x : Rrd) : x.s = mk x.toRec.n := (mk_toList x.s).symm
theorem rrd_data (x : Rrd) : x.d = mk x.toRec.d := (mk_toList x.d).symm
/-- all elements ahead of k are right -/
def Upto {α : Type} (f : α → Bool) (xs : List α) (k : Nat) : Prop := ∀ x ∈ xs.take k, f x = true
theorem Upto.zero {α : Type} (f : α → Bool) (xs : List α) : Upto f xs 0 := fun x h => by simp at h
theorem Upto.succ {α : Type} {f : α → Bool} {xs : List α} {k : Nat} {x : α} (h : Upto f xs k) (hx : xs[k]? = some x) (hf : f x = true) : Upto f xs (k + 1) := by
  intro y hy
  rw [List.take_add_one, hx] at hy
  rcases List.mem_append.1 hy with hy | hy
  · exact h y hy
  · obtain rfl : y = x := by simpa using hy
    exact hf
theorem Upto.all {α : Type} {f : α → Bool} {xs : List α} (h : Upto f xs xs.length) : xs.all f = true := by
  rw [List.all_eq_true]
  intro x hx
  exact h x (by rw [List.take_length]; exact hx)
theorem not_all {α : Type} {f : α → Bool} {xs : List α} {k : Nat} {x : α} (hx : xs[k]? = some x) (hf : f x = false) : xs.all f = false := by
  rw [List.all_eq_false]
  exact ⟨x, List.mem_of_getElem? hx, by rw [hf]; simp⟩
def rcells (xs : List Rrd) : List Value := xs.flatMap fun x => [.string x.s, .int .i64 x.t, .int .i64 x.c, .int .i64 x.l, .string x.d]
theorem rcells_nil : rcells [] = [] := rfl
theorem rcells_cons (x : Rrd) (xs : List Rrd) : rcells (x :: xs) = [.string x.s, .int .i64 x.t, .int .i64 x.c, .int .i64 x.l, .string x.d] ++ rcells xs := by simp [rcells]
theorem rcells_append (xs ys : List Rrd) : rcells (xs ++ ys) = rcells xs ++ rcells ys := by simp [rcells]
theorem rcells_len (xs : List Rrd) : (rcells xs).length = xs.length * 5 := by
  induction xs with
  | nil => rfl
  | cons x xs ih => rw [rcells_cons, List.length_append, ih, List.length_cons]; simp; omega
theorem rcells_one (xs : List Rrd) : ∀ u ∈ rcells xs, u.oneCell' = true := by
  intro u hu
  simp only [rcells, List.mem_flatMap] at hu
  obtain ⟨k, _, hu⟩ := hu
  simp only [List.mem_cons, List.not_mem_nil, or_false] at hu
  rcases hu with rfl | rfl | rfl | rfl | rfl <;> rfl
/-- the five cells of element j -/
theorem rcells_at : ∀ (xs : List Rrd) (j : Nat) (x : Rrd), xs[j]? = some x → (rcells xs)[j * 5]? = some (.string x.s) ∧ (rcells xs)[j * 5 + 1]? = some (.int .i64 x.t) ∧ (rcells xs)[j * 5 + 2]? = some (.int .i64 x.c) ∧ (rcells xs)[j * 5 + 3]? = some (.int .i64 x.l) ∧ (rcells xs)[j * 5 + 4]? = some (.string x.d) := by
  intro xs
  induction xs with
  | nil => intro j x h; simp at h
  | cons y xs ih =>
    intro j x h
    rw [rcells_cons]
    cases j with
    | zero => simp only [List.getElem?_cons_zero, Option.some.injEq] at h; subst h; exact ⟨rfl, rfl, rfl, rfl, rfl⟩
    | succ j =>
      rw [List.getElem?_cons_succ] at h
      obtain ⟨a0, a1, a2, a3, a4⟩ := ih j x h
      have e : ∀ r, ([Value.string y.s, .int .i64 y.t, .int .i64 y.c, .int .i64 y.l, .string y.d] ++ rcells xs)[(j + 1) * 5 + r]? = (rcells xs)[j * 5 + r]? := by
        intro r
        rw [List.getElem?_append_right (by simp; omega)]
        congr 1
        simp; omega
      exact ⟨(e 0).trans a0, (e 1).trans a1, (e 2).trans a2, (e 3).trans a3, (e 4).trans a4⟩
theorem SeesR.cells {w : World} {B : Nat} {A : Option Addr} {n : Nat} {xs : List Rrd} (h : SeesR w B A n xs) (hn : 0 < n) : ∃ b off, A = some ⟨b, off, none⟩ ∧ b < B ∧ ∀ j u, (rcells xs)[j]? = some u → w.cell? ⟨b, off + j, none⟩ = some u := by
  obtain ⟨hl, h2⟩ := h
  obtain ⟨b, off, e, hb, hc⟩ := h2 hn
  refine ⟨b, off, e, hb, fun j u hu => ?_⟩
  have hj : j < (rcells xs).length := (List.getElem?_eq_some_iff.1 hu).1
  rw [rcells_len] at hj
  obtain ⟨x, hx⟩ : ∃ x, xs[j / 5]? = some x := ⟨xs[j / 5]'(by omega), List.getElem?_eq_getElem (by omega)⟩
  obtain ⟨a0, a1, a2, a3, a4⟩ := rcells_at xs (j / 5) x hx
  obtain ⟨c0, c1, c2, c3, c4⟩ := hc (j / 5) x hx
  have hr : j % 5 < 5 := Nat.mod_lt _ (by omega)
  have hj5 : j = j / 5 * 5 + j % 5 := by omega
  obtain ⟨r, hrr⟩ : ∃ r, r = j % 5 := ⟨_, rfl⟩
  rw [← hrr] at hr hj5
  rw [hj5] at hu ⊢
  rcases (show r = 0 ∨ r = 1 ∨ r = 2 ∨ r = 3 ∨ r = 4 by omega) with rfl | rfl | rfl | rfl | rfl
  · rw [Nat.add_zero] at hu ⊢; rw [a0] at hu; injection hu with hu; subst hu; exact c0
  · rw [a1] at hu; injection hu with hu; subst hu; exact c1
  · rw [a2] at hu; injection hu with hu; subst hu; exact c2
  · rw [a3] at hu; injection hu with hu; subst hu; exact c3
  · rw [a4] at hu; injection hu with hu; subst hu; exact c4
/-- a row of one's own, seen as records -/
theorem SeesR.own {w : World} {base : Nat} {v : Value} {n : Nat} {xs : List Rrd} (h : w.ownsRow base 76 5 v n (rcells xs)) :
    ∃ A c, v = .slice A n c ∧ SeesR w w.heap.size A n xs := by
  have hl : xs.length = n := by have := h.1; rw [rcells_len] at this; omega
  rcases h.2 with ⟨rfl, rfl⟩ | ⟨g, cap, cur, rfl, hb, hg, h1, h2, h3, h4⟩
  · exact ⟨none, 0, rfl, hl, fun h => absurd h (by omega)⟩
  · refine ⟨some ⟨g, 0, none⟩, cap, rfl, hl, fun _ => ⟨g, 0, rfl, (Array.getElem?_eq_some_iff.1 hg).1, fun j x hx => ?_⟩⟩
    obtain ⟨a0, a1, a2, a3, a4⟩ := rcells_at xs j x hx
    have hj : j < n := by rw [← hl]; exact (List.getElem?_eq_some_iff.1 hx).1
    rw [Nat.zero_add]
    exact ⟨(h.cellAt _ (by omega)).trans a0, (h.cellAt _ (by omega)).trans a1, (h.cellAt _ (by omega)).trans a2, (h.cellAt _ (by omega)).trans a3, (h.cellAt _ (by omega)).trans a4⟩

theorem rec_info : (Tryz.prog.info? 76).map (fun i => (i.zero, i.size, i.bytes)) = some (some (.agg #[.string ⟨#[]⟩, .int .i64 0, .int .i64 0, .int .i64 0, .string ⟨#[]⟩]), 5, 56) := by kernel_rfl
set_option maxRecDepth 20000 in
/-- records appended to a row of one's own that is not nil: one step of a region -/
theorem step_append_R {w : World} {ops : Array Oper} {o : Oper} {a : Act} {K : Act → World → Prop} {Q : Exit → Act → World → Prop} {E : Prop} (hgd : o.guard = none) (s x : Operand)
    (ho : o.op = .call { callee := .builtin .append, args := #[s, x], argTypes := #[43, 43] }) (base : Nat) (v : Value) (n : Nat) (xs : List Value) (hs : a.eval s = v) (hown : w.ownsRow base 76 5 v n xs) (hv : v ≠ .slice none 0 0)
    (B : Nat) (A : Option Addr) (m c : Nat) (KL : List Rrd) (hx : a.eval x = .slice A m c) (hr : SeesR w B A m KL) (N : Nat) (hN : n + m = N) (ys : List Value) (hys : xs ++ rcells KL = ys) (h63 : N ≤ 1073741824) (hbase : base ≤ w.heap.size)
    (h : ∀ v' w', w'.ownsRow base 76 5 v' N ys → w.grownBy w' v.ownBlock → v' ≠ .slice none 0 0 → K (a.put o.dst v') w') : if Region.wanted o (yielded ops a.tmps) = true then Oper.wp Tryz.prog o a w K Q else E := by
  have hw : Region.wanted o (yielded ops a.tmps) = true := by simp [Region.wanted, hgd]
  rw [if_pos hw]
  subst hN
  subst hys
  obtain ⟨i, hi, hz0, hz1, hz2⟩ := info_parts rec_info
  have hkl := rcells_len KL
  rw [hr.1] at hkl
  rcases A with _ | ad
  · have hm : m = 0 := by
      rcases Nat.eq_zero_or_pos m with h0 | h0
      · exact h0
      · obtain ⟨b, off, e, _⟩ := hr.2 h0
        cases e
    subst hm
    have hn : rcells KL = [] := List.eq_nil_of_length_eq_zero (by omega)
    rw [hn, List.append_nil] at h
    rcases hown.2 with ⟨rfl, _⟩ | ⟨g, cap, cur, rfl, _, _, hnc, _⟩
    · exact absurd rfl hv
    · have hrun := run_append_room_src (P := Tryz.prog) w 43 43 o.type 76 i Tryz.underlying43 hi g 0 n cap (.slice none 0 c) 0 [] (Src.ofNil w Tryz.underlying43 c) (by omega) (by simp) (by simp)
      have hsame : w.setCells g (0 + n * i.size) [] = w := rfl
      rw [hsame] at hrun
      unfold Oper.wp
      simp [execOp, ho, resolve, invoke, builtin, hs, hx, hrun, Result.andThen]
      exact h _ _ hown (World.grownBy.refl w _) hv
  · have hcells : ∀ j u, (rcells KL)[j]? = some u → w.cell? (ad.add j) = some u := by
      intro j u hu
      have hj : j < (rcells KL).length := (List.getElem?_eq_some_iff.1 hu).1
      obtain ⟨b, off, e, _, hc⟩ := hr.cells (by omega)
      injection e with e
      subst e
      rw [show (⟨b, off, none⟩ : Addr).add j = ⟨b, off + j, none⟩ from by unfold Addr.add; split <;> simp_all]
      exact hc j u hu
    refine wp_append_own w s x 43 ho base 76 i (.agg #[.string ⟨#[]⟩, .int .i64 0, .int .i64 0, .int .i64 0, .string ⟨#[]⟩]) 5 56 Tryz.underlying43 hi hz0 hz1 hz2 rfl (by decide) v n xs hs hown ad m c (rcells KL) hx hkl hcells (rcells_one KL) (by unfold maxLen; omega) (by omega) hbase ?_
    intro v' w' h1 h2 h3
    exact h v' w' h1 h2 fun e => hv (h3.1 e).1
theorem own_noneR (w : World) (base : Nat) (hb : base ≤ w.heap.size) : (w.alloc (.cells #[] 76)).ownsRow base 76 5 (.slice (some ⟨w.heap.size, 0, none⟩) 0 0) 0 [] :=
  ⟨rfl, .inr ⟨w.heap.size, 0, #[], rfl, hb, heap_alloc_new w _, Nat.le_refl _, by unfold maxLen; omega, rfl, rfl⟩⟩

set_option maxHeartbeats 8000000 in
set_option maxRecDepth 20000 in
theorem SameR_yes (A A' : Option Addr) (n c n' c' : Nat) (xs : List Rrd) (w : World) (hx : SeesR w w.heap.size A n xs) (hy : SeesR w w.heap.size A' n' xs) (hn : n ≤ 1073741824) :
    Calls Tryz.prog 59 #[.slice A n c, .slice A' n' c'] w fun e w' => e = .returned (.bool true) ∧ Below w.heap.size w w' := by
  obtain rfl : n = n' := hx.1.symm.trans hy.1
  have HX := Lib.hid hx
  have HY := Lib.hid hy
  clear hx hy
  go_enter Tryz.func59, Tryz.ntmps59
  go_wp2_with fail
  go_loopw [5] (fun i wr => ∃ k : Nat, k ≤ n ∧ i = .int .i64 (k : Nat) ∧ Below w.heap.size w wr) (fun i _ => n - (intOf i).toNat)
  case atStart => exact ⟨0, Nat.zero_le _, rfl, Below.refl _ _⟩
  case round =>
    obtain ⟨k, hk, rfl, hB⟩ := hrel
    have HB := Lib.hid hB
    by_cases hkn : k < n
    · have g2 : (k : Int) < (n : Int) := by omega
      have g0 : (0 : Int) ≤ (k : Int) := by omega
      obtain ⟨b, off, x, rfl, hb, hxk, ht⟩ := (HX.out.keep hB).at hkn
      obtain ⟨b', off', x', rfl, hb', hxk', ht'⟩ := (HY.out.keep hB).at hkn
      obtain rfl : x = x' := by rw [hxk] at hxk'; exact Option.some.inj hxk'
      obtain ⟨x0, x1, x2, x3, x4⟩ := ht
      obtain ⟨y0, y1, y2, y3, y4⟩ := ht'
      clear hB hxk hxk'
      go_wp2_with fail
      go_quiet (fail)
      go_wp2_with fail
      go_roundw
      case rel => exact ⟨k + 1, by omega, by go_num, below_drewN HB.out _⟩
      case measure => simp [intOf]; omega
    · obtain rfl : k = n := by omega
      clear hB
      go_wp2_with fail
      go_ret
      exact ⟨rfl, HB.out⟩

/-! ### a drawn region, by hand -/
theorem region_split {id : Nat} {l : Array Oper} {Q : Exit → Act → World → Prop} {a A : Act} {w : World} (R : World → Prop) (h1 : (Code.region id l true).wp Tryz.prog (fun e a' w' => match e with | .normal => a' = A ∧ R w' | _ => False) a w) (h2 : ∀ w', R w' → Q .normal A w') : (Code.region id l true).wp Tryz.prog Q a w :=
  Code.wp_mono (fun e a' w' h => by
    cases e with
    | normal => obtain ⟨ha, hr⟩ := h; subst ha; exact h2 w' hr
    | _ => exact h.elim) h1
section
variable {P : Program} {ops : Array Oper} {Q : Exit → Act → World → Prop} {md : Region.Mode} {S : World → Prop}
/-- wpAnyH_take, the operation taken apart -/
theorem takeH {i : Nat} {d : Option Tmp} {op : Op} {ty : TypeId} {ps : String} {af : Array Edge} {gd : Option (Nat × Bool)} {v : Value} {fuel : Nat} {listed : Array Bool} {a : Act} {w : World} (hi : ops[i]? = some (Oper.mk d op ty ps af gd))
    (hs : Region.noSelect ops = true) (hf : Region.free md ops listed i = true) (hr : (Region.ready md ops listed).contains i = true)
    (hQ : ∀ c a w, Q (.panic c) (a.put d v) w → Q (.panic c) a w) (hy : YieldsIf P ops S (Oper.mk d op ty ps af gd) v a) (hS : S w)
    (h : wpAnyH P md ops Q S fuel (listed.setIfInBounds i true) (a.put d v) w) : wpAnyH P md ops Q S (fuel + 1) listed a w :=
  wpAnyH_take hi hs hf hr hQ hy hS h
/-- AllReadyH.cons, the operation taken apart -/
theorem consH {fuel : Nat} {listed : Array Bool} {a : Act} {w : World} {i : Nat} {d : Option Tmp} {op : Op} {ty : TypeId} {ps : String} {af : Array Edge} {gd : Option (Nat × Bool)} {rs : List Nat} (ho : ops[i]? = some (Oper.mk d op ty ps af gd))
    (h : ∀ K' : Act → World → Prop, Shut (∀ a w, S w → (S w → wpAnyH P md ops Q S fuel (listed.setIfInBounds i true) a w) → K' a w) → if Region.wanted (Oper.mk d op ty ps af gd) (yielded ops a.tmps) = true then Oper.wp P (Oper.mk d op ty ps af gd) a w K' Q else K' (a.put d undef) w)
    (hs : AllReadyH P md ops Q S fuel listed a w rs) : AllReadyH P md ops Q S fuel listed a w (i :: rs) := AllReadyH.cons ho h hs
end
theorem own_block_ge {w : World} {base : Nat} {e : TypeId} {k : Nat} {v : Value} {n : Nat} {xs : List Value} (h : w.ownsRow base e k v n xs) : ∀ j, v.ownBlock = some j → base ≤ j := by
  intro j hj
  rcases h.2 with ⟨rfl, _⟩ | ⟨g, cap, cur, rfl, hb, _⟩
  · cases hj
  · have : g = j := by simpa [Value.ownBlock] using hj
    omega
/-- nothing appended to nil -/
theorem run_nil_R (w : World) (ty : TypeId) (c : Nat) : (Builtin.append_ #[43, 43] ty #[.slice none 0 0, .slice none 0 c]).run Tryz.prog w = .ok (.slice none 0 0) w := by
  obtain ⟨i, hi, hz0, hz1, hz2⟩ := info_parts rec_info
  have hs := Src.ofNil (P := Tryz.prog) (size := i.size) w Tryz.underlying43 c
  have hl := hs.len
  have hc := hs.cells
  have hu := run_underlying (P := Tryz.prog) Tryz.underlying43
  simp [Builtin.append_, hu, sizeOf, typeInfo, hi, hl, hc]
set_option maxRecDepth 20000 in
/-- records appended to a row of one's own -/
theorem run_append_R {w : World} (ty : TypeId) {base : Nat} {v : Value} {n : Nat} {xs : List Rrd} (hown : w.ownsRow base 76 5 v n (rcells xs)) {B : Nat} {A : Option Addr} {m : Nat} (c : Nat) {ys : List Rrd} (hr : SeesR w B A m ys)
    (h63 : n + m ≤ 1073741824) (hbase : base ≤ w.heap.size) :
    ∃ v' w', (Builtin.append_ #[43, 43] ty #[v, .slice A m c]).run Tryz.prog w = .ok v' w' ∧ w'.ownsRow base 76 5 v' (n + m) (rcells (xs ++ ys)) ∧ w.grownBy w' v.ownBlock := by
  obtain ⟨i, hi, hz0, hz1, hz2⟩ := info_parts rec_info
  have hkl := rcells_len ys
  rw [hr.1] at hkl
  rcases A with _ | ad
  · have hm : m = 0 := by
      rcases Nat.eq_zero_or_pos m with h0 | h0
      · exact h0
      · obtain ⟨b, off, e, _⟩ := hr.2 h0
        cases e
    subst hm
    obtain rfl : ys = [] := List.eq_nil_of_length_eq_zero hr.1
    rw [List.append_nil, Nat.add_zero]
    have hs := Src.ofNil (P := Tryz.prog) (size := i.size) w Tryz.underlying43 c
    rcases hown.2 with ⟨rfl, h0⟩ | ⟨g, cap, cur, rfl, h1, h2, h3, h4⟩
    · subst h0
      exact ⟨_, _, run_nil_R w ty c, hown, World.grownBy.refl w _⟩
    · have hrun := run_append_room_src (P := Tryz.prog) w 43 43 ty 76 i Tryz.underlying43 hi g 0 n cap (.slice none 0 c) 0 [] hs h3 (by simp) (by simp)
      have hsame : w.setCells g (0 + n * i.size) [] = w := rfl
      rw [hsame] at hrun
      exact ⟨_, _, hrun, hown, World.grownBy.refl w _⟩
  · have hcells : ∀ j u, (rcells ys)[j]? = some u → w.cell? (ad.add j) = some u := by
      intro j u hu
      have hj : j < (rcells ys).length := (List.getElem?_eq_some_iff.1 hu).1
      obtain ⟨b, off, e, _, hc⟩ := hr.cells (by omega)
      injection e with e
      subst e
      rw [show (⟨b, off, none⟩ : Addr).add j = ⟨b, off + j, none⟩ from by unfold Addr.add; split <;> simp_all]
      exact hc j u hu
    obtain ⟨v', w', h1, h2, h3, _⟩ := run_append_own (P := Tryz.prog) w base 43 ty 76 i (.agg #[.string ⟨#[]⟩, .int .i64 0, .int .i64 0, .int .i64 0, .string ⟨#[]⟩]) 5 56 Tryz.underlying43 hi hz0 hz1 hz2 rfl (by decide) v n (rcells xs) hown ad m c (rcells ys) hkl hcells (rcells_one ys) (by unfold maxLen; omega) (by omega) hbase
    exact ⟨v', w', h1, by rw [rcells_append]; exact h2, h3⟩
theorem wp_append_R {w : World} {o : Oper} {a : Act} {K : Act → World → Prop} {Q : Exit → Act → World → Prop} (s x : Operand)
    (ho : o.op = .call { callee := .builtin .append, args := #[s, x], argTypes := #[43, 43] }) (base : Nat) (v : Value) (n : Nat) (xs : List Rrd) (hs : a.eval s = v) (hown : w.ownsRow base 76 5 v n (rcells xs))
    (B : Nat) (A : Option Addr) (m c : Nat) (ys : List Rrd) (hx : a.eval x = .slice A m c) (hr : SeesR w B A m ys) (h63 : n + m ≤ 1073741824) (hbase : base ≤ w.heap.size)
    (h : ∀ v' w', w'.ownsRow base 76 5 v' (n + m) (rcells (xs ++ ys)) → w.grownBy w' v.ownBlock → K (a.put o.dst v') w') : o.wp Tryz.prog a w K Q := by
  obtain ⟨v', w', hrun, h1, h2⟩ := run_append_R o.type hown c hr h63 hbase
  unfold Oper.wp execOp
  simp only [ho, resolve, invoke, builtin, Sem.run_bind, Sem.run_pure, Result.andThen_ok, List.map_toArray, List.map_cons, List.map_nil, hs, hx, hrun]
  exact h v' w' h1 h2
theorem wpList_append_R {w : World} {ops : Array Oper} {rest : List Oper} {o : Oper} {a : Act} {Q : Exit → Act → World → Prop} (hgd : o.guard = none) (s x : Operand)
    (ho : o.op = .call { callee := .builtin .append, args := #[s, x], argTypes := #[43, 43] }) (base : Nat) (v : Value) (n : Nat) (xs : List Rrd) (hs : a.eval s = v) (hown : w.ownsRow base 76 5 v n (rcells xs))
    (B : Nat) (A : Option Addr) (m c : Nat) (ys : List Rrd) (hx : a.eval x = .slice A m c) (hr : SeesR w B A m ys) (h63 : n + m ≤ 1073741824) (hbase : base ≤ w.heap.size)
    (h : ∀ v' w', w'.ownsRow base 76 5 v' (n + m) (rcells (xs ++ ys)) → w.grownBy w' v.ownBlock → wpList Tryz.prog ops Q rest (a.put o.dst v') w') : wpList Tryz.prog ops Q (o :: rest) a w :=
  wpList_plain hgd fun _ hK => wp_append_R s x ho base v n xs hs hown B A m c ys hx hr h63 hbase fun v' w' h1 h2 => hK _ _ (h v' w' h1 h2)
theorem own_nil (w : World) (base : Nat) (e : TypeId) (k : Nat) : w.ownsRow base e k (.slice none 0 0) 0 [] := ⟨by simp, .inl ⟨rfl, rfl⟩⟩

/-! ### slices.Grow of nil -/
theorem Grow_any (N : Nat) (w : World) (hN : N ≤ 1073741824) :
    Calls Tryz.prog 88 #[.slice none 0 0, .int .i64 (N : Nat)] w fun e w' => ∃ v, e = .returned v ∧ w'.ownsRow w.heap.size 76 5 v 0 (rcells []) ∧ Below w.heap.size w w' := by
  rcases Nat.eq_zero_or_pos N with h0 | h0
  · subst h0
    refine Calls.mono (Any8.slices_Grow_room growL none 0 0 0 w (Nat.le_refl _) (by decide) (by decide) (Nat.le_refl _)) ?_
    rintro e w' ⟨rfl, rfl⟩
    exact ⟨_, rfl, own_nil _ _ _ _, Below.refl _ _⟩
  · obtain ⟨i, hi, hz0, hz1, hz2⟩ := info_parts rec_info
    refine Calls.mono (Any8.slices_Grow_grow growL i (.agg #[.string ⟨#[]⟩, .int .i64 0, .int .i64 0, .int .i64 0, .string ⟨#[]⟩]) hi hz0 (by rw [hz1]; decide) none 0 0 N [] w (Nat.le_refl _) (by omega) (by rw [hz2]; omega) (by omega) (by simp) (fun _ => rfl) (fun a h => by cases h)) ?_
    rintro e w' ⟨rfl, rfl⟩
    have hge := grownCap_ge w (0 + N) 0 (growL_ren.t 25)
    have hle := grownCap_le_maxLen w (0 + N) 0 (growL_ren.t 25) (by unfold maxLen; omega)
    revert hge hle
    generalize grownCap w (0 + N) 0 (growL_ren.t 25) = G
    intro hge hle
    refine ⟨_, rfl, ⟨rfl, .inr ⟨w.heap.size, G, _, rfl, Nat.le_refl _, heap_alloc_new w.drew _, Nat.zero_le _, hle, ?_, by simp [rcells]⟩⟩, (Below.refl _ _).drew.alloc (Nat.le_refl _) _⟩
    have hzc : ∀ k, (Builtin.zeroCells (Value.cells (.agg #[.string ⟨#[]⟩, .int .i64 0, .int .i64 0, .int .i64 0, .string ⟨#[]⟩])) k).size = k * 5 := fun k => by rw [size_zeroCells]; rfl
    simp only [Array.size_append, hzc]
    simp
    omega

/-! ### slices.Concat -/
structure Slot where
  A : Option Addr
  n : Nat
  c : Nat
  l : List Rrd
/-- slices of records that lie in a row -/
def SeesSl (w : World) (B : Nat) (A : Option Addr) (ss : List Slot) : Prop :=
  (∃ b off, A = some ⟨b, off, none⟩ ∧ b < B ∧ ∀ j s, ss[j]? = some s → w.cell? ⟨b, off + j, none⟩ = some (.slice s.A s.n s.c)) ∧ ∀ s ∈ ss, SeesR w B s.A s.n s.l
def joinS (ss : List Slot) : List Rrd := ss.flatMap fun s => s.l
theorem joinS_snoc (ss : List Slot) (s : Slot) : joinS (ss ++ [s]) = joinS ss ++ s.l := by simp [joinS]
theorem joinS_take {ss : List Slot} {k : Nat} {s : Slot} (h : ss[k]? = some s) : joinS (ss.take (k + 1)) = joinS (ss.take k) ++ s.l := by
  rw [List.take_add_one, h]
  exact joinS_snoc _ _
theorem joinS_le (ss : List Slot) (k : Nat) : (joinS (ss.take k)).length ≤ (joinS ss).length := by
  have : joinS ss = joinS (ss.take k) ++ joinS (ss.drop k) := by
    unfold joinS
    rw [← List.flatMap_append, List.take_append_drop]
  rw [this]
  simp
theorem SeesSl.keep {w w' : World} {B : Nat} {A : Option Addr} {ss : List Slot} (h : SeesSl w B A ss) (hb : Below B w w') : SeesSl w' B A ss := by
  obtain ⟨⟨b, off, e, hlt, hc⟩, h2⟩ := h
  exact ⟨⟨b, off, e, hlt, fun j s hs => (hb.cell hlt).trans (hc j s hs)⟩, fun s hs => (h2 s hs).keep hb⟩
set_option maxHeartbeats 4000000 in
set_option maxRecDepth 20000 in
theorem Concat_any (A : Option Addr) (K c : Nat) (ss : List Slot) (w : World) (h : SeesSl w w.heap.size A ss) (hK : ss.length = K) (hk : K ≤ 1000) (hN : (joinS ss).length ≤ 1073741824) :
    Calls Tryz.prog 62 #[.slice A K c] w fun e w' =>
      ∃ v, e = .returned v ∧ w'.ownsRow w.heap.size 76 5 v (joinS ss).length (rcells (joinS ss)) ∧ Below w.heap.size w w' := by
  obtain ⟨⟨b, off, rfl, hb, hc⟩, hs⟩ := h
  have HC := Lib.hid hc
  have HS := Lib.hid hs
  have HK := Lib.hid hK
  have HNN := Lib.hid hN
  clear hc hs hK hN
  go_enter Tryz.func62, Tryz.ntmps62
  go_wp2_with fail
  go_loopw [3, 11] (fun s i wr => ∃ k : Nat, k ≤ K ∧ i = .int .i64 (k : Nat) ∧ s = .int .i64 ((joinS (ss.take k)).length : Nat) ∧ wr = w) (fun _ i _ => K - (intOf i).toNat)
  case atStart => exact ⟨0, Nat.zero_le _, rfl, rfl, rfl⟩
  case round =>
    obtain ⟨k, hkK, rfl, rfl, hwr⟩ := hrel
    obtain rfl := hwr.symm
    by_cases hlt : k < K
    · have g2 : (k : Int) < (K : Int) := by omega
      have g0 : (0 : Int) ≤ (k : Int) := by omega
      obtain ⟨s, hs⟩ : ∃ s, ss[k]? = some s := ⟨ss[k]'(by have := HK.out; omega), List.getElem?_eq_getElem _⟩
      have hcell := HC.out k s hs
      have hsl := (HS.out s (List.mem_of_getElem? hs)).1
      have e1 := joinS_take hs
      have e2 := congrArg List.length e1
      rw [List.length_append, hsl] at e2
      have e3 := joinS_le ss (k + 1)
      have e4 := HNN.out
      obtain ⟨a, ha⟩ : ∃ a, a = (joinS (ss.take k)).length := ⟨_, rfl⟩
      rw [← ha] at e2 ⊢
      have g5 : ¬ ((a : Int) + (s.n : Int) < 0) := by omega
      have g6 : wrap64 ((a : Int) + (s.n : Int)) = (a : Int) + (s.n : Int) := by unfold wrap64; omega
      have E2 := Lib.hid e2
      have HA := Lib.hid ha
      clear e1 e2 e3 e4 hsl ha
      go_wp2_with fail
      go_roundw
      case rel => exact ⟨k + 1, by omega, by go_num, by rw [E2.out]; go_num, trivial⟩
      case measure => simp [intOf]; omega
    · obtain rfl : k = K := by omega
      have HT := Lib.hid (show joinS (ss.take k) = joinS ss by rw [← HK.out, List.take_length])
      rw [HT.out]
      have HNN2 := Lib.hid HNN.out
      go_wp2_with fail
      refine (Grow_any _ _ HNN2.out).mono ?_
      rintro e w1 ⟨v1, rfl, hown, hB⟩
      have HO1 := Lib.hid hown
      have HB1 := Lib.hid hB
      clear hown hB
      have hw1 := HB1.out.size
      go_wp2_with fail
      go_loopw [6, 27] (fun t i wr => ∃ j : Nat, j ≤ k ∧ i = .int .i64 (j : Nat) ∧ wr.ownsRow w.heap.size 76 5 t (joinS (ss.take j)).length (rcells (joinS (ss.take j))) ∧ Below w.heap.size w wr) (fun _ i _ => k - (intOf i).toNat)
      case atStart => exact ⟨0, Nat.zero_le _, rfl, HO1.out, HB1.out⟩
      case round =>
        obtain ⟨j, hjk, rfl, hown, hB⟩ := hrel
        have HO := Lib.hid hown
        have HB := Lib.hid hB
        clear hown hB
        by_cases hlt2 : j < k
        · have g2 : (j : Int) < (k : Int) := by omega
          have g0 : (0 : Int) ≤ (j : Int) := by omega
          obtain ⟨s, hs⟩ : ∃ s, ss[j]? = some s := ⟨ss[j]'(by have := HK.out; omega), List.getElem?_eq_getElem _⟩
          have hcell := (HB.out.cell hb).trans (HC.out j s hs)
          have HSL := Lib.hid ((HS.out s (List.mem_of_getElem? hs)).keep HB.out)
          have hsl := (HS.out s (List.mem_of_getElem? hs)).1
          have e1 := joinS_take hs
          have e2 := congrArg List.length e1
          rw [List.length_append, hsl] at e2
          have e3 := joinS_le ss (j + 1)
          have e4 := HNN.out
          have E1 := Lib.hid e1
          have E2 := Lib.hid e2
          have E5 := Lib.hid (show (joinS (ss.take j)).length + s.n ≤ 1073741824 by omega)
          clear e1 e2 e3 e4 hsl
          go_wp2_with (at_builtin; (refine wpList_append_R rfl _ _ rfl w.heap.size _ _ _ rfl HO.out w.heap.size _ _ _ _ rfl HSL.out E5.out HB.out.size ?_); intro v' w' ho hg)
          have HO2 := Lib.hid (show w'.ownsRow w.heap.size 76 5 v' (joinS (ss.take (j + 1))).length (rcells (joinS (ss.take (j + 1)))) by rw [E2.out, E1.out]; exact ho)
          have HB2 := Lib.hid (HB.out.grown hg HB.out.size (own_block_ge HO.out))
          clear ho hg
          go_wp2_with fail
          go_roundw
          case rel => exact ⟨j + 1, by omega, by go_num, HO2.out, HB2.out⟩
          case measure => simp [intOf]; omega
        · obtain rfl : j = k := by omega
          have HO3 := Lib.hid (show wr.ownsRow w.heap.size 76 5 u6 (joinS ss).length (rcells (joinS ss)) by rw [← HT.out]; exact HO.out)
          go_wp2_with fail
          go_ret
          exact ⟨_, rfl, HO3.out, HB.out⟩
theorem box_five (w : World) (r : Rrd) : Five (w.alloc (.cells #[.string r.s, .int .i64 r.t, .int .i64 r.c, .int .i64 r.l, .string r.d] 76)) w.heap.size 0 r :=
  rr_facts (Whole.new w rrT (rrA r.s r.d r.t r.c r.l))

/-- a slice's room -/
def InCap (A : Option Addr) (n c : Nat) : Prop := n ≤ c ∧ c ≤ 9223372036854775807 ∧ (A = none → c = 0) ∧ (∀ ad, A = some ad → 0 < c → ad.spot = none)
theorem SeesR.some {w : World} {B : Nat} {ad : Addr} {n : Nat} {xs : List Rrd} (h : SeesR w B (some ad) n xs) (hn : 0 < n) : ∃ b off, ad = ⟨b, off, none⟩ ∧ b < B := by
  obtain ⟨b, off, e, hb, _⟩ := h.2 hn
  injection e with e
  exact ⟨b, off, e, hb⟩
theorem SeesR.take {w : World} {B : Nat} {A : Option Addr} {n : Nat} {xs : List Rrd} (h : SeesR w B A n xs) {i : Nat} (hi : i ≤ n) : SeesR w B A i (xs.take i) := by
  refine ⟨by rw [List.length_take, h.1]; omega, fun h0 => ?_⟩
  obtain ⟨b, off, e, hb, hc⟩ := h.2 (by omega)
  exact ⟨b, off, e, hb, fun j x hx => hc j x (by rw [List.getElem?_take] at hx; split at hx <;> first | exact hx | cases hx)⟩
theorem SeesR.drop {w : World} {B : Nat} {b off n : Nat} {xs : List Rrd} (h : SeesR w B (Option.some ⟨b, off, none⟩) n xs) {i : Nat} (hi : i ≤ n) : SeesR w B (Option.some ⟨b, off + i * 5, none⟩) (n - i) (xs.drop i) := by
  refine ⟨by rw [List.length_drop, h.1], fun h0 => ?_⟩
  obtain ⟨b', off', e, hb, hc⟩ := h.2 (by omega)
  obtain ⟨rfl, rfl⟩ : b = b' ∧ off = off' := by simpa using e
  refine ⟨b, off + i * 5, rfl, hb, fun j x hx => ?_⟩
  rw [List.getElem?_drop] at hx
  obtain ⟨x0, x1, x2, x3, x4⟩ := hc (i + j) x hx
  have e0 : off + i * 5 + j * 5 = off + (i + j) * 5 := by omega
  rw [e0]
  exact ⟨x0, x1, x2, x3, x4⟩
theorem SeesR.one (w : World) (r : Rrd) : SeesR (w.alloc (.cells #[.string r.s, .int .i64 r.t, .int .i64 r.c, .int .i64 r.l, .string r.d] 76)) (w.heap.size + 1) (Option.some ⟨w.heap.size, 0, none⟩) 1 [r] := by
  refine ⟨rfl, fun _ => ⟨w.heap.size, 0, rfl, by omega, fun j x hx => ?_⟩⟩
  cases j with
  | zero =>
    simp only [List.getElem?_cons_zero, Option.some.injEq] at hx
    subst hx
    simp only [Nat.zero_mul, Nat.zero_add]
    exact box_five w r
  | succ j => simp at hx

theorem joinS2 {A0 A2 : Option Addr} {n0 n2 c0 c2 : Nat} {l0 l2 : List Rrd} : joinS [⟨A0, n0, c0, l0⟩, ⟨A2, n2, c2, l2⟩] = l0 ++ l2 := by simp [joinS]
set_option maxHeartbeats 400000 in
theorem Piece_any (s : ByteArray) (n : Int) (w : World) (hs : s.size ≤ 1073741824) :
    Calls Tryz.prog 92 #[.string s, .int .i64 n] w fun e w' => e = .returned (.tuple #[.string (pieceR s n).1, .int .i64 (pieceR s n).2]) ∧ Below w.heap.size w w' := by
  cases hp : pB n
  · have hr : pieceR s n = (empty, 1) := by simp [pieceR, hp]
    rw [hr]
    clear hr
    go_enter Tryz.func92, Tryz.ntmps92
    go_wp2_with (go_at_call 124; refine (isPieceWidth_any _ _).mono ?_; rintro e w' ⟨rfl, rfl⟩)
    go_ret2
    exact ⟨rfl, Below.refl _ _⟩
  obtain ⟨a, rfl⟩ := Int.eq_ofNat_of_zero_le (show 0 ≤ n by have := pB_cases hp; omega)
  have ha : a ≤ 8 := by have := pB_cases hp; omega
  cases hf : fitB s.size a
  · have hr : pieceR s a = (empty, 3) := by simp [pieceR, hp, hf]
    rw [hr]
    clear hr
    go_enter Tryz.func92, Tryz.ntmps92
    go_wp2_with (first
      | (go_at_call 124; refine (isPieceWidth_any _ _).mono ?_; rintro e w' ⟨rfl, rfl⟩)
      | (go_at_call 115; refine (fits_any _ _ _ (by omega) ha).mono ?_; rintro e w' ⟨rfl, rfl⟩))
    go_ret2
    exact ⟨rfl, Below.refl _ _⟩
  · have hr : pieceR s a = (⟨(be s.size a).toArray⟩ ++ s, 0) := by simp [pieceR, hp, hf]
    rw [hr]
    clear hr
    have hbl : (be s.size a).length ≤ 8 := by rw [be_length]; omega
    go_enter Tryz.func92, Tryz.ntmps92
    go_wp2_with (first
      | (go_at_call 124; refine (isPieceWidth_any _ _).mono ?_; rintro e w' ⟨rfl, rfl⟩)
      | (go_at_call 115; refine (fits_any _ _ _ (by omega) ha).mono ?_; rintro e w' ⟨rfl, rfl⟩)
      | (go_at_call 116; refine (appendInteger_any _ 0 s.size a w.heap.size [] _ (World.ownsRow_nil _ _ _ _) (Nat.le_refl _) ha (by omega) (by omega)).mono ?_; rintro e w1 ⟨v1, rfl, hown, hB1⟩; have hcv := str_of_own (by simpa using hown)))
    go_ret2
    exact ⟨rfl, hB1⟩

end Go.Proofs.YtggognnjnfphgaaGreatDoor
