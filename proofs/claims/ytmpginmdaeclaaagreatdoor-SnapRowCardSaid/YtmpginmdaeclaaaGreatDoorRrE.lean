/- Parts of the proofs of the statements of image. No statement of the seat is proved here. -/
import Derived.Test.YtmpginmdaeclaaaGreatDoorRrA
import Derived.Test.YtmpginmdaeclaaaGreatDoorNaI
import Derived.Deep.AppendSrc
import Derived.Deep.RegionHeld3
import Derived.Lib.SliceRun
import Derived.Test.YtmpginmdaeclaaaGreatDoorReP
import Derived.Deep.RegionWith
import Derived.Deep.RegionLaw
set_option maxHeartbeats 32000000
set_option maxRecDepth 20000
namespace Go.Proofs.YtmpginmdaeclaaaGreatDoor
open Go.RowKit Go.Op
theorem box_five (w : World) (r : Rrd) : Five (w.alloc (.cells #[.string r.s, .int .i64 r.t, .int .i64 r.c, .int .i64 r.l, .string r.d] 46)) w.heap.size 0 r :=
  rr_facts (Whole.new w rrT (rrA r.s r.d r.t r.c r.l))
end Go.Proofs.YtmpginmdaeclaaaGreatDoor
namespace Go.Proofs.YtmpginmdaeclaaaGreatDoor
open Go.RowKit Go.Op
section
variable {P : Program} {ops : Array Oper} {Q : Exit -> Act -> World -> Prop} {md : Region.Mode} {S : World -> Prop}
theorem takeH {i : Nat} {d : Option Tmp} {op : Op} {ty : TypeId} {ps : String} {af : Array Edge} {gd : Option (Nat × Bool)} {v : Value} {fuel : Nat} {listed : Array Bool} {a : Act} {w : World} (hi : ops[i]? = some (Oper.mk d op ty ps af gd))
    (hs : Region.noSelect ops = true) (hf : Region.free md ops listed i = true) (hr : (Region.ready md ops listed).contains i = true)
    (hQ : ∀ c a w, Q (.panic c) (a.put d v) w -> Q (.panic c) a w) (hy : YieldsIf P ops S (Oper.mk d op ty ps af gd) v a) (hS : S w)
    (h : wpAnyH P md ops Q S fuel (listed.setIfInBounds i true) (a.put d v) w) : wpAnyH P md ops Q S (fuel + 1) listed a w :=
  wpAnyH_take hi hs hf hr hQ hy hS h
theorem consH {fuel : Nat} {listed : Array Bool} {a : Act} {w : World} {i : Nat} {d : Option Tmp} {op : Op} {ty : TypeId} {ps : String} {af : Array Edge} {gd : Option (Nat × Bool)} {rs : List Nat} (ho : ops[i]? = some (Oper.mk d op ty ps af gd))
    (h : ∀ K' : Act -> World -> Prop, Shut (∀ a w, S w -> (S w -> wpAnyH P md ops Q S fuel (listed.setIfInBounds i true) a w) -> K' a w) -> if Region.wanted (Oper.mk d op ty ps af gd) (yielded ops a.tmps) = true then Oper.wp P (Oper.mk d op ty ps af gd) a w K' Q else K' (a.put d undef) w)
    (hs : AllReadyH P md ops Q S fuel listed a w rs) : AllReadyH P md ops Q S fuel listed a w (i :: rs) := AllReadyH.cons ho h hs
end
theorem own_block_ge {w : World} {base : Nat} {e : TypeId} {k : Nat} {v : Value} {n : Nat} {xs : List Value} (h : w.ownsRow base e k v n xs) : ∀ j, v.ownBlock = some j -> base <= j := by
  intro j hj
  rcases h.2 with ⟨rfl, _⟩ | ⟨g, cap, cur, rfl, hb, _⟩
  · cases hj
  · have : g = j := by simpa [Value.ownBlock] using hj
    omega
theorem run_nil_R (w : World) (ty : TypeId) (c : Nat) : (Builtin.append_ #[22, 22] ty #[.slice none 0 0, .slice none 0 c]).run Tryz.prog w = .ok (.slice none 0 0) w := by
  obtain ⟨i, hi, hz0, hz1, hz2⟩ := info_parts rec_info
  have hs := Src.ofNil (P := Tryz.prog) (size := i.size) w Tryz.underlying22 c
  have hl := hs.len
  have hc := hs.cells
  have hu := run_underlying (P := Tryz.prog) Tryz.underlying22
  simp [Builtin.append_, hu, sizeOf, typeInfo, hi, hl, hc]
theorem run_append_R {w : World} (ty : TypeId) {base : Nat} {v : Value} {n : Nat} {xs : List Rrd} (hown : w.ownsRow base 46 5 v n (rcells xs)) {B : Nat} {A : Option Addr} {m : Nat} (c : Nat) {ys : List Rrd} (hr : SeesR w B A m ys)
    (h63 : n + m <= 1073741824) (hbase : base <= w.heap.size) :
    ∃ v' w', (Builtin.append_ #[22, 22] ty #[v, .slice A m c]).run Tryz.prog w = .ok v' w' /\ w'.ownsRow base 46 5 v' (n + m) (rcells (xs ++ ys)) /\ w.grownBy w' v.ownBlock := by
  obtain ⟨i, hi, hz0, hz1, hz2⟩ := info_parts rec_info
  have hkl := rcells_len ys
  rw [hr.1] at hkl
  rcases A with _ | ad
  · have hm : m = 0 := by
      rcases Nat.eq_zero_or_pos m with h0 | h0
      · exact h0
      · obtain ⟨b, off, e, _⟩ := hr.2 h0
        cases e
    subst hm; obtain rfl : ys = [] := List.eq_nil_of_length_eq_zero hr.1
    rw [List.append_nil, Nat.add_zero]
    have hs := Src.ofNil (P := Tryz.prog) (size := i.size) w Tryz.underlying22 c
    rcases hown.2 with ⟨rfl, h0⟩ | ⟨g, cap, cur, rfl, h1, h2, h3, h4⟩
    · subst h0
      exact ⟨_, _, run_nil_R w ty c, hown, World.grownBy.refl w _⟩
    · have hrun := run_append_room_src (P := Tryz.prog) w 22 22 ty 46 i Tryz.underlying22 hi g 0 n cap (.slice none 0 c) 0 [] hs h3 (by simp) (by simp)
      have hsame : w.setCells g (0 + n * i.size) [] = w := rfl
      rw [hsame] at hrun
      exact ⟨_, _, hrun, hown, World.grownBy.refl w _⟩
  · have hcells : ∀ j u, (rcells ys)[j]? = some u -> w.cell? (ad.add j) = some u := by
      intro j u hu
      have hj : j < (rcells ys).length := (List.getElem?_eq_some_iff.1 hu).1
      obtain ⟨b, off, e, _, hc⟩ := hr.cells (by omega)
      injection e with e
      subst e; rw [show (⟨b, off, none⟩ : Addr).add j = ⟨b, off + j, none⟩ from by unfold Addr.add; split <;> simp_all]
      exact hc j u hu
    obtain ⟨v', w', h1, h2, h3, _⟩ := run_append_own (P := Tryz.prog) w base 22 ty 46 i (.agg #[.string ⟨#[]⟩, .int .i64 0, .int .i64 0, .int .i64 0, .string ⟨#[]⟩]) 5 56 Tryz.underlying22 hi hz0 hz1 hz2 rfl (by decide) v n (rcells xs) hown ad m c (rcells ys) hkl hcells (rcells_one ys) (by unfold maxLen; omega) (by omega) hbase
    exact ⟨v', w', h1, by rw [rcells_append]; exact h2, h3⟩
theorem wp_append_R {w : World} {o : Oper} {a : Act} {K : Act -> World -> Prop} {Q : Exit -> Act -> World -> Prop} (s x : Operand)
    (ho : o.op = .call { callee := .builtin .append, args := #[s, x], argTypes := #[22, 22] }) (base : Nat) (v : Value) (n : Nat) (xs : List Rrd) (hs : a.eval s = v) (hown : w.ownsRow base 46 5 v n (rcells xs))
    (B : Nat) (A : Option Addr) (m c : Nat) (ys : List Rrd) (hx : a.eval x = .slice A m c) (hr : SeesR w B A m ys) (h63 : n + m <= 1073741824) (hbase : base <= w.heap.size)
    (h : ∀ v' w', w'.ownsRow base 46 5 v' (n + m) (rcells (xs ++ ys)) -> w.grownBy w' v.ownBlock -> K (a.put o.dst v') w') : o.wp Tryz.prog a w K Q := by
  obtain ⟨v', w', hrun, h1, h2⟩ := run_append_R o.type hown c hr h63 hbase
  unfold Oper.wp execOp
  simp only [ho, resolve, invoke, builtin, Sem.run_bind, Sem.run_pure, Result.andThen_ok, List.map_toArray, List.map_cons, List.map_nil, hs, hx, hrun]
  exact h v' w' h1 h2
theorem wpList_append_R {w : World} {ops : Array Oper} {rest : List Oper} {o : Oper} {a : Act} {Q : Exit -> Act -> World -> Prop} (hgd : o.guard = none) (s x : Operand)
    (ho : o.op = .call { callee := .builtin .append, args := #[s, x], argTypes := #[22, 22] }) (base : Nat) (v : Value) (n : Nat) (xs : List Rrd) (hs : a.eval s = v) (hown : w.ownsRow base 46 5 v n (rcells xs))
    (B : Nat) (A : Option Addr) (m c : Nat) (ys : List Rrd) (hx : a.eval x = .slice A m c) (hr : SeesR w B A m ys) (h63 : n + m <= 1073741824) (hbase : base <= w.heap.size)
    (h : ∀ v' w', w'.ownsRow base 46 5 v' (n + m) (rcells (xs ++ ys)) -> w.grownBy w' v.ownBlock -> wpList Tryz.prog ops Q rest (a.put o.dst v') w') : wpList Tryz.prog ops Q (o :: rest) a w :=
  wpList_plain hgd fun _ hK => wp_append_R s x ho base v n xs hs hown B A m c ys hx hr h63 hbase fun v' w' h1 h2 => hK _ _ (h v' w' h1 h2)
theorem own_nil (w : World) (base : Nat) (e : TypeId) (k : Nat) : w.ownsRow base e k (.slice none 0 0) 0 [] := ⟨by simp, .inl ⟨rfl, rfl⟩⟩
end Go.Proofs.YtmpginmdaeclaaaGreatDoor
namespace Go.Proofs.YtmpginmdaeclaaaGreatDoor
open Go.RowKit Go.Op
def InCap (A : Option Addr) (n c : Nat) : Prop := n <= c /\ c <= 9223372036854775807 /\ (A = none -> c = 0) /\ (∀ ad, A = some ad -> 0 < c -> ad.spot = none)
theorem SeesR.take {w : World} {B : Nat} {A : Option Addr} {n : Nat} {xs : List Rrd} (h : SeesR w B A n xs) {i : Nat} (hi : i <= n) : SeesR w B A i (xs.take i) := by
  refine ⟨by rw [List.length_take, h.1]; omega, fun h0 => ?_⟩
  obtain ⟨b, off, e, hb, hc⟩ := h.2 (by omega)
  exact ⟨b, off, e, hb, fun j x hx => hc j x (by rw [List.getElem?_take] at hx; split at hx <;> first | exact hx | cases hx)⟩
theorem SeesR.drop {w : World} {B : Nat} {b off n : Nat} {xs : List Rrd} (h : SeesR w B (Option.some ⟨b, off, none⟩) n xs) {i : Nat} (hi : i <= n) : SeesR w B (Option.some ⟨b, off + i * 5, none⟩) (n - i) (xs.drop i) := by
  refine ⟨by rw [List.length_drop, h.1], fun h0 => ?_⟩
  obtain ⟨b', off', e, hb, hc⟩ := h.2 (by omega)
  obtain ⟨rfl, rfl⟩ : b = b' /\ off = off' := by simpa using e
  refine ⟨b, off + i * 5, rfl, hb, fun j x hx => ?_⟩
  rw [List.getElem?_drop] at hx
  obtain ⟨x0, x1, x2, x3, x4⟩ := hc (i + j) x hx
  have e0 : off + i * 5 + j * 5 = off + (i + j) * 5 := by omega
  rw [e0]
  exact ⟨x0, x1, x2, x3, x4⟩
theorem SeesR.one (w : World) (r : Rrd) : SeesR (w.alloc (.cells #[.string r.s, .int .i64 r.t, .int .i64 r.c, .int .i64 r.l, .string r.d] 46)) (w.heap.size + 1) (Option.some ⟨w.heap.size, 0, none⟩) 1 [r] := by
  refine ⟨rfl, fun _ => ⟨w.heap.size, 0, rfl, by omega, fun j x hx => ?_⟩⟩
  cases j with
  | zero =>
    simp only [List.getElem?_cons_zero, Option.some.injEq] at hx
    subst hx
    simp only [Nat.zero_mul, Nat.zero_add]
    exact box_five w r
  | succ j => simp at hx
theorem RClone_any (A : Option Addr) (n c : Nat) (xs : List Rrd) (w : World) (hx : SeesR w w.heap.size A n xs) (hn : n <= 1073741824) :
    Calls Tryz.prog 70 #[.slice A n c] w fun e w' => ∃ v, e = .returned v /\ w'.ownsRow w.heap.size 46 5 v n (rcells xs) /\ Below w.heap.size w w' := by
  have HX := Ha hx
  have q22 : ∀ (w : World) (a : Option Addr) (n c n' c' : Nat), (binOp .eql 22 (.slice a n c) (.slice none n' c')).run Tryz.prog w = .ok (.bool a.isNone) w := fun w a n c n' c' => Lib.run_eql_slice_nil w _ _ a n c n' c' Tryz.underlying22
  clear hx
  rcases A with _ | ad
  · have hm : n = 0 := by
      rcases Nat.eq_zero_or_pos n with h0 | h0
      · exact h0
      · obtain ⟨b, off, e, _⟩ := HX.out.2 h0
        cases e
    have hxs : xs = [] := List.eq_nil_of_length_eq_zero (by rw [HX.out.1, hm])
    subst hm hxs
    clear HX; go_enter Tryz.func70, Tryz.ntmps70
    go_wp2_with fail
    go_ret
    exact ⟨_, rfl, own_nil _ _ _ _, Below.refl _ _⟩
  · have HO := Ha (own_noneR w w.heap.size (Nat.le_refl _))
    have HB := Ha (show Below w.heap.size w (w.alloc (.cells #[] 46)) from (Below.refl _ _).alloc (Nat.le_refl _) _)
    have HX2 := Ha (HX.out.keep HB.out)
    have HN := Ha (show 0 + n <= 1073741824 by omega)
    go_enter Tryz.func70, Tryz.ntmps70
    go_wp2_with (at_builtin; (refine wpList_append_R rfl _ _ rfl w.heap.size _ 0 [] rfl HO.out w.heap.size _ _ _ _ rfl HX2.out HN.out HB.out.size ?_); intro v' w' ho hg)
    rw [Nat.zero_add, List.nil_append] at ho
    have HO2 := Ha ho
    have HB2 := Ha (HB.out.grown hg HB.out.size (own_block_ge HO.out))
    clear ho hg; go_wp2_with fail
    go_ret
    exact ⟨_, rfl, HO2.out, HB2.out⟩
theorem own_less {w : World} {b b' : Nat} {e : TypeId} {k : Nat} {v : Value} {n : Nat} {xs : List Value} (h : w.ownsRow b e k v n xs) (hb : b' <= b) : w.ownsRow b' e k v n xs := by
  obtain ⟨h1, h2⟩ := h
  refine ⟨h1, ?_⟩
  rcases h2 with h2 | ⟨g, cap, cur, h3, h4, h5⟩
  · exact .inl h2
  · exact .inr ⟨g, cap, cur, h3, by omega, h5⟩
theorem seesR_none {w : World} {B : Nat} {A : Option Addr} {n k : Nat} {xs : List Rrd} (hn : n = 0) (hk : xs.length <= k) : SeesR w B A n (xs.drop k) :=
  ⟨by rw [List.length_drop]; omega, fun h => absurd h (by omega)⟩
end Go.Proofs.YtmpginmdaeclaaaGreatDoor
namespace Go.Proofs.YtmpginmdaeclaaaGreatDoor
open Go.RowKit Go.Op
end Go.Proofs.YtmpginmdaeclaaaGreatDoor
namespace Go.Proofs.YtmpginmdaeclaaaGreatDoor
open Go.RowKit Go.Op
theorem own_keep {w w' : World} {b : Nat} {e : TypeId} {k : Nat} {v : Value} {n : Nat} {xs : List Value} (h : w.ownsRow b e k v n xs) (hb : Below w.heap.size w w') : w'.ownsRow b e k v n xs := by
  obtain ⟨h1, h2⟩ := h
  refine ⟨h1, ?_⟩
  rcases h2 with h2 | ⟨g, cap, cur, h3, h4, h5, h6⟩
  · exact .inl h2
  · exact .inr ⟨g, cap, cur, h3, h4, (hb.block g (Array.getElem?_eq_some_iff.1 h5).1).trans h5, h6⟩
theorem refP_step {r x : Rrd} {xs : List Rrd} {k : Nat} (hx : xs[k]? = some x) (d : Bool) :
    refP cmpX r (xs.drop k) d = (if cmpX r x <= 0 /\ d = false then [r] else []) ++ ((if cmpX r x = 0 then [] else [x]) ++ refP cmpX r (xs.drop (k + 1)) (d || decide (cmpX r x <= 0))) := by
  obtain ⟨l1, rfl⟩ := List.getElem?_eq_some_iff.1 hx
  rw [List.drop_eq_getElem_cons l1, refP]
def PutAt (W : World) (r : Rrd) (xs : List Rrd) (k : Nat) (v : Value) (d : Bool) (wr : World) : Prop :=
  ∃ O : List Rrd, wr.ownsRow W.heap.size 46 5 v O.length (rcells O) /\ O ++ refP cmpX r (xs.drop k) d = refP cmpX r xs false /\ O.length <= 2 * k /\ Below W.heap.size W wr
theorem RefPut_any (A : Option Addr) (n c : Nat) (xs : List Rrd) (r : Rrd) (w : World) (hx : SeesR w w.heap.size A n xs) (hok : OkL xs) (hr : OkX r) (hn : n <= 1000000) :
    Calls Tryz.prog 139 #[.slice A n c, .agg #[.string r.s, .int .i64 r.t, .int .i64 r.c, .int .i64 r.l, .string r.d]] w fun e w' =>
      ∃ v, e = .returned v /\ w'.ownsRow w.heap.size 46 5 v (refP cmpX r xs false).length (rcells (refP cmpX r xs false)) /\ Below w.heap.size w w' := by
  obtain ⟨W, hW⟩ : ∃ W, W = w.alloc (.cells #[.string r.s, .int .i64 r.t, .int .i64 r.c, .int .i64 r.l, .string r.d] 46) := ⟨_, rfl⟩
  obtain ⟨g, hg⟩ : ∃ g, g = w.heap.size := ⟨_, rfl⟩
  have HB0 := Ha (show Below w.heap.size w W by rw [hW]; exact (Below.refl _ _).alloc (Nat.le_refl _) _)
  have HBX := Ha (show Five W g 0 r by rw [hW, hg]; exact box_five w r)
  have HGL := Ha (show g < W.heap.size by rw [hW, hg]; simp)
  have HX := Ha ((hx.keep HB0.out).more HB0.out.size)
  have HN := Ha hx.1
  have HOK := Ha hok
  have HR := Ha hr
  have HW := Ha hW
  have HG := Ha hg
  clear hW hg hx hok hr
  go_enter Tryz.func139, Tryz.ntmps139
  go_wp2_with fail
  rw [<-HW.out, <-HG.out]
  go_loopw [5, 6, 7] (fun v dv i wr => ∃ (k : Nat) (d : Bool), k <= n /\ i = .int .i64 (k : Nat) /\ dv = .bool d /\ PutAt W r xs k v d wr) (fun _ _ i _ => n - (intOf i).toNat)
  case atStart => exact ⟨0, false, Nat.zero_le _, rfl, rfl, [], own_nil _ _ _ _, rfl, by simp, Below.refl _ _⟩
  case round =>
    obtain ⟨k, d, hk, rfl, rfl, O, hO, hP, hL, hB⟩ := hrel
    have HO := Ha hO
    have HP := Ha hP
    have HL := Ha hL
    have HB := Ha hB
    clear hO hP hL hB
    by_cases hkn : k < n
    · have g2 : (k : Int) < (n : Int) := by omega
      have g0 : (0 : Int) <= (k : Int) := by omega
      obtain ⟨b, off, x, rfl, hb, hxk, ht⟩ := (HX.out.keep HB.out).at hkn
      obtain ⟨p0, p1, p2, p3, p4⟩ := (HBX.out.keep HB.out HGL.out).later (Nat.lt_of_lt_of_le HGL.out HB.out.size)
      obtain ⟨q0, q1, q2, q3, q4⟩ := ht.later (Nat.lt_of_lt_of_le hb HB.out.size)
      obtain ⟨z, hz⟩ : ∃ z, z = cmpX r x := ⟨_, rfl⟩
      have HC := Ha (show ∀ q : Later wr, Calls Tryz.prog 185 #[.agg #[.string r.s, .int .i64 r.t, .int .i64 r.c, .int .i64 r.l, .string r.d], .agg #[.string x.s, .int .i64 x.t, .int .i64 x.c, .int .i64 x.l, .string x.d]] q.val fun e w'' => e = .returned (.int .i64 z) /\ ∃ q' : Later wr, w'' = q'.val from
        fun q => later_call (by rw [hz]; exact refcmp_any HR.out (HOK.out.at hxk) _))
      have hst := refP_step (r := r) hxk d
      rw [<-hz] at hst
      have HXF := Ha ht
      clear ht hxk hz; have HLK := Ha (show O.length + 2 <= 1073741824 by have := HL.out; omega)
      have HL2 := Ha (show O.length + 2 <= 2 * (k + 1) by have := HL.out; omega)
      obtain ⟨b', off', x', hA', hb', hxk', hf'⟩ := HX.out.at hkn
      obtain ⟨rfl, rfl⟩ : b = b' /\ off = off' := by simpa using hA'
      have hxx : x = x' := by
        have h1 := HXF.out
        have h2 := hf'.keep HB.out hb'
        obtain ⟨a0, a1, a2, a3, a4⟩ := h1
        obtain ⟨c0, c1, c2, c3, c4⟩ := h2
        rw [a0] at c0; rw [a1] at c1; rw [a2] at c2; rw [a3] at c3; rw [a4] at c4
        simp only [Option.some.injEq, Value.string.injEq, Value.int.injEq, true_and] at c0 c1 c2 c3 c4
        exact Rrd.ext' ⟨c0, c1, c2, c3, c4⟩
      subst hxx; have HXB := Ha hf'
      clear hA' hb' hxk' hf'
      rcases (show z < 0 \/ z = 0 \/ 0 < z by omega) with hz1 | hz1 | hz1
      · cases d
        · have gz : z <= 0 := by omega
          have gy : (z == 0) = false := by rw [beq_eq_false_iff_ne]; omega
          have gw : z ≠ 0 := by omega
          have HE := Ha (show (O ++ [r] ++ [x]) ++ refP cmpX r (xs.drop (k + 1)) true = refP cmpX r xs false by rw [<-HP.out, hst]; simp [gz, gw])
          clear hst; go_wp2_with fail
          refine region_later (by kernel_rfl) ?_
          repeat (go_big_quiet_step ((go_at_call 185; with_reducible exact HC.out _)))
          refine wpQuiet_nil ?_
          rintro _ ⟨r2, rfl⟩; have HB2 := Ha (HB.out.trans (r2.below.mono HB.out.size))
          have HO2 := Ha (own_keep HO.out r2.below)
          clear p0 p1 p2 p3 p4 q0 q1 q2 q3 q4; obtain ⟨p0, p1, p2, p3, p4⟩ := HBX.out.keep HB2.out HGL.out
          have HA3 := Ha (show W.heap.size <= (r2.val.alloc (.cells #[.string r.s, .int .i64 r.t, .int .i64 r.c, .int .i64 r.l, .string r.d] 46)).heap.size by have := HB2.out.size; simp; omega)
          have HN3 := Ha (show (O).length + 1 <= 1073741824 by have := HLK.out; simp; omega)
          have HD3 := Ha (show Below W.heap.size W (r2.val.alloc (.cells #[.string r.s, .int .i64 r.t, .int .i64 r.c, .int .i64 r.l, .string r.d] 46)) from HB2.out.alloc HB2.out.size _)
          have HQ3 := Ha (HO2.out.alloc (.cells #[.string r.s, .int .i64 r.t, .int .i64 r.c, .int .i64 r.l, .string r.d] 46))
          go_wp2_with (first | (at_builtin; (refine wpList_append_R rfl _ _ rfl W.heap.size _ _ (O ++ [r]) rfl HQ4.out (w3.heap.size + 1) _ _ _ _ rfl (SeesR.one _ x) HN4.out HA4.out ?_); intro v4 w4 ho hg; (have HO4 := Ha (show w4.ownsRow W.heap.size 46 5 v4 ((O ++ [r]) ++ [x]).length (rcells ((O ++ [r]) ++ [x])) by simpa using ho)); (have HB4 := Ha (HD4.out.grown hg HA4.out (own_block_ge HQ4.out))); clear ho hg q0 q1 q2 q3 q4) | (at_builtin; (refine wpList_append_R rfl _ _ rfl W.heap.size _ _ (O) rfl HQ3.out (r2.val.heap.size + 1) _ _ _ _ rfl (SeesR.one _ r) HN3.out HA3.out ?_); intro v3 w3 ho hg; (have HO3 := Ha (show w3.ownsRow W.heap.size 46 5 v3 (O ++ [r]).length (rcells (O ++ [r])) by simpa using ho)); (have HB3 := Ha (HD3.out.grown hg HA3.out (own_block_ge HQ3.out))); clear ho hg p0 p1 p2 p3 p4; (obtain ⟨q0, q1, q2, q3, q4⟩ := HXB.out.keep HB3.out hb); (have HA4 := Ha (show W.heap.size <= (w3.alloc (.cells #[.string x.s, .int .i64 x.t, .int .i64 x.c, .int .i64 x.l, .string x.d] 46)).heap.size by have := HB3.out.size; simp; omega)); (have HN4 := Ha (show (O ++ [r]).length + 1 <= 1073741824 by have := HLK.out; simp; omega)); (have HD4 := Ha (show Below W.heap.size W (w3.alloc (.cells #[.string x.s, .int .i64 x.t, .int .i64 x.c, .int .i64 x.l, .string x.d] 46)) from HB3.out.alloc HB3.out.size _)); (have HQ4 := Ha (HO3.out.alloc (.cells #[.string x.s, .int .i64 x.t, .int .i64 x.c, .int .i64 x.l, .string x.d] 46)))))
          go_roundw
          case rel => exact ⟨k + 1, true, by omega, by go_num, rfl, (O ++ [r]) ++ [x], HO4.out, HE.out, by have := HL2.out; simp; omega, HB4.out⟩
          case measure => simp [intOf]; omega
        · have gz : z <= 0 := by omega
          have gy : (z == 0) = false := by rw [beq_eq_false_iff_ne]; omega
          have gw : z ≠ 0 := by omega
          have HE := Ha (show (O ++ [x]) ++ refP cmpX r (xs.drop (k + 1)) true = refP cmpX r xs false by rw [<-HP.out, hst]; simp [gw])
          clear hst; go_wp2_with fail
          refine region_later (by kernel_rfl) ?_
          repeat (go_big_quiet_step ((go_at_call 185; with_reducible exact HC.out _)))
          refine wpQuiet_nil ?_
          rintro _ ⟨r2, rfl⟩; have HB2 := Ha (HB.out.trans (r2.below.mono HB.out.size))
          have HO2 := Ha (own_keep HO.out r2.below)
          clear p0 p1 p2 p3 p4 q0 q1 q2 q3 q4; obtain ⟨q0, q1, q2, q3, q4⟩ := HXB.out.keep HB2.out hb
          have HA3 := Ha (show W.heap.size <= (r2.val.alloc (.cells #[.string x.s, .int .i64 x.t, .int .i64 x.c, .int .i64 x.l, .string x.d] 46)).heap.size by have := HB2.out.size; simp; omega)
          have HN3 := Ha (show (O).length + 1 <= 1073741824 by have := HLK.out; simp; omega)
          have HD3 := Ha (show Below W.heap.size W (r2.val.alloc (.cells #[.string x.s, .int .i64 x.t, .int .i64 x.c, .int .i64 x.l, .string x.d] 46)) from HB2.out.alloc HB2.out.size _)
          have HQ3 := Ha (HO2.out.alloc (.cells #[.string x.s, .int .i64 x.t, .int .i64 x.c, .int .i64 x.l, .string x.d] 46))
          go_wp2_with (first | (at_builtin; (refine wpList_append_R rfl _ _ rfl W.heap.size _ _ (O) rfl HQ3.out (r2.val.heap.size + 1) _ _ _ _ rfl (SeesR.one _ x) HN3.out HA3.out ?_); intro v3 w3 ho hg; (have HO3 := Ha (show w3.ownsRow W.heap.size 46 5 v3 (O ++ [x]).length (rcells (O ++ [x])) by simpa using ho)); (have HB3 := Ha (HD3.out.grown hg HA3.out (own_block_ge HQ3.out))); clear ho hg q0 q1 q2 q3 q4))
          go_roundw
          case rel => exact ⟨k + 1, true, by omega, by go_num, rfl, O ++ [x], HO3.out, HE.out, by have := HL2.out; simp; omega, HB3.out⟩
          case measure => simp [intOf]; omega
      · cases d
        · have gz : z <= 0 := by omega
          have gy : (z == 0) = true := by rw [hz1]; rfl
          have gw : z = 0 := hz1
          have HE := Ha (show (O ++ [r]) ++ refP cmpX r (xs.drop (k + 1)) true = refP cmpX r xs false by rw [<-HP.out, hst]; simp [gw])
          clear hst; go_wp2_with fail
          refine region_later (by kernel_rfl) ?_
          repeat (go_big_quiet_step ((go_at_call 185; with_reducible exact HC.out _)))
          refine wpQuiet_nil ?_
          rintro _ ⟨r2, rfl⟩; have HB2 := Ha (HB.out.trans (r2.below.mono HB.out.size))
          have HO2 := Ha (own_keep HO.out r2.below)
          clear p0 p1 p2 p3 p4 q0 q1 q2 q3 q4; obtain ⟨p0, p1, p2, p3, p4⟩ := HBX.out.keep HB2.out HGL.out
          have HA3 := Ha (show W.heap.size <= (r2.val.alloc (.cells #[.string r.s, .int .i64 r.t, .int .i64 r.c, .int .i64 r.l, .string r.d] 46)).heap.size by have := HB2.out.size; simp; omega)
          have HN3 := Ha (show (O).length + 1 <= 1073741824 by have := HLK.out; simp; omega)
          have HD3 := Ha (show Below W.heap.size W (r2.val.alloc (.cells #[.string r.s, .int .i64 r.t, .int .i64 r.c, .int .i64 r.l, .string r.d] 46)) from HB2.out.alloc HB2.out.size _)
          have HQ3 := Ha (HO2.out.alloc (.cells #[.string r.s, .int .i64 r.t, .int .i64 r.c, .int .i64 r.l, .string r.d] 46))
          go_wp2_with (first | (at_builtin; (refine wpList_append_R rfl _ _ rfl W.heap.size _ _ (O) rfl HQ3.out (r2.val.heap.size + 1) _ _ _ _ rfl (SeesR.one _ r) HN3.out HA3.out ?_); intro v3 w3 ho hg; (have HO3 := Ha (show w3.ownsRow W.heap.size 46 5 v3 (O ++ [r]).length (rcells (O ++ [r])) by simpa using ho)); (have HB3 := Ha (HD3.out.grown hg HA3.out (own_block_ge HQ3.out))); clear ho hg p0 p1 p2 p3 p4))
          go_roundw
          case rel => exact ⟨k + 1, true, by omega, by go_num, rfl, O ++ [r], HO3.out, HE.out, by have := HL2.out; simp; omega, HB3.out⟩
          case measure => simp [intOf]; omega
        · have gz : z <= 0 := by omega
          have gy : (z == 0) = true := by rw [hz1]; rfl
          have gw : z = 0 := hz1
          have HE := Ha (show (O) ++ refP cmpX r (xs.drop (k + 1)) true = refP cmpX r xs false by rw [<-HP.out, hst]; simp [gw])
          clear hst; go_wp2_with fail
          refine region_later (by kernel_rfl) ?_
          repeat (go_big_quiet_step ((go_at_call 185; with_reducible exact HC.out _)))
          refine wpQuiet_nil ?_
          rintro _ ⟨r2, rfl⟩; have HB2 := Ha (HB.out.trans (r2.below.mono HB.out.size))
          have HO2 := Ha (own_keep HO.out r2.below)
          clear p0 p1 p2 p3 p4 q0 q1 q2 q3 q4; go_wp2_with fail
          go_roundw
          case rel => exact ⟨k + 1, true, by omega, by go_num, rfl, O, HO2.out, HE.out, by have := HL2.out; simp; omega, HB2.out⟩
          case measure => simp [intOf]; omega
      · cases d
        · have gz : decide (z <= 0) = false := by rw [decide_eq_false_iff_not]; omega
          have gy : (z == 0) = false := by rw [beq_eq_false_iff_ne]; omega
          have gw : z ≠ 0 := by omega
          have gv : ¬ (z <= 0) := by omega
          have HE := Ha (show (O ++ [x]) ++ refP cmpX r (xs.drop (k + 1)) false = refP cmpX r xs false by rw [<-HP.out, hst]; simp [gv, gw])
          clear hst; go_wp2_with fail
          refine region_later (by kernel_rfl) ?_
          repeat (go_big_quiet_step ((go_at_call 185; with_reducible exact HC.out _)))
          refine wpQuiet_nil ?_
          rintro _ ⟨r2, rfl⟩; have HB2 := Ha (HB.out.trans (r2.below.mono HB.out.size))
          have HO2 := Ha (own_keep HO.out r2.below)
          clear p0 p1 p2 p3 p4 q0 q1 q2 q3 q4; obtain ⟨q0, q1, q2, q3, q4⟩ := HXB.out.keep HB2.out hb
          have HA3 := Ha (show W.heap.size <= (r2.val.alloc (.cells #[.string x.s, .int .i64 x.t, .int .i64 x.c, .int .i64 x.l, .string x.d] 46)).heap.size by have := HB2.out.size; simp; omega)
          have HN3 := Ha (show (O).length + 1 <= 1073741824 by have := HLK.out; simp; omega)
          have HD3 := Ha (show Below W.heap.size W (r2.val.alloc (.cells #[.string x.s, .int .i64 x.t, .int .i64 x.c, .int .i64 x.l, .string x.d] 46)) from HB2.out.alloc HB2.out.size _)
          have HQ3 := Ha (HO2.out.alloc (.cells #[.string x.s, .int .i64 x.t, .int .i64 x.c, .int .i64 x.l, .string x.d] 46))
          go_wp2_with (first | (at_builtin; (refine wpList_append_R rfl _ _ rfl W.heap.size _ _ (O) rfl HQ3.out (r2.val.heap.size + 1) _ _ _ _ rfl (SeesR.one _ x) HN3.out HA3.out ?_); intro v3 w3 ho hg; (have HO3 := Ha (show w3.ownsRow W.heap.size 46 5 v3 (O ++ [x]).length (rcells (O ++ [x])) by simpa using ho)); (have HB3 := Ha (HD3.out.grown hg HA3.out (own_block_ge HQ3.out))); clear ho hg q0 q1 q2 q3 q4))
          go_roundw
          case rel => exact ⟨k + 1, false, by omega, by go_num, rfl, O ++ [x], HO3.out, HE.out, by have := HL2.out; simp; omega, HB3.out⟩
          case measure => simp [intOf]; omega
        · have gz : decide (z <= 0) = false := by rw [decide_eq_false_iff_not]; omega
          have gy : (z == 0) = false := by rw [beq_eq_false_iff_ne]; omega
          have gw : z ≠ 0 := by omega
          have gv : ¬ (z <= 0) := by omega
          have HE := Ha (show (O ++ [x]) ++ refP cmpX r (xs.drop (k + 1)) true = refP cmpX r xs false by rw [<-HP.out, hst]; simp [gv, gw])
          clear hst; go_wp2_with fail
          refine region_later (by kernel_rfl) ?_
          repeat (go_big_quiet_step ((go_at_call 185; with_reducible exact HC.out _)))
          refine wpQuiet_nil ?_
          rintro _ ⟨r2, rfl⟩; have HB2 := Ha (HB.out.trans (r2.below.mono HB.out.size))
          have HO2 := Ha (own_keep HO.out r2.below)
          clear p0 p1 p2 p3 p4 q0 q1 q2 q3 q4; obtain ⟨q0, q1, q2, q3, q4⟩ := HXB.out.keep HB2.out hb
          have HA3 := Ha (show W.heap.size <= (r2.val.alloc (.cells #[.string x.s, .int .i64 x.t, .int .i64 x.c, .int .i64 x.l, .string x.d] 46)).heap.size by have := HB2.out.size; simp; omega)
          have HN3 := Ha (show (O).length + 1 <= 1073741824 by have := HLK.out; simp; omega)
          have HD3 := Ha (show Below W.heap.size W (r2.val.alloc (.cells #[.string x.s, .int .i64 x.t, .int .i64 x.c, .int .i64 x.l, .string x.d] 46)) from HB2.out.alloc HB2.out.size _)
          have HQ3 := Ha (HO2.out.alloc (.cells #[.string x.s, .int .i64 x.t, .int .i64 x.c, .int .i64 x.l, .string x.d] 46))
          go_wp2_with (first | (at_builtin; (refine wpList_append_R rfl _ _ rfl W.heap.size _ _ (O) rfl HQ3.out (r2.val.heap.size + 1) _ _ _ _ rfl (SeesR.one _ x) HN3.out HA3.out ?_); intro v3 w3 ho hg; (have HO3 := Ha (show w3.ownsRow W.heap.size 46 5 v3 (O ++ [x]).length (rcells (O ++ [x])) by simpa using ho)); (have HB3 := Ha (HD3.out.grown hg HA3.out (own_block_ge HQ3.out))); clear ho hg q0 q1 q2 q3 q4))
          go_roundw
          case rel => exact ⟨k + 1, true, by omega, by go_num, rfl, O ++ [x], HO3.out, HE.out, by have := HL2.out; simp; omega, HB3.out⟩
          case measure => simp [intOf]; omega
    · obtain rfl : k = n := by omega
      have HE := Ha (show O ++ refP cmpX r [] d = refP cmpX r xs false by rw [<-HP.out, List.drop_of_length_le (Nat.le_of_eq HN.out)])
      have HLK := Ha (show O.length + 1 <= 1073741824 by have := HL.out; omega)
      obtain ⟨p0, p1, p2, p3, p4⟩ := HBX.out.keep HB.out HGL.out
      cases d
      · have HE2 := Ha (show O ++ [r] = refP cmpX r xs false from HE.out)
        have HA3 := Ha (show W.heap.size <= (wr.alloc (.cells #[.string r.s, .int .i64 r.t, .int .i64 r.c, .int .i64 r.l, .string r.d] 46)).heap.size by have := HB.out.size; simp; omega)
        have HD3 := Ha (show Below W.heap.size W (wr.alloc (.cells #[.string r.s, .int .i64 r.t, .int .i64 r.c, .int .i64 r.l, .string r.d] 46)) from HB.out.alloc HB.out.size _)
        have HQ3 := Ha (HO.out.alloc (.cells #[.string r.s, .int .i64 r.t, .int .i64 r.c, .int .i64 r.l, .string r.d] 46))
        go_wp2_with (at_builtin; (refine wpList_append_R rfl _ _ rfl W.heap.size _ _ O rfl HQ3.out (wr.heap.size + 1) _ _ _ _ rfl (SeesR.one _ r) HLK.out HA3.out ?_); intro v3 w3 ho hg)
        have HO3 := Ha (show w3.ownsRow W.heap.size 46 5 v3 (refP cmpX r xs false).length (rcells (refP cmpX r xs false)) by rw [<-HE2.out]; simpa using ho)
        have HB3 := Ha (HD3.out.grown hg HA3.out (own_block_ge HQ3.out))
        clear ho hg p0 p1 p2 p3 p4; go_wp2_with fail
        go_ret
        exact ⟨_, rfl, own_less HO3.out HB0.out.size, HB0.out.trans (HB3.out.mono HB0.out.size)⟩
      · have HE2 := Ha (show O = refP cmpX r xs false by rw [<-HE.out]; simp [refP])
        have HO3 := Ha (show wr.ownsRow W.heap.size 46 5 u5 (refP cmpX r xs false).length (rcells (refP cmpX r xs false)) by rw [<-HE2.out]; exact HO.out)
        clear p0 p1 p2 p3 p4; go_wp2_with fail
        go_ret
        exact ⟨_, rfl, own_less HO3.out HB0.out.size, HB0.out.trans (HB.out.mono HB0.out.size)⟩
end Go.Proofs.YtmpginmdaeclaaaGreatDoor
