/- Parts of the proofs of the statements of image. No statement of the seat is proved here. -/
import Derived.Test.YtnbapaimpoobkaaGreatDoorRrA
import Derived.Test.YtnbapaimpoobkaaGreatDoorNaI
import Derived.Deep.AppendSrc
import Derived.Deep.RegionHeld3
import Derived.Lib.SliceRun
import Derived.Test.YtnbapaimpoobkaaGreatDoorReP
import Derived.Deep.RegionWith
import Derived.Deep.RegionLaw
namespace Go.Proofs.YtnbapaimpoobkaaGreatDoor
open Go.RowKit Go.Op

theorem box_five (w : World) (r : Rrd) : Five (w.alloc (.cells #[.string r.s, .int .i64 r.t, .int .i64 r.c, .int .i64 r.l, .string r.d] 27)) w.heap.size 0 r :=
  rr_facts (Whole.new w rrT (rrA r.s r.d r.t r.c r.l))

end Go.Proofs.YtnbapaimpoobkaaGreatDoor
namespace Go.Proofs.YtnbapaimpoobkaaGreatDoor
open Go.RowKit Go.Op

/-! ### a drawn region, by hand -/
section
variable {P : Program} {ops : Array Oper} {Q : Exit → Act → World → Prop} {md : Region.Mode} {S : World → Prop}
end
theorem own_block_ge {w : World} {base : Nat} {e : TypeId} {k : Nat} {v : Value} {n : Nat} {xs : List Value} (h : w.ownsRow base e k v n xs) : ∀ j, v.ownBlock = some j → base ≤ j := by
  intro j hj
  rcases h.2 with ⟨rfl, _⟩ | ⟨g, cap, cur, rfl, hb, _⟩
  · cases hj
  · have : g = j := by simpa [Value.ownBlock] using hj
    omega
/-- nothing appended to nil -/
theorem run_nil_R (w : World) (ty : TypeId) (c : Nat) : (Builtin.append_ #[22, 22] ty #[.slice none 0 0, .slice none 0 c]).run Tryz.prog w = .ok (.slice none 0 0) w := by
  obtain ⟨i, hi, hz0, hz1, hz2⟩ := info_parts rec_info
  have hs := Src.ofNil (P := Tryz.prog) (size := i.size) w Tryz.underlying22 c
  have hl := hs.len
  have hc := hs.cells
  have hu := run_underlying (P := Tryz.prog) Tryz.underlying22
  simp [Builtin.append_, hu, sizeOf, typeInfo, hi, hl, hc]
set_option maxRecDepth 20000 in
/-- records appended to a row of one's own -/
theorem run_append_R {w : World} (ty : TypeId) {base : Nat} {v : Value} {n : Nat} {xs : List Rrd} (hown : w.ownsRow base 27 5 v n (rcells xs)) {B : Nat} {A : Option Addr} {m : Nat} (c : Nat) {ys : List Rrd} (hr : SeesR w B A m ys)
    (h63 : n + m ≤ 1073741824) (hbase : base ≤ w.heap.size) :
    ∃ v' w', (Builtin.append_ #[22, 22] ty #[v, .slice A m c]).run Tryz.prog w = .ok v' w' ∧ w'.ownsRow base 27 5 v' (n + m) (rcells (xs ++ ys)) ∧ w.grownBy w' v.ownBlock := by
  obtain ⟨i, hi, hz0, hz1, hz2⟩ := info_parts rec_info
  have hkl := rcells_len ys
  rw [hr.1] at hkl
  rcases A with _ | ad
  · have hm : m = 0 := by
      rcases Nat.eq_zero_or_pos m with h0 | h0
      · exact h0
      · obtain ⟨b, off, e, _⟩ := hr.2 h0
        cases e
    subst hm
    obtain rfl : ys = [] := List.eq_nil_of_length_eq_zero hr.1
    rw [List.append_nil, Nat.add_zero]
    have hs := Src.ofNil (P := Tryz.prog) (size := i.size) w Tryz.underlying22 c
    rcases hown.2 with ⟨rfl, h0⟩ | ⟨g, cap, cur, rfl, h1, h2, h3, h4⟩
    · subst h0
      exact ⟨_, _, run_nil_R w ty c, hown, World.grownBy.refl w _⟩
    · have hrun := run_append_room_src (P := Tryz.prog) w 22 22 ty 27 i Tryz.underlying22 hi g 0 n cap (.slice none 0 c) 0 [] hs h3 (by simp) (by simp)
      have hsame : w.setCells g (0 + n * i.size) [] = w := rfl
      rw [hsame] at hrun
      exact ⟨_, _, hrun, hown, World.grownBy.refl w _⟩
  · have hcells : ∀ j u, (rcells ys)[j]? = some u → w.cell? (ad.add j) = some u := by
      intro j u hu
      have hj : j < (rcells ys).length := (List.getElem?_eq_some_iff.1 hu).1
      obtain ⟨b, off, e, _, hc⟩ := hr.cells (by omega)
      injection e with e
      subst e
      rw [show (⟨b, off, none⟩ : Addr).add j = ⟨b, off + j, none⟩ from by unfold Addr.add; split <;> simp_all]
      exact hc j u hu
    obtain ⟨v', w', h1, h2, h3, _⟩ := run_append_own (P := Tryz.prog) w base 22 ty 27 i (.agg #[.string ⟨#[]⟩, .int .i64 0, .int .i64 0, .int .i64 0, .string ⟨#[]⟩]) 5 56 Tryz.underlying22 hi hz0 hz1 hz2 rfl (by decide) v n (rcells xs) hown ad m c (rcells ys) hkl hcells (rcells_one ys) (by unfold maxLen; omega) (by omega) hbase
    exact ⟨v', w', h1, by rw [rcells_append]; exact h2, h3⟩
theorem wp_append_R {w : World} {o : Oper} {a : Act} {K : Act → World → Prop} {Q : Exit → Act → World → Prop} (s x : Operand)
    (ho : o.op = .call { callee := .builtin .append, args := #[s, x], argTypes := #[22, 22] }) (base : Nat) (v : Value) (n : Nat) (xs : List Rrd) (hs : a.eval s = v) (hown : w.ownsRow base 27 5 v n (rcells xs))
    (B : Nat) (A : Option Addr) (m c : Nat) (ys : List Rrd) (hx : a.eval x = .slice A m c) (hr : SeesR w B A m ys) (h63 : n + m ≤ 1073741824) (hbase : base ≤ w.heap.size)
    (h : ∀ v' w', w'.ownsRow base 27 5 v' (n + m) (rcells (xs ++ ys)) → w.grownBy w' v.ownBlock → K (a.put o.dst v') w') : o.wp Tryz.prog a w K Q := by
  obtain ⟨v', w', hrun, h1, h2⟩ := run_append_R o.type hown c hr h63 hbase
  unfold Oper.wp execOp
  simp only [ho, resolve, invoke, builtin, Sem.run_bind, Sem.run_pure, Result.andThen_ok, List.map_toArray, List.map_cons, List.map_nil, hs, hx, hrun]
  exact h v' w' h1 h2
theorem wpList_append_R {w : World} {ops : Array Oper} {rest : List Oper} {o : Oper} {a : Act} {Q : Exit → Act → World → Prop} (hgd : o.guard = none) (s x : Operand)
    (ho : o.op = .call { callee := .builtin .append, args := #[s, x], argTypes := #[22, 22] }) (base : Nat) (v : Value) (n : Nat) (xs : List Rrd) (hs : a.eval s = v) (hown : w.ownsRow base 27 5 v n (rcells xs))
    (B : Nat) (A : Option Addr) (m c : Nat) (ys : List Rrd) (hx : a.eval x = .slice A m c) (hr : SeesR w B A m ys) (h63 : n + m ≤ 1073741824) (hbase : base ≤ w.heap.size)
    (h : ∀ v' w', w'.ownsRow base 27 5 v' (n + m) (rcells (xs ++ ys)) → w.grownBy w' v.ownBlock → wpList Tryz.prog ops Q rest (a.put o.dst v') w') : wpList Tryz.prog ops Q (o :: rest) a w :=
  wpList_plain hgd fun _ hK => wp_append_R s x ho base v n xs hs hown B A m c ys hx hr h63 hbase fun v' w' h1 h2 => hK _ _ (h v' w' h1 h2)
theorem own_nil (w : World) (base : Nat) (e : TypeId) (k : Nat) : w.ownsRow base e k (.slice none 0 0) 0 [] := ⟨by simp, .inl ⟨rfl, rfl⟩⟩

/-! ### slices.Grow of nil -/
/-! ### slices.Concat -/
structure Slot where
  A : Option Addr
  n : Nat
  c : Nat
  l : List Rrd
/-- slices of records that lie in a row -/
def SeesSl (w : World) (B : Nat) (A : Option Addr) (ss : List Slot) : Prop :=
  (∃ b off, A = some ⟨b, off, none⟩ ∧ b < B ∧ ∀ j s, ss[j]? = some s → w.cell? ⟨b, off + j, none⟩ = some (.slice s.A s.n s.c)) ∧ ∀ s ∈ ss, SeesR w B s.A s.n s.l
theorem SeesSl.keep {w w' : World} {B : Nat} {A : Option Addr} {ss : List Slot} (h : SeesSl w B A ss) (hb : Below B w w') : SeesSl w' B A ss := by
  obtain ⟨⟨b, off, e, hlt, hc⟩, h2⟩ := h
  exact ⟨⟨b, off, e, hlt, fun j s hs => (hb.cell hlt).trans (hc j s hs)⟩, fun s hs => (h2 s hs).keep hb⟩
end Go.Proofs.YtnbapaimpoobkaaGreatDoor
namespace Go.Proofs.YtnbapaimpoobkaaGreatDoor
open Go.RowKit Go.Op

/-- a slice's room -/
def InCap (A : Option Addr) (n c : Nat) : Prop := n ≤ c ∧ c ≤ 9223372036854775807 ∧ (A = none → c = 0) ∧ (∀ ad, A = some ad → 0 < c → ad.spot = none)
theorem SeesR.some {w : World} {B : Nat} {ad : Addr} {n : Nat} {xs : List Rrd} (h : SeesR w B (some ad) n xs) (hn : 0 < n) : ∃ b off, ad = ⟨b, off, none⟩ ∧ b < B := by
  obtain ⟨b, off, e, hb, _⟩ := h.2 hn
  injection e with e
  exact ⟨b, off, e, hb⟩
theorem SeesR.take {w : World} {B : Nat} {A : Option Addr} {n : Nat} {xs : List Rrd} (h : SeesR w B A n xs) {i : Nat} (hi : i ≤ n) : SeesR w B A i (xs.take i) := by
  refine ⟨by rw [List.length_take, h.1]; omega, fun h0 => ?_⟩
  obtain ⟨b, off, e, hb, hc⟩ := h.2 (by omega)
  exact ⟨b, off, e, hb, fun j x hx => hc j x (by rw [List.getElem?_take] at hx; split at hx <;> first | exact hx | cases hx)⟩
theorem SeesR.drop {w : World} {B : Nat} {b off n : Nat} {xs : List Rrd} (h : SeesR w B (Option.some ⟨b, off, none⟩) n xs) {i : Nat} (hi : i ≤ n) : SeesR w B (Option.some ⟨b, off + i * 5, none⟩) (n - i) (xs.drop i) := by
  refine ⟨by rw [List.length_drop, h.1], fun h0 => ?_⟩
  obtain ⟨b', off', e, hb, hc⟩ := h.2 (by omega)
  obtain ⟨rfl, rfl⟩ : b = b' ∧ off = off' := by simpa using e
  refine ⟨b, off + i * 5, rfl, hb, fun j x hx => ?_⟩
  rw [List.getElem?_drop] at hx
  obtain ⟨x0, x1, x2, x3, x4⟩ := hc (i + j) x hx
  have e0 : off + i * 5 + j * 5 = off + (i + j) * 5 := by omega
  rw [e0]
  exact ⟨x0, x1, x2, x3, x4⟩
theorem SeesR.one (w : World) (r : Rrd) : SeesR (w.alloc (.cells #[.string r.s, .int .i64 r.t, .int .i64 r.c, .int .i64 r.l, .string r.d] 27)) (w.heap.size + 1) (Option.some ⟨w.heap.size, 0, none⟩) 1 [r] := by
  refine ⟨rfl, fun _ => ⟨w.heap.size, 0, rfl, by omega, fun j x hx => ?_⟩⟩
  cases j with
  | zero =>
    simp only [List.getElem?_cons_zero, Option.some.injEq] at hx
    subst hx
    simp only [Nat.zero_mul, Nat.zero_add]
    exact box_five w r
  | succ j => simp at hx

set_option maxHeartbeats 4000000 in
set_option maxRecDepth 20000 in
theorem RClone_any (A : Option Addr) (n c : Nat) (xs : List Rrd) (w : World) (hx : SeesR w w.heap.size A n xs) (hn : n ≤ 1073741824) :
    Calls Tryz.prog 51 #[.slice A n c] w fun e w' => ∃ v, e = .returned v ∧ w'.ownsRow w.heap.size 27 5 v n (rcells xs) ∧ Below w.heap.size w w' := by
  have HX := Lib.hid hx
  have q22 : ∀ (w : World) (a : Option Addr) (n c n' c' : Nat), (binOp .eql 22 (.slice a n c) (.slice none n' c')).run Tryz.prog w = .ok (.bool a.isNone) w := fun w a n c n' c' => Lib.run_eql_slice_nil w _ _ a n c n' c' Tryz.underlying22
  clear hx
  rcases A with _ | ad
  · have hm : n = 0 := by
      rcases Nat.eq_zero_or_pos n with h0 | h0
      · exact h0
      · obtain ⟨b, off, e, _⟩ := HX.out.2 h0
        cases e
    have hxs : xs = [] := List.eq_nil_of_length_eq_zero (by rw [HX.out.1, hm])
    subst hm hxs
    clear HX
    go_enter Tryz.func51, Tryz.ntmps51
    go_wp2_with fail
    go_ret
    exact ⟨_, rfl, own_nil _ _ _ _, Below.refl _ _⟩
  · have HO := Lib.hid (own_noneR w w.heap.size (Nat.le_refl _))
    have HB := Lib.hid (show Below w.heap.size w (w.alloc (.cells #[] 27)) from (Below.refl _ _).alloc (Nat.le_refl _) _)
    have HX2 := Lib.hid (HX.out.keep HB.out)
    have HN := Lib.hid (show 0 + n ≤ 1073741824 by omega)
    go_enter Tryz.func51, Tryz.ntmps51
    go_wp2_with (at_builtin; (refine wpList_append_R rfl _ _ rfl w.heap.size _ 0 [] rfl HO.out w.heap.size _ _ _ _ rfl HX2.out HN.out HB.out.size ?_); intro v' w' ho hg)
    rw [Nat.zero_add, List.nil_append] at ho
    have HO2 := Lib.hid ho
    have HB2 := Lib.hid (HB.out.grown hg HB.out.size (own_block_ge HO.out))
    clear ho hg
    go_wp2_with fail
    go_ret
    exact ⟨_, rfl, HO2.out, HB2.out⟩

theorem own_less {w : World} {b b' : Nat} {e : TypeId} {k : Nat} {v : Value} {n : Nat} {xs : List Value} (h : w.ownsRow b e k v n xs) (hb : b' ≤ b) : w.ownsRow b' e k v n xs := by
  obtain ⟨h1, h2⟩ := h
  refine ⟨h1, ?_⟩
  rcases h2 with h2 | ⟨g, cap, cur, h3, h4, h5⟩
  · exact .inl h2
  · exact .inr ⟨g, cap, cur, h3, by omega, h5⟩
theorem seesR_none {w : World} {B : Nat} {A : Option Addr} {n k : Nat} {xs : List Rrd} (hn : n = 0) (hk : xs.length ≤ k) : SeesR w B A n (xs.drop k) :=
  ⟨by rw [List.length_drop]; omega, fun h => absurd h (by omega)⟩
end Go.Proofs.YtnbapaimpoobkaaGreatDoor
namespace Go.Proofs.YtnbapaimpoobkaaGreatDoor
open Go.RowKit Go.Op

/-! ### Find -/
theorem ret52 {fn : Func} {R : Ending → World → Prop} {a : Act} {w : World} {p u r : Nat} {a0 a1 a2 a3 a4 x : Value} (hf : fn.results = #[.cell p rrT, .tmp u]) (hd : a.defers = []) (hp : a.tmps.getD p undef = .pointer (some ⟨r, 0, none⟩)) (hx : a.tmps.getD u undef = x)
    (h : Whole w r rrT #[a0, a1, a2, a3, a4]) (hR : R (.returned (.tuple #[.agg #[a0, a1, a2, a3, a4], x])) w) : bodyPost Tryz.prog fn R .ret a w := by
  refine bodyPost_ret ?_ hd hR
  have hp' : a.tmps[p]?.getD undef = .pointer (some ⟨r, 0, none⟩) := by simpa using hp
  have hx' : a.tmps[u]?.getD undef = x := by simpa using hx
  simp [results, hf, hp', hx', asAddr, run_loadVar_row w r rrT _ _ (0, 0) _ h Tryz.underlying27 rfl rr_size, Result.andThen]
end Go.Proofs.YtnbapaimpoobkaaGreatDoor
namespace Go.Proofs.YtnbapaimpoobkaaGreatDoor
open Go.RowKit Go.Op

theorem own_keep {w w' : World} {b : Nat} {e : TypeId} {k : Nat} {v : Value} {n : Nat} {xs : List Value} (h : w.ownsRow b e k v n xs) (hb : Below w.heap.size w w') : w'.ownsRow b e k v n xs := by
  obtain ⟨h1, h2⟩ := h
  refine ⟨h1, ?_⟩
  rcases h2 with h2 | ⟨g, cap, cur, h3, h4, h5, h6⟩
  · exact .inl h2
  · exact .inr ⟨g, cap, cur, h3, h4, (hb.block g (Array.getElem?_eq_some_iff.1 h5).1).trans h5, h6⟩
end Go.Proofs.YtnbapaimpoobkaaGreatDoor
