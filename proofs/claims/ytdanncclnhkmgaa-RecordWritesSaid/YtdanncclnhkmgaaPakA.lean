/- A packer in memory; the methods of its builder (which is the packer's first field), walked over the packer's own block. No statement of the seat is proved here. -/
import Derived.Test.YtdanncclnhkmgaaShl
import Derived.Test.YtdanncclnhkmgaaPakM
import Derived.Test.YtdanncclnhkmgaaNamD
import Derived.Test.YtdanncclnhkmgaaOctN
import Derived.Lib.FrozenHead
import Derived.Lib.UnsafeStr
import Derived.Maps.RangeWalk
namespace Go.Proofs.Ytdanncclnhkmgaa
open Go.RowKit Go.Maps

theorem law : Keyed Try.prog 9 := string_keyed Try.underlying9

theorem sclone_any (s : ByteArray) (w : World) (hs : s.size ≤ 281474976710656) :
    Calls Try.prog 74 #[.string s] w fun e w' => e = .returned (.string s) ∧ Below w.heap.size w w' := by
  go_enter Try.func74, Try.ntmps74
  go_wp2_with (go_at_call 100; refine (AnyPu.stringslite_Clone scloneL s w hs).mono ?_; rintro e w1 ⟨rfl, hb⟩)
  go_ret
  exact ⟨rfl, hb⟩

/-! ### what is known, as a map's entries -/
def intR : Value → Option (DataW Unit × List MemPlace)
  | .int .i64 z => some (.lit (.int .i64 z), [])
  | _ => none
theorem intR_mk (z : Int) : intR (.int .i64 z) = some (.lit (.int .i64 z), []) := rfl
theorem intR_inv {v : Value} {z : Int} {ps : List MemPlace} (h : intR v = some (.lit (.int .i64 z), ps)) : v = .int .i64 z := by
  unfold intR at h
  split at h
  · simp only [Option.some.injEq, Prod.mk.injEq, DataW.lit.injEq, Lit.int.injEq, true_and] at h
    rw [h.1]
  · cases h
def KMap (D : DataW Unit) (K : Kn) : Prop :=
  Maps.IsMap D ∧ ∀ k, Maps.has D (.string k) = (K k).isSome ∧ D.atKey (.string k) (.lit (.int .i64 0)) = .lit (.int .i64 ((K k).getD 0 : Nat))
theorem KMap.none : KMap (.map []) noneK := ⟨⟨[], rfl⟩, fun _ => ⟨rfl, rfl⟩⟩
theorem KMap.put {D : DataW Unit} {K : Kn} (h : KMap D K) (r : List UInt8) (p : Nat) : KMap (D.put (.string r) (.lit (.int .i64 (p : Nat)))) (fun k => if k = r then some p else K k) := by
  refine ⟨?_, fun k => ?_⟩
  · obtain ⟨es, rfl⟩ := h.1
    exact ⟨_, rfl⟩
  · by_cases hk : k = r
    · subst hk
      rw [Maps.has_put_same h.1 (by simp [WideAt.IsKeyLit]), Maps.atKey_put_same h.1 (by simp [WideAt.IsKeyLit])]
      simp
    · have hne : Lit.string k ≠ Lit.string r := by intro e; injection e with e; exact hk e
      rw [Maps.has_put_other hne, Maps.atKey_put_other hne]
      simpa [hk] using h.2 k

/-! ### the packer -/
abbrev pkT : TypeId := 65
/-- block b holds a packer: its builder's row is v, its map is block m; the message is l, K is known (by no more than c entries) -/
structure Pk (B : Nat) (w : World) (b m : Nat) (v : Value) (l : List UInt8) (K : Kn) (c : Nat) : Prop where
  hb : B ≤ b
  hm : B ≤ m
  blk : ∃ p, (p = .pointer none ∨ p = .pointer (some ⟨b, 0, none⟩)) ∧ w.heap[b]? = some (.cells #[p, v, .map (some m)] pkT (0, 0))
  row : w.ownsRowF B 5 1 v l.length (Lib.byteCells l)
  map : ∃ D n, w.ownsMap Try.prog 9 intR m n D ∧ n ≤ c ∧ KMap D K
  nl : l = [] → v = .slice none 0 0
/-- of what was there only the packer's own blocks have turned -/
structure Kp (b m : Nat) (v v' : Value) (w w' : World) : Prop where
  os : w'.os = w.os
  tape : w'.tape = w.tape
  output : w'.output = w.output
  size : w.heap.size ≤ w'.heap.size
  block : ∀ k, k < w.heap.size → k ≠ b → k ≠ m → v.ownBlock ≠ some k → w'.heap[k]? = w.heap[k]?
  own : ∀ g, v'.ownBlock = some g → v.ownBlock = some g ∨ w.heap.size ≤ g
theorem Kp.refl (b m : Nat) (v : Value) (w : World) : Kp b m v v w w := ⟨rfl, rfl, rfl, Nat.le_refl _, fun _ _ _ _ _ => rfl, fun _ h => .inl h⟩
theorem Kp.trans {b m : Nat} {v v' v'' : Value} {w w' w'' : World} (h : Kp b m v v' w w') (k : Kp b m v' v'' w' w'') : Kp b m v v'' w w'' := by
  refine ⟨k.os.trans h.os, k.tape.trans h.tape, k.output.trans h.output, Nat.le_trans h.size k.size, fun i hi h1 h2 h3 => ?_, fun g hg => ?_⟩
  · refine (k.block i (Nat.lt_of_lt_of_le hi h.size) h1 h2 fun e => ?_).trans (h.block i hi h1 h2 h3)
    rcases h.own i e with h' | h'
    · exact h3 h'
    · omega
  · rcases k.own g hg with h' | h'
    · exact h.own g h'
    · exact .inr (Nat.le_trans h.size h')
theorem Kp.of_below {b m : Nat} {v : Value} {w w' : World} (h : Below w.heap.size w w') : Kp b m v v w w' := ⟨h.os, h.tape, h.output, h.size, fun k hk _ _ _ => h.block k hk, fun _ h => .inl h⟩
theorem Kp.to {b m : Nat} {v v' : Value} {w w' w'' : World} (h : Kp b m v v' w w') (k : Below w'.heap.size w' w'') : Kp b m v v' w w'' := h.trans (.of_below k)
theorem Kp.drewN {b m : Nat} {v v' : Value} {w w' : World} (h : Kp b m v v' w w') (n : Nat) : Kp b m v v' w (w'.drewN n) := ⟨h.os, h.tape, h.output, h.size, h.block, h.own⟩
theorem Kp.drew {b m : Nat} {v v' : Value} {w w' : World} (h : Kp b m v v' w w') : Kp b m v v' w w'.drew := ⟨h.os, h.tape, h.output, h.size, h.block, h.own⟩
theorem Kp.of_grown {b m : Nat} {v : Value} {w w' : World} {g : Option Nat} (h : w.grownBy w' g) (hg : ∀ k, g = some k → k = b ∨ k = m ∨ v.ownBlock = some k) : Kp b m v v w w' :=
  ⟨h.os, h.tape, h.output, h.size, fun k hk h1 h2 h3 => h.block k hk (fun e => by rcases hg k e.symm with h' | h' | h' <;> contradiction), fun _ h => .inl h⟩
section
variable {B b m c : Nat} {w w' : World} {v v' : Value} {l : List UInt8} {K : Kn}
theorem Pk.blt (h : Pk B w b m v l K c) : b < w.heap.size := by
  obtain ⟨p, _, hb⟩ := h.blk
  rcases Nat.lt_or_ge b w.heap.size with h' | h'
  · exact h'
  · simp [Array.getElem?_eq_none h'] at hb
theorem Pk.mlt (h : Pk B w b m v l K c) : m < w.heap.size := by obtain ⟨D, n, h1, _⟩ := h.map; exact h1.lt
theorem Pk.vlt (h : Pk B w b m v l K c) : ∀ g, v.ownBlock = some g → B ≤ g ∧ g < w.heap.size := h.row.lt
theorem Pk.nm (h : Pk B w b m v l K c) : b ≠ m := by
  rintro rfl
  obtain ⟨p, _, hb⟩ := h.blk
  obtain ⟨D, n, ⟨es, clock, hm, _⟩, _⟩ := h.map
  rw [hb] at hm; cases hm
theorem Pk.nv (h : Pk B w b m v l K c) : v.ownBlock ≠ some b := by
  obtain ⟨p, _, hb⟩ := h.blk
  exact Lib.ownBlock_neF h.row hb (by decide)
theorem Pk.nmv (h : Pk B w b m v l K c) : v.ownBlock ≠ some m := by
  intro hv
  obtain ⟨D, n, ⟨es, clock, hm, _⟩, _⟩ := h.map
  rcases h.row.2 with ⟨rfl, _⟩ | ⟨g, cap, cur, fz, rfl, _, hg, _⟩
  · simp [Value.ownBlock] at hv
  · obtain rfl : g = m := by simpa [Value.ownBlock] using hv
    rw [hg] at hm; cases hm
theorem Pk.same (h : Pk B w b m v l K c) (hb : Below w.heap.size w w') : Pk B w' b m v l K c := by
  have hg : w.grownBy w' none := ⟨hb.os, hb.tape, hb.output, hb.size, fun k hk _ => hb.block k hk⟩
  obtain ⟨p, hp, hk⟩ := h.blk
  obtain ⟨D, n, h1, h2, h3⟩ := h.map
  exact ⟨h.hb, h.hm, ⟨p, hp, (hb.block b h.blt).trans hk⟩, h.row.kept hg (by cases v.ownBlock <;> simp), ⟨D, n, h1.kept hg (by simp), h2, h3⟩, h.nl⟩
theorem Pk.drew (h : Pk B w b m v l K c) : Pk B w.drew b m v l K c := h.same (Below.refl _ _).drew
theorem Pk.drewN (h : Pk B w b m v l K c) (n : Nat) : Pk B (w.drewN n) b m v l K c := h.same (below_drewN (Below.refl _ _) n)
theorem Pk.alloc (h : Pk B w b m v l K c) (o : Obj) : Pk B (w.alloc o) b m v l K c := h.same ((Below.refl _ _).alloc (Nat.le_refl _) o)
theorem Pk.more (h : Pk B w b m v l K c) {c' : Nat} (hc : c ≤ c') : Pk B w b m v l K c' := by
  obtain ⟨D, n, h1, h2, h3⟩ := h.map
  exact ⟨h.hb, h.hm, h.blk, h.row, ⟨D, n, h1, Nat.le_trans h2 hc, h3⟩, h.nl⟩
/-- what of others lies below B stands -/
theorem Kp.below (h : Kp b m v v' w w') (hp : Pk B w b m v l K c) (hB : B ≤ w.heap.size) : Below B w w' :=
  ⟨h.os, h.tape, h.output, h.size, fun k hk => h.block k (by omega) (by have := hp.hb; omega) (by have := hp.hm; omega) (fun e => by have := (hp.vlt k e).1; omega)⟩
theorem Pk.cell1 (h : Pk B w b m v l K c) : w.cell? ⟨b, 1, none⟩ = some v := by
  obtain ⟨p, _, hb⟩ := h.blk
  rw [Lib.cell_of_heap hb]; rfl
theorem Pk.cell2 (h : Pk B w b m v l K c) : w.cell? ⟨b, 2, none⟩ = some (.map (some m)) := by
  obtain ⟨p, _, hb⟩ := h.blk
  rw [Lib.cell_of_heap hb]; rfl
/-- the packer's cells turn: its own address, its builder's row -/
theorem Pk.turn (h : Pk B w b m v l K c) {w1 w2 : World} {l' : List UInt8} {p : Value} (hp : p = .pointer none ∨ p = .pointer (some ⟨b, 0, none⟩)) (hg : w.grownBy w1 v.ownBlock) (hrow : w1.ownsRowF B 5 1 v' l'.length (Lib.byteCells l'))
    (hnl : l' = [] → v' = .slice none 0 0) (hnew : ∀ g, v'.ownBlock = some g → v.ownBlock = some g ∨ w.heap.size ≤ g) (hg2 : w1.grownBy w2 (some b)) (hblk : w2.heap[b]? = some (.cells #[p, v', .map (some m)] pkT (0, 0))) : Pk B w2 b m v' l' K c ∧ Kp b m v v' w w2 := by
  obtain ⟨D, n, h1, h2, h3⟩ := h.map
  have hnv : v'.ownBlock ≠ some b := by
    intro e
    rcases hnew b e with h' | h'
    · exact h.nv h'
    · have := h.blt; omega
  refine ⟨⟨h.hb, h.hm, ⟨p, hp, hblk⟩, hrow.kept hg2 (.inr hnv), ⟨D, n, (h1.kept hg (Ne.symm h.nmv)).kept hg2 (fun e => h.nm (Option.some.inj e).symm), h2, h3⟩, hnl⟩, ?_⟩
  have k1 : Kp b m v v w w1 := .of_grown hg fun k hk => .inr (.inr hk)
  have k2 : Kp b m v v w1 w2 := .of_grown hg2 fun k hk => .inl (Option.some.inj hk).symm
  have k := k1.trans k2
  exact ⟨k.os, k.tape, k.output, k.size, k.block, hnew⟩
end
theorem gset (w : World) (p : Addr) (u : Value) : w.grownBy (w.setCell p u) (some p.block) :=
  ⟨rfl, rfl, rfl, by simp [World.setCell], fun k _ hne => Below.heap_setCell _ _ _ _ (fun e => hne (by rw [e]))⟩
theorem grow_refl (w : World) (g : Option Nat) : w.grownBy w g := ⟨rfl, rfl, rfl, Nat.le_refl _, fun _ _ _ => rfl⟩

/-! ### the builder -/
theorem size_builder : (Try.prog.info? 63).map (·.size) = some 2 := by kernel_rfl
theorem lies_builder : liesAt Try.prog Try.prog.depth pkT (3 / Try.prog.cellsOf pkT) 0 63 1 = true := by kernel_rfl
theorem byte_info : (Try.prog.info? 5).map (fun i => (i.zero, i.size, i.bytes)) = some (some (.int .u8 0), 1, 1) := by kernel_rfl
theorem byte_cells : Try.prog.cellsOf 5 = 1 := by kernel_rfl

set_option maxHeartbeats 1000000 in
set_option maxRecDepth 100000 in
theorem check_used (b : Nat) (w : World) (h0 : w.cell? ⟨b, 0, none⟩ = some (.pointer (some ⟨b, 0, none⟩))) :
    Calls Try.prog 94 #[.pointer (some ⟨b, 0, none⟩)] w fun e w' => e = .returned (.tuple #[]) ∧ w' = w := by
  obtain ⟨j, hj, _⟩ := Option.map_eq_some_iff.1 size_builder
  go_enter Try.func94, Try.ntmps94
  go_wp2
  rw [Lib.run_neq_ptr_same w _ Try.underlying60 hj]
  go_wp2
  go_end0
  exact ⟨rfl, rfl⟩

set_option maxHeartbeats 1000000 in
set_option maxRecDepth 100000 in
theorem check_fresh (b : Nat) (w : World) (h0 : w.cell? ⟨b, 0, none⟩ = some (.pointer none)) (hsh : w.shape? b = some (pkT, 3)) (hfz : w.frozen? ⟨b, 0, none⟩ = false) :
    Calls Try.prog 94 #[.pointer (some ⟨b, 0, none⟩)] w fun e w' => e = .returned (.tuple #[]) ∧ w' = w.setCell ⟨b, 0, none⟩ (.pointer (some ⟨b, 0, none⟩)) := by
  obtain ⟨j, hj, hjs⟩ := Option.map_eq_some_iff.1 size_builder
  go_enter Try.func94, Try.ntmps94
  go_wp2
  rw [Lib.run_to_unsafe w ⟨b, 0, none⟩ Try.underlying60 Try.underlying138 hj (by rw [hjs]; decide) hsh (Nat.zero_lt_succ 2)]
  simp only [Result.andThen]
  rw [Oper.upon_value]
  go_wp2
  rw [run_callFunc_extern Try.func109 (by kernel_rfl) (by kernel_rfl) (by kernel_rfl) (e := Extern.AbiNoEscape.same) (by kernel_rfl)]
  rw [Lib.run_noEscape]
  simp only [Result.andThen]
  rw [Oper.upon_value]
  go_wp2
  rw [Lib.run_from_unsafe w ⟨b, 0, none⟩ Try.underlying138 Try.underlying60 hj hsh lies_builder]
  simp only [Result.andThen]
  rw [Oper.upon_value]
  go_wp2
  go_end0
  exact ⟨rfl, rfl⟩

/-- where the row lies behind an append: where it lay, or in a new block -/
theorem app_where (w : World) (base ty : Nat) {v v' : Value} {n : Nat} {xs : List Value} {w' : World} (hown : w.ownsRowF base 5 1 v n xs) (s : ByteArray) (h63 : n + s.size ≤ maxLen) (hbytes : n + s.size ≤ 140737488355328)
    (hr : (Builtin.append_ #[61, 9] ty #[v, .string s]).run Try.prog w = .ok v' w') : ∀ g, v'.ownBlock = some g → v.ownBlock = some g ∨ w.heap.size ≤ g := by
  obtain ⟨i, hi, hz, hs1, hs2⟩ := info_parts byte_info
  have hown' := hown
  rcases hown.2 with ⟨rfl, rfl⟩ | ⟨g, cap, cur, fz, rfl, hbg, hg, hfz, hnc, hcm, hcs, htake⟩
  · have hx : xs = [] := List.eq_nil_of_length_eq_zero (by simpa using hown.1)
    subst hx
    obtain ⟨v1, w1, h1, h2, _, _⟩ := Lib.run_append_own_stringF (P := Try.prog) w w.heap.size 61 9 ty 5 i Try.underlying61 Try.underlying9 hi hz hs1 hs2 (.slice none 0 0) 0 [] (World.ownsRowF_nil _ _ _ _) s h63 hbytes (Nat.le_refl _)
    rw [hr] at h1
    injection h1 with e1 e2
    subst e1
    intro g hg
    exact .inr (h2.lt g hg).1
  · have hsmall : ((n + s.size : Nat) : Int) ≤ 9223372036854775807 := by omega
    have hxl : xs.length = n := by simpa using hown'.1
    have hcs' : cur.size = cap := by simpa using hcs
    by_cases hroom : n + s.size ≤ cap
    · have h1 := Lib.run_append_room_stringF (P := Try.prog) w 61 9 ty 5 i Try.underlying61 Try.underlying9 hi hs1 g n cap cur fz hg (by simpa using hfz) s hroom (by omega)
      rw [hr] at h1
      injection h1 with e1 _
      subst e1
      intro k hk
      exact .inl hk
    · have holds : ∀ j u, xs[j]? = some u → w.cell? ((⟨g, 0, none⟩ : Addr).add j) = some u := hown'.cells (g := g) rfl
      have h1 := Lib.run_append_grow_string (P := Try.prog) w 61 9 ty 5 i (.int .u8 0) Try.underlying61 Try.underlying9 hi hz ⟨g, 0, none⟩ n cap xs (by rw [hs1]; simpa using hxl) holds s (by omega) hsmall (by rw [hs2]; exact growslice_fits (by omega) (by omega))
      rw [hr] at h1
      injection h1 with e1 _
      subst e1
      intro k hk
      simp only [Value.ownBlock, Option.some.injEq] at hk
      exact .inr (by omega)
/-- the operation, for the walk -/
theorem wpList_bytes_on {ops : Array Oper} {rest : List Oper} {o : Oper} {a : Act} {Q : Exit → Act → World → Prop} (w : World) (hgd : o.guard = none) (sl x : Operand)
    (ho : o.op = .call { callee := .builtin .append, args := #[sl, x], argTypes := #[61, 9] })
    (base : Nat) (v : Value) (n : Nat) (xs : List Value) (hs : a.eval sl = v) (hown : w.ownsRowF base 5 1 v n xs) (s : ByteArray) (hx : a.eval x = .string s)
    (h63 : n + s.size ≤ maxLen) (hbytes : n + s.size ≤ 140737488355328) (hbase : base ≤ w.heap.size)
    (h : ∀ v' w', w'.ownsRowF base 5 1 v' (n + s.size) (xs ++ Lib.strCells s) → w.grownBy w' v.ownBlock → (v' = .slice none 0 0 ↔ v = .slice none 0 0 ∧ s.size = 0) → (∀ g, v'.ownBlock = some g → v.ownBlock = some g ∨ w.heap.size ≤ g) → wpList Try.prog ops Q rest (a.put o.dst v') w') : wpList Try.prog ops Q (o :: rest) a w := by
  obtain ⟨i, hi, hz, hs1, hs2⟩ := info_parts byte_info
  refine wpList_plain hgd fun K hK => ?_
  obtain ⟨v', w', hr, h2, h3, h4⟩ := Lib.run_append_own_stringF (P := Try.prog) w base 61 9 o.type 5 i Try.underlying61 Try.underlying9 hi hz hs1 hs2 v n xs hown s h63 hbytes hbase
  have h5 := app_where w base o.type hown s h63 hbytes hr
  unfold Oper.wp execOp
  simp only [ho, resolve, invoke, builtin, Sem.run_bind, Sem.run_pure, Result.andThen_ok, List.map_toArray, List.map_cons, List.map_nil, hs, hx, hr]
  exact hK _ _ (h v' w' h2 h3 h4 h5)

section
variable {B b m c : Nat} {w w' : World} {v v' : Value} {l : List UInt8} {K : Kn}
theorem check_any (h : Pk B w b m v l K c) :
    Calls Try.prog 94 #[.pointer (some ⟨b, 0, none⟩)] w fun e w' => e = .returned (.tuple #[]) ∧ Pk B w' b m v l K c ∧ Kp b m v v w w' ∧ w'.heap[b]? = some (.cells #[.pointer (some ⟨b, 0, none⟩), v, .map (some m)] pkT (0, 0)) := by
  obtain ⟨p, hp, hb⟩ := h.blk
  rcases hp with rfl | rfl
  · refine (check_fresh b w (by rw [Lib.cell_of_heap hb]; rfl) (by simp [World.shape?, hb]) (by simp [World.frozen?, hb])).mono ?_
    rintro e w' ⟨rfl, rfl⟩
    have hb' : (w.setCell ⟨b, 0, none⟩ (.pointer (some ⟨b, 0, none⟩))).heap[b]? = some (.cells #[.pointer (some ⟨b, 0, none⟩), v, .map (some m)] pkT (0, 0)) := by
      simp [World.setCell, Array.getElem?_modify, hb]
    obtain ⟨h1, h2⟩ := h.turn (p := .pointer (some ⟨b, 0, none⟩)) (.inr rfl) (grow_refl _ _) h.row h.nl (fun g hg => .inl hg) (gset w ⟨b, 0, none⟩ _) hb'
    exact ⟨rfl, h1, h2, hb'⟩
  · refine (check_used b w (by rw [Lib.cell_of_heap hb]; rfl)).mono ?_
    rintro e w' ⟨rfl, rfl⟩
    exact ⟨rfl, h, .refl _ _ _ _, hb⟩

set_option maxHeartbeats 2000000 in
set_option maxRecDepth 100000 in
theorem bwrite_any (h : Pk B w b m v l K c) (s : ByteArray) (hlen : l.length + s.size ≤ 1000000000) (hBw : B ≤ w.heap.size) :
    Calls Try.prog 64 #[.pointer (some ⟨b, 0, none⟩), .string s] w fun e w' => e = .returned (.tuple #[.int .i64 s.size, .nilIface]) ∧ ∃ v', Pk B w' b m v' (l ++ s.data.toList) K c ∧ Kp b m v v' w w' := by
  have HL := Lib.hid hlen
  have HH := Lib.hid h
  have HB := Lib.hid hBw
  clear hlen h hBw
  go_enter Try.func64, Try.ntmps64
  go_wp2_with (go_at_call 94; refine (check_any HH.out).mono ?_)
  rintro e w1 ⟨rfl, h1, hk1, hbk⟩
  have hBw1 : B ≤ w1.heap.size := Nat.le_trans HB.out hk1.size
  have hk1 := Lib.hid hk1
  have hrow := h1.row
  have hne := h1.nv
  have c0 : w1.cell? ⟨b, 0, none⟩ = some (.pointer (some ⟨b, 0, none⟩)) := by rw [Lib.cell_of_heap hbk]; rfl
  have c1 : w1.cell? ⟨b, 1, none⟩ = some v := by rw [Lib.cell_of_heap hbk]; rfl
  go_wp2_with (at_builtin; refine wpList_bytes_on _ rfl _ _ rfl B _ _ _ rfl hrow s rfl ?c3 ?c4 ?c5 ?_)
  case c3 => have := HL.out; unfold maxLen; omega
  case c4 => have := HL.out; omega
  case c5 => exact hBw1
  intro v' w2 hown' hgrow hnil hnew
  have hnl : l ++ s.data.toList = [] → v' = .slice none 0 0 := fun e => hnil.2 ⟨h1.nl (List.append_eq_nil_iff.1 e).1, by have := (List.append_eq_nil_iff.1 e).2; simpa using congrArg List.length this⟩
  have hlt : b < w1.heap.size := h1.blt
  have hb2 : w2.heap[b]? = some (.cells #[.pointer (some ⟨b, 0, none⟩), v, .map (some m)] pkT (0, 0)) := by
    rw [hgrow.block b hlt (fun e => hne e.symm)]
    exact hbk
  have d0 : w2.cell? ⟨b, 0, none⟩ = some (.pointer (some ⟨b, 0, none⟩)) := by rw [Lib.cell_of_heap hb2]; rfl
  have d1 : w2.cell? ⟨b, 1, none⟩ = some v := by rw [Lib.cell_of_heap hb2]; rfl
  have f1 : w2.frozen? ⟨b, 1, none⟩ = false := Lib.frozen_of_heap hb2 1
  obtain ⟨ao, n', cap, rfl⟩ : ∃ ao n' cap, v' = .slice ao n' cap := by
    rcases hown'.2 with ⟨hv, _⟩ | ⟨g, cap, cur, fz, hv, _⟩
    · exact ⟨_, _, _, hv⟩
    · exact ⟨_, _, _, hv⟩
  go_wp2
  go_ret2
  have hb3 : (w2.setCell ⟨b, 1, none⟩ (.slice ao n' cap)).heap[b]? = some (.cells #[.pointer (some ⟨b, 0, none⟩), .slice ao n' cap, .map (some m)] pkT (0, 0)) := by
    simp [World.setCell, Array.getElem?_modify, hb2]
  obtain ⟨k1, k2⟩ := h1.turn (l' := l ++ s.data.toList) (.inr rfl) hgrow (by rw [Lib.byteCells_append, List.length_append]; simpa [Lib.strCells_eq] using hown') hnl hnew (gset w2 ⟨b, 1, none⟩ _) hb3
  exact ⟨rfl, _, k1, hk1.out.trans k2⟩

set_option maxHeartbeats 1000000 in
set_option maxRecDepth 100000 in
theorem blen_any (h : Pk B w b m v l K c) :
    Calls Try.prog 42 #[.pointer (some ⟨b, 0, none⟩)] w fun e w' => e = .returned (.int .i64 l.length) ∧ w' = w := by
  have hown := h.row
  obtain ⟨ao, cap, rfl⟩ : ∃ ao cap, v = .slice ao l.length cap := by
    rcases hown.2 with ⟨hv, h0⟩ | ⟨g, cap, cur, fz, hv, _⟩
    · exact ⟨none, 0, by rw [hv, h0]⟩
    · exact ⟨_, _, hv⟩
  have c1 := h.cell1
  go_enter Try.func42, Try.ntmps42
  go_wp2
  go_ret
  exact ⟨rfl, rfl⟩

/-! ### Raw, Len, Bytes, New -/
abbrev pkP (b : Nat) : Value := .pointer (some ⟨b, 0, none⟩)
theorem Raw_any (h : Pk B w b m v l K c) (s : ByteArray) (hlen : l.length + s.size ≤ 1000000000) (hBw : B ≤ w.heap.size) :
    Calls Try.prog 77 #[pkP b, .string s] w fun e w' => e = .returned (.tuple #[]) ∧ ∃ v', Pk B w' b m v' (l ++ s.data.toList) K c ∧ Kp b m v v' w w' := by
  have HH := Lib.hid h
  clear h
  go_enter Try.func77, Try.ntmps77
  go_wp2_with fail
  refine (bwrite_any HH.out s hlen hBw).mono ?_
  rintro e w1 ⟨rfl, v', h1, h2⟩
  go_wp2_with fail
  go_end0
  exact ⟨rfl, v', h1, h2⟩
theorem Len_any (h : Pk B w b m v l K c) :
    Calls Try.prog 18 #[pkP b] w fun e w' => e = .returned (.int .i64 l.length) ∧ w = w' := by
  have HH := Lib.hid h
  clear h
  go_enter Try.func18, Try.ntmps18
  go_wp2_with fail
  refine (blen_any HH.out).mono ?_
  rintro e w1 ⟨rfl, rfl⟩
  go_wp2_with fail
  go_ret
  exact ⟨rfl, rfl⟩
end
theorem Pk.new (w : World) : Pk w.heap.size ((w.alloc (.map #[] 0)).alloc (.cells #[.pointer none, .slice none 0 0, .map (some w.heap.size)] pkT)) (w.heap.size + 1) w.heap.size (.slice none 0 0) [] noneK 0 := by
  have h1 := Whole.new (w.alloc (.map #[] 0)) pkT #[.pointer none, .slice none 0 0, .map (some w.heap.size)]
  rw [World.size_alloc] at h1
  refine ⟨by omega, Nat.le_refl _, ⟨_, .inl rfl, h1⟩, World.ownsRowF_nil _ _ _ _, ⟨_, 0, (World.ownsMap_made w Try.prog 9 intR).alloc _, Nat.le_refl _, KMap.none⟩, fun _ => rfl⟩
theorem New_any (w : World) :
    Calls Try.prog 17 #[] w fun e w' => ∃ b m, e = .returned (pkP b) ∧ Pk w.heap.size w' b m (.slice none 0 0) [] noneK 0 ∧ Below w.heap.size w w' := by
  have hmm := @run_makeMap Try.prog
  go_enter Try.func17, Try.ntmps17
  go_wp2_with fail
  go_ret
  exact ⟨_, _, rfl, Pk.new w, ((Below.refl _ _).alloc (Nat.le_refl _) _).alloc (by simp) _⟩
end Go.Proofs.Ytdanncclnhkmgaa
