/- Parts of the proofs of the statements of image. No statement of the seat is proved here. -/
import Derived.Test.YtmpginmdaeclaaaGreatDoorNaI
import Derived.Test.YtmpginmdaeclaaaGreatDoorNaM
import Derived.Test.YtmpginmdaeclaaaGreatDoorNaA
import Derived.Test.YtmpginmdaeclaaaGreatDoorOcJ
import Derived.Lib.FrozenHead
import Derived.Lib.UnsafeStr
import Derived.Maps.RangeWalk
import Derived.Shelf.RegionOpenPlain
import Derived.Deep.RegionHeld3
import Derived.StillTailTactics
set_option maxHeartbeats 32000000
set_option maxRecDepth 20000
namespace Go.Proofs.YtmpginmdaeclaaaGreatDoor
open Go.RowKit Go.Maps
theorem law : Keyed Tryz.prog 9 := string_keyed Tryz.underlying9
theorem sclone_any (s : ByteArray) (w : World) (hs : s.size <= 281474976710656) :
    Calls Tryz.prog 109 #[.string s] w fun e w' => e = .returned (.string s) /\ Below w.heap.size w w' := by
  go_enter Tryz.func109, Tryz.ntmps109
  go_wp2_with (go_at_call 158; refine (AnyPu.stringslite_Clone scloneL s w hs).mono ?_; rintro e w1 ⟨rfl, hb⟩)
  go_ret
  exact ⟨rfl, hb⟩
def intR : Value -> Option (DataW Unit × List MemPlace)
  | .int .i64 z => some (.lit (.int .i64 z), [])
  | _ => none
theorem intR_mk (z : Int) : intR (.int .i64 z) = some (.lit (.int .i64 z), []) := rfl
theorem intR_inv {v : Value} {z : Int} {ps : List MemPlace} (h : intR v = some (.lit (.int .i64 z), ps)) : v = .int .i64 z := by
  unfold intR at h
  split at h
  · simp only [Option.some.injEq, Prod.mk.injEq, DataW.lit.injEq, Lit.int.injEq, true_and] at h
    rw [h.1]
  · cases h
def KMap (D : DataW Unit) (K : Kn) : Prop :=
  Maps.IsMap D /\ ∀ k, Maps.has D (.string k) = (K k).isSome /\ D.atKey (.string k) (.lit (.int .i64 0)) = .lit (.int .i64 ((K k).getD 0 : Nat))
theorem KMap.none : KMap (.map []) noneK := ⟨⟨[], rfl⟩, fun _ => ⟨rfl, rfl⟩⟩
theorem KMap.put {D : DataW Unit} {K : Kn} (h : KMap D K) (r : List UInt8) (p : Nat) : KMap (D.put (.string r) (.lit (.int .i64 (p : Nat)))) (fun k => if k = r then some p else K k) := by
  refine ⟨?_, fun k => ?_⟩
  · obtain ⟨es, rfl⟩ := h.1
    exact ⟨_, rfl⟩
  · by_cases hk : k = r
    · subst hk
      rw [Maps.has_put_same h.1 (by simp [WideAt.IsKeyLit]), Maps.atKey_put_same h.1 (by simp [WideAt.IsKeyLit])]
      simp
    · have hne : Lit.string k ≠ Lit.string r := by intro e; injection e with e; exact hk e
      rw [Maps.has_put_other hne, Maps.atKey_put_other hne]
      simpa [hk] using h.2 k
abbrev pkT : TypeId := 266
structure Pk (B : Nat) (w : World) (b m : Nat) (v : Value) (l : List UInt8) (K : Kn) (c : Nat) : Prop where
  hb : B <= b
  hm : B <= m
  blk : ∃ p, (p = .pointer none \/ p = .pointer (some ⟨b, 0, none⟩)) /\ w.heap[b]? = some (.cells #[p, v, .map (some m)] pkT (0, 0))
  row : w.ownsRowF B 5 1 v l.length (Lib.byteCells l)
  map : ∃ D n, w.ownsMap Tryz.prog 9 intR m n D /\ n <= c /\ KMap D K
  nl : l = [] -> v = .slice none 0 0
structure Kp (b m : Nat) (v v' : Value) (w w' : World) : Prop where
  os : w'.os = w.os
  tape : w'.tape = w.tape
  output : w'.output = w.output
  size : w.heap.size <= w'.heap.size
  block : ∀ k, k < w.heap.size -> k ≠ b -> k ≠ m -> v.ownBlock ≠ some k -> w'.heap[k]? = w.heap[k]?
  own : ∀ g, v'.ownBlock = some g -> v.ownBlock = some g \/ w.heap.size <= g
theorem Kp.refl (b m : Nat) (v : Value) (w : World) : Kp b m v v w w := ⟨rfl, rfl, rfl, Nat.le_refl _, fun _ _ _ _ _ => rfl, fun _ h => .inl h⟩
theorem Kp.trans {b m : Nat} {v v' v'' : Value} {w w' w'' : World} (h : Kp b m v v' w w') (k : Kp b m v' v'' w' w'') : Kp b m v v'' w w'' := by
  refine ⟨k.os.trans h.os, k.tape.trans h.tape, k.output.trans h.output, Nat.le_trans h.size k.size, fun i hi h1 h2 h3 => ?_, fun g hg => ?_⟩
  · refine (k.block i (Nat.lt_of_lt_of_le hi h.size) h1 h2 fun e => ?_).trans (h.block i hi h1 h2 h3)
    rcases h.own i e with h' | h'
    · exact h3 h'
    · omega
  · rcases k.own g hg with h' | h'
    · exact h.own g h'
    · exact .inr (Nat.le_trans h.size h')
theorem Kp.of_below {b m : Nat} {v : Value} {w w' : World} (h : Below w.heap.size w w') : Kp b m v v w w' := ⟨h.os, h.tape, h.output, h.size, fun k hk _ _ _ => h.block k hk, fun _ h => .inl h⟩
theorem Kp.to {b m : Nat} {v v' : Value} {w w' w'' : World} (h : Kp b m v v' w w') (k : Below w'.heap.size w' w'') : Kp b m v v' w w'' := h.trans (.of_below k)
theorem Kp.drew {b m : Nat} {v v' : Value} {w w' : World} (h : Kp b m v v' w w') : Kp b m v v' w w'.drew := ⟨h.os, h.tape, h.output, h.size, h.block, h.own⟩
theorem Kp.of_grown {b m : Nat} {v : Value} {w w' : World} {g : Option Nat} (h : w.grownBy w' g) (hg : ∀ k, g = some k -> k = b \/ k = m \/ v.ownBlock = some k) : Kp b m v v w w' :=
  ⟨h.os, h.tape, h.output, h.size, fun k hk h1 h2 h3 => h.block k hk (fun e => by rcases hg k e.symm with h' | h' | h' <;> contradiction), fun _ h => .inl h⟩
section
variable {B b m c : Nat} {w w' : World} {v v' : Value} {l : List UInt8} {K : Kn}
theorem Pk.blt (h : Pk B w b m v l K c) : b < w.heap.size := by
  obtain ⟨p, _, hb⟩ := h.blk
  rcases Nat.lt_or_ge b w.heap.size with h' | h'
  · exact h'
  · simp [Array.getElem?_eq_none h'] at hb
theorem Pk.mlt (h : Pk B w b m v l K c) : m < w.heap.size := by obtain ⟨D, n, h1, _⟩ := h.map; exact h1.lt
theorem Pk.vlt (h : Pk B w b m v l K c) : ∀ g, v.ownBlock = some g -> B <= g /\ g < w.heap.size := h.row.lt
theorem Pk.nm (h : Pk B w b m v l K c) : b ≠ m := by
  rintro rfl
  obtain ⟨p, _, hb⟩ := h.blk
  obtain ⟨D, n, ⟨es, clock, hm, _⟩, _⟩ := h.map
  rw [hb] at hm; cases hm
theorem Pk.nv (h : Pk B w b m v l K c) : v.ownBlock ≠ some b := by
  obtain ⟨p, _, hb⟩ := h.blk
  exact Lib.ownBlock_neF h.row hb (by decide)
theorem Pk.nmv (h : Pk B w b m v l K c) : v.ownBlock ≠ some m := by
  intro hv
  obtain ⟨D, n, ⟨es, clock, hm, _⟩, _⟩ := h.map
  rcases h.row.2 with ⟨rfl, _⟩ | ⟨g, cap, cur, fz, rfl, _, hg, _⟩
  · simp [Value.ownBlock] at hv
  · obtain rfl : g = m := by simpa [Value.ownBlock] using hv
    rw [hg] at hm; cases hm
theorem Pk.same (h : Pk B w b m v l K c) (hb : Below w.heap.size w w') : Pk B w' b m v l K c := by
  have hg : w.grownBy w' none := ⟨hb.os, hb.tape, hb.output, hb.size, fun k hk _ => hb.block k hk⟩
  obtain ⟨p, hp, hk⟩ := h.blk
  obtain ⟨D, n, h1, h2, h3⟩ := h.map
  exact ⟨h.hb, h.hm, ⟨p, hp, (hb.block b h.blt).trans hk⟩, h.row.kept hg (by cases v.ownBlock <;> simp), ⟨D, n, h1.kept hg (by simp), h2, h3⟩, h.nl⟩
theorem Pk.drew (h : Pk B w b m v l K c) : Pk B w.drew b m v l K c := h.same (Below.refl _ _).drew
theorem Pk.more (h : Pk B w b m v l K c) {c' : Nat} (hc : c <= c') : Pk B w b m v l K c' := by
  obtain ⟨D, n, h1, h2, h3⟩ := h.map
  exact ⟨h.hb, h.hm, h.blk, h.row, ⟨D, n, h1, Nat.le_trans h2 hc, h3⟩, h.nl⟩
theorem Kp.below (h : Kp b m v v' w w') (hp : Pk B w b m v l K c) (hB : B <= w.heap.size) : Below B w w' :=
  ⟨h.os, h.tape, h.output, h.size, fun k hk => h.block k (by omega) (by have := hp.hb; omega) (by have := hp.hm; omega) (fun e => by have := (hp.vlt k e).1; omega)⟩
theorem Pk.cell1 (h : Pk B w b m v l K c) : w.cell? ⟨b, 1, none⟩ = some v := by
  obtain ⟨p, _, hb⟩ := h.blk
  rw [Lib.cell_of_heap hb]; rfl
theorem Pk.cell2 (h : Pk B w b m v l K c) : w.cell? ⟨b, 2, none⟩ = some (.map (some m)) := by
  obtain ⟨p, _, hb⟩ := h.blk
  rw [Lib.cell_of_heap hb]; rfl
theorem Pk.turn (h : Pk B w b m v l K c) {w1 w2 : World} {l' : List UInt8} {p : Value} (hp : p = .pointer none \/ p = .pointer (some ⟨b, 0, none⟩)) (hg : w.grownBy w1 v.ownBlock) (hrow : w1.ownsRowF B 5 1 v' l'.length (Lib.byteCells l'))
    (hnl : l' = [] -> v' = .slice none 0 0) (hnew : ∀ g, v'.ownBlock = some g -> v.ownBlock = some g \/ w.heap.size <= g) (hg2 : w1.grownBy w2 (some b)) (hblk : w2.heap[b]? = some (.cells #[p, v', .map (some m)] pkT (0, 0))) : Pk B w2 b m v' l' K c /\ Kp b m v v' w w2 := by
  obtain ⟨D, n, h1, h2, h3⟩ := h.map
  have hnv : v'.ownBlock ≠ some b := by
    intro e
    rcases hnew b e with h' | h'
    · exact h.nv h'
    · have := h.blt; omega
  refine ⟨⟨h.hb, h.hm, ⟨p, hp, hblk⟩, hrow.kept hg2 (.inr hnv), ⟨D, n, (h1.kept hg (Ne.symm h.nmv)).kept hg2 (fun e => h.nm (Option.some.inj e).symm), h2, h3⟩, hnl⟩, ?_⟩
  have k1 : Kp b m v v w w1 := .of_grown hg fun k hk => .inr (.inr hk)
  have k2 : Kp b m v v w1 w2 := .of_grown hg2 fun k hk => .inl (Option.some.inj hk).symm
  have k := k1.trans k2
  exact ⟨k.os, k.tape, k.output, k.size, k.block, hnew⟩
end
theorem gset (w : World) (p : Addr) (u : Value) : w.grownBy (w.setCell p u) (some p.block) :=
  ⟨rfl, rfl, rfl, by simp [World.setCell], fun k _ hne => Below.heap_setCell _ _ _ _ (fun e => hne (by rw [e]))⟩
theorem grow_refl (w : World) (g : Option Nat) : w.grownBy w g := ⟨rfl, rfl, rfl, Nat.le_refl _, fun _ _ _ => rfl⟩
theorem size_builder : (Tryz.prog.info? 138).map (·.size) = some 2 := by kernel_rfl
theorem lies_builder : liesAt Tryz.prog Tryz.prog.depth pkT (3 / Tryz.prog.cellsOf pkT) 0 138 1 = true := by kernel_rfl
theorem byte_info : (Tryz.prog.info? 5).map (fun i => (i.zero, i.size, i.bytes)) = some (some (.int .u8 0), 1, 1) := by kernel_rfl
theorem byte_cells : Tryz.prog.cellsOf 5 = 1 := by kernel_rfl
theorem check_used (b : Nat) (w : World) (h0 : w.cell? ⟨b, 0, none⟩ = some (.pointer (some ⟨b, 0, none⟩))) :
    Calls Tryz.prog 191 #[.pointer (some ⟨b, 0, none⟩)] w fun e w' => e = .returned (.tuple #[]) /\ w' = w := by
  obtain ⟨j, hj, _⟩ := Option.map_eq_some_iff.1 size_builder
  go_enter Tryz.func191, Tryz.ntmps191
  go_wp2
  rw [Lib.run_neq_ptr_same w _ Tryz.underlying136 hj]
  go_wp2
  go_end0
  exact ⟨rfl, rfl⟩
theorem check_fresh (b : Nat) (w : World) (h0 : w.cell? ⟨b, 0, none⟩ = some (.pointer none)) (hsh : w.shape? b = some (pkT, 3)) (hfz : w.frozen? ⟨b, 0, none⟩ = false) :
    Calls Tryz.prog 191 #[.pointer (some ⟨b, 0, none⟩)] w fun e w' => e = .returned (.tuple #[]) /\ w' = w.setCell ⟨b, 0, none⟩ (.pointer (some ⟨b, 0, none⟩)) := by
  obtain ⟨j, hj, hjs⟩ := Option.map_eq_some_iff.1 size_builder
  go_enter Tryz.func191, Tryz.ntmps191
  go_wp2
  rw [Lib.run_to_unsafe w ⟨b, 0, none⟩ Tryz.underlying136 Tryz.underlying262 hj (by rw [hjs]; decide) hsh (Nat.zero_lt_succ 2)]
  simp only [Result.andThen]
  rw [Oper.upon_value]
  go_wp2
  rw [run_callFunc_extern Tryz.func236 (by kernel_rfl) (by kernel_rfl) (by kernel_rfl) (e := Extern.AbiNoEscape.same) (by kernel_rfl)]
  rw [Lib.run_noEscape]
  simp only [Result.andThen]
  rw [Oper.upon_value]
  go_wp2
  rw [Lib.run_from_unsafe w ⟨b, 0, none⟩ Tryz.underlying262 Tryz.underlying136 hj hsh lies_builder]
  simp only [Result.andThen]
  rw [Oper.upon_value]
  go_wp2
  go_end0
  exact ⟨rfl, rfl⟩
theorem app_where (w : World) (base ty : Nat) {v v' : Value} {n : Nat} {xs : List Value} {w' : World} (hown : w.ownsRowF base 5 1 v n xs) (s : ByteArray) (h63 : n + s.size <= maxLen) (hbytes : n + s.size <= 140737488355328)
    (hr : (Builtin.append_ #[115, 9] ty #[v, .string s]).run Tryz.prog w = .ok v' w') : ∀ g, v'.ownBlock = some g -> v.ownBlock = some g \/ w.heap.size <= g := by
  obtain ⟨i, hi, hz, hs1, hs2⟩ := info_parts byte_info
  have hown' := hown
  rcases hown.2 with ⟨rfl, rfl⟩ | ⟨g, cap, cur, fz, rfl, hbg, hg, hfz, hnc, hcm, hcs, htake⟩
  · have hx : xs = [] := List.eq_nil_of_length_eq_zero (by simpa using hown.1)
    subst hx; obtain ⟨v1, w1, h1, h2, _, _⟩ := Lib.run_append_own_stringF (P := Tryz.prog) w w.heap.size 115 9 ty 5 i Tryz.underlying115 Tryz.underlying9 hi hz hs1 hs2 (.slice none 0 0) 0 [] (World.ownsRowF_nil _ _ _ _) s h63 hbytes (Nat.le_refl _)
    rw [hr] at h1
    injection h1 with e1 e2
    subst e1
    intro g hg
    exact .inr (h2.lt g hg).1
  · have hsmall : ((n + s.size : Nat) : Int) <= 9223372036854775807 := by omega
    have hxl : xs.length = n := by simpa using hown'.1
    have hcs' : cur.size = cap := by simpa using hcs
    by_cases hroom : n + s.size <= cap
    · have h1 := Lib.run_append_room_stringF (P := Tryz.prog) w 115 9 ty 5 i Tryz.underlying115 Tryz.underlying9 hi hs1 g n cap cur fz hg (by simpa using hfz) s hroom (by omega)
      rw [hr] at h1
      injection h1 with e1 _
      subst e1
      intro k hk
      exact .inl hk
    · have holds : ∀ j u, xs[j]? = some u -> w.cell? ((⟨g, 0, none⟩ : Addr).add j) = some u := hown'.cells (g := g) rfl
      have h1 := Lib.run_append_grow_string (P := Tryz.prog) w 115 9 ty 5 i (.int .u8 0) Tryz.underlying115 Tryz.underlying9 hi hz ⟨g, 0, none⟩ n cap xs (by rw [hs1]; simpa using hxl) holds s (by omega) hsmall (by rw [hs2]; exact growslice_fits (by omega) (by omega))
      rw [hr] at h1
      injection h1 with e1 _
      subst e1
      intro k hk
      simp only [Value.ownBlock, Option.some.injEq] at hk
      exact .inr (by omega)
theorem wpList_bytes_on {ops : Array Oper} {rest : List Oper} {o : Oper} {a : Act} {Q : Exit -> Act -> World -> Prop} (w : World) (hgd : o.guard = none) (sl x : Operand)
    (ho : o.op = .call { callee := .builtin .append, args := #[sl, x], argTypes := #[115, 9] })
    (base : Nat) (v : Value) (n : Nat) (xs : List Value) (hs : a.eval sl = v) (hown : w.ownsRowF base 5 1 v n xs) (s : ByteArray) (hx : a.eval x = .string s)
    (h63 : n + s.size <= maxLen) (hbytes : n + s.size <= 140737488355328) (hbase : base <= w.heap.size)
    (h : ∀ v' w', w'.ownsRowF base 5 1 v' (n + s.size) (xs ++ Lib.strCells s) -> w.grownBy w' v.ownBlock -> (v' = .slice none 0 0 ↔ v = .slice none 0 0 /\ s.size = 0) -> (∀ g, v'.ownBlock = some g -> v.ownBlock = some g \/ w.heap.size <= g) -> wpList Tryz.prog ops Q rest (a.put o.dst v') w') : wpList Tryz.prog ops Q (o :: rest) a w := by
  obtain ⟨i, hi, hz, hs1, hs2⟩ := info_parts byte_info
  refine wpList_plain hgd fun K hK => ?_
  obtain ⟨v', w', hr, h2, h3, h4⟩ := Lib.run_append_own_stringF (P := Tryz.prog) w base 115 9 o.type 5 i Tryz.underlying115 Tryz.underlying9 hi hz hs1 hs2 v n xs hown s h63 hbytes hbase
  have h5 := app_where w base o.type hown s h63 hbytes hr
  unfold Oper.wp execOp
  simp only [ho, resolve, invoke, builtin, Sem.run_bind, Sem.run_pure, Result.andThen_ok, List.map_toArray, List.map_cons, List.map_nil, hs, hx, hr]
  exact hK _ _ (h v' w' h2 h3 h4 h5)
section
variable {B b m c : Nat} {w w' : World} {v v' : Value} {l : List UInt8} {K : Kn}
theorem check_any (h : Pk B w b m v l K c) :
    Calls Tryz.prog 191 #[.pointer (some ⟨b, 0, none⟩)] w fun e w' => e = .returned (.tuple #[]) /\ Pk B w' b m v l K c /\ Kp b m v v w w' /\ w'.heap[b]? = some (.cells #[.pointer (some ⟨b, 0, none⟩), v, .map (some m)] pkT (0, 0)) := by
  obtain ⟨p, hp, hb⟩ := h.blk
  rcases hp with rfl | rfl
  · refine (check_fresh b w (by rw [Lib.cell_of_heap hb]; rfl) (by simp [World.shape?, hb]) (by simp [World.frozen?, hb])).mono ?_
    rintro e w' ⟨rfl, rfl⟩; have hb' : (w.setCell ⟨b, 0, none⟩ (.pointer (some ⟨b, 0, none⟩))).heap[b]? = some (.cells #[.pointer (some ⟨b, 0, none⟩), v, .map (some m)] pkT (0, 0)) := by
      simp [World.setCell, Array.getElem?_modify, hb]
    obtain ⟨h1, h2⟩ := h.turn (p := .pointer (some ⟨b, 0, none⟩)) (.inr rfl) (grow_refl _ _) h.row h.nl (fun g hg => .inl hg) (gset w ⟨b, 0, none⟩ _) hb'
    exact ⟨rfl, h1, h2, hb'⟩
  · refine (check_used b w (by rw [Lib.cell_of_heap hb]; rfl)).mono ?_
    rintro e w' ⟨rfl, rfl⟩; exact ⟨rfl, h, .refl _ _ _ _, hb⟩
theorem bwrite_any (h : Pk B w b m v l K c) (s : ByteArray) (hlen : l.length + s.size <= 1000000000) (hBw : B <= w.heap.size) :
    Calls Tryz.prog 149 #[.pointer (some ⟨b, 0, none⟩), .string s] w fun e w' => e = .returned (.tuple #[.int .i64 s.size, .nilIface]) /\ ∃ v', Pk B w' b m v' (l ++ s.data.toList) K c /\ Kp b m v v' w w' := by
  have HL := Ha hlen
  have HH := Ha h
  have HB := Ha hBw
  clear hlen h hBw
  go_enter Tryz.func149, Tryz.ntmps149
  go_wp2_with (go_at_call 191; refine (check_any HH.out).mono ?_)
  rintro e w1 ⟨rfl, h1, hk1, hbk⟩
  have hBw1 : B <= w1.heap.size := Nat.le_trans HB.out hk1.size
  have hk1 := Ha hk1
  have hrow := h1.row
  have hne := h1.nv
  have c0 : w1.cell? ⟨b, 0, none⟩ = some (.pointer (some ⟨b, 0, none⟩)) := by rw [Lib.cell_of_heap hbk]; rfl
  have c1 : w1.cell? ⟨b, 1, none⟩ = some v := by rw [Lib.cell_of_heap hbk]; rfl
  go_wp2_with (at_builtin; refine wpList_bytes_on _ rfl _ _ rfl B _ _ _ rfl hrow s rfl ?c3 ?c4 ?c5 ?_)
  case c3 => have := HL.out; unfold maxLen; omega
  case c4 => have := HL.out; omega
  case c5 => exact hBw1
  intro v' w2 hown' hgrow hnil hnew
  have hnl : l ++ s.data.toList = [] -> v' = .slice none 0 0 := fun e => hnil.2 ⟨h1.nl (List.append_eq_nil_iff.1 e).1, by have := (List.append_eq_nil_iff.1 e).2; simpa using congrArg List.length this⟩
  have hlt : b < w1.heap.size := h1.blt
  have hb2 : w2.heap[b]? = some (.cells #[.pointer (some ⟨b, 0, none⟩), v, .map (some m)] pkT (0, 0)) := by
    rw [hgrow.block b hlt (fun e => hne e.symm)]
    exact hbk
  have d0 : w2.cell? ⟨b, 0, none⟩ = some (.pointer (some ⟨b, 0, none⟩)) := by rw [Lib.cell_of_heap hb2]; rfl
  have d1 : w2.cell? ⟨b, 1, none⟩ = some v := by rw [Lib.cell_of_heap hb2]; rfl
  have f1 : w2.frozen? ⟨b, 1, none⟩ = false := Lib.frozen_of_heap hb2 1
  obtain ⟨ao, n', cap, rfl⟩ : ∃ ao n' cap, v' = .slice ao n' cap := by
    rcases hown'.2 with ⟨hv, _⟩ | ⟨g, cap, cur, fz, hv, _⟩
    · exact ⟨_, _, _, hv⟩
    · exact ⟨_, _, _, hv⟩
  go_wp2
  go_ret2
  have hb3 : (w2.setCell ⟨b, 1, none⟩ (.slice ao n' cap)).heap[b]? = some (.cells #[.pointer (some ⟨b, 0, none⟩), .slice ao n' cap, .map (some m)] pkT (0, 0)) := by
    simp [World.setCell, Array.getElem?_modify, hb2]
  obtain ⟨k1, k2⟩ := h1.turn (l' := l ++ s.data.toList) (.inr rfl) hgrow (by rw [Lib.byteCells_append, List.length_append]; simpa [Lib.strCells_eq] using hown') hnl hnew (gset w2 ⟨b, 1, none⟩ _) hb3
  exact ⟨rfl, _, k1, hk1.out.trans k2⟩
theorem blen_any (h : Pk B w b m v l K c) :
    Calls Tryz.prog 278 #[.pointer (some ⟨b, 0, none⟩)] w fun e w' => e = .returned (.int .i64 l.length) /\ w' = w := by
  have hown := h.row
  obtain ⟨ao, cap, rfl⟩ : ∃ ao cap, v = .slice ao l.length cap := by
    rcases hown.2 with ⟨hv, h0⟩ | ⟨g, cap, cur, fz, hv, _⟩
    · exact ⟨none, 0, by rw [hv, h0]⟩
    · exact ⟨_, _, hv⟩
  have c1 := h.cell1
  go_enter Tryz.func278, Tryz.ntmps278
  go_wp2
  go_ret
  exact ⟨rfl, rfl⟩
abbrev pkP (b : Nat) : Value := .pointer (some ⟨b, 0, none⟩)
theorem Raw_any (h : Pk B w b m v l K c) (s : ByteArray) (hlen : l.length + s.size <= 1000000000) (hBw : B <= w.heap.size) :
    Calls Tryz.prog 267 #[pkP b, .string s] w fun e w' => e = .returned (.tuple #[]) /\ ∃ v', Pk B w' b m v' (l ++ s.data.toList) K c /\ Kp b m v v' w w' := by
  have HH := Ha h
  clear h
  go_enter Tryz.func267, Tryz.ntmps267
  go_wp2_with fail
  refine (bwrite_any HH.out s hlen hBw).mono ?_
  rintro e w1 ⟨rfl, v', h1, h2⟩
  go_wp2_with fail
  go_end0
  exact ⟨rfl, v', h1, h2⟩
theorem Len_any (h : Pk B w b m v l K c) :
    Calls Tryz.prog 269 #[pkP b] w fun e w' => e = .returned (.int .i64 l.length) /\ w = w' := by
  have HH := Ha h
  clear h
  go_enter Tryz.func269, Tryz.ntmps269
  go_wp2_with fail
  refine (blen_any HH.out).mono ?_
  rintro e w1 ⟨rfl, rfl⟩
  go_wp2_with fail
  go_ret
  exact ⟨rfl, rfl⟩
end
theorem Pk.new (w : World) : Pk w.heap.size ((w.alloc (.map #[] 0)).alloc (.cells #[.pointer none, .slice none 0 0, .map (some w.heap.size)] pkT)) (w.heap.size + 1) w.heap.size (.slice none 0 0) [] noneK 0 := by
  have h1 := Whole.new (w.alloc (.map #[] 0)) pkT #[.pointer none, .slice none 0 0, .map (some w.heap.size)]
  rw [World.size_alloc] at h1
  refine ⟨by omega, Nat.le_refl _, ⟨_, .inl rfl, h1⟩, World.ownsRowF_nil _ _ _ _, ⟨_, 0, (World.ownsMap_made w Tryz.prog 9 intR).alloc _, Nat.le_refl _, KMap.none⟩, fun _ => rfl⟩
theorem New_any (w : World) :
    Calls Tryz.prog 192 #[] w fun e w' => ∃ b m, e = .returned (pkP b) /\ Pk w.heap.size w' b m (.slice none 0 0) [] noneK 0 /\ Below w.heap.size w w' := by
  have hmm := @run_makeMap Tryz.prog
  go_enter Tryz.func192, Tryz.ntmps192
  go_wp2_with fail
  go_ret
  exact ⟨_, _, rfl, Pk.new w, ((Below.refl _ _).alloc (Nat.le_refl _) _).alloc (by simp) _⟩
end Go.Proofs.YtmpginmdaeclaaaGreatDoor
namespace Go.Proofs.YtmpginmdaeclaaaGreatDoor
open Go.RowKit Go.Maps
section
variable {B b m c : Nat} {w w' : World} {v v' : Value} {l : List UInt8} {K : Kn}
theorem ustring_none (W : World) (q : Option Addr) : (Builtin.unsafeString_ #[193, 3] 9 #[.pointer q, .int .i64 0]).run Tryz.prog W = .ok (.string .empty) W :=
  Lib.run_unsafeString_none W _ _ _ q
theorem Pk.froze {g cap : Nat} (h : Pk B w b m (.slice (some ⟨g, 0, none⟩) l.length cap) l K c) : Pk B (w.freeze ⟨g, 0, none⟩ l.length) b m (.slice (some ⟨g, 0, none⟩) l.length cap) l K c /\ Kp b m (.slice (some ⟨g, 0, none⟩) l.length cap) (.slice (some ⟨g, 0, none⟩) l.length cap) w (w.freeze ⟨g, 0, none⟩ l.length) := by
  have hg0 : w.grownBy (w.freeze ⟨g, 0, none⟩ l.length) (some g) := by
    have hb := Lib.below_freeze (Below.refl g w) (p := ⟨g, 0, none⟩) (Nat.le_refl _) l.length
    refine ⟨hb.os, hb.tape, hb.output, hb.size, fun k _ hk => ?_⟩
    unfold World.freeze
    split
    · rfl
    · simp only [Array.getElem?_modify]
      rw [if_neg (fun e => hk (by rw [e]))]
  have hgb : g ≠ b := fun e => h.nv (by simp [Value.ownBlock, e])
  have hgm : g ≠ m := fun e => h.nmv (by simp [Value.ownBlock, e])
  obtain ⟨p, hp, hk⟩ := h.blk
  obtain ⟨D, n, h1, h2, h3⟩ := h.map
  refine ⟨⟨h.hb, h.hm, ⟨p, hp, ?_⟩, ?_, ⟨D, n, h1.kept hg0 (fun e => hgm (Option.some.inj e).symm), h2, h3⟩, h.nl⟩, .of_grown hg0 fun k hk => .inr (.inr (by simpa [Value.ownBlock] using hk))⟩
  · rw [hg0.block b h.blt (fun e => hgb (Option.some.inj e).symm)]; exact hk
  · refine ⟨h.row.1, ?_⟩
    rcases h.row.2 with ⟨hv, _⟩ | ⟨g', cap', cur, fz, hv, hbg, hgg, hfz, rest⟩
    · cases hv
    · injection hv with ha _ hcap
      injection ha with ha
      injection ha with he _ _
      subst he hcap
      obtain ⟨lo, hi⟩ := fz
      unfold World.freeze
      split
      · exact .inr ⟨g, _, cur, (lo, hi), rfl, hbg, hgg, hfz, rest⟩
      · refine .inr ⟨g, _, cur, (if lo == hi then (0, 0 + l.length) else (min lo 0, max hi (0 + l.length))), rfl, hbg, ?_, ?_, rest⟩
        · simp [Array.getElem?_modify, hgg]
        · simp only at hfz
          split <;> simp <;> omega
theorem bstring_some (h : Pk B w b m v l K c) (h0 : l ≠ []) :
    Calls Tryz.prog 88 #[.pointer (some ⟨b, 0, none⟩)] w fun e w' => e = .returned (.string (mk l)) /\ Pk B w' b m v l K c /\ Kp b m v v w w' := by
  have hl0 : l.length ≠ 0 := by simpa using h0
  obtain ⟨g, cap, cur, fz, rfl, hbg, hg, hfz, hnc, hcm, hcs, htake⟩ : ∃ g cap cur fz, v = .slice (some ⟨g, 0, none⟩) l.length cap /\ B <= g /\ w.heap[g]? = some (.cells cur 5 fz) /\ fz.2 <= l.length * 1 /\ l.length <= cap /\ cap <= maxLen /\ cur.size = cap * 1 /\ cur.toList.take (l.length * 1) = Lib.byteCells l := by
    rcases h.row.2 with ⟨_, hz⟩ | ⟨g, cap, cur, fz, hv, r⟩
    · exact absurd hz hl0
    · exact ⟨g, cap, cur, fz, hv, r⟩
  have c1 : w.drew.cell? ⟨b, 1, none⟩ = some (.slice (some ⟨g, 0, none⟩) l.length cap) := h.cell1
  have hSD : (Builtin.unsafeSliceData_ #[115] 193 #[.slice (some ⟨g, 0, none⟩) l.length cap]).run Tryz.prog w.drew = .ok (.pointer (some ⟨g, 0, none⟩)) w.drew :=
    Lib.run_unsafeSliceData_row _ _ _ _ _ _ (by omega)
  have hUS : (Builtin.unsafeString_ #[193, 3] 9 #[.pointer (some ⟨g, 0, none⟩), .int .i64 l.length]).run Tryz.prog w.drew = .ok (.string (mk l)) (w.drew.freeze ⟨g, 0, none⟩ l.length) := by
    refine Lib.run_unsafeString_row w.drew 193 3 9 5 Tryz.underlying193 byte_cells g cur.size (by have hg' : w.drew.heap[g]? = some (.cells cur 5 fz) := hg; simp [World.shape?, hg']) l h0 (by omega) (by unfold maxLen at hcm; omega) ?_
    intro j x hx
    exact h.row.cells (g := g) rfl j (.int .u8 x.toNat) (by simp [Lib.byteCells, hx])
  obtain ⟨hkeep, hkp⟩ := h.drew.froze
  have hkp' : Kp b m (.slice (some ⟨g, 0, none⟩) l.length cap) (.slice (some ⟨g, 0, none⟩) l.length cap) w (w.drew.freeze ⟨g, 0, none⟩ l.length) := (Kp.refl _ _ _ _).drew.trans hkp
  have HK := Ha hkeep
  have HP := Ha hkp'
  clear hkeep hkp hkp' h hcs htake hg hfz
  go_enter Tryz.func88, Tryz.ntmps88
  go_wp2
  have mixed : Tryz.prog.follows .mixedOrders = true := by kernel_rfl
  go_region_o
  all_goals (go_wp2; go_ret; exact ⟨rfl, HK.out, HP.out⟩)
theorem bstring_none (h : Pk B w b m v [] K c) :
    Calls Tryz.prog 88 #[.pointer (some ⟨b, 0, none⟩)] w fun e w' => e = .returned (.string (mk [])) /\ Pk B w' b m v [] K c /\ Kp b m v v w w' := by
  obtain rfl := h.nl rfl
  have hUS := ustring_none
  have c1 : w.drew.cell? ⟨b, 1, none⟩ = some (.slice none 0 0) := h.cell1
  have hSD : (Builtin.unsafeSliceData_ #[115] 193 #[.slice none 0 0]).run Tryz.prog w.drew = .ok (.pointer none) w.drew := rfl
  have HK := Ha h.drew
  have HP := Ha (Kp.refl b m (.slice none 0 0) w).drew
  clear h
  go_enter Tryz.func88, Tryz.ntmps88
  go_wp2
  have mixed : Tryz.prog.follows .mixedOrders = true := by kernel_rfl
  go_region_o
  all_goals (go_wp2; go_ret; exact ⟨rfl, HK.out, HP.out⟩)
theorem bstring_any (h : Pk B w b m v l K c) :
    Calls Tryz.prog 88 #[.pointer (some ⟨b, 0, none⟩)] w fun e w' => e = .returned (.string (mk l)) /\ Pk B w' b m v l K c /\ Kp b m v v w w' := by
  by_cases h0 : l = []
  · subst h0; exact bstring_none h
  · exact bstring_some h h0
theorem Bytes_any (h : Pk B w b m v l K c) :
    Calls Tryz.prog 194 #[pkP b] w fun e w' => e = .returned (.string (mk l)) /\ Pk B w' b m v l K c /\ Kp b m v v w w' := by
  have HH := Ha h
  clear h
  go_enter Tryz.func194, Tryz.ntmps194
  go_wp2_with fail
  refine (bstring_any HH.out).mono ?_
  rintro e w1 ⟨rfl, h1, h2⟩
  go_wp2_with fail
  go_ret
  exact ⟨rfl, h1, h2⟩
end
end Go.Proofs.YtmpginmdaeclaaaGreatDoor
namespace Go.Proofs.YtmpginmdaeclaaaGreatDoor
open Go.RowKit Go.Maps
theorem zeroI (w : World) : (zeroValue 3).run Tryz.prog w = .ok (.int .i64 0) w := by kernel_rfl
section
variable {B b m c : Nat} {w w' : World} {v v' : Value} {l : List UInt8} {K : Kn}
theorem pk_look (h : Pk B w b m v l K c) {S : ByteArray} {r : List UInt8} (hS : S = mk r) (hr : r.length <= 300) :
    (Instr.lookup 264 (.map (some m)) (.string S) true).run Tryz.prog w = .ok (.tuple #[.int .i64 ((K r).getD 0 : Nat), .bool (K r).isSome]) w := by
  obtain ⟨D, n, h1, h2, h3⟩ := h.map
  have hsz : S.size <= maxLen := by rw [hS, mk_size]; unfold maxLen; omega
  have hk := Go.WideMaps.keyOf_string_mk (k := 9) (P := Tryz.prog) Tryz.underlying9 hsz
  have hSr : S.data.toList = r := by rw [hS]; rfl
  rw [hSr] at hk
  obtain ⟨v, ps, e1, e2⟩ := h1.look_ok law Tryz.underlying264 (zeroI w) (intR_mk 0) hk
  rw [(h3.2 r).2] at e2
  rw [intR_inv e2, (h3.2 r).1] at e1
  exact e1
theorem Pk.putK (h : Pk B w b m v l K c) {D' : DataW Unit} {n' : Nat} {K' : Kn} {c' : Nat} (hg : w.grownBy w' (some m)) (hm : w'.ownsMap Tryz.prog 9 intR m n' D') (hn : n' <= c') (hK : KMap D' K') :
    Pk B w' b m v l K' c' /\ Kp b m v v w w' := by
  obtain ⟨p, hp, hb⟩ := h.blk
  exact ⟨⟨h.hb, h.hm, ⟨p, hp, (hg.block b h.blt (fun e => h.nm (Option.some.inj e))).trans hb⟩, h.row.kept hg (.inr h.nmv), ⟨D', n', hm, hn, hK⟩, h.nl⟩, .of_grown hg fun k hk => .inr (.inl (Option.some.inj hk).symm)⟩
theorem learn_any (h : Pk B w b m v l K c) (S : ByteArray) (r : List UInt8) (hS : S = mk r) (hr : r.length <= 300) (hc : c <= 1000000) :
    Calls Tryz.prog 266 #[pkP b, .string S] w fun e w' => e = .returned (.tuple #[]) /\ Pk B w' b m v l (learnK K r l.length) (c + 1) /\ Kp b m v v w w' := by
  have c2 := h.cell2
  have hl := pk_look h hS hr
  cases hk : (K r).isSome
  · rw [hk] at hl
    have hkn : (K r).isNone = true := by cases h' : K r <;> simp_all
    by_cases h4 : l.length < 16384
    · have h4I : (l.length : Int) < 16384 := by omega
      have hL : learnK K r l.length = fun k => if k = r then some l.length else K k := by unfold learnK; rw [if_pos ⟨hkn, h4⟩]
      rw [hL]
      have hsz : S.size <= maxLen := by rw [hS, mk_size]; unfold maxLen; omega
      have hkey := Go.WideMaps.keyOf_string_mk (k := 9) (P := Tryz.prog) Tryz.underlying9 hsz
      have hSr : S.data.toList = r := by rw [hS]; rfl
      rw [hSr] at hkey
      have HH := Ha h
      have HC := Ha hc
      obtain ⟨D, n, hm1, hm2, hm3⟩ := h.map
      have HM1 := Ha hm1
      have HM2 := Ha hm2
      have HM3 := Ha hm3
      clear h hS hL hk hkn hc hm1 hm2 hm3 hsz hSr; go_enter Tryz.func266, Tryz.ntmps266
      go_wp2_with fail
      refine (Len_any HH.out).mono ?_
      rintro e w1 ⟨rfl, rfl⟩; go_wp2_with fail
      obtain ⟨w2, hrun, hm2, hg2⟩ := (show w.drew.ownsMap Tryz.prog 9 intR m n D from HM1.out).update law Tryz.underlying264 (by have := HM2.out; have := HC.out; unfold maxLen; omega) hkey (intR_mk (l.length : Nat))
      obtain ⟨k1, k2⟩ := HH.out.drew.putK hg2 hm2 (Nat.succ_le_succ HM2.out) (HM3.out.put r l.length)
      have HK1 := Ha k1
      have HK2 := Ha k2
      clear hm2 hg2 k1 k2; go_region_with (go_at_call 269; (refine (Len_any HH.out.drew).mono ?_; rintro e w1 ⟨rfl, rfl⟩))
      all_goals (go_wp2_with fail; go_end0; exact ⟨rfl, HK1.out, (Kp.refl _ _ _ _).drew.trans HK2.out⟩)
    · have h4I : decide ((l.length : Int) < 16384) = false := by rw [decide_eq_false_iff_not]; omega
      have hL : learnK K r l.length = K := by
        unfold learnK; rw [if_neg]; rintro ⟨_, h2⟩; exact h4 h2
      rw [hL]
      have HH := Ha h
      clear h hS hL hkn hk; go_enter Tryz.func266, Tryz.ntmps266
      go_wp2_with fail
      refine (Len_any HH.out).mono ?_
      rintro e w1 ⟨rfl, rfl⟩; go_wp2_with fail
      go_end0
      exact ⟨rfl, HH.out.more (Nat.le_succ _), .refl _ _ _ _⟩
  · rw [hk] at hl
    have hL : learnK K r l.length = K := by
      unfold learnK; rw [if_neg]; rintro ⟨h1, _⟩; cases h' : K r <;> simp_all
    rw [hL]
    have HH := Ha h
    clear h hS; go_enter Tryz.func266, Tryz.ntmps266
    go_wp2_with fail
    go_end0
    exact ⟨rfl, HH.out.more (Nat.le_succ _), .refl _ _ _ _⟩
theorem join_ptr {t : Nat} (ht : t < 16384) : joinR [49152 + (t : Int)] [2] = (mk (ptrB t), 0) := by
  have e1 : (49152 + (t : Int)).toNat = 49152 + t := by omega
  have e2 : ((2 : Int)).toNat = 2 := rfl
  have e3 : fitB (49152 + t) 2 = true := by unfold fitB; rw [decide_eq_true_eq]; omega
  have e4 : be (49152 + t) 2 = ptrB t := by
    have a1 : (49152 + t) / 256 ^ 1 = 192 + t / 256 := by omega
    have a2 : UInt8.ofNat ((49152 + t) / 256 ^ 0) = UInt8.ofNat (t % 256) := by
      apply UInt8.toNat_inj.1
      rw [UInt8.toNat_ofNat', UInt8.toNat_ofNat']
      omega
    simp only [be, ptrB, a1, a2]
  refine joinR_some (by decide) rfl ?_
  simp only [joinF, e1, e2, e3, e4, if_true, Option.map_some, List.append_nil]
theorem sees_one {W : World} {g ty : Nat} {x : Value} (h : Whole W g ty #[x]) : Sees W (g + 1) (some ⟨g, 0, none⟩) 1 [x] := by
  refine ⟨rfl, fun _ => ⟨g, 0, rfl, by omega, fun j u hu => ?_⟩⟩
  rcases Nat.eq_zero_or_pos j with h0 | h0
  · subst h0
    rw [show 0 + 0 = 0 from rfl, h.cell1]
    simpa using hu
  · rw [List.getElem?_eq_none (by simp; omega)] at hu; cases hu
theorem point_any (h : Pk B w b m v l K c) (t : Nat) (ht : t < 16384) (hlen : l.length + 2 <= 1000000000) (hBw : B <= w.heap.size) :
    Calls Tryz.prog 265 #[pkP b, .int .i64 (t : Nat)] w fun e w' => e = .returned (.tuple #[]) /\ ∃ v', Pk B w' b m v' (l ++ ptrB t) K c /\ Kp b m v v' w w' := by
  have hj := join_ptr ht
  have g0 : (0 : Int) <= (t : Int) := by omega
  have HH := Ha h
  have HJ := Ha hj
  clear h hj
  go_enter Tryz.func265, Tryz.ntmps265
  have F1 := (Whole.new w 44 #[.int .u64 (49152 + (t : Int))]).alloc (.cells #[.int .i64 2] 3)
  have F2 := Whole.new (w.alloc (.cells #[.int .u64 (49152 + (t : Int))] 44)) 3 #[.int .i64 2]
  rw [World.size_alloc] at F2
  have FB : Below w.heap.size w ((w.alloc (.cells #[.int .u64 (49152 + (t : Int))] 44)).alloc (.cells #[.int .i64 2] 3)) := ((Below.refl _ _).alloc (Nat.le_refl _) _).alloc (by simp) _
  go_wp2_with fail
  refine (Join_any _ _ 1 1 1 1 (w.heap.size + 1) (w.heap.size + 1 + 1) [49152 + (t : Int)] [2] _ (sees_one F1) (sees_one F2) (by simp) (by simp) (by decide) (by decide) ?_).mono ?_
  · intro z hz
    obtain rfl : z = 49152 + (t : Int) := by simpa using hz
    omega
  rintro e w1 ⟨he, hB1⟩
  rw [HJ.out] at he
  subst he
  have hB2 : Below w.heap.size w w1 := FB.trans (hB1.mono FB.size)
  have HP := Ha (HH.out.same hB2)
  have HB2 := Ha hB2
  clear hB1 hB2 F1 F2 FB
  go_wp2_with fail
  refine (Raw_any HP.out _ (by rw [mk_size, ptr_len]; omega) (Nat.le_trans hBw HB2.out.size)).mono ?_
  rintro e w2 ⟨rfl, v', h1, h2⟩
  go_wp2_with fail
  go_end0
  exact ⟨rfl, v', h1, (Kp.of_below HB2.out).trans h2⟩
end
end Go.Proofs.YtmpginmdaeclaaaGreatDoor
namespace Go.Proofs.YtmpginmdaeclaaaGreatDoor
open Go.RowKit Go.Maps
theorem Kp.row {b m : Nat} {v v' : Value} {w w' : World} {base e size n : Nat} {x : Value} {xs : List Value} (h : Kp b m v v' w w') (ho : w.ownsRow base e size x n xs) (hb : b < base) (hm : m < base) (hv : ∀ g, v.ownBlock = some g -> g < base) : w'.ownsRow base e size x n xs := by
  refine ⟨ho.1, ?_⟩
  rcases ho.2 with h2 | ⟨g, cap, cur, hx, hg, hh, r⟩
  · exact .inl h2
  · have hl : g < w.heap.size := (Array.getElem?_eq_some_iff.1 hh).1
    refine .inr ⟨g, cap, cur, hx, hg, ?_, r⟩
    rw [h.block g hl (by omega) (by omega) (fun e => by have := hv g e; omega)]
    exact hh
theorem textL_at {w : World} {B : Nat} {A : Option Addr} {n : Nat} {L : List (List UInt8)} (h : Sees w B A n (textL L)) {k : Nat} (hk : k < n) (hx : k < L.length) :
    ∃ b off, A = some ⟨b, off, none⟩ /\ b < B /\ w.cell? ⟨b, off + k, none⟩ = some (.string (mk L[k])) := by
  obtain ⟨b, off, e, hb, hc⟩ := texts_at h hk
  refine ⟨b, off, e, hb, ?_⟩
  rw [hc]
  simp [List.getD, hx]
theorem name_few {s : List UInt8} {L : List (List UInt8)} (h : nameL s = some L) : L.length <= 255 := by
  obtain ⟨he, hg, hl⟩ := nameL_is h
  have := pairs_len s
  rw [show pairs s = prs L by rw [he, pairs_enc hg], (labV_prs L).2] at this
  omega
theorem learn_lt {K : Kn} {r : List UInt8} {p : Nat} (h : ∀ r t, K r = some t -> t < 16384) : ∀ r' t, learnK K r p r' = some t -> t < 16384 := by
  intro r' t ht
  rcases learn_is ht with h' | ⟨_, rfl, h'⟩
  · exact h _ _ h'
  · exact h'
section
variable {B b m c : Nat} {w w' : World} {v v' : Value} {l : List UInt8} {K : Kn}
def NameAt (B : Nat) (w1 : World) (b m : Nat) (v : Value) (l : List UInt8) (K : Kn) (L : List (List UInt8)) (may : Bool) (k : Nat) (wr : World) : Prop :=
  ∃ v' l' K', Pk B wr b m v' l' K' l'.length /\ Kp b m v v' w1 wr /\ putL may L l K = putL may (L.drop k) l' K' /\ (∀ r t, K' r = some t -> t < 16384) /\ l'.length + (enc (L.drop k)).length <= l.length + (enc L).length
theorem Name_yes (h : Pk B w b m v l K l.length) (S : ByteArray) (s : List UInt8) (L : List (List UInt8)) (may : Bool) (hS : S = mk s) (hN : nameL s = some L) (hl : l.length <= 900000) (hBw : B <= w.heap.size) (hK : ∀ r t, K r = some t -> t < 16384) :
    Calls Tryz.prog 237 #[pkP b, .string S, .bool may] w fun e w' => e = .returned (.int .i64 0) /\
      ∃ v', Pk B w' b m v' (putL may L l K).1 (putL may L l K).2 (putL may L l K).1.length /\ Kp b m v v' w w' := by
  obtain ⟨hse, hgood, hlen⟩ := nameL_is hN
  obtain ⟨n, hn⟩ : ∃ n, n = L.length := ⟨_, rfl⟩
  have hb0 := h.blt
  have hm0 := h.mlt
  have hv0 : ∀ g, v.ownBlock = some g -> g < w.heap.size := fun g hg => (h.vlt g hg).2
  have HH := Ha h
  have HS := Ha hS
  have HN := Ha hN
  have HSE := Ha hse
  have HG := Ha hgood
  have HK := Ha hK
  have HV := Ha hv0
  have HNL := Ha hn
  have hsz : S.size <= 255 := by rw [hS, mk_size]; exact hlen
  have HSZ := Ha hsz
  clear h hS hN hse hgood hK hv0 hsz
  go_enter Tryz.func237, Tryz.ntmps237
  go_wp2_with fail
  refine (Labels_yes S s L _ HS.out HN.out).mono ?_
  rw [<-hn]
  rintro e w1 ⟨x, rfl, hown, hB1⟩
  obtain ⟨A, cA, rfl, hsee⟩ := Sees.own hown
  clear hsee
  have HO := Ha hown
  have HB1 := Ha hB1
  clear hown hB1 hn
  go_wp2_with fail
  refine (sclone_any S _ (by have := HSZ.out; omega)).mono ?_
  rintro e w2 ⟨rfl, hB2⟩
  have HP := Ha ((HH.out.same HB1.out).same hB2)
  have HO2 := Ha (own_below HO.out hB2)
  have HK2 := Ha ((Kp.of_below (b := b) (m := m) (v := v) HB1.out).to hB2)
  have hBw2 : B <= w2.heap.size := Nat.le_trans hBw HK2.out.size
  clear hB2
  have hn255 : n <= 255 := by rw [HNL.out]; exact name_few HN.out
  go_wp2_with fail
  go_loopw [9, 27] (fun r i wr => ∃ k : Nat, k <= n /\ i = .int .i64 k /\ r = .string (mk (enc (L.drop k))) /\ NameAt B w2 b m v l K L may k wr) (fun _ i _ => n - (intOf i).toNat)
  case atStart => exact ⟨0, Nat.zero_le _, rfl, by rw [HS.out, HSE.out]; rfl, v, l, K, HP.out, .refl _ _ _ _, rfl, HK.out, by simp⟩
  case round =>
    obtain ⟨k, hk, rfl, rfl, v', l', K', hpk, hkp, hput, hlt, hroom⟩ := hrel
    have HP' := Ha hpk
    have HKP' := Ha hkp
    have HPUT := Ha hput
    have HLT := Ha hlt
    have hBwr : B <= wr.heap.size := Nat.le_trans hBw2 hkp.size
    clear hpk hkp hput hlt
    by_cases hkn : k < n
    · have hkL : k < L.length := by have := HNL.out; omega
      have g1 : (k : Int) < (n : Int) := by omega
      obtain ⟨x, hx⟩ : ∃ x, x = L[k] := ⟨_, rfl⟩
      have hdrop : L.drop k = x :: L.drop (k + 1) := by rw [hx]; exact List.drop_eq_getElem_cons hkL
      have hgx := HG.out x (by rw [hx]; exact List.getElem_mem hkL)
      have hel := enc_len_cons x (L.drop (k + 1))
      have hcell : ∃ b2 off2, A = some ⟨b2, off2, none⟩ /\ wr.cell? ⟨b2, off2 + k, none⟩ = some (.string (mk x)) := by
        have hrow := HKP'.out.row HO2.out hb0 hm0 HV.out
        obtain ⟨A', c', e, hsee⟩ := Sees.own hrow
        injection e with e1 e2 e3
        subst e1; obtain ⟨b2, off2, e, _, hc⟩ := textL_at hsee hkn hkL
        exact ⟨b2, off2, e, by rw [hc, hx]⟩
      obtain ⟨b2, off2, rfl, hc⟩ := hcell
      have hel2 : (enc (x :: L.drop (k + 1))).length <= 255 := by
        have e1 : (enc L).length = s.length := by rw [HSE.out]
        have e2 : enc L = labs (L.take k) ++ enc (L.drop k) := by
          unfold enc; rw [<-List.append_assoc, <-labs_append, List.take_append_drop]
        rw [e2, List.length_append, hdrop] at e1
        omega
      rw [hdrop] at hroom
      obtain ⟨R, hR⟩ : ∃ R, R = enc (x :: L.drop (k + 1)) := ⟨_, rfl⟩
      have hRS : mk (enc (L.drop k)) = mk R := by rw [hdrop, hR]
      rw [hRS]
      obtain ⟨T, hT⟩ : ∃ T, T = mk R := ⟨_, rfl⟩
      rw [<-hT]
      have HT := Ha hT
      have HR := Ha hR
      have HD := Ha hdrop
      have hTz : T.size = x.length + 1 + (enc (L.drop (k + 1))).length := by rw [hT, mk_size, hR, hel]
      have hRl : R.length <= 255 := by rw [hR]; exact hel2
      have hll : l'.length <= 901000 := by
        have : (enc L).length <= 255 := by rw [<-HSE.out]; exact hlen
        omega
      have hlook := pk_look HP'.out hT (by omega)
      have c2 := HP'.out.cell2
      clear hx hdrop hT hR hRS
      cases hkk : knownK may K' R with
      | some t =>
        obtain ⟨rfl, hkr⟩ := known_some hkk
        rw [hkr] at hlook
        have hpt : putL true (L.drop k) l' K' = (l' ++ ptrB t, K') := by
          rw [HD.out, put_ptr (t := t)]
          show K' _ = _
          rw [<-HR.out]; exact hkr
        have HPT := Ha (HPUT.out.trans hpt)
        have ht := HLT.out _ _ hkr
        clear hpt hkk hkr; go_wp2_with fail
        refine (point_any HP'.out t ht (by omega) hBwr).mono ?_
        rintro e w3 ⟨rfl, v3, h3, h4⟩; go_wp2_with fail
        go_ret
        refine ⟨rfl, v3, ?_, HK2.out.trans (HKP'.out.trans h4)⟩
        rw [HPT.out]
        exact h3.more (by simp)
      | none =>
        have hpo : putL may (L.drop k) l' K' = putL may (L.drop (k + 1)) (l' ++ lab x) (learnK K' R l'.length) := by
          rw [HD.out, put_on (by rw [<-HR.out]; exact hkk), <-HR.out]
        have HPO := Ha (HPUT.out.trans hpo)
        have hkr : (K' R).isSome = false \/ ((K' R).isSome = true /\ may = false) := by
          unfold knownK at hkk
          cases may
          · cases (K' R).isSome <;> simp
          · rw [if_pos rfl] at hkk; rw [hkk]; exact .inl rfl
        have g2 : ((x.length : Nat) : Int) + 1 <= (T.size : Int) := by omega
        have g3 : (1 : Int) + (x.length : Int) <= (T.size : Int) := by omega
        have hms := mk_size x
        have hRx : R = lab x ++ enc (L.drop (k + 1)) := by rw [HR.out, enc_cons]
        have hcut1 : (T.extract 0 (1 + x.length)).data.toList = lab x := by
          rw [HT.out, mk_extract, hRx, List.take_left' (by rw [lab_len]; omega), List.drop_zero]; rfl
        have hcut1s : (T.extract 0 (1 + x.length)).size = x.length + 1 := by
          rw [HT.out, mk_extract, mk_size, hRx, List.take_left' (by rw [lab_len]; omega), List.drop_zero, lab_len]
        have hcut2 : T.extract (1 + x.length) T.size = mk (enc (L.drop (k + 1))) := by
          rw [HT.out, mk_extract, mk_size, List.take_length, hRx, List.drop_left' (by rw [lab_len]; omega)]
        have HC1 := Ha hcut1
        have HC1s := Ha hcut1s
        have HC2 := Ha hcut2
        clear hpo hkk hRx hcut1 hcut1s hcut2
        rcases hkr with hkr | ⟨hkr, rfl⟩
        all_goals (
          rw [hkr] at hlook
          go_wp2_with fail
          refine (learn_any HP'.out T R HT.out (by omega) (by omega)).mono ?_
          rintro e w3 ⟨rfl, h3, h4⟩; have H3 := Ha h3
          have H4 := Ha h4
          clear h3 h4; go_wp2_with fail
          refine (Raw_any H3.out _ (by rw [HC1s.out]; omega) (Nat.le_trans hBwr H4.out.size)).mono ?_
          rw [HC1.out]
          rintro e w4 ⟨rfl, v4, h5, h6⟩; have H5 := Ha (h5.more (c' := (l' ++ lab x).length) (by rw [List.length_append, lab_len]; omega))
          have H6 := Ha (HKP'.out.trans (H4.out.trans h6))
          clear h5 h6; go_wp2_with fail
          go_roundw
          case rel =>
            refine ⟨k + 1, by omega, by go_num, by rw [<-hTz, HC2.out], v4, _, _, H5.out, H6.out, HPO.out, learn_lt HLT.out, ?_⟩
            rw [List.length_append, lab_len]; omega
          case measure => simp [intOf]; omega)
    · obtain rfl : k = n := by omega
      have hnil : L.drop k = [] := List.drop_eq_nil_of_le (by rw [HNL.out]; exact Nat.le_refl _)
      have hpt : putL may (L.drop k) l' K' = (l' ++ [0], K') := by rw [hnil]; rfl
      have HPT := Ha (HPUT.out.trans hpt)
      have hll : l'.length <= 901000 := by
        have : (enc L).length <= 255 := by rw [<-HSE.out]; exact hlen
        omega
      have hz : (⟨#[0]⟩ : ByteArray).size = 1 := rfl
      clear hnil hpt; go_wp2_with fail
      refine (Raw_any HP'.out _ (by show l'.length + 1 <= 1000000000; omega) hBwr).mono ?_
      rintro e w3 ⟨rfl, v3, h3, h4⟩; go_wp2_with fail
      go_ret
      refine ⟨rfl, v3, ?_, HK2.out.trans (HKP'.out.trans h4)⟩
      rw [HPT.out]
      exact h3.more (by simp)
end
end Go.Proofs.YtmpginmdaeclaaaGreatDoor
