/- PaA: texts PakA, PakS, PakB, PakN of our own, joined. No statement of the seat is proved here. -/
import Derived.Test.YtaijcoiepfjecaaGreatNaM
import Derived.Test.YtaijcoiepfjecaaGreatNaA
import Derived.Test.YtaijcoiepfjecaaGreatOcJ
import Derived.Lib.FrozenHead
import Derived.Lib.UnsafeStr
import Derived.Maps.RangeWalk
import Derived.Shelf.RegionOpenPlain
import Derived.Deep.RegionHeld3
import Derived.StillTailTactics
import Derived.Test.YtaijcoiepfjecaaGreatNaI
namespace Go.Proofs.YtaijcoiepfjecaaGreat
open Go.RowKit Go.Maps

theorem law : Keyed Tryz.prog 9 := string_keyed Tryz.underlying9

/-! ### what is known, as a map's entries -/
def intR : Value → Option (DataW Unit × List MemPlace)
  | .int .i64 z => some (.lit (.int .i64 z), [])
  | _ => none
theorem intR_mk (z : Int) : intR (.int .i64 z) = some (.lit (.int .i64 z), []) := rfl
theorem intR_inv {v : Value} {z : Int} {ps : List MemPlace} (h : intR v = some (.lit (.int .i64 z), ps)) : v = .int .i64 z := by
  unfold intR at h
  split at h
  · simp only [Option.some.injEq, Prod.mk.injEq, DataW.lit.injEq, Lit.int.injEq, true_and] at h
    rw [h.1]
  · cases h
def KMap (D : DataW Unit) (K : Kn) : Prop :=
  Maps.IsMap D ∧ ∀ k, Maps.has D (.string k) = (K k).isSome ∧ D.atKey (.string k) (.lit (.int .i64 0)) = .lit (.int .i64 ((K k).getD 0 : Nat))
theorem KMap.none : KMap (.map []) noneK := ⟨⟨[], rfl⟩, fun _ => ⟨rfl, rfl⟩⟩
theorem KMap.put {D : DataW Unit} {K : Kn} (h : KMap D K) (r : List UInt8) (p : Nat) : KMap (D.put (.string r) (.lit (.int .i64 (p : Nat)))) (fun k => if k = r then some p else K k) := by
  refine ⟨?_, fun k => ?_⟩
  · obtain ⟨es, rfl⟩ := h.1
    exact ⟨_, rfl⟩
  · by_cases hk : k = r
    · subst hk
      rw [Maps.has_put_same h.1 (by simp [WideAt.IsKeyLit]), Maps.atKey_put_same h.1 (by simp [WideAt.IsKeyLit])]
      simp
    · have hne : Lit.string k ≠ Lit.string r := by intro e; injection e with e; exact hk e
      rw [Maps.has_put_other hne, Maps.atKey_put_other hne]
      simpa [hk] using h.2 k

/-! ### the packer -/
/-- of what was there only the packer's own blocks have turned -/
structure Kp (b m : Nat) (v v' : Value) (w w' : World) : Prop where
  os : w'.os = w.os
  tape : w'.tape = w.tape
  output : w'.output = w.output
  size : w.heap.size ≤ w'.heap.size
  block : ∀ k, k < w.heap.size → k ≠ b → k ≠ m → v.ownBlock ≠ some k → w'.heap[k]? = w.heap[k]?
  own : ∀ g, v'.ownBlock = some g → v.ownBlock = some g ∨ w.heap.size ≤ g
theorem Kp.refl (b m : Nat) (v : Value) (w : World) : Kp b m v v w w := ⟨rfl, rfl, rfl, Nat.le_refl _, fun _ _ _ _ _ => rfl, fun _ h => .inl h⟩
theorem Kp.trans {b m : Nat} {v v' v'' : Value} {w w' w'' : World} (h : Kp b m v v' w w') (k : Kp b m v' v'' w' w'') : Kp b m v v'' w w'' := by
  refine ⟨k.os.trans h.os, k.tape.trans h.tape, k.output.trans h.output, Nat.le_trans h.size k.size, fun i hi h1 h2 h3 => ?_, fun g hg => ?_⟩
  · refine (k.block i (Nat.lt_of_lt_of_le hi h.size) h1 h2 fun e => ?_).trans (h.block i hi h1 h2 h3)
    rcases h.own i e with h' | h'
    · exact h3 h'
    · omega
  · rcases k.own g hg with h' | h'
    · exact h.own g h'
    · exact .inr (Nat.le_trans h.size h')
theorem Kp.of_below {b m : Nat} {v : Value} {w w' : World} (h : Below w.heap.size w w') : Kp b m v v w w' := ⟨h.os, h.tape, h.output, h.size, fun k hk _ _ _ => h.block k hk, fun _ h => .inl h⟩
theorem Kp.to {b m : Nat} {v v' : Value} {w w' w'' : World} (h : Kp b m v v' w w') (k : Below w'.heap.size w' w'') : Kp b m v v' w w'' := h.trans (.of_below k)
theorem Kp.drewN {b m : Nat} {v v' : Value} {w w' : World} (h : Kp b m v v' w w') (n : Nat) : Kp b m v v' w (w'.drewN n) := ⟨h.os, h.tape, h.output, h.size, h.block, h.own⟩
theorem Kp.drew {b m : Nat} {v v' : Value} {w w' : World} (h : Kp b m v v' w w') : Kp b m v v' w w'.drew := ⟨h.os, h.tape, h.output, h.size, h.block, h.own⟩
theorem Kp.of_grown {b m : Nat} {v : Value} {w w' : World} {g : Option Nat} (h : w.grownBy w' g) (hg : ∀ k, g = some k → k = b ∨ k = m ∨ v.ownBlock = some k) : Kp b m v v w w' :=
  ⟨h.os, h.tape, h.output, h.size, fun k hk h1 h2 h3 => h.block k hk (fun e => by rcases hg k e.symm with h' | h' | h' <;> contradiction), fun _ h => .inl h⟩
section
variable {B b m c : Nat} {w w' : World} {v v' : Value} {l : List UInt8} {K : Kn}
end
theorem gset (w : World) (p : Addr) (u : Value) : w.grownBy (w.setCell p u) (some p.block) :=
  ⟨rfl, rfl, rfl, by simp [World.setCell], fun k _ hne => Below.heap_setCell _ _ _ _ (fun e => hne (by rw [e]))⟩
theorem grow_refl (w : World) (g : Option Nat) : w.grownBy w g := ⟨rfl, rfl, rfl, Nat.le_refl _, fun _ _ _ => rfl⟩

/-! ### the builder -/
theorem size_builder : (Tryz.prog.info? 138).map (·.size) = some 2 := by kernel_rfl
theorem byte_info : (Tryz.prog.info? 5).map (fun i => (i.zero, i.size, i.bytes)) = some (some (.int .u8 0), 1, 1) := by kernel_rfl
theorem byte_cells : Tryz.prog.cellsOf 5 = 1 := by kernel_rfl

set_option maxHeartbeats 1000000 in
set_option maxRecDepth 100000 in
theorem check_used (b : Nat) (w : World) (h0 : w.cell? ⟨b, 0, none⟩ = some (.pointer (some ⟨b, 0, none⟩))) :
    Calls Tryz.prog 157 #[.pointer (some ⟨b, 0, none⟩)] w fun e w' => e = .returned (.tuple #[]) ∧ w' = w := by
  obtain ⟨j, hj, _⟩ := Option.map_eq_some_iff.1 size_builder
  go_enter Tryz.func157, Tryz.ntmps157
  go_wp2
  rw [Lib.run_neq_ptr_same w _ Tryz.underlying136 hj]
  go_wp2
  go_end0
  exact ⟨rfl, rfl⟩

/-- where the row lies behind an append: where it lay, or in a new block -/
theorem app_where (w : World) (base ty : Nat) {v v' : Value} {n : Nat} {xs : List Value} {w' : World} (hown : w.ownsRowF base 5 1 v n xs) (s : ByteArray) (h63 : n + s.size ≤ maxLen) (hbytes : n + s.size ≤ 140737488355328)
    (hr : (Builtin.append_ #[121, 9] ty #[v, .string s]).run Tryz.prog w = .ok v' w') : ∀ g, v'.ownBlock = some g → v.ownBlock = some g ∨ w.heap.size ≤ g := by
  obtain ⟨i, hi, hz, hs1, hs2⟩ := info_parts byte_info
  have hown' := hown
  rcases hown.2 with ⟨rfl, rfl⟩ | ⟨g, cap, cur, fz, rfl, hbg, hg, hfz, hnc, hcm, hcs, htake⟩
  · have hx : xs = [] := List.eq_nil_of_length_eq_zero (by simpa using hown.1)
    subst hx
    obtain ⟨v1, w1, h1, h2, _, _⟩ := Lib.run_append_own_stringF (P := Tryz.prog) w w.heap.size 121 9 ty 5 i Tryz.underlying121 Tryz.underlying9 hi hz hs1 hs2 (.slice none 0 0) 0 [] (World.ownsRowF_nil _ _ _ _) s h63 hbytes (Nat.le_refl _)
    rw [hr] at h1
    injection h1 with e1 e2
    subst e1
    intro g hg
    exact .inr (h2.lt g hg).1
  · have hsmall : ((n + s.size : Nat) : Int) ≤ 9223372036854775807 := by omega
    have hxl : xs.length = n := by simpa using hown'.1
    have hcs' : cur.size = cap := by simpa using hcs
    by_cases hroom : n + s.size ≤ cap
    · have h1 := Lib.run_append_room_stringF (P := Tryz.prog) w 121 9 ty 5 i Tryz.underlying121 Tryz.underlying9 hi hs1 g n cap cur fz hg (by simpa using hfz) s hroom (by omega)
      rw [hr] at h1
      injection h1 with e1 _
      subst e1
      intro k hk
      exact .inl hk
    · have holds : ∀ j u, xs[j]? = some u → w.cell? ((⟨g, 0, none⟩ : Addr).add j) = some u := hown'.cells (g := g) rfl
      have h1 := Lib.run_append_grow_string (P := Tryz.prog) w 121 9 ty 5 i (.int .u8 0) Tryz.underlying121 Tryz.underlying9 hi hz ⟨g, 0, none⟩ n cap xs (by rw [hs1]; simpa using hxl) holds s (by omega) hsmall (by rw [hs2]; exact growslice_fits (by omega) (by omega))
      rw [hr] at h1
      injection h1 with e1 _
      subst e1
      intro k hk
      simp only [Value.ownBlock, Option.some.injEq] at hk
      exact .inr (by omega)
/-- the operation, for the walk -/
theorem wpList_bytes_on {ops : Array Oper} {rest : List Oper} {o : Oper} {a : Act} {Q : Exit → Act → World → Prop} (w : World) (hgd : o.guard = none) (sl x : Operand)
    (ho : o.op = .call { callee := .builtin .append, args := #[sl, x], argTypes := #[121, 9] })
    (base : Nat) (v : Value) (n : Nat) (xs : List Value) (hs : a.eval sl = v) (hown : w.ownsRowF base 5 1 v n xs) (s : ByteArray) (hx : a.eval x = .string s)
    (h63 : n + s.size ≤ maxLen) (hbytes : n + s.size ≤ 140737488355328) (hbase : base ≤ w.heap.size)
    (h : ∀ v' w', w'.ownsRowF base 5 1 v' (n + s.size) (xs ++ Lib.strCells s) → w.grownBy w' v.ownBlock → (v' = .slice none 0 0 ↔ v = .slice none 0 0 ∧ s.size = 0) → (∀ g, v'.ownBlock = some g → v.ownBlock = some g ∨ w.heap.size ≤ g) → wpList Tryz.prog ops Q rest (a.put o.dst v') w') : wpList Tryz.prog ops Q (o :: rest) a w := by
  obtain ⟨i, hi, hz, hs1, hs2⟩ := info_parts byte_info
  refine wpList_plain hgd fun K hK => ?_
  obtain ⟨v', w', hr, h2, h3, h4⟩ := Lib.run_append_own_stringF (P := Tryz.prog) w base 121 9 o.type 5 i Tryz.underlying121 Tryz.underlying9 hi hz hs1 hs2 v n xs hown s h63 hbytes hbase
  have h5 := app_where w base o.type hown s h63 hbytes hr
  unfold Oper.wp execOp
  simp only [ho, resolve, invoke, builtin, Sem.run_bind, Sem.run_pure, Result.andThen_ok, List.map_toArray, List.map_cons, List.map_nil, hs, hx, hr]
  exact hK _ _ (h v' w' h2 h3 h4 h5)

section
variable {B b m c : Nat} {w w' : World} {v v' : Value} {l : List UInt8} {K : Kn}
/-! ### Raw, Len, Bytes, New -/
abbrev pkP (b : Nat) : Value := .pointer (some ⟨b, 0, none⟩)
end
end Go.Proofs.YtaijcoiepfjecaaGreat
namespace Go.Proofs.YtaijcoiepfjecaaGreat
open Go.RowKit Go.Maps
section
variable {B b m c : Nat} {w w' : World} {v v' : Value} {l : List UInt8} {K : Kn}
theorem ustring_none (W : World) (q : Option Addr) : (Builtin.unsafeString_ #[165, 3] 9 #[.pointer q, .int .i64 0]).run Tryz.prog W = .ok (.string .empty) W :=
  Lib.run_unsafeString_none W _ _ _ q
end
end Go.Proofs.YtaijcoiepfjecaaGreat
namespace Go.Proofs.YtaijcoiepfjecaaGreat
open Go.RowKit Go.Maps

theorem zeroI (w : World) : (zeroValue 3).run Tryz.prog w = .ok (.int .i64 0) w := by kernel_rfl
section
variable {B b m c : Nat} {w w' : World} {v v' : Value} {l : List UInt8} {K : Kn}
theorem join_ptr {t : Nat} (ht : t < 16384) : joinR [49152 + (t : Int)] [2] = (mk (ptrB t), 0) := by
  have e1 : (49152 + (t : Int)).toNat = 49152 + t := by omega
  have e2 : ((2 : Int)).toNat = 2 := rfl
  have e3 : fitB (49152 + t) 2 = true := by unfold fitB; rw [decide_eq_true_eq]; omega
  have e4 : be (49152 + t) 2 = ptrB t := by
    have a1 : (49152 + t) / 256 ^ 1 = 192 + t / 256 := by omega
    have a2 : UInt8.ofNat ((49152 + t) / 256 ^ 0) = UInt8.ofNat (t % 256) := by
      apply UInt8.toNat_inj.1
      rw [UInt8.toNat_ofNat', UInt8.toNat_ofNat']
      omega
    simp only [be, ptrB, a1, a2]
  refine joinR_some (by decide) rfl ?_
  simp only [joinF, e1, e2, e3, e4, if_true, Option.map_some, List.append_nil]
theorem sees_one {W : World} {g ty : Nat} {x : Value} (h : Whole W g ty #[x]) : Sees W (g + 1) (some ⟨g, 0, none⟩) 1 [x] := by
  refine ⟨rfl, fun _ => ⟨g, 0, rfl, by omega, fun j u hu => ?_⟩⟩
  rcases Nat.eq_zero_or_pos j with h0 | h0
  · subst h0
    rw [show 0 + 0 = 0 from rfl, h.cell1]
    simpa using hu
  · rw [List.getElem?_eq_none (by simp; omega)] at hu; cases hu
end
end Go.Proofs.YtaijcoiepfjecaaGreat
namespace Go.Proofs.YtaijcoiepfjecaaGreat
open Go.RowKit Go.Maps

/-- a row that was made behind the packer stands while the packer turns -/
theorem Kp.row {b m : Nat} {v v' : Value} {w w' : World} {base e size n : Nat} {x : Value} {xs : List Value} (h : Kp b m v v' w w') (ho : w.ownsRow base e size x n xs) (hb : b < base) (hm : m < base) (hv : ∀ g, v.ownBlock = some g → g < base) : w'.ownsRow base e size x n xs := by
  refine ⟨ho.1, ?_⟩
  rcases ho.2 with h2 | ⟨g, cap, cur, hx, hg, hh, r⟩
  · exact .inl h2
  · have hl : g < w.heap.size := (Array.getElem?_eq_some_iff.1 hh).1
    refine .inr ⟨g, cap, cur, hx, hg, ?_, r⟩
    rw [h.block g hl (by omega) (by omega) (fun e => by have := hv g e; omega)]
    exact hh

theorem textL_at {w : World} {B : Nat} {A : Option Addr} {n : Nat} {L : List (List UInt8)} (h : Sees w B A n (textL L)) {k : Nat} (hk : k < n) (hx : k < L.length) :
    ∃ b off, A = some ⟨b, off, none⟩ ∧ b < B ∧ w.cell? ⟨b, off + k, none⟩ = some (.string (mk L[k])) := by
  obtain ⟨b, off, e, hb, hc⟩ := texts_at h hk
  refine ⟨b, off, e, hb, ?_⟩
  rw [hc]
  simp [List.getD, hx]
theorem name_few {s : List UInt8} {L : List (List UInt8)} (h : nameL s = some L) : L.length ≤ 255 := by
  obtain ⟨he, hg, hl⟩ := nameL_is h
  have := pairs_len s
  rw [show pairs s = prs L by rw [he, pairs_enc hg], (labV_prs L).2] at this
  omega
theorem learn_lt {K : Kn} {r : List UInt8} {p : Nat} (h : ∀ r t, K r = some t → t < 16384) : ∀ r' t, learnK K r p r' = some t → t < 16384 := by
  intro r' t ht
  rcases learn_is ht with h' | ⟨_, rfl, h'⟩
  · exact h _ _ h'
  · exact h'

section
variable {B b m c : Nat} {w w' : World} {v v' : Value} {l : List UInt8} {K : Kn}
end
end Go.Proofs.YtaijcoiepfjecaaGreat
