/- Parts of the proofs of the statements of image. No statement of the seat is proved here. -/
import Derived.Test.YtmpginmdaeclaaaGreatDoorPaA
import Derived.Test.YtmpginmdaeclaaaGreatDoorRdM
import Derived.Test.YtmpginmdaeclaaaGreatDoorPaC
import Derived.Test.YtmpginmdaeclaaaGreatDoorOcD
import Derived.Shelf.Abstract
set_option maxHeartbeats 32000000
set_option maxRecDepth 20000
namespace Go.Proofs.YtmpginmdaeclaaaGreatDoor
open Go.RowKit Go.Maps
abbrev bdT : TypeId := 138
structure Bd (B : Nat) (w : World) (b : Nat) (v : Value) (l : List UInt8) : Prop where
  hb : B <= b
  blk : ∃ p, (p = .pointer none \/ p = .pointer (some ⟨b, 0, none⟩)) /\ w.heap[b]? = some (.cells #[p, v] bdT (0, 0))
  row : w.ownsRowF B 5 1 v l.length (Lib.byteCells l)
  nl : l = [] -> v = .slice none 0 0
theorem Bd.new (w : World) : Bd w.heap.size (w.alloc (.cells #[.pointer none, .slice none 0 0] bdT)) w.heap.size (.slice none 0 0) [] :=
  ⟨Nat.le_refl _, ⟨_, .inl rfl, Whole.new w bdT _⟩, World.ownsRowF_nil _ _ _ _, fun _ => rfl⟩
section
variable {B b : Nat} {w w' : World} {v v' : Value} {l : List UInt8}
theorem Bd.blt (h : Bd B w b v l) : b < w.heap.size := by
  obtain ⟨p, _, hb⟩ := h.blk
  exact (Array.getElem?_eq_some_iff.1 hb).1
theorem Bd.cell1 (h : Bd B w b v l) : w.cell? ⟨b, 1, none⟩ = some v := by
  obtain ⟨p, _, hb⟩ := h.blk
  rw [Lib.cell_of_heap hb]; rfl
theorem Bd.vlt (h : Bd B w b v l) : ∀ g, v.ownBlock = some g -> B <= g /\ g < w.heap.size := h.row.lt
theorem Bd.nv (h : Bd B w b v l) : v.ownBlock ≠ some b := by
  obtain ⟨p, _, hb⟩ := h.blk
  exact Lib.ownBlock_neF h.row hb (by decide)
theorem Bd.same (h : Bd B w b v l) (hb : Below w.heap.size w w') : Bd B w' b v l := by
  have hg : w.grownBy w' none := ⟨hb.os, hb.tape, hb.output, hb.size, fun k hk _ => hb.block k hk⟩
  obtain ⟨p, hp, hk⟩ := h.blk
  exact ⟨h.hb, ⟨p, hp, (hb.block b h.blt).trans hk⟩, h.row.kept hg (by cases v.ownBlock <;> simp), h.nl⟩
theorem Bd.drew (h : Bd B w b v l) : Bd B w.drew b v l := h.same (Below.refl _ _).drew
theorem Bd.below (hp : Bd B w b v l) (h : Kp b b v v' w w') (hB : B <= w.heap.size) : Below B w w' :=
  ⟨h.os, h.tape, h.output, h.size, fun k hk => h.block k (by omega) (by have := hp.hb; omega) (by have := hp.hb; omega) (fun e => by have := (hp.vlt k e).1; omega)⟩
theorem Bd.turn (h : Bd B w b v l) {w1 w2 : World} {l' : List UInt8} {p : Value} (hp : p = .pointer none \/ p = .pointer (some ⟨b, 0, none⟩)) (hg : w.grownBy w1 v.ownBlock) (hrow : w1.ownsRowF B 5 1 v' l'.length (Lib.byteCells l'))
    (hnl : l' = [] -> v' = .slice none 0 0) (hnew : ∀ g, v'.ownBlock = some g -> v.ownBlock = some g \/ w.heap.size <= g) (hg2 : w1.grownBy w2 (some b)) (hblk : w2.heap[b]? = some (.cells #[p, v'] bdT (0, 0))) : Bd B w2 b v' l' /\ Kp b b v v' w w2 := by
  have hnv : v'.ownBlock ≠ some b := by
    intro e
    rcases hnew b e with h' | h'
    · exact h.nv h'
    · have := h.blt; omega
  refine ⟨⟨h.hb, ⟨p, hp, hblk⟩, hrow.kept hg2 (.inr hnv), hnl⟩, ?_⟩
  have k1 : Kp b b v v w w1 := .of_grown hg fun k hk => .inr (.inr hk)
  have k2 : Kp b b v v w1 w2 := .of_grown hg2 fun k hk => .inl (Option.some.inj hk).symm
  have k := k1.trans k2
  exact ⟨k.os, k.tape, k.output, k.size, k.block, hnew⟩
end
theorem lies_builderB : liesAt Tryz.prog Tryz.prog.depth bdT (2 / Tryz.prog.cellsOf bdT) 0 138 1 = true := by kernel_rfl
theorem check_freshB (b : Nat) (w : World) (h0 : w.cell? ⟨b, 0, none⟩ = some (.pointer none)) (hsh : w.shape? b = some (bdT, 2)) (hfz : w.frozen? ⟨b, 0, none⟩ = false) :
    Calls Tryz.prog 191 #[.pointer (some ⟨b, 0, none⟩)] w fun e w' => e = .returned (.tuple #[]) /\ w' = w.setCell ⟨b, 0, none⟩ (.pointer (some ⟨b, 0, none⟩)) := by
  obtain ⟨j, hj, hjs⟩ := Option.map_eq_some_iff.1 size_builder
  go_enter Tryz.func191, Tryz.ntmps191
  go_wp2
  rw [Lib.run_to_unsafe w ⟨b, 0, none⟩ Tryz.underlying136 Tryz.underlying262 hj (by rw [hjs]; decide) hsh (Nat.zero_lt_succ 1)]
  simp only [Result.andThen]
  rw [Oper.upon_value]
  go_wp2
  rw [run_callFunc_extern Tryz.func236 (by kernel_rfl) (by kernel_rfl) (by kernel_rfl) (e := Extern.AbiNoEscape.same) (by kernel_rfl)]
  rw [Lib.run_noEscape]
  simp only [Result.andThen]
  rw [Oper.upon_value]
  go_wp2
  rw [Lib.run_from_unsafe w ⟨b, 0, none⟩ Tryz.underlying262 Tryz.underlying136 hj hsh lies_builderB]
  simp only [Result.andThen]
  rw [Oper.upon_value]
  go_wp2
  go_end0
  exact ⟨rfl, rfl⟩
section
variable {B b : Nat} {w w' : World} {v v' : Value} {l : List UInt8}
theorem checkB_any (h : Bd B w b v l) :
    Calls Tryz.prog 191 #[.pointer (some ⟨b, 0, none⟩)] w fun e w' => e = .returned (.tuple #[]) /\ Bd B w' b v l /\ Kp b b v v w w' /\ w'.heap[b]? = some (.cells #[.pointer (some ⟨b, 0, none⟩), v] bdT (0, 0)) := by
  obtain ⟨p, hp, hb⟩ := h.blk
  rcases hp with rfl | rfl
  · refine (check_freshB b w (by rw [Lib.cell_of_heap hb]; rfl) (by simp [World.shape?, hb]) (by simp [World.frozen?, hb])).mono ?_
    rintro e w' ⟨rfl, rfl⟩; have hb' : (w.setCell ⟨b, 0, none⟩ (.pointer (some ⟨b, 0, none⟩))).heap[b]? = some (.cells #[.pointer (some ⟨b, 0, none⟩), v] bdT (0, 0)) := by
      simp [World.setCell, Array.getElem?_modify, hb]
    obtain ⟨h1, h2⟩ := h.turn (p := .pointer (some ⟨b, 0, none⟩)) (.inr rfl) (grow_refl _ _) h.row h.nl (fun g hg => .inl hg) (gset w ⟨b, 0, none⟩ _) hb'
    exact ⟨rfl, h1, h2, hb'⟩
  · refine (check_used b w (by rw [Lib.cell_of_heap hb]; rfl)).mono ?_
    rintro e w' ⟨rfl, rfl⟩; exact ⟨rfl, h, .refl _ _ _ _, hb⟩
theorem writeB_any (h : Bd B w b v l) (s : ByteArray) (hlen : l.length + s.size <= 1000000000) (hBw : B <= w.heap.size) :
    Calls Tryz.prog 149 #[.pointer (some ⟨b, 0, none⟩), .string s] w fun e w' => e = .returned (.tuple #[.int .i64 s.size, .nilIface]) /\ ∃ v', Bd B w' b v' (l ++ s.data.toList) /\ Kp b b v v' w w' := by
  have HL := Ha hlen
  have HH := Ha h
  have HB := Ha hBw
  clear hlen h hBw
  go_enter Tryz.func149, Tryz.ntmps149
  go_wp2_with (go_at_call 191; refine (checkB_any HH.out).mono ?_)
  rintro e w1 ⟨rfl, h1, hk1, hbk⟩
  have hBw1 : B <= w1.heap.size := Nat.le_trans HB.out hk1.size
  have hk1 := Ha hk1
  have hrow := h1.row
  have hne := h1.nv
  have c0 : w1.cell? ⟨b, 0, none⟩ = some (.pointer (some ⟨b, 0, none⟩)) := by rw [Lib.cell_of_heap hbk]; rfl
  have c1 : w1.cell? ⟨b, 1, none⟩ = some v := by rw [Lib.cell_of_heap hbk]; rfl
  go_wp2_with (at_builtin; refine wpList_bytes_on _ rfl _ _ rfl B _ _ _ rfl hrow s rfl ?c3 ?c4 ?c5 ?_)
  case c3 => have := HL.out; unfold maxLen; omega
  case c4 => have := HL.out; omega
  case c5 => exact hBw1
  intro v' w2 hown' hgrow hnil hnew
  have hnl : l ++ s.data.toList = [] -> v' = .slice none 0 0 := fun e => hnil.2 ⟨h1.nl (List.append_eq_nil_iff.1 e).1, by have := (List.append_eq_nil_iff.1 e).2; simpa using congrArg List.length this⟩
  have hlt : b < w1.heap.size := h1.blt
  have hb2 : w2.heap[b]? = some (.cells #[.pointer (some ⟨b, 0, none⟩), v] bdT (0, 0)) := by
    rw [hgrow.block b hlt (fun e => hne e.symm)]
    exact hbk
  have d0 : w2.cell? ⟨b, 0, none⟩ = some (.pointer (some ⟨b, 0, none⟩)) := by rw [Lib.cell_of_heap hb2]; rfl
  have d1 : w2.cell? ⟨b, 1, none⟩ = some v := by rw [Lib.cell_of_heap hb2]; rfl
  have f1 : w2.frozen? ⟨b, 1, none⟩ = false := Lib.frozen_of_heap hb2 1
  obtain ⟨ao, n', cap, rfl⟩ : ∃ ao n' cap, v' = .slice ao n' cap := by
    rcases hown'.2 with ⟨hv, _⟩ | ⟨g, cap, cur, fz, hv, _⟩
    · exact ⟨_, _, _, hv⟩
    · exact ⟨_, _, _, hv⟩
  go_wp2
  go_ret2
  have hb3 : (w2.setCell ⟨b, 1, none⟩ (.slice ao n' cap)).heap[b]? = some (.cells #[.pointer (some ⟨b, 0, none⟩), .slice ao n' cap] bdT (0, 0)) := by
    simp [World.setCell, Array.getElem?_modify, hb2]
  obtain ⟨k1, k2⟩ := h1.turn (l' := l ++ s.data.toList) (.inr rfl) hgrow (by rw [Lib.byteCells_append, List.length_append]; simpa [Lib.strCells_eq] using hown') hnl hnew (gset w2 ⟨b, 1, none⟩ _) hb3
  exact ⟨rfl, _, k1, hk1.out.trans k2⟩
theorem Bd.froze {g cap : Nat} (h : Bd B w b (.slice (some ⟨g, 0, none⟩) l.length cap) l) : Bd B (w.freeze ⟨g, 0, none⟩ l.length) b (.slice (some ⟨g, 0, none⟩) l.length cap) l /\ Kp b b (.slice (some ⟨g, 0, none⟩) l.length cap) (.slice (some ⟨g, 0, none⟩) l.length cap) w (w.freeze ⟨g, 0, none⟩ l.length) := by
  have hg0 : w.grownBy (w.freeze ⟨g, 0, none⟩ l.length) (some g) := by
    have hb := Lib.below_freeze (Below.refl g w) (p := ⟨g, 0, none⟩) (Nat.le_refl _) l.length
    refine ⟨hb.os, hb.tape, hb.output, hb.size, fun k _ hk => ?_⟩
    unfold World.freeze
    split
    · rfl
    · simp only [Array.getElem?_modify]
      rw [if_neg (fun e => hk (by rw [e]))]
  have hgb : g ≠ b := fun e => h.nv (by simp [Value.ownBlock, e])
  obtain ⟨p, hp, hk⟩ := h.blk
  refine ⟨⟨h.hb, ⟨p, hp, ?_⟩, ?_, h.nl⟩, .of_grown hg0 fun k hk => .inr (.inr (by simpa [Value.ownBlock] using hk))⟩
  · rw [hg0.block b h.blt (fun e => hgb (Option.some.inj e).symm)]; exact hk
  · refine ⟨h.row.1, ?_⟩
    rcases h.row.2 with ⟨hv, _⟩ | ⟨g', cap', cur, fz, hv, hbg, hgg, hfz, rest⟩
    · cases hv
    · injection hv with ha _ hcap
      injection ha with ha
      injection ha with he _ _
      subst he hcap
      obtain ⟨lo, hi⟩ := fz
      unfold World.freeze
      split
      · exact .inr ⟨g, _, cur, (lo, hi), rfl, hbg, hgg, hfz, rest⟩
      · refine .inr ⟨g, _, cur, (if lo == hi then (0, 0 + l.length) else (min lo 0, max hi (0 + l.length))), rfl, hbg, ?_, ?_, rest⟩
        · simp [Array.getElem?_modify, hgg]
        · simp only at hfz
          split <;> simp <;> omega
theorem stringB_some (h : Bd B w b v l) (h0 : l ≠ []) :
    Calls Tryz.prog 88 #[.pointer (some ⟨b, 0, none⟩)] w fun e w' => e = .returned (.string (mk l)) /\ Bd B w' b v l /\ Kp b b v v w w' := by
  have hl0 : l.length ≠ 0 := by simpa using h0
  obtain ⟨g, cap, cur, fz, rfl, hbg, hg, hfz, hnc, hcm, hcs, htake⟩ : ∃ g cap cur fz, v = .slice (some ⟨g, 0, none⟩) l.length cap /\ B <= g /\ w.heap[g]? = some (.cells cur 5 fz) /\ fz.2 <= l.length * 1 /\ l.length <= cap /\ cap <= maxLen /\ cur.size = cap * 1 /\ cur.toList.take (l.length * 1) = Lib.byteCells l := by
    rcases h.row.2 with ⟨_, hz⟩ | ⟨g, cap, cur, fz, hv, r⟩
    · exact absurd hz hl0
    · exact ⟨g, cap, cur, fz, hv, r⟩
  have c1 : w.drew.cell? ⟨b, 1, none⟩ = some (.slice (some ⟨g, 0, none⟩) l.length cap) := h.cell1
  have hSD : (Builtin.unsafeSliceData_ #[115] 193 #[.slice (some ⟨g, 0, none⟩) l.length cap]).run Tryz.prog w.drew = .ok (.pointer (some ⟨g, 0, none⟩)) w.drew :=
    Lib.run_unsafeSliceData_row _ _ _ _ _ _ (by omega)
  have hUS : (Builtin.unsafeString_ #[193, 3] 9 #[.pointer (some ⟨g, 0, none⟩), .int .i64 l.length]).run Tryz.prog w.drew = .ok (.string (mk l)) (w.drew.freeze ⟨g, 0, none⟩ l.length) := by
    refine Lib.run_unsafeString_row w.drew 193 3 9 5 Tryz.underlying193 byte_cells g cur.size (by have hg' : w.drew.heap[g]? = some (.cells cur 5 fz) := hg; simp [World.shape?, hg']) l h0 (by omega) (by unfold maxLen at hcm; omega) ?_
    intro j x hx
    exact h.row.cells (g := g) rfl j (.int .u8 x.toNat) (by simp [Lib.byteCells, hx])
  obtain ⟨hkeep, hkp⟩ := h.drew.froze
  have hkp' : Kp b b (.slice (some ⟨g, 0, none⟩) l.length cap) (.slice (some ⟨g, 0, none⟩) l.length cap) w (w.drew.freeze ⟨g, 0, none⟩ l.length) := (Kp.refl _ _ _ _).drew.trans hkp
  have HK := Ha hkeep
  have HP := Ha hkp'
  clear hkeep hkp hkp' h hcs htake hg hfz
  go_enter Tryz.func88, Tryz.ntmps88
  go_wp2
  have mixed : Tryz.prog.follows .mixedOrders = true := by kernel_rfl
  go_region_o
  all_goals (go_wp2; go_ret; exact ⟨rfl, HK.out, HP.out⟩)
theorem stringB_none (h : Bd B w b v []) :
    Calls Tryz.prog 88 #[.pointer (some ⟨b, 0, none⟩)] w fun e w' => e = .returned (.string (mk [])) /\ Bd B w' b v [] /\ Kp b b v v w w' := by
  obtain rfl := h.nl rfl
  have hUS := ustring_none
  have c1 : w.drew.cell? ⟨b, 1, none⟩ = some (.slice none 0 0) := h.cell1
  have hSD : (Builtin.unsafeSliceData_ #[115] 193 #[.slice none 0 0]).run Tryz.prog w.drew = .ok (.pointer none) w.drew := rfl
  have HK := Ha h.drew
  have HP := Ha (Kp.refl b b (.slice none 0 0) w).drew
  clear h
  go_enter Tryz.func88, Tryz.ntmps88
  go_wp2
  have mixed : Tryz.prog.follows .mixedOrders = true := by kernel_rfl
  go_region_o
  all_goals (go_wp2; go_ret; exact ⟨rfl, HK.out, HP.out⟩)
theorem stringB_any (h : Bd B w b v l) :
    Calls Tryz.prog 88 #[.pointer (some ⟨b, 0, none⟩)] w fun e w' => e = .returned (.string (mk l)) /\ Bd B w' b v l /\ Kp b b v v w w' := by
  by_cases h0 : l = []
  · subst h0; exact stringB_none h
  · exact stringB_some h h0
end
end Go.Proofs.YtmpginmdaeclaaaGreatDoor
namespace Go.Proofs.YtmpginmdaeclaaaGreatDoor
open Go.RowKit
abbrev paT : TypeId := 249
def partC (t : Int) : Array Value := ((partsP t).map (Value.int .i64)).toArray
def PartsLeaves (t : Int) (w : World) (e : Ending) (w' : World) : Prop :=
  ∃ g, e = .returned (.slice (some ⟨g, 0, none⟩) (partsP t).length (partsP t).length) /\ Whole w' g paT (partC t) /\ w.heap.size <= g /\ Below w.heap.size w w'
theorem parts_leaf {t : Int} {w : World} {ks : List Int} (h : partsP t = ks) {v : Value} {w' : World} (hv : v = .slice (some ⟨w.heap.size, 0, none⟩) ks.length ks.length) (hw : w' = w.alloc (.cells (ks.map (Value.int .i64)).toArray paT)) : PartsLeaves t w (.returned v) w' := by
  subst hv hw
  refine ⟨w.heap.size, by rw [h], ?_, Nat.le_refl _, (Below.refl _ _).alloc (Nat.le_refl _) _⟩
  unfold partC
  rw [h]
  exact Whole.new _ _ _
theorem partsOf_any (t : Int) (w : World) : Calls Tryz.prog 255 #[.int .i64 t] w (PartsLeaves t w) := by
  have hk : t = 1 \/ t = 28 \/ t = 2 \/ t = 5 \/ t = 12 \/ t = 15 \/ t = 6 \/ t = 16 \/ t = 33 \/ (t ≠ 1 /\ t ≠ 28 /\ t ≠ 2 /\ t ≠ 5 /\ t ≠ 12 /\ t ≠ 15 /\ t ≠ 6 /\ t ≠ 16 /\ t ≠ 33) := by omega
  rcases hk with rfl | rfl | rfl | rfl | rfl | rfl | rfl | rfl | rfl | ⟨h1, h2, h3, h4, h5, h6, h7, h8, h9⟩
  case inr.inr.inr.inr.inr.inr.inr.inr.inr =>
    have e1 : (t == 1) = false := by simp [h1]
    have e2 : (t == 28) = false := by simp [h2]
    have e3 : (t == 2) = false := by simp [h3]
    have e4 : (t == 5) = false := by simp [h4]
    have e5 : (t == 12) = false := by simp [h5]
    have e6 : (t == 15) = false := by simp [h6]
    have e7 : (t == 6) = false := by simp [h7]
    have e8 : (t == 16) = false := by simp [h8]
    have e9 : (t == 33) = false := by simp [h9]
    have HP := Ha (show partsP t = [-4] by unfold partsP; simp [h1, h2, h3, h4, h5, h6, h7, h8, h9])
    clear h1 h2 h3 h4 h5 h6 h7 h8 h9; go_enter Tryz.func255, Tryz.ntmps255
    go_wp2
    go_ret
    exact parts_leaf HP.out rfl rfl
  all_goals (
    go_enter Tryz.func255, Tryz.ntmps255
    go_wp2
    go_ret
    exact parts_leaf rfl rfl rfl)
def CutE (r : Option (List UInt8 × Nat)) (en : Ending) : Prop :=
  match r with
  | some (b, q) => en = .returned (.tuple #[.string (mk b), .int .i64 (q : Nat), .bool true])
  | none => ∃ x q, en = .returned (.tuple #[.string x, .int .i64 q, .bool false])
theorem cutName_any (S : ByteArray) (M : List UInt8) (p e : Nat) (w : World) (hS : S = mk M) (hM : M.length <= 1000000) (hp : p <= M.length) :
    Calls Tryz.prog 275 #[.string S, .int .i64 (p : Nat), .int .i64 (e : Nat)] w fun en w' => CutE (nm M e p) en /\ Below w.heap.size w w' := by
  have HS := Ha hS
  clear hS
  cases hr : readR M [] p p none with
  | none =>
    have HN := Ha (show nm M e p = none by unfold nm; rw [hr])
    have HR := Ha hr
    clear hr; go_enter Tryz.func275, Tryz.ntmps275
    go_wp2_with fail
    refine (Read_in S M p _ HS.out hM hp).mono ?_
    rw [HR.out]
    unfold readV; rintro en w1 ⟨rfl, hB⟩; go_wp2_with fail
    go_ret3
    exact ⟨by rw [HN.out]; exact ⟨_, _, rfl⟩, hB⟩
  | some r =>
    obtain ⟨b, q⟩ := r
    have HR := Ha hr
    clear hr
    by_cases hq : q <= e
    · have gq : (q : Int) <= (e : Int) := by omega
      have HN := Ha (show nm M e p = some (b, q) by unfold nm; rw [HR.out]; simp only; rw [if_pos hq])
      go_enter Tryz.func275, Tryz.ntmps275
      go_wp2_with fail
      refine (Read_in S M p _ HS.out hM hp).mono ?_
      rw [HR.out]
      unfold readV; rintro en w1 ⟨rfl, hB⟩; go_wp2_with fail
      go_ret3
      exact ⟨by rw [HN.out]; rfl, hB⟩
    · have gq : (e : Int) < (q : Int) := by omega
      have HN := Ha (show nm M e p = none by unfold nm; rw [HR.out]; simp only; rw [if_neg hq])
      go_enter Tryz.func275, Tryz.ntmps275
      go_wp2_with fail
      refine (Read_in S M p _ HS.out hM hp).mono ?_
      rw [HR.out]
      unfold readV; rintro en w1 ⟨rfl, hB⟩; go_wp2_with fail
      go_ret3
      exact ⟨by rw [HN.out]; exact ⟨_, _, rfl⟩, hB⟩
theorem mk_seg {S : ByteArray} {M : List UInt8} (hS : S = mk M) (p e : Nat) : S.extract p e = mk (seg M p e) := by
  rw [hS, mk_extract]; rfl
theorem cut_any (S : ByteArray) (M : List UInt8) (p e : Nat) (k : Int) (w : World) (hk : Part k) (hS : S = mk M) (hM : M.length <= 1000000) (hp : p <= e) (he : e <= M.length) :
    Calls Tryz.prog 256 #[.string S, .int .i64 (p : Nat), .int .i64 (e : Nat), .int .i64 k] w fun en w' => CutE (cutP M e k p) en /\ Below w.heap.size w w' := by
  obtain ⟨hk1, hk2⟩ := hk
  have hSz : S.size = M.length := by rw [hS, mk_size]
  have g1 : (0 : Int) <= (p : Int) := by omega
  have g2 : (p : Int) <= (e : Int) := by omega
  have g3 : (e : Int) <= (S.size : Int) := by omega
  have HS := Ha hS
  have HSZ := Ha hSz
  clear hS hSz
  rcases (show k = -1 \/ k = -2 \/ k = -3 \/ k = -4 \/ 0 <= k by omega) with rfl | rfl | rfl | rfl | h0
  · have e1 : cutP M e (-1) p = nm M e p := by unfold cutP; rw [if_pos rfl]
    cases hn : nm M e p with
    | none =>
      have HN := Ha hn
      have HC := Ha (e1.trans hn)
      clear e1 hn; go_enter Tryz.func256, Tryz.ntmps256
      go_wp2_with fail
      refine (cutName_any S M p e _ HS.out hM (by omega)).mono ?_
      rw [HN.out]
      rintro en w1 ⟨⟨x, q, rfl⟩, hB⟩; go_wp2_with fail
      go_ret3
      exact ⟨by rw [HC.out]; exact ⟨_, _, rfl⟩, hB⟩
    | some r =>
      obtain ⟨b, q⟩ := r
      have HN := Ha hn
      have HC := Ha (e1.trans hn)
      clear e1 hn; go_enter Tryz.func256, Tryz.ntmps256
      go_wp2_with fail
      refine (cutName_any S M p e _ HS.out hM (by omega)).mono ?_
      rw [HN.out]
      rintro en w1 ⟨hc, hB⟩; obtain rfl := hc
      go_wp2_with fail
      go_ret3
      exact ⟨by rw [HC.out]; rfl, hB⟩
  · have e1 : cutP M e (-2) p = match nm M e p with | some r => if r.1 = seg M p r.2 then some r else none | none => none := by unfold cutP; rw [if_neg (by decide), if_pos rfl]; rfl
    cases hn : nm M e p with
    | none =>
      rw [hn] at e1
      have HN := Ha hn
      have HC := Ha e1
      clear e1 hn; go_enter Tryz.func256, Tryz.ntmps256
      go_wp2_with fail
      refine (cutName_any S M p e _ HS.out hM (by omega)).mono ?_
      rw [HN.out]
      rintro en w1 ⟨⟨x, q, rfl⟩, hB⟩; go_wp2_with fail
      go_quiet (fail)
      go_wp2_with fail
      go_ret3
      exact ⟨by rw [HC.out]; exact ⟨_, _, rfl⟩, below_drewN hB _⟩
    | some r =>
      rw [hn] at e1
      obtain ⟨b, q⟩ := r
      obtain ⟨_, h5, h6, _⟩ := nm_is hn
      simp only at h5 h6 e1
      have g4 : (p : Int) <= (q : Int) := by omega
      have g5 : (q : Int) <= (S.size : Int) := by omega
      have hex := mk_seg HS.out p q
      have HN := Ha hn
      by_cases hb : b = seg M p q
      · have hbe : ((mk b).toList == (S.extract p q).toList) = true := by rw [hex, hb]; simp
        rw [if_pos hb] at e1
        have HC := Ha e1
        clear e1 hn hb hex; go_enter Tryz.func256, Tryz.ntmps256
        go_wp2_with fail
        refine (cutName_any S M p e _ HS.out hM (by omega)).mono ?_
        rw [HN.out]
        rintro en w1 ⟨hc, hB⟩; obtain rfl := hc
        go_wp2_with fail
        go_quiet (fail)
        go_wp2_with fail
        go_ret3
        exact ⟨by rw [HC.out]; rfl, below_drewN hB _⟩
      · have hbe : ((mk b).toList == (S.extract p q).toList) = false := by rw [hex, mk_beq, beq_eq_false_iff_ne]; exact hb
        rw [if_neg hb] at e1
        have HC := Ha e1
        clear e1 hn hb hex; go_enter Tryz.func256, Tryz.ntmps256
        go_wp2_with fail
        refine (cutName_any S M p e _ HS.out hM (by omega)).mono ?_
        rw [HN.out]
        rintro en w1 ⟨hc, hB⟩; obtain rfl := hc
        go_wp2_with fail
        go_quiet (fail)
        go_wp2_with fail
        go_ret3
        exact ⟨by rw [HC.out]; exact ⟨_, _, rfl⟩, below_drewN hB _⟩
  · have hex := mk_seg HS.out p e
    obtain ⟨T, hT⟩ : ∃ T, T = S.extract p e := ⟨_, rfl⟩
    have hTm : T = mk (seg M p e) := by rw [hT, hex]
    have hTz : T.size <= 1073741824 := by rw [hTm, mk_size, seg_len he]; omega
    have HT := Ha hT
    clear hex hT; have e1 : cutP M e (-3) p = if pcs (seg M p e) = true then some (seg M p e, e) else none := by unfold cutP; rw [if_neg (by decide), if_neg (by decide), if_pos rfl]
    have hpc : pcs (seg M p e) = ((piecesR T 1).2 == 0 && !(piecesR T 1).1.isEmpty) := by unfold pcs; rw [hTm]
    obtain ⟨l, z, hl⟩ : ∃ l z, piecesR T 1 = (l, z) := ⟨_, _, rfl⟩
    rw [hl] at hpc
    simp only at hpc
    have HL := Ha hl
    have HTM := Ha hTm
    clear hl hTm
    by_cases hz : z = 0
    · subst hz
      cases l with
      | nil =>
        rw [hpc, if_neg (by simp)] at e1
        have HC := Ha e1
        clear e1 hpc; go_enter Tryz.func256, Tryz.ntmps256
        go_wp2_with fail
        rw [<-HT.out]
        refine (Pieces_any T 1 _ hTz).mono ?_
        unfold PiecesLeaves; rw [HL.out]
        rintro en w1 ⟨A, c, rfl, _, hB⟩; go_wp2_with fail
        go_ret3
        exact ⟨by rw [HC.out]; exact ⟨_, _, rfl⟩, hB⟩
      | cons x l =>
        rw [if_pos (by rw [hpc]; rfl)] at e1
        have HC := Ha e1
        have g6 : (0 : Int) < ((x :: l).length : Int) := by simp
        obtain ⟨xs, hxs⟩ : ∃ xs, xs = x :: l := ⟨_, rfl⟩
        rw [<-hxs] at HL g6
        have g7 : 0 < xs.length := by omega
        clear e1 hpc hxs; go_enter Tryz.func256, Tryz.ntmps256
        go_wp2_with fail
        rw [<-HT.out]
        refine (Pieces_any T 1 _ hTz).mono ?_
        unfold PiecesLeaves; rw [HL.out]
        rintro en w1 ⟨A, c, rfl, _, hB⟩; go_wp2_with fail
        go_ret3
        exact ⟨by rw [HC.out]; show Ending.returned (.tuple #[.string T, .int .i64 (e : Nat), .bool true]) = _; rw [<-HTM.out], hB⟩
    · have g6 : (z == 0) = false := by simp [hz]
      rw [if_neg (by rw [hpc, g6]; simp)] at e1
      have HC := Ha e1
      clear e1 hpc; go_enter Tryz.func256, Tryz.ntmps256
      go_wp2_with fail
      rw [<-HT.out]
      refine (Pieces_any T 1 _ hTz).mono ?_
      unfold PiecesLeaves; rw [HL.out]
      rintro en w1 ⟨A, c, rfl, _, hB⟩; go_wp2_with fail
      go_ret3
      exact ⟨by rw [HC.out]; exact ⟨_, _, rfl⟩, hB⟩
  · have hex := mk_seg HS.out p e
    have e1 : cutP M e (-4) p = some (seg M p e, e) := by unfold cutP; rw [if_neg (by decide), if_neg (by decide), if_neg (by decide), if_pos rfl]
    have HE := Ha e1
    have HX := Ha hex
    clear e1 hex; go_enter Tryz.func256, Tryz.ntmps256
    go_wp2_with fail
    go_ret3
    exact ⟨by rw [HE.out, HX.out]; rfl, Below.refl _ _⟩
  · obtain ⟨n, rfl⟩ := Int.eq_ofNat_of_zero_le h0
    have g4 : ((n : Int) == -1) = false := by rw [beq_eq_false_iff_ne]; omega
    have g5 : ((n : Int) == -2) = false := by rw [beq_eq_false_iff_ne]; omega
    have g6 : ((n : Int) == -3) = false := by rw [beq_eq_false_iff_ne]; omega
    have g7 : ((n : Int) == -4) = false := by rw [beq_eq_false_iff_ne]; omega
    have hcn := cut_num (M := M) (e := e) (p := p) (n := n)
    by_cases hq : p + n <= e
    · rw [if_pos hq] at hcn
      have HC := Ha hcn
      have HX := Ha (mk_seg HS.out p (p + n))
      have g8 : (p : Int) + (n : Int) <= (e : Int) := by omega
      have g9 : (p : Int) + (n : Int) <= (S.size : Int) := by omega
      have g10 : (p : Int) <= (p : Int) + (n : Int) := by omega
      clear hcn; go_enter Tryz.func256, Tryz.ntmps256
      go_wp2_with fail
      go_ret3
      exact ⟨by rw [HC.out, HX.out]; rfl, Below.refl _ _⟩
    · rw [if_neg hq] at hcn
      have HC := Ha hcn
      have g8 : (e : Int) < (p : Int) + (n : Int) := by omega
      clear hcn; go_enter Tryz.func256, Tryz.ntmps256
      go_wp2_with fail
      go_ret3
      exact ⟨by rw [HC.out]; exact ⟨_, _, rfl⟩, Below.refl _ _⟩
end Go.Proofs.YtmpginmdaeclaaaGreatDoor
namespace Go.Proofs.YtmpginmdaeclaaaGreatDoor
open Go.RowKit
structure Vst (fid : Nat) (cap : Value) (V : Vis) (J : Vis -> World -> Prop) : Prop where
  enter : ∀ (args : Array Value) (w : World), (callFunc fid args).run Tryz.prog w = .ok (.enter fid args) w
  below : ∀ vs w w', J vs w -> Below w.heap.size w w' -> J vs w'
  call : ∀ vs k b w, (vs ++ [(k, b)]) <+: V -> J vs w -> Calls Tryz.prog fid #[.int .i64 k, .string (mk b), cap] w fun e w' => e = .returned (.tuple #[]) /\ J (vs ++ [(k, b)]) w' /\ ∀ g cs, Whole w g paT cs -> Whole w' g paT cs
theorem parts_few (t : Int) : (partsP t).length <= 3 := by
  unfold partsP
  repeat' split
  all_goals simp
def WalkAt (M : List UInt8) (e : Nat) (ks : List Int) (p0 : Nat) (J : Vis -> World -> Prop) (g : Nat) (k p : Nat) (vs : Vis) (wr : World) : Prop :=
  steps M e ks p0 = (vs ++ (steps M e (ks.drop k) p).1, (steps M e (ks.drop k) p).2) /\ J vs wr /\ Whole wr g paT (ks.map (Value.int .i64)).toArray /\ p <= e
theorem lst_at : ∀ {ks : List Int} {k : Nat} (_ : Lst ks) (hk : k < ks.length), Part (ks[k])
  | k0 :: ks, 0, h, _ => h.1
  | k0 :: ks, k + 1, h, hk => lst_at (ks := ks) (k := k) h.2.2 (by simpa using hk)
theorem walk_any (S : ByteArray) (M : List UInt8) (p e : Nat) (t : Int) (w : World) (fid : Nat) (cap : Value) (J : Vis -> World -> Prop) (hV : Vst fid cap (steps M e (partsP t) p).1 J) (hJ : J [] w)
    (hS : S = mk M) (hM : M.length <= 1000000) (hp : p <= e) (he : e <= M.length) :
    Calls Tryz.prog 217 #[.string S, .int .i64 (p : Nat), .int .i64 (e : Nat), .int .i64 t, .func (.func fid) #[] #[cap]] w fun en w' => en = .returned (.bool (okS M e (partsP t) p)) /\ J (steps M e (partsP t) p).1 w' := by
  have HS := Ha hS
  have HV := Ha hV
  have HJ := Ha hJ
  clear hS hV hJ
  go_enter Tryz.func217, Tryz.ntmps217
  go_wp2_with fail
  refine (partsOf_any t _).mono ?_
  rintro en w1 ⟨g, rfl, hw, hg, hB⟩
  have hL := lst_parts t
  have hok : okS M e (partsP t) p = ((steps M e (partsP t) p).2 == some e) := rfl
  obtain ⟨ks, hks⟩ : ∃ ks, ks = partsP t := ⟨_, rfl⟩
  unfold partC at hw
  rw [<-hks] at hL hw hok HV
  have HOK := Ha hok
  have HL := Ha hL
  have HKS := Ha hks
  clear hok hL hks
  have HST := Ha (show WalkAt M e ks p J g 0 p [] w1 from ⟨by simp, HV.out.below _ _ _ HJ.out hB, hw, hp⟩)
  clear hw hg hB
  have hlen : (partsP t).length = ks.length := by rw [HKS.out]
  rw [hlen]
  clear hlen
  obtain ⟨n, hn⟩ : ∃ n, n = ks.length := ⟨_, rfl⟩
  rw [<-hn]
  have hn3 : n <= 3 := by rw [hn, HKS.out]; exact parts_few t
  have HN := Ha hn
  clear hn
  go_wp2_with fail
  go_loopw [1, 19] (fun at' i wr => ∃ (k q : Nat) (vs : Vis), k <= n /\ at' = .int .i64 (q : Nat) /\ i = .int .i64 (k : Nat) /\ WalkAt M e ks p J g k q vs wr) (fun _ i _ => n - (intOf i).toNat)
  case atStart => exact ⟨0, p, [], Nat.zero_le _, rfl, rfl, HST.out⟩
  case round =>
    obtain ⟨k, q, vs, hk, rfl, rfl, h1, h2, h3, h4⟩ := hrel
    have H1 := Ha h1
    have H2 := Ha h2
    have H3 := Ha h3
    clear h1 h2 h3 HST
    by_cases hkn : k < n
    · have gk : (k : Int) < (n : Int) := by omega
      have hkl : k < ks.length := by have := HN.out; omega
      obtain ⟨kd, hkd⟩ : ∃ kd, kd = ks[k] := ⟨_, rfl⟩
      have hdrop : ks.drop k = kd :: ks.drop (k + 1) := by rw [hkd]; exact List.drop_eq_getElem_cons hkl
      have hpart : Part kd := by rw [hkd]; exact lst_at HL.out hkl
      have hc : wr.cell? ⟨g, k, none⟩ = some (.int .i64 kd) := by rw [H3.out.cell, hkd]; simp [hkl]
      have HD := Ha hdrop
      clear hkd hdrop
      cases hcut : cutP M e kd q with
      | none =>
        have hno := steps_no (ks := ks.drop (k + 1)) hcut
        rw [<-HD.out] at hno
        have HNO := Ha (show steps M e ks p = (vs, none) by rw [H1.out, hno]; simp)
        have HC := Ha hcut
        clear hno hcut; go_wp2_with fail
        refine (cut_any S M q e kd _ hpart HS.out hM h4 he).mono ?_
        rw [HC.out]
        rintro en w2 ⟨⟨x, z, rfl⟩, hB2⟩; go_wp2_with fail
        go_ret
        refine ⟨by rw [<-HKS.out, HOK.out, HNO.out]; rfl, ?_⟩
        rw [<-HKS.out, HNO.out]
        exact HV.out.below _ _ _ H2.out hB2
      | some r =>
        obtain ⟨b, q'⟩ := r
        have hyes := steps_yes (ks := ks.drop (k + 1)) hcut
        rw [<-HD.out] at hyes
        simp only at hyes
        obtain ⟨_, _, c3, _, _⟩ := cut_ok hpart h4 he hcut
        simp only at c3
        have HY := Ha (show steps M e ks p = ((vs ++ [(kd, b)]) ++ (steps M e (ks.drop (k + 1)) q').1, (steps M e (ks.drop (k + 1)) q').2) by rw [H1.out, hyes]; simp)
        have HC := Ha hcut
        clear hyes hcut; go_wp2_with fail
        refine (cut_any S M q e kd _ hpart HS.out hM h4 he).mono ?_
        rw [HC.out]
        rintro en w2 ⟨hen, hB2⟩; obtain rfl := hen
        have HB2 := Ha hB2
        clear hB2; go_wp2_with fail
        rw [HV.out.enter, Oper.upon_enter]
        refine (HV.out.call vs kd b w2 ?_ (HV.out.below _ _ _ H2.out HB2.out)).mono ?_
        · rw [HY.out]
          exact ⟨_, rfl⟩
        rintro en w3 ⟨rfl, hJ3, hF3⟩; have HJ3 := Ha hJ3
        have HW3 := Ha (hF3 _ _ (H3.out.below HB2.out H3.out.lt))
        clear hJ3 hF3; go_wp2_with fail
        go_roundw
        case rel => exact ⟨k + 1, q', vs ++ [(kd, b)], by omega, rfl, by go_num, HY.out, HJ3.out, HW3.out, c3⟩
        case measure => simp [intOf]; omega
    · obtain rfl : k = n := by omega
      have hdrop : ks.drop k = [] := List.drop_eq_nil_of_le (by have := HN.out; omega)
      have HEN := Ha (show steps M e ks p = (vs, some q) by rw [H1.out, hdrop, steps_nil]; simp)
      clear hdrop; go_wp2_with fail
      go_ret
      refine ⟨?_, ?_⟩
      · rw [<-HKS.out, HOK.out, HEN.out]
        simp
        exact nat_beq q e
      · rw [<-HKS.out, HEN.out]
        exact H2.out
end Go.Proofs.YtmpginmdaeclaaaGreatDoor
namespace Go.Proofs.YtmpginmdaeclaaaGreatDoor
open Go.RowKit
theorem Bd.whole {B b : Nat} {w w' : World} {v v' : Value} {l : List UInt8} {g t : Nat} {cs : Array Value} (hp : Bd B w b v l) (hw : Whole w g t cs) (hk : Kp b b v v' w w') (h1 : t ≠ bdT) (h2 : t ≠ 5) : Whole w' g t cs := by
  have hgb : g ≠ b := by
    rintro rfl; obtain ⟨p, _, hb⟩ := hp.blk
    rw [hw] at hb
    injection hb with hb
    injection hb with _ hb _
    exact absurd hb h1
  exact (hk.block g hw.lt hgb hgb (Lib.ownBlock_neF hp.row hw h2)).trans hw
theorem cut_len {M : List UInt8} {e p : Nat} {k : Int} {r : List UInt8 × Nat} (h : cutP M e k p = some r) : r.1.length <= 255 + M.length := by
  have hseg : ∀ a b, (seg M a b).length <= M.length := fun a b => by simp [seg]; omega
  have hnm : ∀ r, nm M e p = some r -> r.1.length <= 255 := fun r hr => by
    obtain ⟨⟨L, hL⟩, _⟩ := nm_is hr
    exact (nameL_is hL).2.2
  unfold cutP at h
  split at h
  · have := hnm _ h; omega
  · split at h
    · split at h
      · rename_i r' hr
        split at h
        · injection h with h; subst h; have := hnm _ hr; omega
        · cases h
      · cases h
    · split at h
      · split at h
        · injection h with h; subst h; have := hseg p e; simp only; omega
        · cases h
      · split at h
        · injection h with h; subst h; have := hseg p e; simp only; omega
        · split at h
          · injection h with h; subst h; have := hseg p (p + k.toNat); simp only; omega
          · cases h
theorem steps_len {M : List UInt8} {e : Nat} : ∀ (ks : List Int) (p : Nat), (cat (steps M e ks p).1).length <= ks.length * (255 + M.length) := by
  intro ks
  induction ks with
  | nil => intro p; simp [steps_nil, cat]
  | cons k ks ih =>
    intro p
    cases hc : cutP M e k p with
    | none => rw [steps_no hc]; simp [cat]
    | some r =>
      rw [steps_yes hc, cat_cons, List.length_append, List.length_cons, Nat.add_mul]
      have h1 := cut_len hc
      have h2 := ih r.2
      omega
theorem steps_few {M : List UInt8} (hM : M.length <= 1000000) (e p : Nat) (t : Int) : (cat (steps M e (partsP t) p).1).length <= 4000000 := by
  have h1 := steps_len (M := M) (e := e) (partsP t) p
  have h2 := parts_few t
  have h3 : (partsP t).length * (255 + M.length) <= 3 * 1000255 := Nat.mul_le_mul h2 (by omega)
  omega
theorem cat_append (a b : Vis) : cat (a ++ b) = cat a ++ cat b := by simp [cat]
theorem cat_pre {a V : Vis} (h : a <+: V) : (cat a).length <= (cat V).length := by
  obtain ⟨b, rfl⟩ := h
  rw [cat_append, List.length_append]; omega
theorem fold_len (V : Vis) : (cat (V.map foldB1)).length <= (cat V).length := by
  induction V with
  | nil => simp
  | cons x V ih =>
    obtain ⟨k, b⟩ := x
    have e : foldB1 (k, b) = ((foldB1 (k, b)).1, (foldB1 (k, b)).2) := rfl
    have h1 : (foldB1 (k, b)).2.length <= b.length := by
      unfold foldB1
      split
      · simp only
        cases hn : nameL b with
        | none => rw [foldL_none hn]; simp
        | some L => rw [(foldL_some hn).1, lowS_len]; omega
      · simp
    rw [List.map_cons, e, cat_cons, cat_cons, List.length_append, List.length_append]
    omega
def JB (h : Vis -> List UInt8) (b : Nat) (w0 : World) (vs : Vis) (W : World) : Prop := ∃ v, Bd w0.heap.size W b v (h vs) /\ Below w0.heap.size w0 W
theorem JB.step {h : Vis -> List UInt8} {b : Nat} {w0 : World} {vs : Vis} {W W' : World} (hj : JB h b w0 vs W) (hb : Below W.heap.size W W') : JB h b w0 vs W' := by
  obtain ⟨v, h1, h2⟩ := hj
  exact ⟨v, h1.same hb, h2.trans (hb.mono h2.size)⟩
theorem vis_read (V : Vis) (b : Nat) (w0 : World) (hV : (cat V).length <= 4000000) : Vst 218 (.pointer (some ⟨b, 0, none⟩)) V (JB cat b w0) where
  enter := enters_of Tryz.func218 (by kernel_rfl) rfl
  below := fun vs w w' h hb => h.step hb
  call := fun vs k s w hp ⟨v, h1, h2⟩ => by
    have hl : (cat vs).length + (mk s).size <= 1000000000 := by
      have := cat_pre hp
      rw [cat_snoc, List.length_append] at this
      rw [mk_size]; omega
    have H1 := Ha h1
    have H2 := Ha h2
    clear h1 h2 hp; go_enter Tryz.func218, Tryz.ntmps218
    go_wp2_with fail
    refine (writeB_any H1.out (mk s) hl H2.out.size).mono ?_
    rintro e w1 ⟨rfl, v', h3, h4⟩; go_wp2_with fail
    go_end0
    refine ⟨rfl, ⟨v', by rw [cat_snoc]; exact h3, H2.out.trans (H1.out.below h4 H2.out.size)⟩, fun g cs hw => H1.out.whole hw h4 (by decide) (by decide)⟩
theorem vis_fold (V : Vis) (b : Nat) (w0 : World) (hV : (cat V).length <= 4000000) : Vst 261 (.pointer (some ⟨b, 0, none⟩)) V (JB (fun V => cat (V.map foldB1)) b w0) where
  enter := enters_of Tryz.func261 (by kernel_rfl) rfl
  below := fun vs w w' h hb => h.step hb
  call := fun vs k s w hp ⟨v, h1, h2⟩ => by
    have hl0 : (cat vs).length + s.length <= 4000000 := by
      have := cat_pre hp
      rw [cat_snoc, List.length_append] at this
      omega
    have hsn : cat ((vs ++ [(k, s)]).map foldB1) = cat (vs.map foldB1) ++ (foldB1 (k, s)).2 := by
      rw [List.map_append, cat_append]; simp [cat]
    have hll : (cat ((vs ++ [(k, s)]).map foldB1)).length <= 4000000 := by
      have := fold_len (vs ++ [(k, s)])
      rw [cat_snoc, List.length_append] at this
      omega
    rw [hsn, List.length_append] at hll
    simp only at h1
    have H1 := Ha h1
    have H2 := Ha h2
    have HSN := Ha hsn
    clear h1 h2 hp hsn
    by_cases hk : k = -1 \/ k = -2
    · have hf : (foldB1 (k, s)).2 = foldL s := by unfold foldB1; simp only; rw [if_pos hk]
      rw [hf] at hll
      have HF := Ha hf
      clear hf
      rcases hk with rfl | rfl
      all_goals (
        go_enter Tryz.func261, Tryz.ntmps261
        go_wp2_with fail
        refine (Fold_any (mk s) s _ rfl (by omega)).mono ?_
        rintro e w1 ⟨rfl, hB⟩; have H1' := Ha (H1.out.same hB)
        have H2' := thB H2 hB
        have HB := Ha hB
        clear hB; go_wp2_with fail
        refine (writeB_any H1'.out (mk (foldL s)) (by rw [mk_size]; omega) H2'.out.size).mono ?_
        rintro e w2 ⟨rfl, v', h3, h4⟩; go_wp2_with fail
        go_end0
        refine ⟨rfl, ⟨v', by simp only; rw [HSN.out, HF.out]; exact h3, H2'.out.trans (H1'.out.below h4 H2'.out.size)⟩, fun g cs hw => H1'.out.whole (hw.below HB.out hw.lt) h4 (by decide) (by decide)⟩)
    · have hf : (foldB1 (k, s)).2 = s := by unfold foldB1; simp only; rw [if_neg hk]
      rw [hf] at hll
      have HF := Ha hf
      have k1 : (k == -1) = false := by rw [beq_eq_false_iff_ne]; omega
      have k2 : (k == -2) = false := by rw [beq_eq_false_iff_ne]; omega
      clear hf hk; go_enter Tryz.func261, Tryz.ntmps261
      go_wp2_with fail
      refine (writeB_any H1.out (mk s) (by rw [mk_size]; omega) H2.out.size).mono ?_
      rintro e w2 ⟨rfl, v', h3, h4⟩; go_wp2_with fail
      go_end0
      refine ⟨rfl, ⟨v', by simp only; rw [HSN.out, HF.out]; exact h3, H2.out.trans (H1.out.below h4 H2.out.size)⟩, fun g cs hw => H1.out.whole hw h4 (by decide) (by decide)⟩
end Go.Proofs.YtmpginmdaeclaaaGreatDoor
namespace Go.Proofs.YtmpginmdaeclaaaGreatDoor
open Go.RowKit
def rdV : Option (List UInt8) -> Value
  | some d => .tuple #[.string (mk d), .int .i64 0]
  | none => .tuple #[.string (mk []), .int .i64 2]
theorem data_some {M : List UInt8} {p e : Nat} {t : Int} (h : okS M e (partsP t) p = true) : dataR M p e t = some (cat (steps M e (partsP t) p).1) := by unfold dataR; rw [if_pos h]
theorem data_none {M : List UInt8} {p e : Nat} {t : Int} (h : okS M e (partsP t) p = false) : dataR M p e t = none := by unfold dataR; rw [if_neg (by rw [h]; simp)]
theorem DRead_any (S : ByteArray) (M : List UInt8) (p n : Nat) (t : Int) (w : World) (hS : S = mk M) (hM : M.length <= 1000000) (he : p + n <= M.length) (hn : n <= 65535) :
    Calls Tryz.prog 172 #[.string S, .int .i64 (p : Nat), .int .i64 (n : Nat), .int .i64 t] w fun en w' => en = .returned (rdV (dataR M p (p + n) t)) /\ Below w.heap.size w w' := by
  have hSz : S.size = M.length := by rw [hS, mk_size]
  have hmf : ∀ (fn : Fn) (first cap : Array Value) (w : World), (Instr.makeFunc fn first cap).run Tryz.prog w = .ok (.func fn first cap) w := fun _ _ _ _ => rfl
  have g1 : decide ((p : Int) < 0) = false := by rw [decide_eq_false_iff_not]; omega
  have g2 : decide ((n : Int) < 0) = false := by rw [decide_eq_false_iff_not]; omega
  have g3 : decide ((S.size : Int) - (p : Int) < (n : Int)) = false := by rw [decide_eq_false_iff_not]; omega
  have g4 : (n : Int) <= 65535 := by omega
  have HS := Ha hS
  have hV := steps_few hM (p + n) p t
  have HVF := Ha hV
  clear hS hV
  go_enter Tryz.func172, Tryz.ntmps172
  go_wp2_with fail
  rw [show (p : Int) + (n : Int) = ((p + n : Nat) : Int) by omega]
  refine (walk_any S M p (p + n) t _ _ _ (JB cat w.heap.size w) (vis_read _ _ _ HVF.out) ⟨_, Bd.new w, (Below.refl _ _).alloc (Nat.le_refl _) _⟩ HS.out hM (by omega) he).mono ?_
  rintro en w1 ⟨rfl, v, h1, h2⟩
  have H1 := Ha h1
  have H2 := Ha h2
  clear h1 h2
  cases hok : okS M (p + n) (partsP t) p with
  | false =>
    have HD := Ha (data_none hok)
    clear hok; go_wp2_with fail
    go_ret2
    exact ⟨by rw [HD.out]; rfl, H2.out⟩
  | true =>
    have HD := Ha (data_some hok)
    clear hok; go_wp2_with fail
    refine (stringB_any H1.out).mono ?_
    rintro en w2 ⟨rfl, h3, h4⟩; go_wp2_with fail
    go_ret2
    exact ⟨by rw [HD.out]; rfl, H2.out.trans (H1.out.below h4 H2.out.size)⟩
theorem right_read {t : Int} {D : List UInt8} (hD : D.length <= 65535) : rightR t D = match dataR D 0 D.length t with | some d => d == D | none => false := by
  unfold rightR
  rw [decide_eq_true hD, Bool.true_and]
  cases dataR D 0 D.length t with
  | none => rfl
  | some d => rfl
theorem walkData_any (S : ByteArray) (D : List UInt8) (t : Int) (w : World) (fid : Nat) (cap : Value) (J : Vis -> World -> Prop) (hV : Vst fid cap (visR t D) J) (hJ : J [] w) (hS : S = mk D) (hD : D.length <= 1000000) :
    Calls Tryz.prog 260 #[.int .i64 t, .string S, .func (.func fid) #[] #[cap]] w fun en w' => en = .returned (.tuple #[]) /\ J (visR t D) w' := by
  have hSz : S.size = D.length := by rw [hS, mk_size]
  have HS := Ha hS
  have HSZ := Ha hSz
  have HV := Ha hV
  have HJ := Ha hJ
  clear hS hSz hV hJ
  go_enter Tryz.func260, Tryz.ntmps260
  go_wp2_with fail
  rw [HSZ.out]
  refine (walk_any S D 0 D.length t _ fid cap J HV.out HJ.out HS.out hD (Nat.zero_le _) (Nat.le_refl _)).mono ?_
  rintro en w1 ⟨rfl, h1⟩
  have H1 := Ha h1
  clear h1
  go_wp2_with fail
  go_end0
  exact ⟨rfl, H1.out⟩
theorem DRight_any (S : ByteArray) (D : List UInt8) (t : Int) (w : World) (hS : S = mk D) (hD : D.length <= 65535) :
    Calls Tryz.prog 123 #[.int .i64 t, .string S] w fun en w' => en = .returned (.bool (rightR t D)) /\ Below w.heap.size w w' := by
  have hSz : S.size = D.length := by rw [hS, mk_size]
  have hR := right_read (t := t) hD
  have HS := Ha hS
  have HSZ := Ha hSz
  have HR := Ha hR
  clear hS hSz hR
  go_enter Tryz.func123, Tryz.ntmps123
  go_wp2_with fail
  rw [HSZ.out]
  refine (DRead_any S D 0 D.length t _ HS.out (by omega) (by omega) hD).mono ?_
  rw [Nat.zero_add]
  cases hd : dataR D 0 D.length t with
  | none =>
    rw [hd] at HR
    have HD := Ha hd
    clear hd; unfold rdV; rintro en w1 ⟨rfl, hB⟩; go_wp2_with fail
    go_ret
    exact ⟨by rw [HR.out]; rfl, hB⟩
  | some d =>
    rw [hd] at HR
    have HD := Ha hd
    clear hd; unfold rdV; rintro en w1 ⟨rfl, hB⟩; have hbe : ((mk d).toList == S.toList) = (d == D) := by rw [HS.out, mk_beq]
    have HR := Ha (show rightR t D = (d == D) from HR.out)
    cases hbd : (d == D)
    all_goals (
      rw [hbd] at hbe
      have HBD := Ha hbd
      clear hbd; go_wp2_with fail
      go_ret
      exact ⟨by rw [HR.out, HBD.out]; try rfl, hB⟩)
theorem DFold_any (S : ByteArray) (D : List UInt8) (t : Int) (w : World) (hS : S = mk D) (hD : D.length <= 65535) :
    Calls Tryz.prog 227 #[.int .i64 t, .string S] w fun en w' => en = .returned (.string (mk (foldD t D))) /\ Below w.heap.size w w' := by
  have hSz : S.size = D.length := by rw [hS, mk_size]
  have hmf : ∀ (fn : Fn) (first cap : Array Value) (w : World), (Instr.makeFunc fn first cap).run Tryz.prog w = .ok (.func fn first cap) w := fun _ _ _ _ => rfl
  have HS := Ha hS
  have HSZ := Ha hSz
  clear hS hSz
  cases hr : rightR t D with
  | false =>
    have HR := Ha hr
    have HF := Ha (show foldD t D = [] by unfold foldD; rw [hr]; simp)
    clear hr; go_enter Tryz.func227, Tryz.ntmps227
    go_wp2_with fail
    refine (DRight_any S D t _ HS.out hD).mono ?_
    rw [HR.out]
    rintro en w1 ⟨rfl, hB⟩; go_wp2_with fail
    go_ret
    exact ⟨by rw [HF.out]; rfl, hB⟩
  | true =>
    have HR := Ha hr
    have HF := Ha (show foldD t D = cat ((visR t D).map foldB1) by unfold foldD; rw [if_pos hr])
    have HVF := Ha (steps_few (M := D) (by omega) D.length 0 t)
    clear hr; go_enter Tryz.func227, Tryz.ntmps227
    go_wp2_with fail
    refine (DRight_any S D t _ HS.out hD).mono ?_
    rw [HR.out]
    rintro en w1 ⟨rfl, hB⟩; have HB := Ha hB
    clear hB; go_wp2_with fail
    refine Calls.mono (walkData_any S D t _ _ _ (JB (fun V => cat (V.map foldB1)) w1.heap.size w1) (vis_fold _ _ _ HVF.out) ⟨_, Bd.new w1, (Below.refl _ _).alloc (Nat.le_refl _) _⟩ HS.out (by omega)) ?_
    rintro en w2 ⟨rfl, v, h1, h2⟩; have H1 := Ha h1
    have H2 := Ha h2
    clear h1 h2; go_wp2_with fail
    refine (stringB_any H1.out).mono ?_
    rintro en w3 ⟨rfl, h3, h4⟩; go_wp2_with fail
    go_ret
    exact ⟨by rw [HF.out]; rfl, (HB.out.trans (H2.out.mono HB.out.size)).trans ((H1.out.below h4 H2.out.size).mono HB.out.size)⟩
end Go.Proofs.YtmpginmdaeclaaaGreatDoor
