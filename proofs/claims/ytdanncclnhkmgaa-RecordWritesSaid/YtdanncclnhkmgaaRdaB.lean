/- A strings.Builder in memory, as a variable of its own; its methods walked. No statement of the seat is proved here. -/
import Derived.Test.YtdanncclnhkmgaaPakS
namespace Go.Proofs.Ytdanncclnhkmgaa
open Go.RowKit Go.Maps

abbrev bdT : TypeId := 63
/-- block b holds a builder: its row is v, what is written is l -/
structure Bd (B : Nat) (w : World) (b : Nat) (v : Value) (l : List UInt8) : Prop where
  hb : B ≤ b
  blk : ∃ p, (p = .pointer none ∨ p = .pointer (some ⟨b, 0, none⟩)) ∧ w.heap[b]? = some (.cells #[p, v] bdT (0, 0))
  row : w.ownsRowF B 5 1 v l.length (Lib.byteCells l)
  nl : l = [] → v = .slice none 0 0
theorem Bd.new (w : World) : Bd w.heap.size (w.alloc (.cells #[.pointer none, .slice none 0 0] bdT)) w.heap.size (.slice none 0 0) [] :=
  ⟨Nat.le_refl _, ⟨_, .inl rfl, Whole.new w bdT _⟩, World.ownsRowF_nil _ _ _ _, fun _ => rfl⟩
section
variable {B b : Nat} {w w' : World} {v v' : Value} {l : List UInt8}
theorem Bd.blt (h : Bd B w b v l) : b < w.heap.size := by
  obtain ⟨p, _, hb⟩ := h.blk
  exact (Array.getElem?_eq_some_iff.1 hb).1
theorem Bd.cell1 (h : Bd B w b v l) : w.cell? ⟨b, 1, none⟩ = some v := by
  obtain ⟨p, _, hb⟩ := h.blk
  rw [Lib.cell_of_heap hb]; rfl
theorem Bd.vlt (h : Bd B w b v l) : ∀ g, v.ownBlock = some g → B ≤ g ∧ g < w.heap.size := h.row.lt
theorem Bd.nv (h : Bd B w b v l) : v.ownBlock ≠ some b := by
  obtain ⟨p, _, hb⟩ := h.blk
  exact Lib.ownBlock_neF h.row hb (by decide)
theorem Bd.same (h : Bd B w b v l) (hb : Below w.heap.size w w') : Bd B w' b v l := by
  have hg : w.grownBy w' none := ⟨hb.os, hb.tape, hb.output, hb.size, fun k hk _ => hb.block k hk⟩
  obtain ⟨p, hp, hk⟩ := h.blk
  exact ⟨h.hb, ⟨p, hp, (hb.block b h.blt).trans hk⟩, h.row.kept hg (by cases v.ownBlock <;> simp), h.nl⟩
theorem Bd.drew (h : Bd B w b v l) : Bd B w.drew b v l := h.same (Below.refl _ _).drew
/-- what of others lies below B stands -/
theorem Bd.below (hp : Bd B w b v l) (h : Kp b b v v' w w') (hB : B ≤ w.heap.size) : Below B w w' :=
  ⟨h.os, h.tape, h.output, h.size, fun k hk => h.block k (by omega) (by have := hp.hb; omega) (by have := hp.hb; omega) (fun e => by have := (hp.vlt k e).1; omega)⟩
theorem Bd.turn (h : Bd B w b v l) {w1 w2 : World} {l' : List UInt8} {p : Value} (hp : p = .pointer none ∨ p = .pointer (some ⟨b, 0, none⟩)) (hg : w.grownBy w1 v.ownBlock) (hrow : w1.ownsRowF B 5 1 v' l'.length (Lib.byteCells l'))
    (hnl : l' = [] → v' = .slice none 0 0) (hnew : ∀ g, v'.ownBlock = some g → v.ownBlock = some g ∨ w.heap.size ≤ g) (hg2 : w1.grownBy w2 (some b)) (hblk : w2.heap[b]? = some (.cells #[p, v'] bdT (0, 0))) : Bd B w2 b v' l' ∧ Kp b b v v' w w2 := by
  have hnv : v'.ownBlock ≠ some b := by
    intro e
    rcases hnew b e with h' | h'
    · exact h.nv h'
    · have := h.blt; omega
  refine ⟨⟨h.hb, ⟨p, hp, hblk⟩, hrow.kept hg2 (.inr hnv), hnl⟩, ?_⟩
  have k1 : Kp b b v v w w1 := .of_grown hg fun k hk => .inr (.inr hk)
  have k2 : Kp b b v v w1 w2 := .of_grown hg2 fun k hk => .inl (Option.some.inj hk).symm
  have k := k1.trans k2
  exact ⟨k.os, k.tape, k.output, k.size, k.block, hnew⟩
end
theorem lies_builderB : liesAt Try.prog Try.prog.depth bdT (2 / Try.prog.cellsOf bdT) 0 63 1 = true := by kernel_rfl

set_option maxHeartbeats 1000000 in
set_option maxRecDepth 100000 in
theorem check_freshB (b : Nat) (w : World) (h0 : w.cell? ⟨b, 0, none⟩ = some (.pointer none)) (hsh : w.shape? b = some (bdT, 2)) (hfz : w.frozen? ⟨b, 0, none⟩ = false) :
    Calls Try.prog 94 #[.pointer (some ⟨b, 0, none⟩)] w fun e w' => e = .returned (.tuple #[]) ∧ w' = w.setCell ⟨b, 0, none⟩ (.pointer (some ⟨b, 0, none⟩)) := by
  obtain ⟨j, hj, hjs⟩ := Option.map_eq_some_iff.1 size_builder
  go_enter Try.func94, Try.ntmps94
  go_wp2
  rw [Lib.run_to_unsafe w ⟨b, 0, none⟩ Try.underlying60 Try.underlying138 hj (by rw [hjs]; decide) hsh (Nat.zero_lt_succ 1)]
  simp only [Result.andThen]
  rw [Oper.upon_value]
  go_wp2
  rw [run_callFunc_extern Try.func109 (by kernel_rfl) (by kernel_rfl) (by kernel_rfl) (e := Extern.AbiNoEscape.same) (by kernel_rfl)]
  rw [Lib.run_noEscape]
  simp only [Result.andThen]
  rw [Oper.upon_value]
  go_wp2
  rw [Lib.run_from_unsafe w ⟨b, 0, none⟩ Try.underlying138 Try.underlying60 hj hsh lies_builderB]
  simp only [Result.andThen]
  rw [Oper.upon_value]
  go_wp2
  go_end0
  exact ⟨rfl, rfl⟩


section
variable {B b : Nat} {w w' : World} {v v' : Value} {l : List UInt8}
theorem checkB_any (h : Bd B w b v l) :
    Calls Try.prog 94 #[.pointer (some ⟨b, 0, none⟩)] w fun e w' => e = .returned (.tuple #[]) ∧ Bd B w' b v l ∧ Kp b b v v w w' ∧ w'.heap[b]? = some (.cells #[.pointer (some ⟨b, 0, none⟩), v] bdT (0, 0)) := by
  obtain ⟨p, hp, hb⟩ := h.blk
  rcases hp with rfl | rfl
  · refine (check_freshB b w (by rw [Lib.cell_of_heap hb]; rfl) (by simp [World.shape?, hb]) (by simp [World.frozen?, hb])).mono ?_
    rintro e w' ⟨rfl, rfl⟩
    have hb' : (w.setCell ⟨b, 0, none⟩ (.pointer (some ⟨b, 0, none⟩))).heap[b]? = some (.cells #[.pointer (some ⟨b, 0, none⟩), v] bdT (0, 0)) := by
      simp [World.setCell, Array.getElem?_modify, hb]
    obtain ⟨h1, h2⟩ := h.turn (p := .pointer (some ⟨b, 0, none⟩)) (.inr rfl) (grow_refl _ _) h.row h.nl (fun g hg => .inl hg) (gset w ⟨b, 0, none⟩ _) hb'
    exact ⟨rfl, h1, h2, hb'⟩
  · refine (check_used b w (by rw [Lib.cell_of_heap hb]; rfl)).mono ?_
    rintro e w' ⟨rfl, rfl⟩
    exact ⟨rfl, h, .refl _ _ _ _, hb⟩

set_option maxHeartbeats 2000000 in
set_option maxRecDepth 100000 in
theorem writeB_any (h : Bd B w b v l) (s : ByteArray) (hlen : l.length + s.size ≤ 1000000000) (hBw : B ≤ w.heap.size) :
    Calls Try.prog 64 #[.pointer (some ⟨b, 0, none⟩), .string s] w fun e w' => e = .returned (.tuple #[.int .i64 s.size, .nilIface]) ∧ ∃ v', Bd B w' b v' (l ++ s.data.toList) ∧ Kp b b v v' w w' := by
  have HL := Lib.hid hlen
  have HH := Lib.hid h
  have HB := Lib.hid hBw
  clear hlen h hBw
  go_enter Try.func64, Try.ntmps64
  go_wp2_with (go_at_call 94; refine (checkB_any HH.out).mono ?_)
  rintro e w1 ⟨rfl, h1, hk1, hbk⟩
  have hBw1 : B ≤ w1.heap.size := Nat.le_trans HB.out hk1.size
  have hk1 := Lib.hid hk1
  have hrow := h1.row
  have hne := h1.nv
  have c0 : w1.cell? ⟨b, 0, none⟩ = some (.pointer (some ⟨b, 0, none⟩)) := by rw [Lib.cell_of_heap hbk]; rfl
  have c1 : w1.cell? ⟨b, 1, none⟩ = some v := by rw [Lib.cell_of_heap hbk]; rfl
  go_wp2_with (at_builtin; refine wpList_bytes_on _ rfl _ _ rfl B _ _ _ rfl hrow s rfl ?c3 ?c4 ?c5 ?_)
  case c3 => have := HL.out; unfold maxLen; omega
  case c4 => have := HL.out; omega
  case c5 => exact hBw1
  intro v' w2 hown' hgrow hnil hnew
  have hnl : l ++ s.data.toList = [] → v' = .slice none 0 0 := fun e => hnil.2 ⟨h1.nl (List.append_eq_nil_iff.1 e).1, by have := (List.append_eq_nil_iff.1 e).2; simpa using congrArg List.length this⟩
  have hlt : b < w1.heap.size := h1.blt
  have hb2 : w2.heap[b]? = some (.cells #[.pointer (some ⟨b, 0, none⟩), v] bdT (0, 0)) := by
    rw [hgrow.block b hlt (fun e => hne e.symm)]
    exact hbk
  have d0 : w2.cell? ⟨b, 0, none⟩ = some (.pointer (some ⟨b, 0, none⟩)) := by rw [Lib.cell_of_heap hb2]; rfl
  have d1 : w2.cell? ⟨b, 1, none⟩ = some v := by rw [Lib.cell_of_heap hb2]; rfl
  have f1 : w2.frozen? ⟨b, 1, none⟩ = false := Lib.frozen_of_heap hb2 1
  obtain ⟨ao, n', cap, rfl⟩ : ∃ ao n' cap, v' = .slice ao n' cap := by
    rcases hown'.2 with ⟨hv, _⟩ | ⟨g, cap, cur, fz, hv, _⟩
    · exact ⟨_, _, _, hv⟩
    · exact ⟨_, _, _, hv⟩
  go_wp2
  go_ret2
  have hb3 : (w2.setCell ⟨b, 1, none⟩ (.slice ao n' cap)).heap[b]? = some (.cells #[.pointer (some ⟨b, 0, none⟩), .slice ao n' cap] bdT (0, 0)) := by
    simp [World.setCell, Array.getElem?_modify, hb2]
  obtain ⟨k1, k2⟩ := h1.turn (l' := l ++ s.data.toList) (.inr rfl) hgrow (by rw [Lib.byteCells_append, List.length_append]; simpa [Lib.strCells_eq] using hown') hnl hnew (gset w2 ⟨b, 1, none⟩ _) hb3
  exact ⟨rfl, _, k1, hk1.out.trans k2⟩


/-- a part of the builder's row is frozen: a builder still -/
theorem Bd.froze {g cap : Nat} (h : Bd B w b (.slice (some ⟨g, 0, none⟩) l.length cap) l) : Bd B (w.freeze ⟨g, 0, none⟩ l.length) b (.slice (some ⟨g, 0, none⟩) l.length cap) l ∧ Kp b b (.slice (some ⟨g, 0, none⟩) l.length cap) (.slice (some ⟨g, 0, none⟩) l.length cap) w (w.freeze ⟨g, 0, none⟩ l.length) := by
  have hg0 : w.grownBy (w.freeze ⟨g, 0, none⟩ l.length) (some g) := by
    have hb := Lib.below_freeze (Below.refl g w) (p := ⟨g, 0, none⟩) (Nat.le_refl _) l.length
    refine ⟨hb.os, hb.tape, hb.output, hb.size, fun k _ hk => ?_⟩
    unfold World.freeze
    split
    · rfl
    · simp only [Array.getElem?_modify]
      rw [if_neg (fun e => hk (by rw [e]))]
  have hgb : g ≠ b := fun e => h.nv (by simp [Value.ownBlock, e])
  obtain ⟨p, hp, hk⟩ := h.blk
  refine ⟨⟨h.hb, ⟨p, hp, ?_⟩, ?_, h.nl⟩, .of_grown hg0 fun k hk => .inr (.inr (by simpa [Value.ownBlock] using hk))⟩
  · rw [hg0.block b h.blt (fun e => hgb (Option.some.inj e).symm)]; exact hk
  · refine ⟨h.row.1, ?_⟩
    rcases h.row.2 with ⟨hv, _⟩ | ⟨g', cap', cur, fz, hv, hbg, hgg, hfz, rest⟩
    · cases hv
    · injection hv with ha _ hcap
      injection ha with ha
      injection ha with he _ _
      subst he hcap
      obtain ⟨lo, hi⟩ := fz
      unfold World.freeze
      split
      · exact .inr ⟨g, _, cur, (lo, hi), rfl, hbg, hgg, hfz, rest⟩
      · refine .inr ⟨g, _, cur, (if lo == hi then (0, 0 + l.length) else (min lo 0, max hi (0 + l.length))), rfl, hbg, ?_, ?_, rest⟩
        · simp [Array.getElem?_modify, hgg]
        · simp only at hfz
          split <;> simp <;> omega

set_option maxHeartbeats 1000000 in
set_option maxRecDepth 100000 in
theorem stringB_some (h : Bd B w b v l) (h0 : l ≠ []) :
    Calls Try.prog 51 #[.pointer (some ⟨b, 0, none⟩)] w fun e w' => e = .returned (.string (mk l)) ∧ Bd B w' b v l ∧ Kp b b v v w w' := by
  have hl0 : l.length ≠ 0 := by simpa using h0
  obtain ⟨g, cap, cur, fz, rfl, hbg, hg, hfz, hnc, hcm, hcs, htake⟩ : ∃ g cap cur fz, v = .slice (some ⟨g, 0, none⟩) l.length cap ∧ B ≤ g ∧ w.heap[g]? = some (.cells cur 5 fz) ∧ fz.2 ≤ l.length * 1 ∧ l.length ≤ cap ∧ cap ≤ maxLen ∧ cur.size = cap * 1 ∧ cur.toList.take (l.length * 1) = Lib.byteCells l := by
    rcases h.row.2 with ⟨_, hz⟩ | ⟨g, cap, cur, fz, hv, r⟩
    · exact absurd hz hl0
    · exact ⟨g, cap, cur, fz, hv, r⟩
  have c1 : w.drew.cell? ⟨b, 1, none⟩ = some (.slice (some ⟨g, 0, none⟩) l.length cap) := h.cell1
  have hSD : (Builtin.unsafeSliceData_ #[61] 116 #[.slice (some ⟨g, 0, none⟩) l.length cap]).run Try.prog w.drew = .ok (.pointer (some ⟨g, 0, none⟩)) w.drew :=
    Lib.run_unsafeSliceData_row _ _ _ _ _ _ (by omega)
  have hUS : (Builtin.unsafeString_ #[116, 3] 9 #[.pointer (some ⟨g, 0, none⟩), .int .i64 l.length]).run Try.prog w.drew = .ok (.string (mk l)) (w.drew.freeze ⟨g, 0, none⟩ l.length) := by
    refine Lib.run_unsafeString_row w.drew 116 3 9 5 Try.underlying116 byte_cells g cur.size (by have hg' : w.drew.heap[g]? = some (.cells cur 5 fz) := hg; simp [World.shape?, hg']) l h0 (by omega) (by unfold maxLen at hcm; omega) ?_
    intro j x hx
    exact h.row.cells (g := g) rfl j (.int .u8 x.toNat) (by simp [Lib.byteCells, hx])
  obtain ⟨hkeep, hkp⟩ := h.drew.froze
  have hkp' : Kp b b (.slice (some ⟨g, 0, none⟩) l.length cap) (.slice (some ⟨g, 0, none⟩) l.length cap) w (w.drew.freeze ⟨g, 0, none⟩ l.length) := (Kp.refl _ _ _ _).drew.trans hkp
  have HK := Lib.hid hkeep
  have HP := Lib.hid hkp'
  clear hkeep hkp hkp' h hcs htake hg hfz
  go_enter Try.func51, Try.ntmps51
  go_wp2
  have mixed : Try.prog.follows .mixedOrders = true := by kernel_rfl
  go_region_o
  all_goals (go_wp2; go_ret; exact ⟨rfl, HK.out, HP.out⟩)

set_option maxHeartbeats 1000000 in
set_option maxRecDepth 100000 in
theorem stringB_none (h : Bd B w b v []) :
    Calls Try.prog 51 #[.pointer (some ⟨b, 0, none⟩)] w fun e w' => e = .returned (.string (mk [])) ∧ Bd B w' b v [] ∧ Kp b b v v w w' := by
  obtain rfl := h.nl rfl
  have hUS := ustring_none
  have c1 : w.drew.cell? ⟨b, 1, none⟩ = some (.slice none 0 0) := h.cell1
  have hSD : (Builtin.unsafeSliceData_ #[61] 116 #[.slice none 0 0]).run Try.prog w.drew = .ok (.pointer none) w.drew := rfl
  have HK := Lib.hid h.drew
  have HP := Lib.hid (Kp.refl b b (.slice none 0 0) w).drew
  clear h
  go_enter Try.func51, Try.ntmps51
  go_wp2
  have mixed : Try.prog.follows .mixedOrders = true := by kernel_rfl
  go_region_o
  all_goals (go_wp2; go_ret; exact ⟨rfl, HK.out, HP.out⟩)
theorem stringB_any (h : Bd B w b v l) :
    Calls Try.prog 51 #[.pointer (some ⟨b, 0, none⟩)] w fun e w' => e = .returned (.string (mk l)) ∧ Bd B w' b v l ∧ Kp b b v v w w' := by
  by_cases h0 : l = []
  · subst h0; exact stringB_none h
  · exact stringB_some h h0


end
end Go.Proofs.Ytdanncclnhkmgaa
