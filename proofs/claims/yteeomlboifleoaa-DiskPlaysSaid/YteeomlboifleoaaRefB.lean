/- The reference's with and make. No statement of the seat is proved here. -/
import Derived.Test.YteeomlboifleoaaRefA
namespace Go.Proofs.Yteeomlboifleoaa
open Go.RowKit Go.Maps Go.Sort

/-- one name more, at the append -/
theorem wpList_append_name (w : World) {ops : Array Oper} {rest : List Oper} {o : Oper} {a : Act} {Q : Exit → Act → World → Prop} (hgd : o.guard = none) (sl x : Operand)
    (hop : o.op = .call { callee := .builtin .append, args := #[sl, x], argTypes := #[30, 30] }) (base : Nat) (v : Value) (N : Nms) (hs : a.eval sl = v) (hown : RowN w base v N) (hN : N.length ≤ 1000000)
    (ad : Nat) (hx : a.eval x = .slice (some ⟨ad, 0, none⟩) 1 1) (z : ByteArray) (f : Int) (hw : Whole w ad 70 #[.string z, .int .i64 f]) (p : Bys × Nat) (hz : z = strB p.1) (hf : f = (p.2 : Nat)) (hbase : base ≤ w.heap.size)
    (h : ∀ v' w', RowN w' base v' (N ++ [p]) → Below base w w' → w.heap.size ≤ w'.heap.size → wpList Try.prog ops Q rest (a.put o.dst v') w') : wpList Try.prog ops Q (o :: rest) a w := by
  obtain ⟨i0, hi0, hz0, hz1, hz2⟩ := info_parts name_info
  subst hz hf
  refine wpList_append_own w hgd sl x 30 hop base 70 i0 (.agg #[.string ⟨#[]⟩, .int .i64 0]) 2 24 Try.underlying30 hi0 hz0 hz1 hz2 rfl (by decide) v N.length (ncells N) hs hown ⟨ad, 0, none⟩ 1 1 [.string (strB p.1), .int .i64 (p.2 : Nat)] hx rfl (fun j u hu => by rw [add0, hw.cell]; simpa using hu) (two1 _ _ rfl rfl) (by unfold maxLen; omega) (by omega) hbase ?_
  intro v' w' hown' hgrow _
  refine h v' w' ?_ ((Below.refl base w).grown hgrow hbase (fun j hj => (hown.lt j hj).1)) hgrow.size
  unfold RowN
  rw [List.length_append, ncells_snoc]
  exact hown'
theorem less_before : ∀ a b : Bys, Op.bytesLess a b = bytesBefore a b
  | [], [] => rfl
  | [], _ :: _ => rfl
  | _ :: _, [] => rfl
  | a :: r, b :: s => by
    show (decide (a < b) || (a == b && Op.bytesLess r s)) = (decide (a < b) || (a == b && bytesBefore r s))
    rw [less_before r s]
theorem less_strB (s : ByteArray) (x : Bys) : Op.bytesLess s.toList (strB x).toList = bytesBefore s.data.toList x := by
  rw [ByteArray.toList_eq, ByteArray.toList_eq, less_before]
  rfl
theorem strB_data (s : ByteArray) : strB s.data.toList = s := rfl
/-- the loop of with -/
def WithAt (w2 : World) (x : Bys × Nat) (D : Nms) (k : Nat) (u : Value) (dn : Bool) (wr : World) : Prop :=
  ∃ O, RowN wr w2.heap.size u O ∧ O.length ≤ k + 1 ∧ (dn = true → insN x D = O ++ D.drop k) ∧ (dn = false → O = D.take k ∧ insN x D = D.take k ++ insN x (D.drop k)) ∧ Below w2.heap.size w2 wr
set_option maxHeartbeats 2000000 in
theorem with_any {b : Nat} {v : Value} {N : Nms} {w : World} (h : RowN w b v N) (hn : N.length ≤ 100000) (s : ByteArray) (f : Nat) :
    Calls Try.prog 61 #[v, .agg #[.string s, .int .i64 (f : Nat)]] w fun e w' => ∃ v', e = .returned v' ∧ RowN w' 0 v' (putN N s.data.toList f) ∧ Below w.heap.size w w' := by
  obtain ⟨A, c, rfl⟩ := h.shape
  have hW0 := Whole.new w 70 #[.string s, .int .i64 (f : Nat)]
  have a0 := (hW0.cell 0).trans (rfl : _ = some (Value.string s))
  have HW0 := Lib.hid hW0
  have hwo := Lib.hid (without_any (h.alloc (.cells #[.string s, .int .i64 (f : Nat)] 70)) (by omega) s)
  clear h hW0
  go_enter Try.func61, Try.ntmps61
  go_wp2_with fail
  refine Calls.mono hwo.out ?_
  rintro e w2 ⟨v1, rfl, hD, hB2⟩
  obtain ⟨D, hDD⟩ : ∃ D, D = delN N s.data.toList := ⟨_, rfl⟩
  rw [← hDD] at hD
  have hDl : (D.length : Int) ≤ 100000 := by rw [hDD]; have := length_delN N s.data.toList; omega
  obtain ⟨A1, c1, rfl⟩ := hD.shape
  have hW2 : Whole w2 w.heap.size 70 #[.string s, .int .i64 (f : Nat)] := HW0.out.below hB2 (by simp)
  have hB02 : Below w.heap.size w w2 := ((Below.refl _ w).alloc (Nat.le_refl _) _).trans (hB2.mono (by simp))
  have hlt2 := hW2.lt
  have HDD := Lib.hid hDD
  have HD := Lib.hid hD
  have HW2 := Lib.hid hW2
  have HB02 := Lib.hid hB02
  clear a0 hDD hD hW2 hB02 hB2
  go_wp2_with fail
  go_loopw [5, 6, 8] (fun u dv i wr => ∃ (k : Nat) (dn : Bool), k ≤ D.length ∧ i = .int .i64 k ∧ dv = .bool dn ∧ WithAt w2 (s.data.toList, f) D k u dn wr) (fun _ _ i _ => D.length - (intOf i).toNat)
  case atStart => exact ⟨0, false, Nat.zero_le _, rfl, rfl, [], World.ownsRow_nil _ _ _ _, by simp, fun e => (by cases e), fun _ => ⟨rfl, rfl⟩, Below.refl _ _⟩
  case round =>
    obtain ⟨k, dn, hk, rfl, rfl, O, hO, hOl, h1, h2, hB⟩ := hrel
    have hWr : Whole wr w.heap.size 70 #[.string s, .int .i64 (f : Nat)] := HW2.out.below hB hlt2
    have a0 := (hWr.cell 0).trans (rfl : _ = some (Value.string s))
    have a1 := (hWr.cell 1).trans (rfl : _ = some (Value.int .i64 (f : Nat)))
    have HWr := Lib.hid hWr
    have HO := Lib.hid hO
    have HOl := Lib.hid hOl
    have HB := Lib.hid hB
    clear hWr hO hOl hB
    by_cases hlt : k < D.length
    · obtain ⟨g, p, rfl, hp, hg, x0, x1⟩ := HD.out.at hlt
      obtain ⟨z, hz⟩ : ∃ z, z = strB p.1 := ⟨_, rfl⟩
      rw [← hz] at x0
      have hlk : (k : Int) < (D.length : Int) := by omega
      have y0 : wr.cell? ⟨g, k * 2, none⟩ = some (.string z) := (HB.out.cell hg).trans x0
      have y1 : wr.cell? ⟨g, k * 2 + 1, none⟩ = some (.int .i64 (p.2 : Nat)) := (HB.out.cell hg).trans x1
      have hdrop : D.drop k = p :: D.drop (k + 1) := by rw [List.drop_eq_getElem_cons hlt]; congr 1; rw [List.getElem?_eq_getElem hlt] at hp; exact Option.some.inj hp
      have htk : D.take (k + 1) = D.take k ++ [p] := by rw [List.take_add_one, hp]; rfl
      have HG := Lib.hid hg
      have HX0 := Lib.hid x0
      have HX1 := Lib.hid x1
      have HZ := Lib.hid hz
      have hlss : Op.bytesLess s.toList z.toList = bytesBefore s.data.toList p.1 := by rw [hz, less_strB]
      clear hp hg x0 x1 hz
      cases dn
      · obtain ⟨hOt, hins⟩ := h2 rfl
        rw [hdrop] at hins
        cases hcmp : bytesBefore s.data.toList p.1
        · have hnext : Hid (insN (s.data.toList, f) D = D.take (k + 1) ++ insN (s.data.toList, f) (D.drop (k + 1))) := Lib.hid (by
            rw [hins, htk, List.append_assoc]
            congr 1
            show (if bytesBefore s.data.toList p.1 = true then _ else _) = _
            rw [hcmp]; rfl)
          have HOt : Hid (O ++ [p] = D.take (k + 1)) := Lib.hid (by rw [hOt, htk])
          rw [hcmp] at hlss
          clear hins hOt hcmp h1 h2 hdrop htk
          go_wp2_with fail
          go_quiet (fail)
          have HOq : Hid (RowN (wr.drewN nq) w2.heap.size u5 O) := Lib.hid (own_below HO.out (below_drewN (Below.refl _ _) nq))
          have HBq : Hid (Below w2.heap.size w2 (wr.drewN nq)) := Lib.hid (below_drewN HB.out nq)
          clear a0 a1
          go_wp2_with (at_builtin; refine wpList_append_name _ rfl _ _ rfl w2.heap.size _ O rfl (HOq.out.alloc _) (by have := HOl.out; omega) _ rfl z (p.2 : Nat) (Whole.new _ _ _) p HZ.out rfl (Nat.le_trans HBq.out.size (by simp)) ?_; intro v3 w3 hO3 hB3 hs3)
          have HO3 := Lib.hid hO3
          have HB3 := Lib.hid ((HBq.out.alloc HBq.out.size _).trans hB3)
          clear hO3 hB3 hs3
          go_roundw
          case rel => exact ⟨k + 1, false, by omega, by go_num, rfl, O ++ [p], HO3.out, by have := HOl.out; simp; omega, fun e => (by cases e), fun _ => ⟨HOt.out, hnext.out⟩, HB3.out⟩
          case measure => simp [intOf]; omega
        · have hnext : Hid (insN (s.data.toList, f) D = (O ++ [(s.data.toList, f)]) ++ [p] ++ D.drop (k + 1)) := Lib.hid (by
            rw [hins, hOt, List.append_assoc, List.append_assoc]
            congr 1
            show (if bytesBefore s.data.toList p.1 = true then _ else _) = _
            rw [hcmp]; rfl)
          rw [hcmp] at hlss
          have HOt : Hid (O.length ≤ k) := Lib.hid (by rw [hOt, List.length_take]; omega)
          clear hins hOt hcmp h1 h2 hdrop htk
          go_wp2_with fail
          go_quiet (fail)
          have HOq : Hid (RowN (wr.drewN nq) w2.heap.size u5 O) := Lib.hid (own_below HO.out (below_drewN (Below.refl _ _) nq))
          have HBq : Hid (Below w2.heap.size w2 (wr.drewN nq)) := Lib.hid (below_drewN HB.out nq)
          clear y0 y1
          go_wp2_with (first
            | (at_builtin; refine wpList_append_name _ rfl _ _ rfl w2.heap.size _ (O ++ [(s.data.toList, f)]) rfl (HO3.out.alloc _) (by have := HOt.out; simp; omega) _ rfl z (p.2 : Nat) (Whole.new _ _ _) p HZ.out rfl (Nat.le_trans HB3.out.size (by simp)) ?_; intro v4 w4 hO4 hB4 hs4)
            | (at_builtin; refine wpList_append_name _ rfl _ _ rfl w2.heap.size _ O rfl (HOq.out.alloc _) (by have := HOl.out; omega) _ rfl s (f : Nat) (Whole.new _ _ _) (s.data.toList, f) (strB_data s).symm rfl (Nat.le_trans HBq.out.size (by simp)) ?_; intro v3 w3 hO3 hB3 hs3; have hb3 := (HBq.out.alloc HBq.out.size (.cells #[.string s, .int .i64 (f : Nat)] 70)).trans hB3; have q0 : w3.cell? ⟨g, k * 2, none⟩ = some (.string z) := (hb3.cell HG.out).trans HX0.out; have q1 : w3.cell? ⟨g, k * 2 + 1, none⟩ = some (.int .i64 (p.2 : Nat)) := (hb3.cell HG.out).trans HX1.out; have HO3 := Lib.hid hO3; have HB3 := Lib.hid hb3; clear hO3 hB3 hs3 hb3 a0 a1))
          trace_state
          have HO4 := Lib.hid hO4
          have HB4 := Lib.hid ((HB3.out.alloc HB3.out.size _).trans hB4)
          clear hO4 hB4 hs4
          go_roundw
          case rel => exact ⟨k + 1, true, by omega, by go_num, rfl, _, HO4.out, by have := HOt.out; simp; omega, fun _ => hnext.out, fun e => (by cases e), HB4.out⟩
          case measure => simp [intOf]; omega
      · have hins := h1 rfl
        rw [hdrop] at hins
        have hnext : Hid (insN (s.data.toList, f) D = (O ++ [p]) ++ D.drop (k + 1)) := Lib.hid (by rw [hins, List.append_assoc]; rfl)
        clear hins h1 h2 hdrop htk hlss
        go_wp2_with fail
        go_quiet (fail)
        have HOq : Hid (RowN (wr.drewN nq) w2.heap.size u5 O) := Lib.hid (own_below HO.out (below_drewN (Below.refl _ _) nq))
        have HBq : Hid (Below w2.heap.size w2 (wr.drewN nq)) := Lib.hid (below_drewN HB.out nq)
        clear a0 a1
        go_wp2_with (at_builtin; refine wpList_append_name _ rfl _ _ rfl w2.heap.size _ O rfl (HOq.out.alloc _) (by have := HOl.out; omega) _ rfl z (p.2 : Nat) (Whole.new _ _ _) p HZ.out rfl (Nat.le_trans HBq.out.size (by simp)) ?_; intro v3 w3 hO3 hB3 hs3)
        have HO3 := Lib.hid hO3
        have HB3 := Lib.hid ((HBq.out.alloc HBq.out.size _).trans hB3)
        clear hO3 hB3 hs3
        go_roundw
        case rel => exact ⟨k + 1, true, by omega, by go_num, rfl, _, HO3.out, by have := HOl.out; simp; omega, fun _ => hnext.out, fun e => (by cases e), HB3.out⟩
        case measure => simp [intOf]; omega
    · obtain rfl : k = D.length := by omega
      cases dn
      · obtain ⟨hOt, hins⟩ := h2 rfl
        rw [List.drop_length, List.take_length] at hins
        rw [List.take_length] at hOt
        have hfin : Hid (putN N s.data.toList f = O ++ [(s.data.toList, f)]) := Lib.hid (by
          unfold putN
          rw [← HDD.out, hins, hOt]
          rfl)
        clear hOt hins h1 h2
        go_wp2_with (at_builtin; refine wpList_append_name _ rfl _ _ rfl w2.heap.size _ O rfl (HO.out.alloc _) (by have := HOl.out; omega) _ rfl s (f : Nat) (Whole.new _ _ _) (s.data.toList, f) (strB_data s).symm rfl (Nat.le_trans HB.out.size (by simp)) ?_; intro v3 w3 hO3 hB3 hs3)
        have HO3 := Lib.hid hO3
        have HB3 := Lib.hid ((HB.out.alloc HB.out.size _).trans hB3)
        clear hO3 hB3 hs3
        go_ret
        exact ⟨_, rfl, by rw [hfin.out]; exact own_base HO3.out (Nat.zero_le _), HB02.out.trans (HB3.out.mono HB02.out.size)⟩
      · have hins := h1 rfl
        rw [List.drop_length, List.append_nil] at hins
        have hfin : Hid (putN N s.data.toList f = O) := Lib.hid (by unfold putN; rw [← HDD.out, hins])
        clear hins h1 h2
        go_wp2_with fail
        go_ret
        exact ⟨_, rfl, by rw [hfin.out]; exact own_base HO.out (Nat.zero_le _), HB02.out.trans (HB.out.mono HB02.out.size)⟩
end Go.Proofs.Yteeomlboifleoaa
