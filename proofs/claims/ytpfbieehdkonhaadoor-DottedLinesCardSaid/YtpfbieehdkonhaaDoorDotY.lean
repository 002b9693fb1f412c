/- Line. -/
import Derived.Test.YtpfbieehdkonhaaDoorDotX
import Derived.Test.YtpfbieehdkonhaaDoorDotC
namespace Go.Proofs.YtpfbieehdkonhaaDoor
open Go.RowKit

/-- the names of a list -/
def namesL (l : List (List UInt8)) : List (List UInt8) := l.filter fun s => (nameL s).isSome
theorem namesL_take {l : List (List UInt8)} {k : Nat} (h : k < l.length) : namesL (l.take (k + 1)) = namesL (l.take k) ++ (if (nameL l[k]).isSome = true then [l[k]] else []) := by
  rw [List.take_succ_eq_append_getElem h]
  unfold namesL
  rw [List.filter_append]
  congr 1
  by_cases hn : (nameL l[k]).isSome = true <;> simp [hn]
theorem namesL_len (l : List (List UInt8)) (k : Nat) : (namesL (l.take k)).length ≤ k := by
  unfold namesL
  have := List.length_filter_le (fun s => (nameL s).isSome) (l.take k)
  have h2 : (l.take k).length ≤ k := by simp; omega
  omega
theorem namesL_nam (l : List (List UInt8)) : Nam (namesL l) := fun _ hx => (List.mem_filter.1 hx).2
/-- texts with blanks between them -/
def lineT (D : List (List UInt8)) : List UInt8 := Lib.join (D.map textN) [32]
theorem textN_bound (D : List (List UInt8)) : (Lib.join (D.map textN) [32]).length ≤ 1021 * D.length := by
  cases D with
  | nil => simp [Lib.join_nil]
  | cons _ r =>
    rw [List.map_cons, Lib.join_cons, List.length_append, Lib.joinTail_length]
    rename_i x0
    have h1 := textN_len x0
    have h2 : Lib.lens (r.map textN) ≤ 1020 * r.length := by
      induction r with
      | nil => simp [Lib.lens]
      | cons y r ih =>
        have := textN_len y
        simp only [Lib.lens, List.map_cons, List.sum_cons, List.length_cons] at ih ⊢
        omega
    simp only [List.length_map, List.length_cons, List.length_nil]
    omega

theorem Join_any (g c n : Nat) (T : List (List UInt8)) (w : World) (hn : T.length = n) (hc : n ≤ c) (hg : g < w.heap.size) (hcell : ∀ k x, T[k]? = some x → w.cell? ⟨g, k, none⟩ = some (.string (mk x))) (hb : n ≤ 100) (hl : (Lib.join T [32]).length ≤ 1000000) :
    Calls Tryd.prog 29 #[.slice (some ⟨g, 0, none⟩) n c, .string ⟨#[32]⟩] w fun e w' => e = .returned (.string (mk (Lib.join T [32]))) ∧ Below w.heap.size w w' := by
  have e1 : (T.map mk).map (·.data.toList) = T := by
    rw [List.map_map]
    have : ((fun s : ByteArray => s.data.toList) ∘ mk) = id := by funext l; simp [mk]
    rw [this]; simp
  have := Any.strings_Join joinL builderXj g 0 c (T.map mk) ⟨#[32]⟩ w (fun j x hx => by
    rw [List.getElem?_map] at hx
    cases hT : T[j]? with
    | none => rw [hT] at hx; cases hx
    | some y =>
      rw [hT] at hx
      injection hx with hx
      subst hx
      rw [Nat.zero_add]
      exact hcell j y hT) hg (by simp; omega) (by simp; omega) (by rw [e1]; show (Lib.join T [32]).length ≤ _; omega)
  rw [e1, List.length_map, hn] at this
  exact this

theorem made_texts (n : Nat) : (madeCells (Value.string ⟨#[]⟩).cells (n * 1)).toList = textL (List.replicate n []) := by
  have e : ∀ i : Nat, (Value.string ⟨#[]⟩).cells[i % (Value.string ⟨#[]⟩).cells.size]! = Value.string (mk []) := by
    intro i
    show (#[Value.string ⟨#[]⟩] : Array Value)[i % 1]! = _
    rw [Nat.mod_one]; rfl
  rw [Nat.mul_one]
  unfold madeCells
  simp only [e]
  apply List.ext_getElem
  · simp [textL, texts]
  · intro i h1 h2
    simp [textL, texts]

set_option maxHeartbeats 4000000 in
theorem Line_any (A : Option Addr) (n c : Nat) (l : List (List UInt8)) (w : World) (hs : Sees w w.heap.size A n (textL l)) (hn : n ≤ 30) (hx : ∀ x ∈ l, x.length ≤ 1000) (hw : Wts w) :
    Calls Tryd.prog 13 #[.slice A n c] w fun e w' => ∃ D, Srt cK D ∧ St cK (namesL l) D ∧ e = .returned (.string (mk (lineT D))) ∧ Below w.heap.size w w' := by
  have hl := textL_len hs
  have HL := Lib.hid hl
  have HS := Lib.hid hs
  have HX := Lib.hid hx
  have HW := Lib.hid hw
  obtain ⟨i0, hi0, hz0, hz1, hz2⟩ := info_parts text_info
  clear hs hx hw hl
  go_enter Tryd.func13, Tryd.ntmps13
  go_wp2_with fail
  go_loopw [3, 11] (fun v j wr => ∃ (k m : Nat), k ≤ n ∧ j = .int .i64 (k : Nat) ∧ m = (namesL (l.take k)).length ∧ wr.ownsRow w.heap.size 9 1 v m (textL (namesL (l.take k))) ∧ Below w.heap.size w wr) (fun _ j _ => n - (intOf j).toNat)
  case atStart => exact ⟨0, 0, Nat.zero_le _, rfl, by simp [namesL], by simpa [namesL, textL, texts] using World.ownsRow_nil _ _ _ _, Below.refl _ _⟩
  case round =>
    obtain ⟨k, m, hk, rfl, hm, hown, hB⟩ := hrel
    have HB := Lib.hid hB
    have HO := Lib.hid hown
    have HM := Lib.hid hm
    have hmk : m ≤ k := by rw [hm]; exact namesL_len l k
    clear hown hm
    by_cases hlt : k < n
    · have g1 : (k : Int) < (n : Int) := by omega
      have hkl : k < l.length := by have := HL.out; omega
      obtain ⟨b, off, rfl, _, hc⟩ := textL_at (HS.out.below hB) hlt hkl
      obtain ⟨x, hx⟩ : ∃ x, x = l[k] := ⟨_, rfl⟩
      obtain ⟨X, hX⟩ : ∃ X, X = mk x := ⟨_, rfl⟩
      rw [← hx, ← hX] at hc
      have hxl : x.length ≤ 1073741824 := by have := HX.out x (by rw [hx]; exact List.getElem_mem hkl); omega
      have HXX := Lib.hid hX
      have htk := namesL_take hkl
      rw [← hx] at htk
      have HTK := Lib.hid htk
      clear hX hx hB htk
      go_wp2_with fail
      refine (Right_any X x _ HXX.out hxl).mono ?_
      cases hN : (nameL x).isSome with
      | false =>
        rintro e w1 ⟨rfl, hB1⟩
        have HT2 := Lib.hid (show namesL (l.take (k + 1)) = namesL (l.take k) by rw [HTK.out, hN]; simp)
        have HO1 := Lib.hid (own_below HO.out hB1)
        have HB1 := Lib.hid (HB.out.trans (hB1.mono HB.out.size))
        clear hB1 hN
        go_wp2_with fail
        go_roundw
        case rel => exact ⟨k + 1, m, by omega, by go_num, by rw [HT2.out]; exact HM.out, by rw [HT2.out]; exact HO1.out, HB1.out⟩
        case measure => simp [intOf]; omega
      | true =>
        rintro e w1 ⟨rfl, hB1⟩
        have HT2 := Lib.hid (show namesL (l.take (k + 1)) = namesL (l.take k) ++ [x] by rw [HTK.out, hN]; simp)
        have HO1 := Lib.hid (own_below HO.out hB1)
        have HB1 := Lib.hid (HB.out.trans (hB1.mono HB.out.size))
        have H63 : Hid (m + 1 ≤ maxLen) := Lib.hid (by unfold maxLen; omega)
        have H47 : Hid ((m + 1) * 16 ≤ 140737488355328) := Lib.hid (by omega)
        clear hB1 hN
        go_wp2_with (at_builtin; refine wpList_append_own _ rfl _ _ 28 rfl w.heap.size 9 i0 (.string ⟨#[]⟩) 1 16 Tryd.underlying28 hi0 hz0 hz1 hz2 rfl (by decide) _ _ _ rfl (HO1.out.alloc _) ⟨w1.heap.size, 0, none⟩ 1 1 [.string X] rfl rfl (news1 _ _ _) (one1 _ rfl) H63.out H47.out (by have := HB1.out.size; simp; omega) ?_; intro v2 w2 hown2 hgrow _)
        have hown3 : w2.ownsRow w.heap.size 9 1 v2 (m + 1) (textL (namesL (l.take (k + 1)))) := by
          rw [HT2.out, textL_snoc, ← HXX.out]; simpa using hown2
        have HO3 := Lib.hid hown3
        have HB2 := Lib.hid ((HB1.out.alloc HB1.out.size _).grown hgrow (by have := HB1.out.size; simp; omega) (fun j hj => (HO1.out.lt j hj).1))
        clear hown2 hown3 hgrow
        go_wp2_with fail
        go_roundw
        case rel => exact ⟨k + 1, m + 1, by omega, by go_num, by rw [HT2.out]; have := HM.out; simp; omega, HO3.out, HB2.out⟩
        case measure => simp [intOf]; omega
    · obtain rfl : k = n := by omega
      have hall : l.take k = l := List.take_of_length_le (by have := HL.out; omega)
      rw [hall] at HO HM
      have HNam := Lib.hid (namesL_nam l)
      have hm30 : m ≤ 30 := by omega
      clear hB
      go_wp2_with fail
      have HSORT : ∃ A' c', u3 = .slice A' m c' ∧ Calls Tryd.prog 27 #[u3, cmpF] wr fun e w2 => e = .returned (.tuple #[]) ∧ ∃ D, Srt cK D ∧ St cK (namesL l) D ∧ Sees w2 w2.heap.size A' m (textL D) ∧ Below w.heap.size w w2 := by
        by_cases h0 : m = 0
        · obtain ⟨A', c', rfl, _⟩ := Sees.own HO.out
          refine ⟨A', c', rfl, ?_⟩
          have hnil : namesL l = [] := List.eq_nil_of_length_eq_zero (by have := HM.out; omega)
          subst h0
          refine (sort_none A' c' wr).mono ?_
          rintro e w2 ⟨rfl, rfl⟩
          exact ⟨rfl, [], Srt.nil, by rw [hnil]; exact St.refl _, Sees.nil _ _ _, HB.out⟩
        · obtain ⟨g, cap, hv⟩ : ∃ g cap, u3 = .slice (some ⟨g, 0, none⟩) m cap := by
            rcases HO.out.2 with ⟨_, h'⟩ | ⟨g, cap, cur, h', _⟩
            · omega
            · exact ⟨g, cap, h'⟩
          subst hv
          refine ⟨_, cap, rfl, ?_⟩
          refine (sort_any w.heap.size g m cap (namesL l) wr (by omega) (by omega) HNam.out HO.out).mono ?_
          rintro e w2 ⟨rfl, D, k1, k2, k3, k4⟩
          obtain ⟨A2, c2, e2, hs2⟩ := Sees.own k3
          injection e2 with e2 _ _
          subst e2
          refine ⟨rfl, D, k1, k2, hs2, HB.out.grown k4 HB.out.size (fun z hz => ?_)⟩
          have := (HO.out.lt g rfl).1
          injection hz with hz
          omega
      obtain ⟨A', c', rfl, hsort⟩ := HSORT
      refine hsort.mono ?_
      rintro e w2 ⟨rfl, D, k1, k2, k3, k4⟩
      have K1 := Lib.hid k1
      have K2 := Lib.hid k2
      have K3 := Lib.hid k3
      have K4 := Lib.hid k4
      have HD := Lib.hid (textL_len k3)
      have HW2 := Lib.hid (HW.out.below k4 HW.out.pos)
      have HND := Lib.hid (HNam.out.st k2)
      have H47 : Hid (i0.bytes * m ≤ 281474976710656) := Lib.hid (by rw [hz2]; omega)
      have H63 : Hid (m ≤ maxLen) := Lib.hid (by unfold maxLen; omega)
      clear hsort k1 k2 k3 k4
      go_wp2_with (at_make; refine wpList_make_full _ rfl _ _ 28 rfl w2.heap.size 9 i0 (.string ⟨#[]⟩) 1 Tryd.underlying28 hi0 hz0 hz1 _ _ _ _ m rfl rfl rfl rfl H47.out H63.out (Nat.le_refl _) ?_; intro w3 hown3 hgrow3)
      rw [made_texts] at hown3
      have hg3 : w2.heap.size < w3.heap.size := by
        rcases hown3.2 with ⟨h', _⟩ | ⟨g, cap, cur, h', _, hh, _⟩
        · cases h'
        · injection h' with h' _ _; injection h' with h'; injection h' with h' _ _
          rw [h']; exact (Array.getElem?_eq_some_iff.1 hh).1
      have HB3 := Lib.hid (show Below w2.heap.size w2 w3 from ⟨hgrow3.os, hgrow3.tape, hgrow3.output, hgrow3.size, fun k hk => hgrow3.block k hk (by simp)⟩)
      have HR3 := Lib.hid (show RowD w2.heap.size w2.heap.size m m (List.replicate m []) w3 from hown3)
      have HG3 := Lib.hid hg3
      clear hown3 hgrow3 hg3
      go_wp2_with fail
      go_loopw [29] (fun j wr2 => ∃ i : Nat, i ≤ m ∧ j = .int .i64 (i : Nat) ∧ RowD w2.heap.size w2.heap.size m m ((D.take i).map textN ++ List.replicate (m - i) []) wr2 ∧ Below w2.heap.size w2 wr2 ∧ w2.heap.size < wr2.heap.size) (fun j _ => m - (intOf j).toNat)
      case atStart => exact ⟨0, Nat.zero_le _, rfl, by simpa using HR3.out, HB3.out, HG3.out⟩
      case round =>
        obtain ⟨i, hi, rfl, hrow, hB, hg⟩ := hrel
        have HR := Lib.hid hrow
        have HB4 := Lib.hid hB
        have HG4 := Lib.hid hg
        clear hrow hB hg
        by_cases hlt2 : i < m
        · have g2 : (i : Int) < (m : Int) := by omega
          have hiD : i < D.length := by have := HD.out; omega
          obtain ⟨b, off, rfl, hb, hc⟩ := textL_at (K3.out.below HB4.out) hlt2 hiD
          obtain ⟨x, hx⟩ : ∃ x, x = D[i] := ⟨_, rfl⟩
          obtain ⟨X, hX⟩ : ∃ X, X = mk x := ⟨_, rfl⟩
          rw [← hx, ← hX] at hc
          have hxl : x.length ≤ 1073741824 := by have := Nam.short (HND.out x (by rw [hx]; exact List.getElem_mem hiD)); omega
          have HXX := Lib.hid hX
          obtain ⟨T, hT⟩ : ∃ T, T = mk (textN x) := ⟨_, rfl⟩
          have HT := Lib.hid hT
          have hset : ((D.take i).map textN ++ List.replicate (m - i) []).set i (textN x) = (D.take (i + 1)).map textN ++ List.replicate (m - (i + 1)) [] := by
            rw [List.take_succ_eq_append_getElem hiD, ← hx]
            have hl1 : ((D.take i).map textN).length = i := by rw [List.length_map, List.length_take]; omega
            rw [List.set_append_right _ _ (by omega), hl1, Nat.sub_self, show m - i = (m - (i + 1)) + 1 by omega, List.replicate_succ, List.set_cons_zero]
            simp
          have HSET := Lib.hid hset
          have r1 : IntKind.i64.wrap (i : Int) = (i : Int) := by rw [IntKind.wrap_i64]; omega
          clear hX hx hT hset hb
          go_wp2_with fail
          refine (Text_any X x _ HXX.out hxl (HW2.out.beyond HB4.out)).mono ?_
          rw [← HT.out]
          rintro e w5 ⟨rfl, hB5⟩
          have hrow5 : RowD w2.heap.size w2.heap.size m m ((D.take i).map textN ++ List.replicate (m - i) []) w5 := HR.out.below hB5
          obtain ⟨y, hy⟩ : ∃ y, ((D.take i).map textN ++ List.replicate (m - i) [])[i]? = some y := ⟨_, List.getElem?_eq_getElem (by have := hrow5.len; omega)⟩
          have c5 := hrow5.cell hy
          have f5 := hrow5.soft i
          obtain ⟨o5, g5⟩ := hrow5.put i (textN x)
          rw [HSET.out, ← HT.out] at o5
          rw [← HT.out] at g5
          have HO5 := Lib.hid o5
          have HB5 := Lib.hid ((HB4.out.trans (hB5.mono HB4.out.size)).setCell (p := ⟨w2.heap.size, i, none⟩) (Nat.le_refl _) (.string T))
          have HG5 := Lib.hid (show w2.heap.size < (w5.setCell ⟨w2.heap.size, i, none⟩ (.string T)).heap.size by rw [size_put]; exact Nat.lt_of_lt_of_le HG4.out hB5.size)
          clear hrow5 hy o5 g5 hB5
          go_wp2_with fail
          go_roundw
          case rel => exact ⟨i + 1, by omega, by go_num, HO5.out, HB5.out, HG5.out⟩
          case measure => simp [intOf]; omega
        · obtain rfl : i = m := by omega
          have hall2 : (D.take i).map textN ++ List.replicate (i - i) [] = D.map textN := by
            rw [List.take_of_length_le (by have := HD.out; omega)]; simp
          rw [hall2] at HR
          go_wp2_with fail
          refine (Join_any w2.heap.size i i (D.map textN) _ (by rw [List.length_map]; exact HD.out) (Nat.le_refl _) HG4.out (fun k x hx => HR.out.cell hx) (by omega) (by have := textN_bound D; have := HD.out; omega)).mono ?_
          rintro e w6 ⟨rfl, hB6⟩
          have HB6 := Lib.hid (K4.out.trans ((HB4.out.trans (hB6.mono HB4.out.size)).mono K4.out.size))
          clear hB6
          go_wp2_with fail
          go_ret
          exact ⟨D, K1.out, K2.out, rfl, HB6.out⟩
end Go.Proofs.YtpfbieehdkonhaaDoor
