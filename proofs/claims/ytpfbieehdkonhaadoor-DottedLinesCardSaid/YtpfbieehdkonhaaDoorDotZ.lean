/- The reference's Line; the law DottedLines, walked. -/
import Derived.Test.YtpfbieehdkonhaaDoorDotY
import Derived.Test.YtpfbieehdkonhaaDoorDotD
import Derived.Test.YtpfbieehdkonhaaDoorNamO
import Derived.Deep.RegionLaw
namespace Go.Proofs.YtpfbieehdkonhaaDoor
open Go.RowKit

/-- strings appended to a row of one's own that is not nil: one step of a region -/
theorem step_append_seen {w : World} {ops : Array Oper} {o : Oper} {a : Act} {K : Act → World → Prop} {Q : Exit → Act → World → Prop} {E : Prop} (hgd : o.guard = none) (s x : Operand)
    (ho : o.op = .call { callee := .builtin .append, args := #[s, x], argTypes := #[28, 28] }) (base : Nat) (v : Value) (n : Nat) (xs : List Value) (hs : a.eval s = v) (hown : w.ownsRow base 9 1 v n xs) (hv : v ≠ .slice none 0 0)
    (B : Nat) (A : Option Addr) (m c : Nat) (zs : List ByteArray) (hx : a.eval x = .slice A m c) (hr : Sees w B A m (texts zs)) (N : Nat) (hN : n + m = N) (ys : List Value) (hys : xs ++ texts zs = ys) (h63 : N ≤ 1073741824) (hbase : base ≤ w.heap.size)
    (h : ∀ v' w', w'.ownsRow base 9 1 v' N ys → w.grownBy w' v.ownBlock → v' ≠ .slice none 0 0 → K (a.put o.dst v') w') : if Region.wanted o (yielded ops a.tmps) = true then Oper.wp Tryd.prog o a w K Q else E := by
  have hw : Region.wanted o (yielded ops a.tmps) = true := by simp [Region.wanted, hgd]
  rw [if_pos hw]
  subst hN
  subst hys
  obtain ⟨i, hi, hz0, hz1, hz2⟩ := info_parts text_info
  rcases A with _ | ad
  · have hm : m = 0 := by
      rcases Nat.eq_zero_or_pos m with h0 | h0
      · exact h0
      · obtain ⟨b, off, e, _⟩ := hr.addr h0
        cases e
    subst hm
    have hn : texts zs = [] := List.eq_nil_of_length_eq_zero hr.len
    rw [hn, List.append_nil] at h
    rcases hown.2 with ⟨rfl, _⟩ | ⟨g, cap, cur, rfl, _, _, hnc, _⟩
    · exact absurd rfl hv
    · have hrun := run_append_room_src (P := Tryd.prog) w 28 28 o.type 9 i Tryd.underlying28 hi g 0 n cap (.slice none 0 c) 0 [] (Src.ofNil w Tryd.underlying28 c) (by omega) (by simp) (by simp)
      have hsame : w.setCells g (0 + n * i.size) [] = w := rfl
      rw [hsame] at hrun
      unfold Oper.wp
      simp [execOp, ho, resolve, invoke, builtin, hs, hx, hrun, Result.andThen]
      exact h _ _ hown (World.grownBy.refl w _) hv
  · have hcells : ∀ j u, (texts zs)[j]? = some u → w.cell? (ad.add j) = some u := by
      intro j u hu
      have hj : j < (texts zs).length := (List.getElem?_eq_some_iff.1 hu).1
      obtain ⟨b, off, e, _, hc⟩ := hr.addr (by have := hr.len; omega)
      injection e with e
      subst e
      rw [show (⟨b, off, none⟩ : Addr).add j = ⟨b, off + j, none⟩ from by unfold Addr.add; split <;> simp_all]
      exact hc j u hu
    refine wp_append_own w s x 28 ho base 9 i (.string ⟨#[]⟩) 1 16 Tryd.underlying28 hi hz0 hz1 hz2 rfl (by decide) v n xs hs hown ad m c (texts zs) hx (by rw [hr.len]; omega) hcells ?_ (by unfold maxLen; omega) (by omega) hbase ?_
    · intro u hu
      simp only [texts, List.mem_map] at hu
      obtain ⟨z, _, rfl⟩ := hu
      rfl
    · intro v' w' h1 h2 h3
      exact h v' w' h1 h2 fun e => hv (h3.1 e).1
theorem own_none (w : World) (base : Nat) (hb : base ≤ w.heap.size) : (w.alloc (.cells #[] 9)).ownsRow base 9 1 (.slice (some ⟨w.heap.size, 0, none⟩) 0 0) 0 [] :=
  ⟨rfl, .inr ⟨w.heap.size, 0, #[], rfl, hb, heap_alloc_new w _, Nat.le_refl _, by unfold maxLen; omega, rfl, rfl⟩⟩

theorem textL_take (L : List (List UInt8)) (m : Nat) : (textL L).take m = texts ((L.take m).map mk) := by simp [textL, texts, List.map_take]
theorem textL_drop (L : List (List UInt8)) (m : Nat) : (textL L).drop m = texts ((L.drop m).map mk) := by simp [textL, texts, List.map_drop]
theorem RowD.sees {base g n c : Nat} {D : List (List UInt8)} {W : World} (h : RowD base g n c D W) : Sees W W.heap.size (some ⟨g, 0, none⟩) n (textL D) := by
  obtain ⟨A, c', e, hs⟩ := Sees.own h
  injection e with e1 _ _
  rw [e1]; exact hs
theorem Sees.front {w : World} {B : Nat} {A : Option Addr} {n : Nat} {xs : List Value} (h : Sees w B A n xs) {m : Nat} (hm : m ≤ n) : Sees w B A m (xs.take m) := by
  refine ⟨by rw [List.length_take, h.len]; omega, fun h0 => ?_⟩
  obtain ⟨b, off, e, hb, hc⟩ := h.addr (by omega)
  refine ⟨b, off, e, hb, fun j u hu => hc j u ?_⟩
  rw [List.getElem?_take] at hu
  split at hu
  · exact hu
  · cases hu
theorem Sees.back {w : World} {B g c : Nat} {n : Nat} {xs : List Value} (h : Sees w B (some ⟨g, 0, none⟩) n xs) {m : Nat} (hm : m ≤ n) (hn : n ≤ c) :
    Sees w B (if c = m then some ⟨g, 0, none⟩ else some ⟨g, m, none⟩) (n - m) (xs.drop m) := by
  refine ⟨by rw [List.length_drop, h.len], fun h0 => ?_⟩
  rw [if_neg (by omega)]
  obtain ⟨b, off, e, hb, hc⟩ := h.addr (by omega)
  injection e with e
  injection e with e1 e2 _
  subst e1
  subst e2
  refine ⟨g, m, rfl, hb, fun j u hu => ?_⟩
  have := hc (m + j) u (by rw [List.getElem?_drop] at hu; exact hu)
  rwa [Nat.zero_add] at this

/-- the place t holds the first of the smallest of those up to k -/
def First (L : List (List UInt8)) (t k : Nat) : Prop :=
  t < k ∧ ∀ i x y, L[t]? = some x → L[i]? = some y → (i < t → cK x y = -1) ∧ (t < i → i < k → cK y x ≠ -1)
theorem First.start (L : List (List UInt8)) : First L 0 1 := ⟨by omega, fun i x y _ _ => ⟨fun h => by omega, fun _ _ => by omega⟩⟩
theorem First.keep {L : List (List UInt8)} {t k : Nat} {x z : List UInt8} (h : First L t k) (hx : L[t]? = some x) (hz : L[k]? = some z) (hc : cK z x ≠ -1) : First L t (k + 1) := by
  refine ⟨by have := h.1; omega, fun i x' y hx' hy => ⟨(h.2 i x' y hx' hy).1, fun h1 h2 => ?_⟩⟩
  by_cases hik : i = k
  · subst hik
    rw [hz] at hy; injection hy with hy
    rw [hx] at hx'; injection hx' with hx'
    rw [← hy, ← hx']; exact hc
  · exact (h.2 i x' y hx' hy).2 h1 (by omega)
theorem First.take {L : List (List UInt8)} {t k : Nat} {x z : List UInt8} (h : First L t k) (hx : L[t]? = some x) (hz : L[k]? = some z) (hc : cK z x = -1) : First L k (k + 1) := by
  refine ⟨by omega, fun i x' y hx' hy => ⟨fun h1 => ?_, fun h1 h2 => by omega⟩⟩
  rw [hz] at hx'; injection hx' with hx'
  rw [← hx']
  rcases Nat.lt_trichotomy i t with h2 | h2 | h2
  · exact cK_ord.trans z x y hc ((h.2 i x y hx hy).1 h2)
  · subst h2
    rw [hx] at hy; injection hy with hy
    rw [← hy]; exact hc
  · exact cK_ord.lt_le hc ((h.2 i x y hx hy).2 h2 h1)
theorem First.done {L : List (List UInt8)} {t : Nat} (h : First L t L.length) : ∃ x, L[t]? = some x ∧ L = L.take t ++ x :: L.drop (t + 1) ∧ (∀ y ∈ L.take t, cK x y = -1) ∧ (∀ y ∈ L.drop (t + 1), cK y x ≠ -1) := by
  have ht : t < L.length := h.1
  have hx : L[t]? = some L[t] := List.getElem?_eq_getElem ht
  refine ⟨L[t], hx, ?_, fun y hy => ?_, fun y hy => ?_⟩
  · rw [← List.drop_eq_getElem_cons ht, List.take_append_drop]
  · obtain ⟨i, hi, rfl⟩ := List.mem_iff_getElem.1 hy
    rw [List.length_take] at hi
    refine (h.2 i L[t] _ hx ?_).1 (by omega)
    rw [List.getElem?_eq_getElem (by omega), List.getElem_take]
  · obtain ⟨i, hi, rfl⟩ := List.mem_iff_getElem.1 hy
    rw [List.length_drop] at hi
    refine (h.2 (t + 1 + i) L[t] _ hx ?_).2 (by omega) (by omega)
    rw [List.getElem?_eq_getElem (by omega), List.getElem_drop]

theorem lineT_snoc (D : List (List UInt8)) (x : List UInt8) : lineT (D ++ [x]) = (if D = [] then [] else lineT D ++ [32]) ++ textN x := by
  unfold lineT
  cases D with
  | nil => simp [Lib.join_one]
  | cons y r =>
    rw [if_neg (by simp), List.cons_append, List.map_cons, List.map_cons, Lib.join_cons, Lib.join_cons]
    simp [Lib.joinTail]
theorem lineT_empty {D : List (List UInt8)} (hN : Nam D) : (lineT D = []) ↔ D = [] := by
  constructor
  · intro h
    cases D with
    | nil => rfl
    | cons x r =>
      exfalso
      unfold lineT at h
      rw [List.map_cons, Lib.join_cons] at h
      have h1 : textN x = [] := List.append_eq_nil_iff.1 h |>.1
      cases hn : nameL x with
      | none => have := hN x (by simp); rw [hn] at this; cases this
      | some L =>
        rw [textN_some hn] at h1
        obtain ⟨t, ht⟩ := dotT_ends L
        rw [ht] at h1
        simp at h1
  · intro h; subst h; rfl
theorem lineT_len (D : List (List UInt8)) : (lineT D).length ≤ 1021 * D.length := textN_bound D

theorem RefCmp_any (X Y : ByteArray) (x y : List UInt8) (w : World) (hX : X = mk x) (hY : Y = mk y) (h : (nameL x).isSome = true) (k : (nameL y).isSome = true) :
    Calls Tryd.prog 30 #[.string X, .string Y] w fun e w' => e = .returned (.int .i64 (cK x y)) ∧ Below w.heap.size w w' := by
  rw [← cmpN_key h k]
  exact RefCompare_any X Y x y w hX hY

/-- where the reference's Line stands: out is put out, rest is left -/
def Sel (l out rest : List (List UInt8)) : Prop := St cK l (out ++ rest) ∧ Srt cK out ∧ ∀ u ∈ out, ∀ y ∈ rest, cK y u ≠ -1
theorem Sel.start (l : List (List UInt8)) : Sel l [] l := ⟨St.refl _, Srt.nil, fun u hu => by cases hu⟩
theorem Sel.step {l out rest A B : List (List UInt8)} {x : List UInt8} (h : Sel l out rest) (hr : rest = A ++ x :: B) (hA : ∀ y ∈ A, cK x y = -1) (hB : ∀ y ∈ B, cK y x ≠ -1) : Sel l (out ++ [x]) (A ++ B) := by
  subst hr
  exact sel_step cK_ord h.1 h.2.1 h.2.2 hA hB
theorem Sel.nam {l out rest : List (List UInt8)} (h : Sel l out rest) (hN : Nam l) : Nam out ∧ Nam rest := ⟨(hN.st h.1).left, (hN.st h.1).right⟩

set_option maxHeartbeats 4000000 in
theorem RefLine_any (A : Option Addr) (n c : Nat) (l : List (List UInt8)) (w : World) (hs : Sees w w.heap.size A n (textL l)) (hn : n ≤ 30) :
    Calls Tryd.prog 14 #[.slice A n c] w fun e w' => ∃ D, Srt cK D ∧ St cK (namesL l) D ∧ e = .returned (.string (mk (lineT D))) ∧ Below w.heap.size w w' := by
  have hl := textL_len hs
  have HL := Lib.hid hl
  have HS := Lib.hid hs
  obtain ⟨i0, hi0, hz0, hz1, hz2⟩ := info_parts text_info
  clear hs hl
  go_enter Tryd.func14, Tryd.ntmps14
  go_wp2_with fail
  go_loopw [3, 4] (fun v j wr => ∃ (k m : Nat), k ≤ n ∧ j = .int .i64 (k : Nat) ∧ m = (namesL (l.take k)).length ∧ wr.ownsRow w.heap.size 9 1 v m (textL (namesL (l.take k))) ∧ Below w.heap.size w wr) (fun _ j _ => n - (intOf j).toNat)
  case atStart => exact ⟨0, 0, Nat.zero_le _, rfl, by simp [namesL], by simpa [namesL, textL, texts] using World.ownsRow_nil _ _ _ _, Below.refl _ _⟩
  case round =>
    obtain ⟨k, m, hk, rfl, hm, hown, hB⟩ := hrel
    have HB := Lib.hid hB
    have HO := Lib.hid hown
    have HM := Lib.hid hm
    have hmk : m ≤ k := by rw [hm]; exact namesL_len l k
    clear hown hm
    by_cases hlt : k < n
    · have g1 : (k : Int) < (n : Int) := by omega
      have hkl : k < l.length := by have := HL.out; omega
      obtain ⟨b, off, rfl, hbl, hc⟩ := textL_at (HS.out.below hB) hlt hkl
      obtain ⟨x, hx⟩ : ∃ x, x = l[k] := ⟨_, rfl⟩
      obtain ⟨X, hX⟩ : ∃ X, X = mk x := ⟨_, rfl⟩
      rw [← hx, ← hX] at hc
      have HXX := Lib.hid hX
      have htk := namesL_take hkl
      rw [← hx] at htk
      have HTK := Lib.hid htk
      have HBL := Lib.hid (show b < wr.heap.size by have := hB.size; omega)
      clear hX hx hB htk hbl
      go_wp2_with fail
      refine (RefRight_any X x _ HXX.out).mono ?_
      cases hN : (nameL x).isSome with
      | false =>
        rintro e w1 ⟨rfl, hB1⟩
        have HT2 := Lib.hid (show namesL (l.take (k + 1)) = namesL (l.take k) by rw [HTK.out, hN]; simp)
        have HO1 := Lib.hid (own_below HO.out hB1)
        have HB1 := Lib.hid (HB.out.trans (hB1.mono HB.out.size))
        clear hB1 hN
        go_wp2_with fail
        go_roundw
        case rel => exact ⟨k + 1, m, by omega, by go_num, by rw [HT2.out]; exact HM.out, by rw [HT2.out]; exact HO1.out, HB1.out⟩
        case measure => simp [intOf]; omega
      | true =>
        rintro e w1 ⟨rfl, hB1⟩
        have hc1 := (hB1.cell (p := ⟨b, off + k, none⟩) HBL.out).trans hc
        have HT2 := Lib.hid (show namesL (l.take (k + 1)) = namesL (l.take k) ++ [x] by rw [HTK.out, hN]; simp)
        have HO1 := Lib.hid (own_below HO.out hB1)
        have HB1 := Lib.hid (HB.out.trans (hB1.mono HB.out.size))
        have H63 : Hid (m + 1 ≤ maxLen) := Lib.hid (by unfold maxLen; omega)
        have H47 : Hid ((m + 1) * 16 ≤ 140737488355328) := Lib.hid (by omega)
        clear hB1 hN
        go_wp2_with (at_builtin; refine wpList_append_own _ rfl _ _ 28 rfl w.heap.size 9 i0 (.string ⟨#[]⟩) 1 16 Tryd.underlying28 hi0 hz0 hz1 hz2 rfl (by decide) _ _ _ rfl (HO1.out.alloc _) ⟨w1.heap.size, 0, none⟩ 1 1 [.string X] rfl rfl (news1 _ _ _) (one1 _ rfl) H63.out H47.out (by have := HB1.out.size; simp; omega) ?_; intro v2 w2 hown2 hgrow _)
        have hown3 : w2.ownsRow w.heap.size 9 1 v2 (m + 1) (textL (namesL (l.take (k + 1)))) := by
          rw [HT2.out, textL_snoc, ← HXX.out]; simpa using hown2
        have HO3 := Lib.hid hown3
        have HB2 := Lib.hid ((HB1.out.alloc HB1.out.size _).grown hgrow (by have := HB1.out.size; simp; omega) (fun j hj => (HO1.out.lt j hj).1))
        clear hown2 hown3 hgrow
        go_wp2_with fail
        go_roundw
        case rel => exact ⟨k + 1, m + 1, by omega, by go_num, by rw [HT2.out]; have := HM.out; simp; omega, HO3.out, HB2.out⟩
        case measure => simp [intOf]; omega
    · obtain rfl : k = n := by omega
      have hall : l.take k = l := List.take_of_length_le (by have := HL.out; omega)
      rw [hall] at HO HM
      have HNam := Lib.hid (namesL_nam l)
      have hm30 : m ≤ 30 := by omega
      clear hB
      go_wp2_with fail
      go_loopw [3, 5] (fun v u wr2 => ∃ (out rest : List (List UInt8)) (r : Nat), r = rest.length ∧ out.length + r = m ∧ u = .string (mk (lineT out)) ∧ Sel (namesL l) out rest ∧ wr2.ownsRow w.heap.size 9 1 v r (textL rest) ∧ Below w.heap.size w wr2) (fun v _ _ => match v with | .slice _ r _ => r | _ => 0)
      case atStart => exact ⟨[], namesL l, m, HM.out, by simp, rfl, Sel.start _, HO.out, HB.out⟩
      case round =>
        obtain ⟨out, rest, r, hr, hor, rfl, hsel, hown, hB⟩ := hrel
        obtain ⟨A1, c1, rfl, hsee⟩ := Sees.own hown
        have HR := Lib.hid hr
        have HOR := Lib.hid hor
        have HSEL := Lib.hid hsel
        have HO2 := Lib.hid hown
        have HB2 := Lib.hid hB
        have HSEE := Lib.hid hsee
        have hr30 : r ≤ 30 := by omega
        obtain ⟨U, hU⟩ : ∃ U, U = mk (lineT out) := ⟨_, rfl⟩
        rw [← hU]
        have hUz : U.size ≤ 40000 := by rw [hU, mk_size]; have := lineT_len out; omega
        have HU := Lib.hid hU
        clear hr hor hsel hown hB hsee hU
        by_cases h0 : r = 0
        · have g2 : ¬ (0 : Int) < (r : Int) := by omega
          have hrest : rest = [] := List.eq_nil_of_length_eq_zero (by have := HR.out; omega)
          have hs3 := HSEL.out
          rw [hrest] at hs3
          have HS3 := Lib.hid hs3
          clear hs3 hrest h0
          go_wp2_with fail
          go_ret
          exact ⟨out, HS3.out.2.1, by have := HS3.out.1; rwa [List.append_nil] at this, by rw [← HU.out]; rfl, HB2.out⟩
        · have g2 : (0 : Int) < (r : Int) := by omega
          obtain ⟨g, hA1, hrc⟩ : ∃ g, A1 = some ⟨g, 0, none⟩ ∧ r ≤ c1 := by
            rcases HO2.out.2 with ⟨_, h'⟩ | ⟨g, cap, cur, h', _, _, hnc, _⟩
            · omega
            · injection h' with h1 _ h2
              exact ⟨g, h1, by rw [h2]; exact hnc⟩
          subst hA1
          have HNR := Lib.hid (HSEL.out.nam HNam.out).2
          have HNO := Lib.hid (HSEL.out.nam HNam.out).1
          clear h0
          go_wp2_with fail
          have hr0 : 0 < r := by omega
          rw [show decide (0 < r) = true from decide_eq_true hr0]
          go_loopw [6, 7] (fun t' q' wr3 => ∃ (t q : Nat), t' = .int .i64 (t : Nat) ∧ q' = .int .i64 (q : Nat) ∧ q ≤ r ∧ First rest t q ∧ wr3.ownsRow w.heap.size 9 1 (.slice (some ⟨g, 0, none⟩) r c1) r (textL rest) ∧ Below w.heap.size w wr3) (fun _ q' _ => r - (intOf q').toNat)
          case atStart => exact ⟨0, 1, rfl, rfl, by omega, First.start rest, HO2.out, HB2.out⟩
          case round =>
            clear HO2 HB2 HSEE
            obtain ⟨t, q, rfl, rfl, hq, hfi, hown, hB⟩ := hrel
            have htq := hfi.1
            have HFI := Lib.hid hfi
            have HO3 := Lib.hid (show RowD w.heap.size g r c1 rest wr from hown)
            have HB3 := Lib.hid hB
            clear hfi hown hB
            by_cases hlt2 : q < r
            · have g3 : (q : Int) < (r : Int) := by omega
              have htr : t < r := by omega
              have hqR : q < rest.length := by have := HR.out; omega
              have htR : t < rest.length := by have := HR.out; omega
              obtain ⟨z, hz⟩ : ∃ z, z = rest[q] := ⟨_, rfl⟩
              obtain ⟨x, hx⟩ : ∃ x, x = rest[t] := ⟨_, rfl⟩
              have hzR : rest[q]? = some z := by rw [List.getElem?_eq_getElem hqR, hz]
              have hxR : rest[t]? = some x := by rw [List.getElem?_eq_getElem htR, hx]
              have c1' := HO3.out.cell hzR
              have c2' := HO3.out.cell hxR
              have hglt : g < wr.heap.size := World.block_lt_of_cell? wr _ c1'
              obtain ⟨X, hX⟩ : ∃ X, X = mk x := ⟨_, rfl⟩
              obtain ⟨Z, hZ⟩ : ∃ Z, Z = mk z := ⟨_, rfl⟩
              rw [← hZ] at c1'
              rw [← hX] at c2'
              have HX := Lib.hid hX
              have HZ := Lib.hid hZ
              have HNz := Lib.hid (HNR.out z (by rw [hz]; exact List.getElem_mem hqR))
              have HNx := Lib.hid (HNR.out x (by rw [hx]; exact List.getElem_mem htR))
              have d1 : ∀ p : Later wr, p.val.cell? ⟨g, q, none⟩ = some (.string Z) := fun p => (p.below.cell (p := ⟨g, q, none⟩) hglt).trans c1'
              have d2 : ∀ p : Later wr, p.val.cell? ⟨g, t, none⟩ = some (.string X) := fun p => (p.below.cell (p := ⟨g, t, none⟩) hglt).trans c2'
              have r1 : IntKind.i64.wrap (q : Int) = (q : Int) := by rw [IntKind.wrap_i64]; omega
              have r2 : IntKind.i64.wrap (t : Int) = (t : Int) := by rw [IntKind.wrap_i64]; omega
              obtain ⟨q', hq'⟩ : ∃ v, v = cK z x := ⟨_, rfl⟩
              have HVV := Lib.hid hq'
              have HZR := Lib.hid hzR
              have HXR := Lib.hid hxR
              clear hX hZ hz hx hq' c1' c2' hzR hxR
              go_wp2_with fail
              refine region_later (by kernel_rfl) ?_
              repeat (quiet_step ((refine later_call (v := .int .i64 q') ?_; rw [HVV.out]; exact RefCmp_any Z X z x _ HZ.out HX.out HNz.out HNx.out)))
              refine wpQuiet_nil ?_
              rintro _ ⟨q2, rfl⟩
              obtain ⟨W2, hB2⟩ := q2
              simp only []
              have HO4 := Lib.hid (HO3.out.below hB2)
              have HB4 := Lib.hid (HB3.out.trans (hB2.mono HB3.out.size))
              clear d1 d2 r1 r2
              by_cases hv : q' < 0
              · have hvm : cK z x = -1 := by
                  have := HVV.out
                  rcases cK_ord.range z x with h | h | h <;> omega
                have HF2 := Lib.hid (HFI.out.take HXR.out HZR.out hvm)
                clear hvm
                go_wp2_with fail
                go_roundw
                case rel => exact ⟨q, q + 1, rfl, by go_num, by omega, HF2.out, HO4.out, HB4.out⟩
                case measure => simp [intOf]; omega
              · have hvm : cK z x ≠ -1 := by have := HVV.out; omega
                have HF2 := Lib.hid (HFI.out.keep HXR.out HZR.out hvm)
                clear hvm
                go_wp2_with fail
                go_roundw
                case rel => exact ⟨t, q + 1, rfl, by go_num, by omega, HF2.out, HO4.out, HB4.out⟩
                case measure => simp [intOf]; omega
            · obtain rfl : q = r := by omega
              have hfi2 := HFI.out
              rw [show q = rest.length from HR.out] at hfi2
              obtain ⟨x, hxR, hsp, hA, hB⟩ := hfi2.done
              have HSEL2 := Lib.hid (HSEL.out.step hsp hA hB)
              have hNx : (nameL x).isSome = true := HNR.out x (by rw [hsp]; simp)
              have c2' := HO3.out.cell hxR
              have hglt : g < wr.heap.size := World.block_lt_of_cell? wr _ c2'
              obtain ⟨X, hX⟩ : ∃ X, X = mk x := ⟨_, rfl⟩
              rw [← hX] at c2'
              have HXX := Lib.hid hX
              have htq2 : t < q := htq
              obtain ⟨T, hT⟩ : ∃ T, T = mk (textN x) := ⟨_, rfl⟩
              have hTz : T.size ≤ 1020 := by rw [hT, mk_size]; exact textN_len x
              have HT := Lib.hid hT
              have HSP := Lib.hid hsp
              have HLT := Lib.hid (show lineT (out ++ [x]) = (if out = [] then [] else lineT out ++ [32]) ++ textN x from lineT_snoc out x)
              have r2 : IntKind.i64.wrap (t : Int) = (t : Int) := by rw [IntKind.wrap_i64]; omega
              clear hX hT hsp hA hB hxR hfi2 hNx
              by_cases hout : out = []
              · have g4 : U.toList.isEmpty = true := by rw [HU.out, mk_isEmpty, hout]; rfl
                have HUT := Lib.hid (show U ++ T = mk (lineT (out ++ [x])) by rw [HLT.out, if_pos hout, HU.out, HT.out, mk_append, hout]; rfl)
                clear hout
                go_wp2_with fail
                refine (RefText_any X x _ HXX.out).mono ?_
                rw [← HT.out]
                rintro e w5 ⟨rfl, hB5⟩
                have HO5 := Lib.hid (HO3.out.below hB5)
                have HB5 := Lib.hid (HB3.out.trans (hB5.mono HB3.out.size))
                clear hB5 c2'
                have s1 : t ≤ c1 := by omega
                have s2 : t + 1 ≤ q := by omega
                have s4 : (0 : Int) ≤ (t : Int) + 1 := by omega
                have s5 : (t : Int) + 1 ≤ (q : Int) := by omega
                have s3 : IntKind.i64.wrap ((t : Int) + 1) = ((t + 1 : Nat) : Int) := by rw [IntKind.wrap_i64] <;> omega
                go_wp2_with fail
                have HS1 := Lib.hid (show Sees w5 w5.heap.size (some ⟨g, 0, none⟩) t (texts ((rest.take t).map mk)) from by have := HO5.out.sees.front (m := t) (by omega); rwa [textL_take] at this)
                have HS2 := Lib.hid (show Sees w5 w5.heap.size (if c1 = t + 1 then some ⟨g, 0, none⟩ else some ⟨g, t + 1, none⟩) (q - (t + 1)) (texts ((rest.drop (t + 1)).map mk)) from by have := HO5.out.sees.back (m := t + 1) (by omega) hrc; rwa [textL_drop] at this)
                go_region_law (first
                  | (refine step_append_seen (by rfl) (.tmp 57) (.tmp 60) (by rfl) w.heap.size (.slice (some ⟨w5.heap.size, 0, none⟩) 0 0) 0 [] (by rfl) (own_none w5 _ HB5.out.size) (by simp) w5.heap.size (some ⟨g, 0, none⟩) t c1 ((rest.take t).map mk) (by rfl) (HS1.out.below ((Below.refl _ w5).alloc (Nat.le_refl _) _).drew) t (Nat.zero_add t) (textL (rest.take t)) (by rfl) (by omega) (by have := HB5.out.size; simp; omega) ?_; intro v1 w1 hown1 hgrow1 hne1; have HB51 := Lib.hid (((Below.refl w5.heap.size w5).alloc (Nat.le_refl _) _).drew.grown hgrow1 (by simp) (fun z hz => by simp [Value.ownBlock] at hz; omega)); clear hgrow1; have HO6 := Lib.hid hown1; clear hown1; have HN1 := Lib.hid hne1; clear hne1)
                  | (refine step_append_seen (by rfl) (.tmp 61) (.tmp 65) (by rfl) w.heap.size v1 t (textL (rest.take t)) (by rfl) HO6.out HN1.out w5.heap.size (if c1 = t + 1 then some ⟨g, 0, none⟩ else some ⟨g, t + 1, none⟩) (q - (t + 1)) (c1 - (t + 1)) ((rest.drop (t + 1)).map mk) (by rfl) (HS2.out.below HB51.out) (q - 1) (by omega) (textL (rest.take t ++ rest.drop (t + 1))) (by simp [textL, texts]) (by omega) (by have := HB51.out.size; have := HB5.out.size; omega) ?_; intro v2 w2 hown2 hgrow2 _; obtain ⟨A2, c2, rfl, _⟩ := Sees.own hown2; have HB7 := Lib.hid ((HB5.out.trans (HB51.out.mono HB5.out.size)).grown hgrow2 (by have := HB51.out.size; have := HB5.out.size; omega) (fun z hz => (HO6.out.lt z hz).1)); have HO7 := Lib.hid hown2; clear hown2 hgrow2))
                go_wp2_with fail
                all_goals
                  go_roundw
                  case rel => exact ⟨out ++ [x], rest.take t ++ rest.drop (t + 1), by have := HR.out; have := HOR.out; simp; omega, HUT.out, HSEL2.out, by rw [show (rest.take t ++ rest.drop (t + 1)).length = q - 1 by have := HR.out; simp; omega]; exact HO7.out, HB7.out⟩
                  case measure => omega
              · have g4 : U.toList.isEmpty = false := by
                  rw [HU.out, mk_isEmpty]
                  cases h : lineT out with
                  | nil => exact absurd ((lineT_empty HNO.out).1 h) hout
                  | cons _ _ => rfl
                have HUT := Lib.hid (show (U ++ ⟨#[32]⟩) ++ T = mk (lineT (out ++ [x])) by rw [HLT.out, if_neg hout, HU.out, HT.out, show (⟨#[32]⟩ : ByteArray) = mk [32] from rfl, mk_append, mk_append])
                clear hout
                go_wp2_with fail
                refine (RefText_any X x _ HXX.out).mono ?_
                rw [← HT.out]
                rintro e w5 ⟨rfl, hB5⟩
                have HO5 := Lib.hid (HO3.out.below hB5)
                have HB5 := Lib.hid (HB3.out.trans (hB5.mono HB3.out.size))
                clear hB5 c2'
                have s1 : t ≤ c1 := by omega
                have s2 : t + 1 ≤ q := by omega
                have s4 : (0 : Int) ≤ (t : Int) + 1 := by omega
                have s5 : (t : Int) + 1 ≤ (q : Int) := by omega
                have s3 : IntKind.i64.wrap ((t : Int) + 1) = ((t + 1 : Nat) : Int) := by rw [IntKind.wrap_i64] <;> omega
                go_wp2_with fail
                have HS1 := Lib.hid (show Sees w5 w5.heap.size (some ⟨g, 0, none⟩) t (texts ((rest.take t).map mk)) from by have := HO5.out.sees.front (m := t) (by omega); rwa [textL_take] at this)
                have HS2 := Lib.hid (show Sees w5 w5.heap.size (if c1 = t + 1 then some ⟨g, 0, none⟩ else some ⟨g, t + 1, none⟩) (q - (t + 1)) (texts ((rest.drop (t + 1)).map mk)) from by have := HO5.out.sees.back (m := t + 1) (by omega) hrc; rwa [textL_drop] at this)
                go_region_law (first
                  | (refine step_append_seen (by rfl) (.tmp 57) (.tmp 60) (by rfl) w.heap.size (.slice (some ⟨w5.heap.size, 0, none⟩) 0 0) 0 [] (by rfl) (own_none w5 _ HB5.out.size) (by simp) w5.heap.size (some ⟨g, 0, none⟩) t c1 ((rest.take t).map mk) (by rfl) (HS1.out.below ((Below.refl _ w5).alloc (Nat.le_refl _) _).drew) t (Nat.zero_add t) (textL (rest.take t)) (by rfl) (by omega) (by have := HB5.out.size; simp; omega) ?_; intro v1 w1 hown1 hgrow1 hne1; have HB51 := Lib.hid (((Below.refl w5.heap.size w5).alloc (Nat.le_refl _) _).drew.grown hgrow1 (by simp) (fun z hz => by simp [Value.ownBlock] at hz; omega)); clear hgrow1; have HO6 := Lib.hid hown1; clear hown1; have HN1 := Lib.hid hne1; clear hne1)
                  | (refine step_append_seen (by rfl) (.tmp 61) (.tmp 65) (by rfl) w.heap.size v1 t (textL (rest.take t)) (by rfl) HO6.out HN1.out w5.heap.size (if c1 = t + 1 then some ⟨g, 0, none⟩ else some ⟨g, t + 1, none⟩) (q - (t + 1)) (c1 - (t + 1)) ((rest.drop (t + 1)).map mk) (by rfl) (HS2.out.below HB51.out) (q - 1) (by omega) (textL (rest.take t ++ rest.drop (t + 1))) (by simp [textL, texts]) (by omega) (by have := HB51.out.size; have := HB5.out.size; omega) ?_; intro v2 w2 hown2 hgrow2 _; obtain ⟨A2, c2, rfl, _⟩ := Sees.own hown2; have HB7 := Lib.hid ((HB5.out.trans (HB51.out.mono HB5.out.size)).grown hgrow2 (by have := HB51.out.size; have := HB5.out.size; omega) (fun z hz => (HO6.out.lt z hz).1)); have HO7 := Lib.hid hown2; clear hown2 hgrow2))
                go_wp2_with fail
                all_goals
                  go_roundw
                  case rel => exact ⟨out ++ [x], rest.take t ++ rest.drop (t + 1), by have := HR.out; have := HOR.out; simp; omega, HUT.out, HSEL2.out, by rw [show (rest.take t ++ rest.drop (t + 1)).length = q - 1 by have := HR.out; simp; omega]; exact HO7.out, HB7.out⟩
                  case measure => omega
end Go.Proofs.YtpfbieehdkonhaaDoor
