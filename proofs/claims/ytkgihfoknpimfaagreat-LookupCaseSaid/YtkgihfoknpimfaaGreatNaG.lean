/- NaG: texts NamG of our own, joined. No statement of the seat is proved here. -/
import Derived.Test.YtkgihfoknpimfaaGreatNaE
import Derived.Test.YtkgihfoknpimfaaGreatNaI
import Derived.Test.YtkgihfoknpimfaaGreatOcJ
import Derived.Deep.AppendSrc
namespace Go.Proofs.YtkgihfoknpimfaaGreat
set_option maxRecDepth 20000
open Go.RowKit

/-- strings appended to a row of one's own that is not nil, nil or not themselves -/
theorem append_seen {w : World} {ops : Array Oper} {rest : List Oper} {o : Oper} {a : Act} {Q : Exit → Act → World → Prop} (hgd : o.guard = none) (s x : Operand)
    (ho : o.op = .call { callee := .builtin .append, args := #[s, x], argTypes := #[66, 66] }) (base : Nat) (v : Value) (n : Nat) (xs : List Value) (hs : a.eval s = v) (hown : w.ownsRow base 9 1 v n xs) (hv : v ≠ .slice none 0 0)
    (B : Nat) (A : Option Addr) (m c : Nat) (zs : List ByteArray) (hx : a.eval x = .slice A m c) (hr : Sees w B A m (texts zs)) (N : Nat) (hN : n + m = N) (ys : List Value) (hys : xs ++ texts zs = ys) (h63 : N ≤ 1073741824) (hbase : base ≤ w.heap.size)
    (h : ∀ v' w', w'.ownsRow base 9 1 v' N ys → w.grownBy w' v.ownBlock → v' ≠ .slice none 0 0 → wpList Tryz.prog ops Q rest (a.put o.dst v') w') : wpList Tryz.prog ops Q (o :: rest) a w := by
  subst hN
  subst hys
  obtain ⟨i, hi, hz0, hz1, hz2⟩ := info_parts text_info
  rcases A with _ | ad
  · have hm : m = 0 := by
      rcases Nat.eq_zero_or_pos m with h0 | h0
      · exact h0
      · obtain ⟨b, off, e, _⟩ := hr.addr h0
        cases e
    subst hm
    have hn : texts zs = [] := List.eq_nil_of_length_eq_zero hr.len
    rw [hn, List.append_nil] at h
    refine wpList_plain hgd fun K hK => ?_
    rcases hown.2 with ⟨rfl, _⟩ | ⟨g, cap, cur, rfl, _, _, hnc, _⟩
    · exact absurd rfl hv
    · have hrun := run_append_room_src (P := Tryz.prog) w 66 66 o.type 9 i Tryz.underlying66 hi g 0 n cap (.slice none 0 c) 0 [] (Src.ofNil w Tryz.underlying66 c) (by omega) (by simp) (by simp)
      have hsame : w.setCells g (0 + n * i.size) [] = w := rfl
      rw [hsame] at hrun
      unfold Oper.wp
      simp [execOp, ho, resolve, invoke, builtin, hs, hx, hrun, Result.andThen]
      exact hK _ _ (h _ _ hown (World.grownBy.refl w _) hv)
  · have hcells : ∀ j u, (texts zs)[j]? = some u → w.cell? (ad.add j) = some u := by
      intro j u hu
      have hj : j < (texts zs).length := (List.getElem?_eq_some_iff.1 hu).1
      obtain ⟨b, off, e, _, hc⟩ := hr.addr (by have := hr.len; omega)
      injection e with e
      subst e
      rw [show (⟨b, off, none⟩ : Addr).add j = ⟨b, off + j, none⟩ from by unfold Addr.add; split <;> simp_all]
      exact hc j u hu
    refine wpList_append_own _ hgd s x 66 ho base 9 i (.string ⟨#[]⟩) 1 16 Tryz.underlying66 hi hz0 hz1 hz2 rfl (by decide) v n xs hs hown ad m c (texts zs) hx (by rw [hr.len]; omega) hcells ?_ (by unfold maxLen; omega) (by omega) hbase ?_
    · intro u hu
      simp only [texts, List.mem_map] at hu
      obtain ⟨z, _, rfl⟩ := hu
      rfl
    · intro v' w' h1 h2 h3
      exact h v' w' h1 h2 fun e => hv (h3.1 e).1
theorem own_one (w : World) (base : Nat) (x : Value) (hb : base ≤ w.heap.size) : (w.alloc (.cells #[x] 9)).ownsRow base 9 1 (.slice (some ⟨w.heap.size, 0, none⟩) 1 1) 1 [x] :=
  ⟨rfl, .inr ⟨w.heap.size, 1, #[x], rfl, hb, heap_alloc_new w _, Nat.le_refl _, by unfold maxLen; omega, rfl, rfl⟩⟩

set_option maxHeartbeats 400000 in
theorem Piece_any (s : ByteArray) (n : Int) (w : World) (hs : s.size ≤ 1073741824) :
    Calls Tryz.prog 148 #[.string s, .int .i64 n] w fun e w' => e = .returned (.tuple #[.string (pieceR s n).1, .int .i64 (pieceR s n).2]) ∧ Below w.heap.size w w' := by
  cases hp : pB n
  · have hr : pieceR s n = (empty, 1) := by simp [pieceR, hp]
    rw [hr]
    clear hr
    go_enter Tryz.func148, Tryz.ntmps148
    go_wp2_with (go_at_call 127; refine (isPieceWidth_any _ _).mono ?_; rintro e w' ⟨rfl, rfl⟩)
    go_ret2
    exact ⟨rfl, Below.refl _ _⟩
  obtain ⟨a, rfl⟩ := Int.eq_ofNat_of_zero_le (show 0 ≤ n by have := pB_cases hp; omega)
  have ha : a ≤ 8 := by have := pB_cases hp; omega
  cases hf : fitB s.size a
  · have hr : pieceR s a = (empty, 3) := by simp [pieceR, hp, hf]
    rw [hr]
    clear hr
    go_enter Tryz.func148, Tryz.ntmps148
    go_wp2_with (first
      | (go_at_call 127; refine (isPieceWidth_any _ _).mono ?_; rintro e w' ⟨rfl, rfl⟩)
      | (go_at_call 163; refine (fits_any _ _ _ (by omega) ha).mono ?_; rintro e w' ⟨rfl, rfl⟩))
    go_ret2
    exact ⟨rfl, Below.refl _ _⟩
  · have hr : pieceR s a = (⟨(be s.size a).toArray⟩ ++ s, 0) := by simp [pieceR, hp, hf]
    rw [hr]
    clear hr
    have hbl : (be s.size a).length ≤ 8 := by rw [be_length]; omega
    go_enter Tryz.func148, Tryz.ntmps148
    go_wp2_with (first
      | (go_at_call 127; refine (isPieceWidth_any _ _).mono ?_; rintro e w' ⟨rfl, rfl⟩)
      | (go_at_call 163; refine (fits_any _ _ _ (by omega) ha).mono ?_; rintro e w' ⟨rfl, rfl⟩)
      | (go_at_call 164; refine (appendInteger_any _ 0 s.size a w.heap.size [] _ (World.ownsRow_nil _ _ _ _) (Nat.le_refl _) ha (by omega) (by omega)).mono ?_; rintro e w1 ⟨v1, rfl, hown, hB1⟩; have hcv := str_of_own (by simpa using hown)))
    go_ret2
    exact ⟨rfl, hB1⟩

set_option maxHeartbeats 400000 in
/-- a string among strings -/
theorem Index_any (A : Option Addr) (n c B : Nat) (L : List (List UInt8)) (V : ByteArray) (v : List UInt8) (w : World) (h : Sees w B A n (textL L)) (hV : V = mk v) (hn : n ≤ 1000000) :
    Calls Tryz.prog 162 #[.slice A n c, .string V] w fun e w' => (∃ r : Int, e = .returned (.int .i64 r) ∧ (0 ≤ r ↔ v ∈ L)) ∧ w = w' := by
  have hl := textL_len h
  have HV := Lib.hid hV
  have HL := Lib.hid hl
  clear hV hl
  go_enter Tryz.func162, Tryz.ntmps162
  go_wp2_with fail
  go_loop [8] (fun i => ∃ k : Nat, k ≤ n ∧ i = .int .i64 k ∧ v ∉ L.take k) (fun i => n - (intOf i).toNat)
  case atStart => exact ⟨0, Nat.zero_le _, rfl, by simp⟩
  case round =>
    obtain ⟨k, hk, rfl, hr⟩ := hrel
    have HR := Lib.hid hr
    clear hr
    by_cases hlt : k < n
    · have hx : k < L.length := by have := HL.out; omega
      obtain ⟨b, off, rfl, _, hc⟩ := textL_at h hlt hx
      obtain ⟨X, hX⟩ : ∃ X, X = mk L[k] := ⟨_, rfl⟩
      rw [← hX] at hc
      have heq : (V.toList == X.toList) = (v == L[k]) := by rw [HV.out, hX, mk_beq]
      by_cases hv : v = L[k]
      · have hq : (V.toList == X.toList) = true := by rw [heq]; simpa using hv
        have hm : v ∈ L := by rw [hv]; exact List.getElem_mem hx
        have HM := Lib.hid hm
        clear heq hX hv hm
        go_wp2_with fail
        go_ret
        exact ⟨⟨k, rfl, ⟨fun _ => HM.out, fun _ => by omega⟩⟩, rfl⟩
      · have hq : (V.toList == X.toList) = false := by rw [heq, beq_eq_false_iff_ne]; exact hv
        have hm : v ∉ L.take (k + 1) := by
          rw [List.take_succ_eq_append_getElem hx, List.mem_append, List.mem_singleton]
          exact fun h => h.elim HR.out hv
        have HM := Lib.hid hm
        clear heq hX hv hm
        go_wp2_with fail
        go_round
        case rel => exact ⟨k + 1, by omega, by go_num, HM.out⟩
        case measure => simp [intOf]; omega
    · obtain rfl : k = n := by omega
      go_wp2_with fail
      go_ret
      have := HR.out
      rw [List.take_of_length_le (by have := HL.out; omega)] at this
      exact ⟨⟨-1, rfl, ⟨fun h => absurd h (by omega), fun h => absurd h this⟩⟩, rfl⟩
theorem Contains_any (A : Option Addr) (n c B : Nat) (L : List (List UInt8)) (V : ByteArray) (v : List UInt8) (w : World) (h : Sees w B A n (textL L)) (hV : V = mk v) (hn : n ≤ 1000000) :
    Calls Tryz.prog 147 #[.slice A n c, .string V] w fun e w' => e = .returned (.bool (decide (v ∈ L))) ∧ w = w' := by
  have HV := Lib.hid hV
  clear hV
  go_enter Tryz.func147, Tryz.ntmps147
  go_wp2_with fail
  refine (Index_any A n c B L V v _ h HV.out hn).mono ?_
  rintro e w1 ⟨⟨r, rfl, hr⟩, rfl⟩
  have HR := Lib.hid hr
  clear hr
  go_wp2_with fail
  go_ret
  refine ⟨ret_bool ?_, rfl⟩
  by_cases hv : v ∈ L
  · simp [hv, HR.out.2 hv]
  · have h0 : ¬ 0 ≤ r := fun h => hv (HR.out.1 h)
    simp [hv]
    omega

set_option maxHeartbeats 400000 in
theorem Parent_any (S : ByteArray) (s : List UInt8) (w : World) (hS : S = mk s) (hb : s.length ≤ 1073741824) :
    Calls Tryz.prog 92 #[.string S] w fun e w' => e = .returned (.tuple #[.string (mk (parentN s).1), .bool (parentN s).2]) ∧ Below w.heap.size w w' := by
  have HS := Lib.hid hS
  have hroot : (S.toList == [0]) = (s == [0]) := by rw [hS]; exact mk_is _ _
  clear hS
  cases h : nameL s with
  | none =>
    have h' : (nameL s).isSome = false := by rw [h]; rfl
    have hp : parentN s = ([], false) := by unfold parentN; rw [h]
    rw [hp]
    clear hp h hroot
    go_enter Tryz.func92, Tryz.ntmps92
    go_wp2_with fail
    refine (Right_any S s _ HS.out hb).mono ?_
    rw [h']
    rintro e w1 ⟨rfl, hB1⟩
    go_wp2_with fail
    go_ret2
    exact ⟨rfl, hB1⟩
  | some L =>
    have h' : (nameL s).isSome = true := by rw [h]; rfl
    obtain ⟨he, hg, hl⟩ := nameL_is h
    cases L with
    | nil =>
      have hp : parentN s = ([], false) := by unfold parentN; rw [h]
      have hr : (S.toList == [0]) = true := by rw [hroot, he]; rfl
      rw [hp]
      clear hp h hroot he
      go_enter Tryz.func92, Tryz.ntmps92
      go_wp2_with fail
      refine (Right_any S s _ HS.out hb).mono ?_
      rw [h']
      rintro e w1 ⟨rfl, hB1⟩
      go_wp2_with fail
      go_ret2
      exact ⟨rfl, hB1⟩
    | cons x M =>
      have hp : parentN s = (enc M, true) := by unfold parentN; rw [h]
      have hc : cutL s = some (x, enc M) := by rw [he, cutL_enc hg]
      have hr : (S.toList == [0]) = false := by
        rw [hroot, beq_eq_false_iff_ne]
        intro e
        rw [e, cut_zero] at hc
        injection hc with hc
        injection hc with h1 _
        exact (hg x (by simp)).1 h1.symm
      rw [hp]
      clear hp h hroot he
      have HC := Lib.hid hc
      clear hc
      go_enter Tryz.func92, Tryz.ntmps92
      go_wp2_with fail
      refine (Right_any S s _ HS.out hb).mono ?_
      rw [h']
      rintro e w1 ⟨rfl, hB1⟩
      go_wp2_with fail
      refine (Cut_yes S s x (enc M) _ HS.out hb HC.out).mono ?_
      rintro e w2 ⟨rfl, hB2⟩
      go_wp2_with fail
      go_ret2
      exact ⟨rfl, hB1.trans (hB2.mono hB1.size)⟩

theorem piece_lab {x : List UInt8} (h : x.length ≤ 255) : pieceR (mk x) 1 = (mk (lab x), 0) := by
  unfold pieceR
  rw [if_pos (by rfl), if_pos (by rw [mk_size]; simp [fitB]; omega), mk_size]
  have e : be x.length (1 : Int).toNat = [UInt8.ofNat x.length] := by simp [be]
  rw [e]
  show (mk [UInt8.ofNat x.length] ++ mk x, (0 : Int)) = _
  rw [mk_append]
  rfl
theorem Piece_lab (X : ByteArray) (x : List UInt8) (w : World) (hX : X = mk x) (hx : x.length ≤ 63) :
    Calls Tryz.prog 148 #[.string X, .int .i64 1] w fun e w' => e = .returned (.tuple #[.string (mk (lab x)), .int .i64 0]) ∧ Below w.heap.size w w' := by
  subst hX
  have := Piece_any (mk x) 1 w (by rw [mk_size]; omega)
  rwa [piece_lab (by omega)] at this

theorem enc_len (L : List (List UInt8)) : (enc L).length = (labs L).length + 1 := by simp [enc]
/-- where the loop stands -/
def OfAt (L : List (List UInt8)) (k : Nat) (S : ByteArray) : Prop := S = mk (labs (L.take k)) ∧ (∀ x ∈ L.take k, x.length ≤ 63) ∧ S.size ≤ 254
theorem OfAt.start (L : List (List UInt8)) : OfAt L 0 ⟨#[]⟩ := ⟨rfl, by simp, by decide⟩
theorem OfAt.len {L : List (List UInt8)} {k : Nat} {S : ByteArray} (h : OfAt L k S) : S.size = (labs (L.take k)).length := by rw [h.1, mk_size]
theorem OfAt.step {L : List (List UInt8)} {k : Nat} {S : ByteArray} (h : OfAt L k S) (hk : k < L.length) (hx : L[k].length ≤ 63) (hs : S.size + 1 + L[k].length + 1 ≤ 255) : OfAt L (k + 1) (S ++ mk (lab L[k])) := by
  refine ⟨by rw [h.1, mk_append, labs_take hk], fun x hm => ?_, ?_⟩
  · rw [List.take_succ_eq_append_getElem hk, List.mem_append, List.mem_singleton] at hm
    rcases hm with hm | hm
    · exact h.2.1 x hm
    · subst hm; exact hx
  · rw [ByteArray.size_append, mk_size, lab_len]; omega
theorem OfAt.long1 {L : List (List UInt8)} {k : Nat} (hk : k < L.length) (hx : 63 < L[k].length) (hE : [] ∉ L) : ofN L = ([], 3) := ofN_long hE (.inl ⟨_, List.getElem_mem hk, hx⟩)
theorem OfAt.long2 {L : List (List UInt8)} {k : Nat} {S : ByteArray} (h : OfAt L k S) (hk : k < L.length) (hs : 255 < S.size + 1 + L[k].length + 1) (hE : [] ∉ L) : ofN L = ([], 3) := by
  refine ofN_long hE (.inr ?_)
  have h1 := labs_le L (k + 1)
  rw [labs_take hk, List.length_append, lab_len] at h1
  rw [enc_len]
  have := h.len
  omega
theorem OfAt.done {L : List (List UInt8)} {k : Nat} {S : ByteArray} (h : OfAt L k S) (hk : L.length ≤ k) (hE : [] ∉ L) : S ++ ⟨#[0]⟩ = mk (ofN L).1 ∧ (ofN L).2 = 0 := by
  have e : L.take k = L := List.take_of_length_le hk
  have hl := h.len
  rw [e] at hl
  have ho := ofN_ok hE (by
    rintro (⟨x, hx, hx'⟩ | hx)
    · have := h.2.1 x (by rw [e]; exact hx)
      omega
    · rw [enc_len] at hx
      have := h.2.2
      omega)
  rw [ho]
  refine ⟨?_, rfl⟩
  rw [h.1, e]
  show mk (labs L) ++ mk [0] = _
  rw [mk_append]
  rfl

set_option maxHeartbeats 1000000 in
theorem NOf_any (A : Option Addr) (n c : Nat) (L : List (List UInt8)) (w : World) (h : Sees w w.heap.size A n (textL L)) (hn : n ≤ 100000) (hx : ∀ x ∈ L, x.length ≤ 100000) :
    Calls Tryz.prog 119 #[.slice A n c] w fun e w' => e = .returned (.tuple #[.string (mk (ofN L).1), .int .i64 (ofN L).2]) ∧ Below w.heap.size w w' := by
  have HL := Lib.hid (textL_len h)
  by_cases hE : [] ∈ L
  · have hd : decide (([] : List UInt8) ∈ L) = true := by simpa using hE
    rw [ofN_form hE]
    clear hE
    go_enter Tryz.func119, Tryz.ntmps119
    go_wp2_with fail
    refine (Contains_any A n c _ L ⟨#[]⟩ [] _ h rfl (by omega)).mono ?_
    rw [hd]
    rintro e w1 ⟨rfl, rfl⟩
    go_wp2_with fail
    go_ret2
    exact ⟨rfl, Below.refl _ _⟩
  have hd : decide (([] : List UInt8) ∈ L) = false := by simpa using hE
  have HE := Lib.hid hE
  have HX := Lib.hid hx
  clear hE hx
  go_enter Tryz.func119, Tryz.ntmps119
  go_wp2_with fail
  refine (Contains_any A n c _ L ⟨#[]⟩ [] _ h rfl (by omega)).mono ?_
  rw [hd]
  rintro e w1 ⟨rfl, rfl⟩
  go_wp2_with fail
  go_loopw [4, 13] (fun s i wr => ∃ k S, k ≤ n ∧ i = .int .i64 (k : Nat) ∧ s = .string S ∧ OfAt L k S ∧ Below w.heap.size w wr) (fun _ i _ => n - (intOf i).toNat)
  case atStart => exact ⟨0, ⟨#[]⟩, Nat.zero_le _, rfl, rfl, OfAt.start L, Below.refl _ _⟩
  case round =>
    obtain ⟨k, S, hk, rfl, rfl, hR, GB⟩ := hrel
    have hSz := hR.2.2
    have HR := Lib.hid hR
    clear hR
    by_cases hlt : k < n
    · have h2 : k < L.length := by have := HL.out; omega
      obtain ⟨b, off, rfl, hbB, hc⟩ := textL_at (h.below GB) hlt h2
      obtain ⟨X, hX⟩ : ∃ X, X = mk L[k] := ⟨_, rfl⟩
      have hXs : X.size = L[k].length := by rw [hX, mk_size]
      have hXb : X.size ≤ 100000 := by rw [hXs]; exact HX.out _ (List.getElem_mem h2)
      rw [← hX] at hc
      have HXX := Lib.hid hX
      have HXs := Lib.hid hXs
      clear hX hXs
      by_cases hbig : 63 < X.size
      · have g2 : (63 : Int) < (X.size : Int) := by omega
        have ho := OfAt.long1 h2 (by have := HXs.out; omega) HE.out
        have HO := Lib.hid ho
        clear ho
        go_wp2_with fail
        go_ret2
        exact ⟨by rw [HO.out]; rfl, GB⟩
      · have g2 : ¬ (63 : Int) < (X.size : Int) := by omega
        by_cases hlong : 255 < S.size + 1 + X.size + 1
        · have g3 : (255 : Int) < (S.size : Int) + 1 + (X.size : Int) + 1 := by omega
          have ho := HR.out.long2 h2 (by have := HXs.out; omega) HE.out
          have HO := Lib.hid ho
          clear ho
          go_wp2_with fail
          go_ret2
          exact ⟨by rw [HO.out]; rfl, GB⟩
        · have g3 : ¬ (255 : Int) < (S.size : Int) + 1 + (X.size : Int) + 1 := by omega
          have hst := HR.out.step h2 (by have := HXs.out; omega) (by have := HXs.out; omega)
          obtain ⟨F, hF⟩ : ∃ F, F = mk (lab L[k]) := ⟨_, rfl⟩
          have hFs : F.size ≤ 64 := by rw [hF, mk_size, lab_len]; have := HXs.out; omega
          rw [← hF] at hst
          have HF := Lib.hid hF
          have HST := Lib.hid hst
          clear hF hst
          go_wp2_with fail
          refine (Piece_lab X L[k] _ HXX.out (by have := HXs.out; omega)).mono ?_
          rw [← HF.out]
          rintro e w2 ⟨rfl, hB2⟩
          go_wp2_with fail
          go_roundw
          case rel => exact ⟨k + 1, S ++ F, by omega, by go_num, rfl, HST.out, GB.trans (hB2.mono GB.size)⟩
          case measure => simp [intOf]; omega
    · obtain rfl : k = n := by omega
      have hd2 := HR.out.done (by have := HL.out; omega) HE.out
      have HD := Lib.hid hd2
      clear hd2
      go_wp2_with fail
      go_ret2
      exact ⟨by rw [HD.out.2, ← HD.out.1]; rfl, GB⟩

def starN (s : List UInt8) : List UInt8 × Int := match nameL s with | none => ([], 2) | some L => ofN ([42] :: L)
set_option maxHeartbeats 1000000 in
theorem Star_any (S : ByteArray) (s : List UInt8) (w : World) (hS : S = mk s) (hb : s.length ≤ 1073741824) :
    Calls Tryz.prog 95 #[.string S] w fun e w' => e = .returned (.tuple #[.string (mk (starN s).1), .int .i64 (starN s).2]) ∧ Below w.heap.size w w' := by
  have HS := Lib.hid hS
  clear hS
  cases h : nameL s with
  | none =>
    have hp : starN s = ([], 2) := by unfold starN; rw [h]
    rw [hp]
    have HN := Lib.hid h
    clear hp h
    go_enter Tryz.func95, Tryz.ntmps95
    go_wp2_with fail
    refine (Labels_no S s _ HS.out hb HN.out).mono ?_
    rintro e w1 ⟨rfl, hB1⟩
    go_wp2_with fail
    go_ret2
    exact ⟨rfl, hB1⟩
  | some L =>
    have hp : starN s = ofN ([42] :: L) := by unfold starN; rw [h]
    rw [hp]
    obtain ⟨he, hg, hl⟩ := nameL_is h
    have hLn : L.length ≤ 255 := by
      have := pairs_len s
      rw [show pairs s = prs L by rw [he, pairs_enc hg], (labV_prs L).2] at this
      omega
    have hLx : ∀ x ∈ [42] :: L, x.length ≤ 100000 := by
      intro x hx
      rcases List.mem_cons.1 hx with hx | hx
      · subst hx; simp
      · have := (hg x hx).2; omega
    have HN := Lib.hid h
    have HLX := Lib.hid hLx
    clear hp h he hLx
    go_enter Tryz.func95, Tryz.ntmps95
    go_wp2_with fail
    refine (Labels_yes S s L _ HS.out HN.out).mono ?_
    rintro e w1 ⟨v, rfl, hown, hB1⟩
    obtain ⟨A, c, rfl, hs⟩ := Sees.own hown
    have HSEE := Lib.hid (hs.below ((Below.refl w1.heap.size w1).alloc (Nat.le_refl _) (.cells #[.string ⟨#[42]⟩] 9)))
    clear hown hs
    go_wp2_with (at_builtin; refine append_seen rfl _ _ rfl w1.heap.size (.slice (some ⟨w1.heap.size, 0, none⟩) 1 1) 1 [.string ⟨#[42]⟩] rfl (own_one w1 _ _ (Nat.le_refl _)) (by simp) _ A L.length c (L.map mk) rfl HSEE.out (1 + L.length) rfl (textL ([42] :: L)) rfl (by omega) (by simp) ?_; intro v1 w2 hown2 hgrow2 hne2; have hB2 : Below w1.heap.size w1 w2 := ((Below.refl w1.heap.size w1).alloc (Nat.le_refl _) _).grown hgrow2 (by simp) (fun z hz => by simp [Value.ownBlock] at hz; omega); obtain ⟨A2, c2, rfl, hs2⟩ := Sees.own hown2; have HB2 := Lib.hid hB2; clear hown2 hgrow2 hne2 hB2)
    refine (NOf_any A2 (1 + L.length) c2 ([42] :: L) _ hs2 (by omega) HLX.out).mono ?_
    rintro e w3 ⟨rfl, hB3⟩
    have GB := hB1.trans (HB2.out.mono hB1.size)
    go_wp2_with fail
    go_ret2
    exact ⟨rfl, GB.trans (hB3.mono GB.size)⟩
end Go.Proofs.YtkgihfoknpimfaaGreat
