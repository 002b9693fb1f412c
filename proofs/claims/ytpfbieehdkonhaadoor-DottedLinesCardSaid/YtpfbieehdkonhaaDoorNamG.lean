/- Of, Star. -/
import Derived.Test.YtpfbieehdkonhaaDoorNamE
import Derived.Deep.AppendSrc
namespace Go.Proofs.YtpfbieehdkonhaaDoor
open Go.RowKit

/-- strings appended to a row of one's own that is not nil, nil or not themselves -/
theorem append_seen {w : World} {ops : Array Oper} {rest : List Oper} {o : Oper} {a : Act} {Q : Exit → Act → World → Prop} (hgd : o.guard = none) (s x : Operand)
    (ho : o.op = .call { callee := .builtin .append, args := #[s, x], argTypes := #[28, 28] }) (base : Nat) (v : Value) (n : Nat) (xs : List Value) (hs : a.eval s = v) (hown : w.ownsRow base 9 1 v n xs) (hv : v ≠ .slice none 0 0)
    (B : Nat) (A : Option Addr) (m c : Nat) (zs : List ByteArray) (hx : a.eval x = .slice A m c) (hr : Sees w B A m (texts zs)) (N : Nat) (hN : n + m = N) (ys : List Value) (hys : xs ++ texts zs = ys) (h63 : N ≤ 1073741824) (hbase : base ≤ w.heap.size)
    (h : ∀ v' w', w'.ownsRow base 9 1 v' N ys → w.grownBy w' v.ownBlock → v' ≠ .slice none 0 0 → wpList Tryd.prog ops Q rest (a.put o.dst v') w') : wpList Tryd.prog ops Q (o :: rest) a w := by
  subst hN
  subst hys
  obtain ⟨i, hi, hz0, hz1, hz2⟩ := info_parts text_info
  rcases A with _ | ad
  · have hm : m = 0 := by
      rcases Nat.eq_zero_or_pos m with h0 | h0
      · exact h0
      · obtain ⟨b, off, e, _⟩ := hr.addr h0
        cases e
    subst hm
    have hn : texts zs = [] := List.eq_nil_of_length_eq_zero hr.len
    rw [hn, List.append_nil] at h
    refine wpList_plain hgd fun K hK => ?_
    rcases hown.2 with ⟨rfl, _⟩ | ⟨g, cap, cur, rfl, _, _, hnc, _⟩
    · exact absurd rfl hv
    · have hrun := run_append_room_src (P := Tryd.prog) w 28 28 o.type 9 i Tryd.underlying28 hi g 0 n cap (.slice none 0 c) 0 [] (Src.ofNil w Tryd.underlying28 c) (by omega) (by simp) (by simp)
      have hsame : w.setCells g (0 + n * i.size) [] = w := rfl
      rw [hsame] at hrun
      unfold Oper.wp
      simp [execOp, ho, resolve, invoke, builtin, hs, hx, hrun, Result.andThen]
      exact hK _ _ (h _ _ hown (World.grownBy.refl w _) hv)
  · have hcells : ∀ j u, (texts zs)[j]? = some u → w.cell? (ad.add j) = some u := by
      intro j u hu
      have hj : j < (texts zs).length := (List.getElem?_eq_some_iff.1 hu).1
      obtain ⟨b, off, e, _, hc⟩ := hr.addr (by have := hr.len; omega)
      injection e with e
      subst e
      rw [show (⟨b, off, none⟩ : Addr).add j = ⟨b, off + j, none⟩ from by unfold Addr.add; split <;> simp_all]
      exact hc j u hu
    refine wpList_append_own _ hgd s x 28 ho base 9 i (.string ⟨#[]⟩) 1 16 Tryd.underlying28 hi hz0 hz1 hz2 rfl (by decide) v n xs hs hown ad m c (texts zs) hx (by rw [hr.len]; omega) hcells ?_ (by unfold maxLen; omega) (by omega) hbase ?_
    · intro u hu
      simp only [texts, List.mem_map] at hu
      obtain ⟨z, _, rfl⟩ := hu
      rfl
    · intro v' w' h1 h2 h3
      exact h v' w' h1 h2 fun e => hv (h3.1 e).1
theorem own_one (w : World) (base : Nat) (x : Value) (hb : base ≤ w.heap.size) : (w.alloc (.cells #[x] 9)).ownsRow base 9 1 (.slice (some ⟨w.heap.size, 0, none⟩) 1 1) 1 [x] :=
  ⟨rfl, .inr ⟨w.heap.size, 1, #[x], rfl, hb, heap_alloc_new w _, Nat.le_refl _, by unfold maxLen; omega, rfl, rfl⟩⟩

theorem piece_lab {x : List UInt8} (h : x.length ≤ 255) : pieceR (mk x) 1 = (mk (lab x), 0) := by
  unfold pieceR
  rw [if_pos (by rfl), if_pos (by rw [mk_size]; simp [fitB]; omega), mk_size]
  have e : be x.length (1 : Int).toNat = [UInt8.ofNat x.length] := by simp [be]
  rw [e]
  show (mk [UInt8.ofNat x.length] ++ mk x, (0 : Int)) = _
  rw [mk_append]
  rfl
theorem Piece_lab (X : ByteArray) (x : List UInt8) (w : World) (hX : X = mk x) (hx : x.length ≤ 63) :
    Calls Tryd.prog 35 #[.string X, .int .i64 1] w fun e w' => e = .returned (.tuple #[.string (mk (lab x)), .int .i64 0]) ∧ Below w.heap.size w w' := by
  subst hX
  have := Piece_any (mk x) 1 w (by rw [mk_size]; omega)
  rwa [piece_lab (by omega)] at this

theorem enc_len (L : List (List UInt8)) : (enc L).length = (labs L).length + 1 := by simp [enc]
theorem labs_take {L : List (List UInt8)} {k : Nat} (h : k < L.length) : labs (L.take (k + 1)) = labs (L.take k) ++ lab L[k] := by
  rw [List.take_succ_eq_append_getElem h, labs_append]; simp [labs]
theorem labs_le (L : List (List UInt8)) (k : Nat) : (labs (L.take k)).length ≤ (labs L).length := by
  conv => rhs; rw [← List.take_append_drop k L]
  rw [labs_append, List.length_append]; omega
theorem ofN_form {L : List (List UInt8)} (h : [] ∈ L) : ofN L = ([], 2) := by unfold ofN; rw [if_pos h]
theorem ofN_long {L : List (List UInt8)} (h : [] ∉ L) (h' : (∃ x ∈ L, 63 < x.length) ∨ 255 < (enc L).length) : ofN L = ([], 3) := by unfold ofN; rw [if_neg h, if_pos h']
theorem ofN_ok {L : List (List UInt8)} (h : [] ∉ L) (h' : ¬ ((∃ x ∈ L, 63 < x.length) ∨ 255 < (enc L).length)) : ofN L = (enc L, 0) := by unfold ofN; rw [if_neg h, if_neg h']
/-- where the loop stands -/
def OfAt (L : List (List UInt8)) (k : Nat) (S : ByteArray) : Prop := S = mk (labs (L.take k)) ∧ (∀ x ∈ L.take k, x.length ≤ 63) ∧ S.size ≤ 254
theorem OfAt.start (L : List (List UInt8)) : OfAt L 0 ⟨#[]⟩ := ⟨rfl, by simp, by decide⟩
theorem OfAt.len {L : List (List UInt8)} {k : Nat} {S : ByteArray} (h : OfAt L k S) : S.size = (labs (L.take k)).length := by rw [h.1, mk_size]
theorem OfAt.step {L : List (List UInt8)} {k : Nat} {S : ByteArray} (h : OfAt L k S) (hk : k < L.length) (hx : L[k].length ≤ 63) (hs : S.size + 1 + L[k].length + 1 ≤ 255) : OfAt L (k + 1) (S ++ mk (lab L[k])) := by
  refine ⟨by rw [h.1, mk_append, labs_take hk], fun x hm => ?_, ?_⟩
  · rw [List.take_succ_eq_append_getElem hk, List.mem_append, List.mem_singleton] at hm
    rcases hm with hm | hm
    · exact h.2.1 x hm
    · subst hm; exact hx
  · rw [ByteArray.size_append, mk_size, lab_len]; omega
theorem OfAt.long1 {L : List (List UInt8)} {k : Nat} (hk : k < L.length) (hx : 63 < L[k].length) (hE : [] ∉ L) : ofN L = ([], 3) := ofN_long hE (.inl ⟨_, List.getElem_mem hk, hx⟩)
theorem OfAt.long2 {L : List (List UInt8)} {k : Nat} {S : ByteArray} (h : OfAt L k S) (hk : k < L.length) (hs : 255 < S.size + 1 + L[k].length + 1) (hE : [] ∉ L) : ofN L = ([], 3) := by
  refine ofN_long hE (.inr ?_)
  have h1 := labs_le L (k + 1)
  rw [labs_take hk, List.length_append, lab_len] at h1
  rw [enc_len]
  have := h.len
  omega
theorem OfAt.done {L : List (List UInt8)} {k : Nat} {S : ByteArray} (h : OfAt L k S) (hk : L.length ≤ k) (hE : [] ∉ L) : S ++ ⟨#[0]⟩ = mk (ofN L).1 ∧ (ofN L).2 = 0 := by
  have e : L.take k = L := List.take_of_length_le hk
  have hl := h.len
  rw [e] at hl
  have ho := ofN_ok hE (by
    rintro (⟨x, hx, hx'⟩ | hx)
    · have := h.2.1 x (by rw [e]; exact hx)
      omega
    · rw [enc_len] at hx
      have := h.2.2
      omega)
  rw [ho]
  refine ⟨?_, rfl⟩
  rw [h.1, e]
  show mk (labs L) ++ mk [0] = _
  rw [mk_append]
  rfl

set_option maxHeartbeats 1000000 in
theorem Of_any (A : Option Addr) (n c : Nat) (L : List (List UInt8)) (w : World) (h : Sees w w.heap.size A n (textL L)) (hn : n ≤ 100000) (hx : ∀ x ∈ L, x.length ≤ 100000) :
    Calls Tryd.prog 24 #[.slice A n c] w fun e w' => e = .returned (.tuple #[.string (mk (ofN L).1), .int .i64 (ofN L).2]) ∧ Below w.heap.size w w' := by
  have HL := Lib.hid (textL_len h)
  by_cases hE : [] ∈ L
  · have hd : decide (([] : List UInt8) ∈ L) = true := by simpa using hE
    rw [ofN_form hE]
    clear hE
    go_enter Tryd.func24, Tryd.ntmps24
    go_wp2_with fail
    refine (Contains_any A n c _ L ⟨#[]⟩ [] _ h rfl (by omega)).mono ?_
    rw [hd]
    rintro e w1 ⟨rfl, rfl⟩
    go_wp2_with fail
    go_ret2
    exact ⟨rfl, Below.refl _ _⟩
  have hd : decide (([] : List UInt8) ∈ L) = false := by simpa using hE
  have HE := Lib.hid hE
  have HX := Lib.hid hx
  clear hE hx
  go_enter Tryd.func24, Tryd.ntmps24
  go_wp2_with fail
  refine (Contains_any A n c _ L ⟨#[]⟩ [] _ h rfl (by omega)).mono ?_
  rw [hd]
  rintro e w1 ⟨rfl, rfl⟩
  go_wp2_with fail
  go_loopw [4, 13] (fun s i wr => ∃ k S, k ≤ n ∧ i = .int .i64 (k : Nat) ∧ s = .string S ∧ OfAt L k S ∧ Below w.heap.size w wr) (fun _ i _ => n - (intOf i).toNat)
  case atStart => exact ⟨0, ⟨#[]⟩, Nat.zero_le _, rfl, rfl, OfAt.start L, Below.refl _ _⟩
  case round =>
    obtain ⟨k, S, hk, rfl, rfl, hR, GB⟩ := hrel
    have hSz := hR.2.2
    have HR := Lib.hid hR
    clear hR
    by_cases hlt : k < n
    · have h2 : k < L.length := by have := HL.out; omega
      obtain ⟨b, off, rfl, hbB, hc⟩ := textL_at (h.below GB) hlt h2
      obtain ⟨X, hX⟩ : ∃ X, X = mk L[k] := ⟨_, rfl⟩
      have hXs : X.size = L[k].length := by rw [hX, mk_size]
      have hXb : X.size ≤ 100000 := by rw [hXs]; exact HX.out _ (List.getElem_mem h2)
      rw [← hX] at hc
      have HXX := Lib.hid hX
      have HXs := Lib.hid hXs
      clear hX hXs
      by_cases hbig : 63 < X.size
      · have g2 : (63 : Int) < (X.size : Int) := by omega
        have ho := OfAt.long1 h2 (by have := HXs.out; omega) HE.out
        have HO := Lib.hid ho
        clear ho
        go_wp2_with fail
        go_ret2
        exact ⟨by rw [HO.out]; rfl, GB⟩
      · have g2 : ¬ (63 : Int) < (X.size : Int) := by omega
        by_cases hlong : 255 < S.size + 1 + X.size + 1
        · have g3 : (255 : Int) < (S.size : Int) + 1 + (X.size : Int) + 1 := by omega
          have ho := HR.out.long2 h2 (by have := HXs.out; omega) HE.out
          have HO := Lib.hid ho
          clear ho
          go_wp2_with fail
          go_ret2
          exact ⟨by rw [HO.out]; rfl, GB⟩
        · have g3 : ¬ (255 : Int) < (S.size : Int) + 1 + (X.size : Int) + 1 := by omega
          have hst := HR.out.step h2 (by have := HXs.out; omega) (by have := HXs.out; omega)
          obtain ⟨F, hF⟩ : ∃ F, F = mk (lab L[k]) := ⟨_, rfl⟩
          have hFs : F.size ≤ 64 := by rw [hF, mk_size, lab_len]; have := HXs.out; omega
          rw [← hF] at hst
          have HF := Lib.hid hF
          have HST := Lib.hid hst
          clear hF hst
          go_wp2_with fail
          refine (Piece_lab X L[k] _ HXX.out (by have := HXs.out; omega)).mono ?_
          rw [← HF.out]
          rintro e w2 ⟨rfl, hB2⟩
          go_wp2_with fail
          go_roundw
          case rel => exact ⟨k + 1, S ++ F, by omega, by go_num, rfl, HST.out, GB.trans (hB2.mono GB.size)⟩
          case measure => simp [intOf]; omega
    · obtain rfl : k = n := by omega
      have hd2 := HR.out.done (by have := HL.out; omega) HE.out
      have HD := Lib.hid hd2
      clear hd2
      go_wp2_with fail
      go_ret2
      exact ⟨by rw [HD.out.2, ← HD.out.1]; rfl, GB⟩

def starN (s : List UInt8) : List UInt8 × Int := match nameL s with | none => ([], 2) | some L => ofN ([42] :: L)
end Go.Proofs.YtpfbieehdkonhaaDoor
