/- NaI: texts NamI, NamJ of our own, joined. No statement of the seat is proved here. -/
import Derived.Test.YtggognnjnfphgaaGreatDoorNaA
import Derived.BigQuiet
import Derived.Laws.Cover1
import Derived.Deep.AppendSrc
import Derived.Deep.RegionWith
namespace Go.Proofs.YtggognnjnfphgaaGreatDoor
open Go.RowKit

theorem mk_get {S : ByteArray} {s : List UInt8} (hS : S = mk s) {k : Nat} (h : k < S.size) (h' : k < s.length) : (S[k]'h).toNat = s[k].toNat := by subst hS; rfl
theorem textL_snoc (L : List (List UInt8)) (x : List UInt8) : textL (L ++ [x]) = textL L ++ [.string (mk x)] := by simp [textL, texts]

/-- where the reference stands: the first k bytes are the labels out -/
def RefNm (s : List UInt8) (k : Nat) (out : List (List UInt8)) : Prop := parse s = (parse (s.drop k)).map (out ++ ·) ∧ out.length ≤ k
theorem RefNm.start (s : List UInt8) : RefNm s 0 [] := ⟨by simp, Nat.le_refl _⟩
theorem drop_cons {s : List UInt8} {k : Nat} (h : k < s.length) : s.drop k = s[k] :: s.drop (k + 1) := List.drop_eq_getElem_cons h
theorem RefNm.over {s : List UInt8} {k : Nat} {out : List (List UInt8)} (h : RefNm s k out) (hk : s.length ≤ k) : parse s = none := by
  rw [h.1, List.drop_of_length_le hk, parse_none rfl]; rfl
theorem RefNm.zero {s : List UInt8} {k : Nat} {out : List (List UInt8)} (h : RefNm s k out) (hk : k < s.length) (h0 : s[k].toNat = 0) : parse s = if k + 1 = s.length then some out else none := by
  have e : s[k] = 0 := UInt8.toNat_inj.1 (by simpa using h0)
  rw [h.1, drop_cons hk, e, parse_some (cut_zero _), if_pos rfl]
  by_cases hl : k + 1 = s.length
  · rw [if_pos hl, if_pos (List.drop_of_length_le (by omega))]; simp
  · rw [if_neg hl, if_neg (by intro e'; have := congrArg List.length e'; simp at this; omega)]; rfl
theorem RefNm.far {s : List UInt8} {k : Nat} {out : List (List UInt8)} (h : RefNm s k out) (hk : k < s.length) (hf : s.length < k + 1 + s[k].toNat) : parse s = none := by
  rw [h.1, drop_cons hk, parse_none]
  · rfl
  · simp only [cutL]; rw [if_pos (by simp; omega)]
theorem RefNm.long {s : List UInt8} {k : Nat} {out : List (List UInt8)} (h : RefNm s k out) (hk : k < s.length) (hf : 63 < s[k].toNat) : parse s = none := by
  by_cases hl : s.length < k + 1 + s[k].toNat
  · exact h.far hk hl
  · have hc : cutL (s.drop k) = some ((s.drop (k + 1)).take s[k].toNat, (s.drop (k + 1)).drop s[k].toNat) := by
      rw [drop_cons hk]; simp only [cutL]; rw [if_neg (by simp; omega)]
    have hlen : ((s.drop (k + 1)).take s[k].toNat).length = s[k].toNat := by simp; omega
    rw [h.1, parse_some hc, if_neg (by intro e; rw [e] at hlen; simp at hlen; omega), if_pos (by omega)]
    rfl
theorem RefNm.step {s : List UInt8} {k : Nat} {out : List (List UInt8)} (h : RefNm s k out) (hk : k < s.length) (h0 : 0 < s[k].toNat) (h63 : s[k].toNat ≤ 63) (hl : k + 1 + s[k].toNat ≤ s.length) :
    RefNm s (k + 1 + s[k].toNat) (out ++ [(s.take (k + 1 + s[k].toNat)).drop (k + 1)]) := by
  have hc : cutL (s.drop k) = some ((s.drop (k + 1)).take s[k].toNat, (s.drop (k + 1)).drop s[k].toNat) := by
    rw [drop_cons hk]; simp only [cutL]; rw [if_neg (by simp; omega)]
  have hlen : ((s.drop (k + 1)).take s[k].toNat).length = s[k].toNat := by simp; omega
  have e1 : (s.take (k + 1 + s[k].toNat)).drop (k + 1) = (s.drop (k + 1)).take s[k].toNat := by
    rw [List.drop_take]; congr 1; omega
  refine ⟨?_, by have := h.2; simp; omega⟩
  rw [h.1, parse_some hc, if_neg (by intro e; rw [e] at hlen; simp at hlen; omega), if_neg (by omega), e1, List.drop_drop, Option.map_map]
  congr 1
  funext L
  simp

/-- what the reference's Labels leaves -/
def RefOut (s : List UInt8) (w : World) (e : Ending) (w' : World) : Prop :=
  ∃ v out ok, e = .returned (.tuple #[v, .bool ok]) ∧ w'.ownsRow w.heap.size 9 1 v out.length (textL out) ∧ ((ok = false ∧ nameL s = none) ∨ (ok = true ∧ nameL s = some out)) ∧ Below w.heap.size w w'

set_option maxHeartbeats 2000000 in
set_option maxRecDepth 20000 in
theorem RefLabels_short (S : ByteArray) (s : List UInt8) (w : World) (hS : S = mk s) (hl : s.length ≤ 255) :
    Calls Tryz.prog 97 #[.string S] w (RefOut s w) := by
  have hSz : S.size = s.length := by rw [hS, mk_size]
  have hle : ¬ (255 : Int) < (S.size : Int) := by omega
  have hN : nameL s = parse s := by unfold nameL; rw [if_neg (by omega)]
  have HS := Lib.hid hS
  have HSZ := Lib.hid hSz
  have HN := Lib.hid hN
  have hS255 : S.size ≤ 255 := by omega
  clear hS hSz hN
  go_enter Tryz.func97, Tryz.ntmps97
  go_wp2_with fail
  go_loopw [4, 5] (fun v i wr => ∃ (k : Nat) (out : List (List UInt8)), k ≤ S.size ∧ i = .int .i64 k ∧ wr.ownsRow w.heap.size 9 1 v out.length (textL out) ∧ RefNm s k out ∧ Below w.heap.size w wr) (fun _ i _ => S.size - (intOf i).toNat)
  case atStart => exact ⟨0, [], Nat.zero_le _, rfl, World.ownsRow_nil _ _ _ _, RefNm.start s, Below.refl _ _⟩
  case round =>
    obtain ⟨k, out, hk, rfl, hown, hp, GB⟩ := hrel
    have HP := Lib.hid hp
    have HO := Lib.hid hown
    clear hp
    by_cases hlt : k < S.size
    · have hks : k < s.length := by have := HSZ.out; omega
      obtain ⟨d, hd⟩ : ∃ d, d = s[k].toNat := ⟨_, rfl⟩
      have hc : (S[k]'hlt).toNat = d := by rw [mk_get HS.out hlt hks, hd]
      have hd255 : d ≤ 255 := by have := s[k].toNat_lt; omega
      have HD := Lib.hid hd
      clear hd
      by_cases h0 : d = 0
      · subst h0
        have hz := HP.out.zero hks HD.out.symm
        by_cases hend : k + 1 = S.size
        · have e0 : nameL s = some out := by rw [HN.out, hz, if_pos (by have := HSZ.out; omega)]
          have HE := Lib.hid e0
          have g1 : ((k : Int) == (S.size : Int) - 1) = true := by rw [beq_iff_eq]; omega
          clear e0 hz hown hend
          go_wp2_with fail
          go_quiet (fail)
          go_wp2_with fail
          go_ret2
          exact ⟨_, out, _, rfl, HO.out, .inr ⟨rfl, HE.out⟩, below_drewN GB _⟩
        · have e0 : nameL s = none := by rw [HN.out, hz, if_neg (by have := HSZ.out; omega)]
          have HE := Lib.hid e0
          have g1 : ((k : Int) == (S.size : Int) - 1) = false := by rw [beq_eq_false_iff_ne]; omega
          clear e0 hz hown hend
          go_wp2_with fail
          go_quiet (fail)
          go_wp2_with fail
          go_ret2
          exact ⟨_, out, _, rfl, HO.out, .inl ⟨rfl, HE.out⟩, below_drewN GB _⟩
      · have hd0 : (0 : Int) < (d : Int) := by omega
        by_cases h63 : 63 < d
        · have e0 : nameL s = none := by rw [HN.out, HP.out.long hks (by rw [← HD.out]; exact h63)]
          have HE := Lib.hid e0
          have g1 : (63 : Int) < (d : Int) := by omega
          clear e0 hown
          go_wp2_with fail
          go_ret2
          exact ⟨_, [], _, rfl, World.ownsRow_nil _ _ _ _, .inl ⟨rfl, HE.out⟩, GB⟩
        · have g1 : ¬ (63 : Int) < (d : Int) := by omega
          by_cases hfar : S.size < k + 1 + d
          · have e0 : nameL s = none := by rw [HN.out, HP.out.far hks (by rw [← HD.out]; have := HSZ.out; omega)]
            have HE := Lib.hid e0
            have g2 : (S.size : Int) < (k : Int) + 1 + (d : Int) := by omega
            clear e0 hown
            go_wp2_with fail
            go_ret2
            exact ⟨_, [], _, rfl, World.ownsRow_nil _ _ _ _, .inl ⟨rfl, HE.out⟩, GB⟩
          · have g2 : ¬ (S.size : Int) < (k : Int) + 1 + (d : Int) := by omega
            have hst := HP.out.step hks (by rw [← HD.out]; omega) (by rw [← HD.out]; omega) (by rw [← HD.out]; have := HSZ.out; omega)
            rw [← HD.out] at hst
            have hex : S.extract (k + 1) (k + 1 + d) = mk ((s.take (k + 1 + d)).drop (k + 1)) := by rw [HS.out, mk_extract]
            have hto : ((k : Int) + 1 + (d : Int)).toNat = k + 1 + d := by omega
            have HST := Lib.hid hst
            have HEX := Lib.hid hex
            have hol : out.length ≤ 255 := by have := HP.out.2; omega
            have H63 : Hid (out.length + 1 ≤ maxLen) := Lib.hid (by unfold maxLen; omega)
            have H47 : Hid ((out.length + 1) * 16 ≤ 140737488355328) := Lib.hid (by omega)
            obtain ⟨i0, hi0, hz0, hz1, hz2⟩ := info_parts text_info
            clear hst hex hown hol h0
            go_wp2_with (at_builtin; refine wpList_append_own _ rfl _ _ 63 rfl w.heap.size 9 i0 (.string ⟨#[]⟩) 1 16 Tryz.underlying63 hi0 hz0 hz1 hz2 rfl (by decide) _ _ _ rfl (HO.out.alloc _) ⟨wr.heap.size, 0, none⟩ 1 1 [.string (S.extract (k + 1) (k + 1 + d))] rfl rfl (news1 _ _ _) (one1 _ rfl) H63.out H47.out (by have := GB.size; simp; omega) ?_; intro v2 w2 hown2 hgrow _)
            have hown3 : w2.ownsRow w.heap.size 9 1 v2 (out ++ [(s.take (k + 1 + d)).drop (k + 1)]).length (textL (out ++ [(s.take (k + 1 + d)).drop (k + 1)])) := by
              rw [textL_snoc, ← HEX.out]; simpa using hown2
            have HO3 := Lib.hid hown3
            have HB2 := Lib.hid ((GB.alloc GB.size _).grown hgrow (by have := GB.size; simp; omega) (fun j hj => (HO.out.lt j hj).1))
            clear hown2 hown3 hgrow
            go_roundw
            case rel => exact ⟨k + 1 + d, _, by omega, by simp; omega, HO3.out, HST.out, HB2.out⟩
            case measure => simp [intOf]; omega
    · obtain rfl : k = S.size := by omega
      have e0 : nameL s = none := by rw [HN.out, HP.out.over (by have := HSZ.out; omega)]
      have HE := Lib.hid e0
      have g1 : ((S.size : Int) == (S.size : Int) - 1) = false := by rw [beq_eq_false_iff_ne]; omega
      clear e0 hown
      go_wp2_with fail
      go_quiet (fail)
      go_wp2_with fail
      go_ret2
      exact ⟨_, out, _, rfl, HO.out, .inl ⟨rfl, HE.out⟩, below_drewN GB _⟩

theorem RefLabels_any (S : ByteArray) (s : List UInt8) (w : World) (hS : S = mk s) :
    Calls Tryz.prog 97 #[.string S] w (RefOut s w) := by
  by_cases hl : s.length ≤ 255
  · exact RefLabels_short S s w hS hl
  · have hle : (255 : Int) < (S.size : Int) := by rw [hS, mk_size]; omega
    have hN : nameL s = none := by unfold nameL; rw [if_pos (by omega)]
    have HN := Lib.hid hN
    clear hS hN
    go_enter Tryz.func97, Tryz.ntmps97
    go_wp2_with fail
    go_ret2
    exact ⟨_, [], _, rfl, World.ownsRow_nil _ _ _ _, .inl ⟨rfl, HN.out⟩, Below.refl _ _⟩
theorem RefLabels_no (S : ByteArray) (s : List UInt8) (w : World) (hS : S = mk s) (h : nameL s = none) :
    Calls Tryz.prog 97 #[.string S] w fun e w' => ∃ v, e = .returned (.tuple #[v, .bool false]) ∧ Below w.heap.size w w' := by
  refine (RefLabels_any S s w hS).mono ?_
  rintro e w' ⟨v, out, ok, rfl, _, ⟨rfl, _⟩ | ⟨_, h'⟩, hB⟩
  · exact ⟨v, rfl, hB⟩
  · rw [h] at h'; cases h'
theorem RefLabels_yes (S : ByteArray) (s : List UInt8) (L : List (List UInt8)) (w : World) (hS : S = mk s) (h : nameL s = some L) :
    Calls Tryz.prog 97 #[.string S] w fun e w' => ∃ v, e = .returned (.tuple #[v, .bool true]) ∧ w'.ownsRow w.heap.size 9 1 v L.length (textL L) ∧ Below w.heap.size w w' := by
  refine (RefLabels_any S s w hS).mono ?_
  rintro e w' ⟨v, out, ok, rfl, hown, ⟨_, h'⟩ | ⟨rfl, h'⟩, hB⟩
  · rw [h] at h'; cases h'
  · rw [h] at h'; injection h' with h'; subst h'; exact ⟨v, rfl, hown, hB⟩
theorem RefRight_any (S : ByteArray) (s : List UInt8) (w : World) (hS : S = mk s) :
    Calls Tryz.prog 73 #[.string S] w fun e w' => e = .returned (.bool (nameL s).isSome) ∧ Below w.heap.size w w' := by
  have HS := Lib.hid hS
  clear hS
  go_enter Tryz.func73, Tryz.ntmps73
  go_wp2_with fail
  refine (RefLabels_any S s _ HS.out).mono ?_
  rintro e w1 ⟨v, out, ok, rfl, _, hok, hB1⟩
  have ho : ok = (nameL s).isSome := by
    rcases hok with ⟨rfl, h⟩ | ⟨rfl, h⟩ <;> rw [h] <;> rfl
  have HO := Lib.hid ho
  clear hok ho
  go_wp2_with fail
  go_ret
  exact ⟨by rw [← HO.out]; rfl, hB1⟩
end Go.Proofs.YtggognnjnfphgaaGreatDoor
namespace Go.Proofs.YtggognnjnfphgaaGreatDoor
open Go.RowKit

theorem enc_lenJ (L : List (List UInt8)) : (enc L).length = (labs L).length + 1 := by simp [enc]
theorem labs_take {L : List (List UInt8)} {k : Nat} (h : k < L.length) : labs (L.take (k + 1)) = labs (L.take k) ++ lab L[k] := by
  rw [List.take_succ_eq_append_getElem h, labs_append]; simp [labs]
theorem labs_le (L : List (List UInt8)) (k : Nat) : (labs (L.take k)).length ≤ (labs L).length := by
  conv => rhs; rw [← List.take_append_drop k L]
  rw [labs_append, List.length_append]; omega
theorem ofN_form {L : List (List UInt8)} (h : [] ∈ L) : ofN L = ([], 2) := by unfold ofN; rw [if_pos h]
theorem ofN_long {L : List (List UInt8)} (h : [] ∉ L) (h' : (∃ x ∈ L, 63 < x.length) ∨ 255 < (enc L).length) : ofN L = ([], 3) := by unfold ofN; rw [if_neg h, if_pos h']
theorem ofN_ok {L : List (List UInt8)} (h : [] ∉ L) (h' : ¬ ((∃ x ∈ L, 63 < x.length) ∨ 255 < (enc L).length)) : ofN L = (enc L, 0) := by unfold ofN; rw [if_neg h, if_neg h']
theorem labs_bound (L : List (List UInt8)) (h : ∀ x ∈ L, x.length ≤ 63) : (labs L).length ≤ 64 * L.length := by
  induction L with
  | nil => simp [labs]
  | cons x L ih =>
    have h1 := h x (by simp)
    have h2 := ih fun y hy => h y (List.mem_cons_of_mem _ hy)
    simp only [labs, List.length_append, lab_len, List.length_cons]
    omega
/-- one byte, read back as a string -/
theorem byte_str (q g cap : Nat) (W : World) (hq : q < 256) (hc : W.cell? ⟨g, 0, none⟩ = some (.int .u8 (q : Nat))) :
    (convert 81 9 (.slice (some ⟨g, 0, none⟩) 1 cap)).run Tryz.prog W = .ok (.string ⟨#[UInt8.ofNat q]⟩) W := by
  refine run_convert_bytes_back W _ _ 5 ⟨g, 0, none⟩ cap [UInt8.ofNat q] Tryz.underlying81 Tryz.underlying5 Tryz.underlying9 (fun j hj => ?_)
  have hj0 : j = 0 := by simpa using hj
  subst hj0
  rw [show (⟨g, 0, none⟩ : Addr).add 0 = ⟨g, 0, none⟩ from rfl, hc]
  simp only [List.getElem_cons_zero, UInt8.toNat_ofNat']
  rw [Nat.mod_eq_of_lt (by omega)]
theorem byte_new (q : Nat) (W : World) (hq : q < 256) :
    (convert 81 9 (.slice (some ⟨W.heap.size, 0, none⟩) 1 1)).run Tryz.prog ((W.alloc (.cells #[.int .u8 (q : Nat)] 5)).drew) = .ok (.string ⟨#[UInt8.ofNat q]⟩) ((W.alloc (.cells #[.int .u8 (q : Nat)] 5)).drew) :=
  byte_str q _ _ _ hq (Whole.new W 5 #[_]).cell1
/-- where the second loop of the reference's Of stands -/
def OfRef (L : List (List UInt8)) (k : Nat) (S : ByteArray) : Prop := S = mk (labs (L.take k)) ∧ (∀ x ∈ L.take k, x.length ≤ 63)
theorem OfRef.start (L : List (List UInt8)) : OfRef L 0 ⟨#[]⟩ := ⟨rfl, by simp⟩
theorem OfRef.size {L : List (List UInt8)} {k : Nat} {S : ByteArray} (h : OfRef L k S) : S.size ≤ 64 * k := by
  rw [h.1, mk_size]
  have := labs_bound _ h.2
  have h2 : (L.take k).length ≤ k := by simp; omega
  omega
theorem OfRef.step {L : List (List UInt8)} {k : Nat} {S : ByteArray} (h : OfRef L k S) (hk : k < L.length) (hx : L[k].length ≤ 63) : OfRef L (k + 1) (S ++ (⟨#[UInt8.ofNat L[k].length]⟩ ++ mk L[k])) := by
  refine ⟨?_, fun x hm => ?_⟩
  · rw [h.1]
    show mk _ ++ (mk [UInt8.ofNat L[k].length] ++ mk L[k]) = _
    rw [mk_append, mk_append, labs_take hk]
    rfl
  · rw [List.take_succ_eq_append_getElem hk, List.mem_append, List.mem_singleton] at hm
    rcases hm with hm | hm
    · exact h.2 x hm
    · subst hm; exact hx
theorem OfRef.done {L : List (List UInt8)} {k : Nat} {S : ByteArray} (h : OfRef L k S) (hk : L.length ≤ k) (hE : [] ∉ L) :
    (254 < S.size → ofN L = ([], 3)) ∧ (¬ 254 < S.size → S ++ ⟨#[0]⟩ = mk (ofN L).1 ∧ (ofN L).2 = 0) := by
  have e : L.take k = L := List.take_of_length_le hk
  have hS := h.1
  rw [e] at hS
  have hl : S.size = (labs L).length := by rw [hS, mk_size]
  refine ⟨fun h1 => ofN_long hE (.inr (by rw [enc_lenJ]; omega)), fun h1 => ?_⟩
  have ho := ofN_ok hE (by
    rintro (⟨x, hx, hx'⟩ | hx)
    · have := h.2 x (by rw [e]; exact hx)
      omega
    · rw [enc_lenJ] at hx
      omega)
  rw [ho]
  refine ⟨?_, rfl⟩
  rw [hS]
  show mk (labs L) ++ mk [0] = _
  rw [mk_append]
  rfl

end Go.Proofs.YtggognnjnfphgaaGreatDoor
