/- LogAgain walked. No statement of the seat is proved here. -/
import Derived.Test.YtggognnjnfphgaaGreatDoorLogV
namespace Go.Proofs.YtggognnjnfphgaaGreatDoor
open Go.RowKit Go.Maps Go.Sort

theorem row_count : ∀ xs : List (List UInt8), xs.length ≤ (rowF xs).length := by
  intro xs
  induction xs with
  | nil => exact Nat.zero_le _
  | cons x r ih => rw [rowF_cons, List.length_append, frameL_len, List.length_cons]; omega
theorem had_rest_le {es : List Ent} (h : Links none es) (r : List UInt8) : (hadL (rowF (es.map bytesE) ++ r)).1.length ≤ es.length + r.length := by
  have h1 := scan_row r (es.map bytesE) (links_len es none h)
  have h4 : hadL (rowF (es.map bytesE) ++ r) = hadF none (es.map bytesE ++ (scanL r).1) := by unfold hadL; rw [h1]
  obtain ⟨k, k1, k2, _⟩ := had_take (es.map bytesE ++ (scanL r).1) none
  obtain ⟨s1, s2, _⟩ := scan_is r.length r (Nat.le_refl _)
  have h5 := row_count (scanL r).1
  have h6 := congrArg List.length s1
  rw [List.length_append] at h6
  rw [List.length_append, List.length_map] at k1
  rw [h4, k2]
  omega
theorem of_u32 {s : ByteArray} {e : Ent} (h : ofE s = some e) : u32 e.t ∧ u32 e.f := by
  unfold ofE at h
  split at h
  · cases h
  · split at h
    · cases h
    · split at h
      · cases h
      · injection h with h
        subst h
        have h1 : numOf (s.extract 4 8) < 4294967296 := num4_lt s 4
        have h2 : numOf (s.extract 0 4) < 4294967296 := num4_lt s 0
        exact ⟨⟨Int.natCast_nonneg _, by show ((numOf (s.extract 4 8) : Nat) : Int) < _; omega⟩, Int.natCast_nonneg _, by show ((numOf (s.extract 0 4) : Nat) : Int) < _; omega⟩
theorem bulky_app {B B' M : Nat} {w w' : World} {us vs : List Ev} {x : Ev} (h : vs.map Ev.ent = us.map Ev.ent ++ [x.ent]) (hu : SeesVs B w us) (hx : SeesV B w x) (hv : SeesVs B' w' vs) (hb : Bulky M us) (hxb : x.n ≤ M ∧ x.n' ≤ M) : Bulky M vs :=
  bulk_same (vs := us ++ [x]) (h.trans (by rw [List.map_append]; rfl)) (hu.snoc hx) hv fun y hy => by
    rcases List.mem_append.1 hy with hy | hy
    · exact hb y hy
    · rw [List.mem_singleton] at hy; subst hy; exact hxb
/-- the list that grew and the journal's entries are compared -/
theorem again_same {B R R2 K g c18 cap : Nat} {A18 : Option Addr} {w17 V w7 : World} {va : Value} {us1 us3 : List Ev} {l : List Value} {x : Ev} (h1 : w17.ownsRow R enT 4 va K l) (hBR : B ≤ R) (hV : Below w17.heap.size w17 V) (hg : V.grownBy w7 va.ownBlock)
    (hown : w7.ownsRow R enT 4 (.slice (some ⟨g, 0, none⟩) (K + 1) cap) (K + 1) (ecells (us1 ++ [x]))) (ho : V.ownsRow R2 enT 4 (.slice A18 (K + 1) c18) (K + 1) (ecells us3)) (hR2 : w17.heap.size ≤ R2) (hus : us3.map Ev.ent = us1.map Ev.ent ++ [x.ent])
    (hs3 : SeesVs B V us3) (hs1 : SeesVs B V us1) (hx : SeesV B V x) (hb : Bulky 1073741824 us3) (hK : K + 1 ≤ 100000) :
    Calls Tryz.prog 15 #[.slice A18 (K + 1) c18, .slice (some ⟨g, 0, none⟩) (K + 1) cap] w7 fun e w' => e = .returned (.bool true) ∧ Below w7.heap.size w7 w' := by
  have hk : KeptA (fun j => va.ownBlock = some j) V w7 := .of_grown hg fun j hj => hj
  have hVa := own_below h1 hV
  have hkx : KeptX B (fun j => va.ownBlock = some j) V w7 := hk.keptX fun j hj => Nat.le_trans hBR (own_block_ge h1 j hj)
  have ht : ∀ j, va.ownBlock = some j → typ V.heap[j]? ≠ rrT := fun j hj => by rw [own_typ hVa hj]; decide
  have ho7 := hkx.own ho (by decide) (fun j hj hj2 => by
    have h2 := (h1.lt _ hj2).2
    have h3 := (ho.lt _ hj).1
    omega)
  exact SameL_any A18 _ (K + 1) c18 cap us3 (us1 ++ [x]) w7 (SeesE.own ho7) (hs3.keepR (Nat.le_refl B) hkx ht) (SeesE.own hown) ((hs1.snoc hx).keepR (Nat.le_refl B) hkx ht) (hus.trans (by rw [List.map_append]; rfl)) hb hK
theorem step_append_Eg {w : World} {ops : Array Oper} {o : Oper} {a : Act} {K : Act → World → Prop} {Q : Exit → Act → World → Prop} {E : Prop} (hw : Region.wanted o (yielded ops a.tmps) = true) (s x : Operand)
    (ho : o.op = .call { callee := .builtin .append, args := #[s, x], argTypes := #[26, 26] }) (base : Nat) (v : Value) (vs : List Ev) (n : Nat) (hs : a.eval s = v) (hown : w.ownsRow base enT 4 v n (ecells vs))
    (G c : Nat) (y : Ev) (hx : a.eval x = .slice (some ⟨G, 0, none⟩) 1 c) (hG : Whole w G enT y.arr) (hlen : n + 1 ≤ 1000000) (hbase : base ≤ w.heap.size)
    (h : ∀ g cap w', w'.ownsRow base enT 4 (.slice (some ⟨g, 0, none⟩) (n + 1) cap) (n + 1) (ecells (vs ++ [y])) → w.grownBy w' v.ownBlock → K (a.put o.dst (.slice (some ⟨g, 0, none⟩) (n + 1) cap)) w') : if Region.wanted o (yielded ops a.tmps) = true then Oper.wp Tryz.prog o a w K Q else E := by
  obtain ⟨i, hi, hz0, hz1, hz2⟩ := info_parts en_info
  rw [if_pos hw]
  refine wp_append_lies w s x 26 ho base enT i _ 4 56 Tryz.underlying26 hi hz0 hz1 hz2 rfl (by decide) v n (ecells vs) hs hown ⟨G, 0, none⟩ 1 c (ecells [y]) hx (by simp [ecells_len]) (ev_news hG) (ecells_plain _) (by decide) (by unfold maxLen; omega) (by omega) hbase w.heap.size rfl ?_
  intro g cap w' h1 h2 _ _
  exact h g cap w' (by rw [ecells_append]; exact h1) h2
set_option maxHeartbeats 8000000 in
set_option maxRecDepth 20000 in
theorem LogAgain_walk (A : Option Addr) (n c : Nat) (evs : List Ev) (rest : ByteArray) (w : World) (h : SeesE w A n evs) (hs : SeesVs w.heap.size w evs) (hb : Bulky 100000000 evs) (hu : ∀ v ∈ evs, u32 v.f ∧ u32 v.t) (hnc : n ≤ c) :
    Calls Tryz.prog 5 #[.slice A n c, .string rest] w fun e w' => e = .returned (.bool true) ∧ Below w.heap.size w w' := by
  have HE := Lib.hid h
  have HS := Lib.hid hs
  have HBK := Lib.hid hb
  have HUU := Lib.hid hu
  have HLEN := Lib.hid h.1
  clear h hs hb hu
  go_enter Tryz.func5, Tryz.ntmps5
  go_wp2_with fail
  refine (awake_any _).mono ?_
  rintro e w1 ⟨rfl, hB⟩
  have HB1 := Lib.hid hB
  have HFE := Lib.hid (FewL_any A n c evs w1 (HE.out.keep hB) (HS.out.keep hB) HBK.out)
  clear hB
  cases hfew : fewL evs with
  | false =>
    have HFF := Lib.hid hfew
    clear hfew
    go_wp2_with fail
    refine Calls.mono HFE.out ?_
    rw [HFF.out]
    rintro e w2 ⟨rfl, hB⟩
    have HB2 := Lib.hid (HB1.out.trans (hB.mono HB1.out.size))
    clear hB
    go_wp2_with fail
    refine (awake_any _).mono ?_
    rintro e wz ⟨rfl, hB⟩
    have HBz := Lib.hid (HB2.out.trans (hB.mono HB2.out.size))
    clear hB
    go_wp2_with fail
    go_ret
    exact ⟨rfl, HBz.out⟩
  | true =>
    obtain ⟨hn10, hfv⟩ := fewL_is hfew
    rw [HLEN.out] at hn10
    have HFF := Lib.hid hfew
    have HFV := Lib.hid hfv
    clear hfew hfv
    go_wp2_with fail
    refine Calls.mono HFE.out ?_
    rw [HFF.out]
    rintro e w2 ⟨rfl, hB⟩
    have HB2 := Lib.hid (HB1.out.trans (hB.mono HB1.out.size))
    clear hB
    have HFO := Lib.hid (formed_any A n c evs w2 (HE.out.keep HB2.out) (HS.out.keep HB2.out) HFV.out (by omega))
    cases hok : evs.all okV with
    | false =>
      have HOK := Lib.hid hok
      clear hok
      go_wp2_with fail
      refine Calls.mono HFO.out ?_
      rw [HOK.out]
      rintro e w3 ⟨rfl, hB⟩
      have HB3 := Lib.hid (HB2.out.trans (hB.mono HB2.out.size))
      clear hB
      go_wp2_with fail
      refine (awake_any _).mono ?_
      rintro e wz ⟨rfl, hB⟩
      have HBz := Lib.hid (HB3.out.trans (hB.mono HB3.out.size))
      clear hB
      go_wp2_with fail
      go_ret
      exact ⟨rfl, HBz.out⟩
    | true =>
      have HOK := Lib.hid hok
      have HOV := Lib.hid (List.all_eq_true.1 hok)
      clear hok
      by_cases hrs : 200 < rest.size
      · have g1 : (200 : Int) < (rest.size : Int) := by omega
        go_wp2_with fail
        refine Calls.mono HFO.out ?_
        rw [HOK.out]
        rintro e w3 ⟨rfl, hB⟩
        have HB3 := Lib.hid (HB2.out.trans (hB.mono HB2.out.size))
        clear hB
        go_wp2_with fail
        refine (awake_any _).mono ?_
        rintro e wz ⟨rfl, hB⟩
        have HBz := Lib.hid (HB3.out.trans (hB.mono HB3.out.size))
        clear hB
        go_wp2_with fail
        go_ret
        exact ⟨rfl, HBz.out⟩
      have g1 : ¬ (200 : Int) < (rest.size : Int) := by omega
      rcases n with _ | m
      · go_wp2_with fail
        refine Calls.mono HFO.out ?_
        rw [HOK.out]
        rintro e w3 ⟨rfl, hB⟩
        have HB3 := Lib.hid (HB2.out.trans (hB.mono HB2.out.size))
        clear hB
        go_wp2_with fail
        refine (awake_any _).mono ?_
        rintro e wz ⟨rfl, hB⟩
        have HBz := Lib.hid (HB3.out.trans (hB.mono HB3.out.size))
        clear hB
        go_wp2_with fail
        go_ret
        exact ⟨rfl, HBz.out⟩
      go_wp2_with fail
      refine Calls.mono HFO.out ?_
      rw [HOK.out]
      rintro e w3 ⟨rfl, hB⟩
      have HB3 := Lib.hid (HB2.out.trans (hB.mono HB2.out.size))
      clear hB
      have gz : ((m : Int) + 1 == 0) = false := by rw [beq_eq_false_iff_ne]; omega
      obtain ⟨z, hz⟩ : ∃ z, evs[0]? = some z := ⟨evs[0]'(by rw [HLEN.out]; omega), List.getElem?_eq_getElem _⟩
      obtain ⟨ba, oa, rfl, hba, z0, z1, z2, z3⟩ := (HE.out.keep HB3.out).at hz
      have HZ := Lib.hid hz
      obtain ⟨es1, hes1⟩ : ∃ l, l = evs.drop 1 := ⟨_, rfl⟩
      have hmem : ∀ v ∈ es1, v ∈ evs := fun v hv => by rw [hes1] at hv; exact List.mem_of_mem_drop hv
      have hlen1 : es1.length = m := by rw [hes1, List.length_drop, HLEN.out]; omega
      have HL1 := Lib.hid hlen1
      have HMEM := Lib.hid hmem
      have hs1 : SeesVs w.heap.size w es1 := fun v hv => HS.out v (hmem v hv)
      have HS1 := Lib.hid hs1
      have hfine : Fine w3.heap.size w3 es1 := ⟨(hs1.keep HB3.out).mono HB3.out.size, fun v hv => ⟨HFV.out v (hmem v hv), HOV.out v (hmem v hv)⟩⟩
      have HFI := Lib.hid hfine
      have HLI := Lib.hid (es_links hfine (by omega))
      have HSZ := Lib.hid (es_size hfine (by omega))
      have HBU := Lib.hid (fine_bulk hfine)
      have HD1 := Lib.hid hes1
      have HSE := Lib.hid (show ∀ off, (m = 0 ∨ off = oa + 4) → SeesE w3 (some ⟨ba, off, none⟩) m es1 by
        rintro off (h0 | rfl)
        · exact ⟨hlen1, fun h => absurd h (by omega)⟩
        · have := (HE.out.keep HB3.out).drop (m := 1) (by omega)
          rw [← hes1] at this
          simpa using this)
      clear hz hes1 hmem hs1 hfine z0 z1 z2 z3
      go_wp2_with fail
      all_goals
        refine Calls.mono (added_any _ m _ 1048576 es1 w3 (HSE.out _ (by first | (right; rfl) | (left; omega) | (right; omega))) HFI.out (by omega) (by omega) (by omega)) ?_
        intro e w4 hae
        obtain ⟨d, Aa, ca, S, rfl, hL4, hone, hown4, hB⟩ := added_long hae (by omega) HLI.out HSZ.out HL1.out (by omega)
        have HB4 := Lib.hid (HB3.out.trans (hB.mono HB3.out.size))
        have HL4 := Lib.hid hL4
        have HOWN4 := Lib.hid hown4
        obtain ⟨F, hF⟩ : ∃ F, F = rowF ((esOf es1).map bytesE) := ⟨_, rfl⟩
        have hFl : F.length ≤ 681080 := by
          have := HSZ.out
          unfold frL at this
          rw [List.take_length, ← hF] at this
          exact this
        obtain ⟨R, hR⟩ : ∃ R, R = rest.data.toList := ⟨_, rfl⟩
        have hRl : R.length ≤ 200 := by
          have : R.length = rest.size := by rw [hR]; simp
          omega
        rw [← hF] at hone
        obtain ⟨_, p2, p3⟩ := (show One 1073741824 (99 + 1) S F from hone).append R (by omega)
        obtain ⟨S5, hS5⟩ : ∃ S5, S5 = (appendS S L1 R).1 := ⟨_, rfl⟩
        rw [← hS5] at p2 p3
        obtain ⟨P, hP⟩ : ∃ P, P = F ++ R := ⟨_, rfl⟩
        rw [← hP] at p2
        have hPl : P.length ≤ 681280 := by rw [hP, List.length_append]; omega
        obtain ⟨r1, r2⟩ := had_rest HLI.out R
        have r3 := had_rest_le HLI.out R
        rw [← hF, ← hP, esOf_len, HL1.out] at r1 r2 r3
        obtain ⟨q1, q2, q3⟩ := had_again P
        obtain ⟨K, hK⟩ : ∃ K, K = (hadL P).1.length := ⟨_, rfl⟩
        rw [← hK] at r1 r3
        obtain ⟨Q, hQ⟩ : ∃ Q, Q = P.take (hadL P).2 := ⟨_, rfl⟩
        rw [← hQ] at q1 q2
        have hQl : Q.length ≤ 681280 := by omega
        obtain ⟨hs, hhs⟩ : ∃ l, l = (hadL P).1 := ⟨_, rfl⟩
        rw [← hhs] at r2 hK
        have HTK := Lib.hid r2
        have HKK := Lib.hid hK
        have HQL := Lib.hid q2
        have HQH := Lib.hid (show hadL Q = (hs, Q.length) by rw [q1, q2, hhs])
        have HHS := Lib.hid hhs
        have HQQ := Lib.hid hQ
        have HONE5 := Lib.hid (show One 1073741824 (94 + 5) S5 P from p2)
        have HS5 := Lib.hid hS5
        have HRR := Lib.hid hR
        have hKm : K ≤ 210 := by omega
        clear hL4 hone hown4 hB hae hF hR p2 p3 hS5 r2 q1 q2 q3 hK hQ hhs hP
        go_wp2_with fail
        refine (live_Append HL4.out (by omega) (by omega) ⟨#[108, 111, 103, 45, 49]⟩ rest (by omega) (by decide)).mono ?_
        rintro e w5 ⟨rfl, hL5, hK5⟩
        have HL5 := Lib.hid (show Live w3.heap.size w5 d (40 + 2) (20000000 + rest.size) S5 by rw [HS5.out, HRR.out]; exact hL5)
        have HB5 := Lib.hid (HB4.out.trans ((hK5.below HL4.out.base).mono HB3.out.size))
        have HOWN5 := Lib.hid (hK5.own HOWN4.out (by decide))
        clear hL5 hK5
        go_wp2_with fail
        refine (open_one HL5.out (by omega) (by omega) HONE5.out (by omega)).mono ?_
        rintro e w6 ⟨g1, v1, vs1, S6, rfl, hL6, hK6, hone6, _, _, hla6, hvs6, _, _⟩
        rw [← HQQ.out] at hone6
        rw [← HHS.out] at hvs6
        have HB6 := Lib.hid (HB5.out.trans ((hK6.below HL5.out.base).mono HB3.out.size))
        have HOWN6 := Lib.hid (hK6.own HOWN5.out (by decide))
        have HL6 := Lib.hid hL6
        have HBR6 := Lib.hid hL6.base
        have HONE6 := Lib.hid (show One 1073741824 (89 + 5) S6 Q from hone6)
        have HVS6 := Lib.hid hvs6
        have hbk := had_bulk (b := P) (by rw [HVS6.out, HHS.out]) hla6.sees
        have hbk2 : Bulky 1073741824 vs1 := fun y hy => by have := hbk y hy; omega
        have HBK6 := Lib.hid hbk2
        have hvl : vs1.length = K := by rw [HKK.out, ← HVS6.out, List.length_map]
        have hEN := Entries_any hla6 (by omega) hbk2
        rw [hvl] at hEN
        have HEN := Lib.hid hEN
        have HSV6 := Lib.hid hla6.sees
        clear hL6 hK6 hone6 hla6 hvs6 hbk hbk2 hvl hEN
        go_wp2_with fail
        refine Calls.mono HEN.out ?_
        rintro e w7 ⟨A7, c7, us1, rfl, hown7, hus7, hsu7, hB7⟩
        obtain ⟨A7', c7', e7, hc7, hc7m⟩ := own_shape hown7
        injection e7 with e71 _ e73
        subst e71
        subst e73
        have HB7 := Lib.hid (HB6.out.trans (hB7.mono HB6.out.size))
        have HOWN7 := Lib.hid (own_below HOWN6.out hB7)
        have HL7 := Lib.hid (HL6.out.same hB7)
        have HHAD7 := Lib.hid hown7
        have HSZ7 := Lib.hid hB7.size
        have HUS := Lib.hid (show us1.map Ev.ent = hs from hus7.trans HVS6.out)
        have HSU7 := Lib.hid hsu7
        have HBU7 := Lib.hid (bulk_same hus7 HSV6.out hsu7 HBK6.out)
        clear hown7 hus7 hsu7 hB7
        obtain ⟨QS, hQS⟩ : ∃ QS : ByteArray, QS = mk Q := ⟨_, rfl⟩
        have HQS := Lib.hid hQS
        clear hQS
        have hrd := live_Read HL7.out ⟨#[108, 111, 103, 45, 49]⟩
        rw [show (⟨#[108, 111, 103, 45, 49]⟩ : ByteArray).data.toList = L1 from rfl, HONE6.out.read.1, show (⟨Q.toArray⟩ : ByteArray) = QS from HQS.out.symm] at hrd
        have HRD := Lib.hid hrd
        clear hrd
        go_wp2_with fail
        refine Calls.mono HRD.out ?_
        rintro e w8 ⟨rfl, hB8⟩
        have HB8 := Lib.hid (HB7.out.trans (hB8.mono HB7.out.size))
        have HOWN8 := Lib.hid (own_below HOWN7.out hB8)
        have HL8 := Lib.hid (HL7.out.same hB8)
        have HHAD8 := Lib.hid (own_below HHAD7.out hB8)
        have HSZ8 := Lib.hid (show w6.heap.size ≤ w8.heap.size by have := hB8.size; have := HSZ7.out; omega)
        have HSU8 := Lib.hid (HSU7.out.keep hB8)
        clear hB8
        go_wp2_with fail
        refine (open_one HL8.out (by omega) (by omega) HONE6.out (by omega)).mono ?_
        rintro e w9 ⟨g2, v2, vs2, S9, rfl, hL9, hK9, hone9, hsam9, _, hla9, hvs9, hg9, hv9⟩
        rw [HQH.out] at hone9 hsam9 hla9 hvs9
        rw [List.take_length] at hone9
        obtain rfl := hsam9 rfl
        have HB9 := Lib.hid (HB8.out.trans ((hK9.below HL8.out.base).mono HB3.out.size))
        have HOWN9 := Lib.hid (hK9.own HOWN8.out (by decide))
        have HHAD9 := Lib.hid (hK9.own HHAD8.out (by decide))
        have HSZ9 := Lib.hid (show w6.heap.size ≤ w9.heap.size by have := hK9.size; have := HSZ8.out; omega)
        have HSU9 := Lib.hid (HSU8.out.keepX (.of_kept (fun _ => False) hK9) fun _ h => h.elim)
        have HL9 := Lib.hid hL9
        have HONE9 := Lib.hid hone9
        have HLA9 := Lib.hid (show LogAt w3.heap.size w9 g2 d 1 v2 vs2 vs2.length Q.length false from hla9)
        have HVS9 := Lib.hid (show vs2.map Ev.ent = hs from hvs9)
        have hgown : ∀ j, (Value.slice A7 K c7).ownBlock = some j → ¬ (j = g2 ∨ v2.ownBlock = some j) := by
          intro j hj hc
          have h1 := (HHAD8.out.lt _ hj).2
          rcases hc with rfl | hc
          · omega
          · have := hv9 _ hc
            omega
        have HNH := Lib.hid hgown
        clear hgown
        clear hL9 hK9 hone9 hsam9 hla9 hvs9 hg9 hv9
        have hrd := live_Read HL9.out ⟨#[108, 111, 103, 45, 49]⟩
        rw [show (⟨#[108, 111, 103, 45, 49]⟩ : ByteArray).data.toList = L1 from rfl, HONE9.out.read.1, show (⟨Q.toArray⟩ : ByteArray) = QS from HQS.out.symm] at hrd
        have HRD9 := Lib.hid hrd
        clear hrd
        go_wp2_with fail
        refine Calls.mono HRD9.out ?_
        rintro e w10 ⟨rfl, hB10⟩
        have HB10 := Lib.hid (HB9.out.trans (hB10.mono HB9.out.size))
        have HOWN10 := Lib.hid (own_below HOWN9.out hB10)
        have HHAD10 := Lib.hid (own_below HHAD9.out hB10)
        have HSZ10 := Lib.hid (show w6.heap.size ≤ w10.heap.size by have := hB10.size; have := HSZ9.out; omega)
        have HSU10 := Lib.hid (HSU9.out.keep hB10)
        have HL10 := Lib.hid (HL9.out.same hB10)
        have HLA10 := Lib.hid (HLA9.out.below hB10)
        clear hB10
        have hvl : vs2.length = K := by rw [HKK.out, ← HVS9.out, List.length_map]
        have hbk := bulk_same (HVS9.out.trans HUS.out.symm) HSU10.out HLA10.out.sees HBU7.out
        have hEN := Entries_any HLA10.out (by omega) hbk
        rw [hvl] at hEN
        have HEN := Lib.hid hEN
        have HVL := Lib.hid hvl
        have HBK10 := Lib.hid hbk
        clear hvl hEN hbk
        go_wp2_with fail
        refine Calls.mono HEN.out ?_
        rintro e w11 ⟨A11, c11, us2, rfl, hown11, hus11, hsu11, hB11⟩
        have HB11 := Lib.hid (HB10.out.trans (hB11.mono HB10.out.size))
        have HOWN11 := Lib.hid (own_below HOWN10.out hB11)
        have HHAD11 := Lib.hid (own_below HHAD10.out hB11)
        have HSZ11 := Lib.hid (show w6.heap.size ≤ w11.heap.size by have := hB11.size; have := HSZ10.out; omega)
        have HSU11 := Lib.hid (HSU10.out.keep hB11)
        have HL11 := Lib.hid (HL10.out.same hB11)
        have HLA11 := Lib.hid (HLA10.out.below hB11)
        have hes : us2.map Ev.ent = us1.map Ev.ent := (hus11.trans HVS9.out).trans HUS.out.symm
        have HSM := Lib.hid (SameL_any A11 A7 K c11 c7 us2 us1 w11 (SeesE.own hown11) hsu11 (SeesE.own HHAD11.out) HSU11.out hes (bulk_same hes HSU11.out hsu11 HBU7.out) (by omega))
        clear hB11 hown11 hus11 hsu11 hes
        go_wp2_with fail
        refine Calls.mono HSM.out ?_
        rintro e w12 ⟨rfl, hB12⟩
        have HB12 := Lib.hid (HB11.out.trans (hB12.mono HB11.out.size))
        have HOWN12 := Lib.hid (own_below HOWN11.out hB12)
        have HHAD12 := Lib.hid (own_below HHAD11.out hB12)
        have HSZ12 := Lib.hid (show w6.heap.size ≤ w12.heap.size by have := hB12.size; have := HSZ11.out; omega)
        have HSU12 := Lib.hid (HSU11.out.keep hB12)
        have HL12 := Lib.hid (HL11.out.same hB12)
        have HLA12 := Lib.hid (HLA11.out.below hB12)
        clear hB12
        have h1 : ¬ (K : Int) < (m : Int) := by omega
        have h2 : (m : Int) ≤ (c7 : Int) := by omega
        have h3 : (0 : Int) ≤ (m : Int) := by omega
        have hes : (us1.take m).map Ev.ent = (numE es1).map Ev.ent := by rw [List.map_take, HUS.out]; exact HTK.out
        have hn12 : SeesVs w3.heap.size w12 (numE es1) := (numE_sees (HS1.out.keep HB12.out)).mono HB3.out.size
        have ht12 : SeesVs w3.heap.size w12 (us1.take m) := fun v hv => HSU12.out v (List.mem_of_mem_take hv)
        have HSM2 := Lib.hid (SameL_any A7 Aa m c7 ca (us1.take m) (numE es1) w12 ((SeesE.own HHAD12.out).take r1) ht12 (SeesE.own HOWN12.out) hn12 hes (fun v hv => HBU7.out v (List.mem_of_mem_take hv)) (by omega))
        clear hes hn12 ht12
        go_wp2_with fail
        refine Calls.mono HSM2.out ?_
        rintro e w13 ⟨rfl, hB13⟩
        have HB13 := Lib.hid (HB12.out.trans (hB13.mono HB12.out.size))
        have HHAD13 := Lib.hid (own_below HHAD12.out hB13)
        have HSU13 := Lib.hid (HSU12.out.keep hB13)
        have hs13 : w6.heap.size ≤ w13.heap.size := by have := hB13.size; have := HSZ12.out; omega
        have HL13 := Lib.hid (HL12.out.same hB13)
        have HLA13 := Lib.hid (HLA12.out.below hB13)
        clear hB13
        obtain ⟨b', o', e', hb13, z0, z1, z2, z3⟩ := (HE.out.keep HB13.out).at HZ.out
        obtain ⟨rfl, rfl⟩ : ba = b' ∧ oa = o' := by simpa using e'
        rw [Nat.zero_mul, Nat.add_zero] at z0 z1 z2 z3
        clear e'
        have hzu := HUU.out z (List.mem_of_getElem? HZ.out)
        have hzs : fewV z = true ∧ okV z = true := ⟨HFV.out z (List.mem_of_getElem? HZ.out), HOV.out z (List.mem_of_getElem? HZ.out)⟩
        have hzv := fun W (hW : Below w.heap.size w W) => (HS.out.keep hW) z (List.mem_of_getElem? HZ.out)
        have hzn : z.n + z.n' ≤ 30 := by
          have h1 := (HS.out z (List.mem_of_getElem? HZ.out)).1.1.1
          have h2 := (HS.out z (List.mem_of_getElem? HZ.out)).2.1.1
          have h3 := (few_small hzs.1).1
          rw [List.length_append] at h3
          omega
        have HZU := Lib.hid hzu
        have HZS := Lib.hid hzs
        have HZV := Lib.hid hzv
        have HZN := Lib.hid hzn
        have hb14 : Below w13.heap.size w13 (w13.alloc (.cells #[.int .u32 z.f, .int .u32 z.t, .slice z.A z.n z.c, .slice z.A' z.n' z.c'] enT)) := (Below.refl _ _).alloc (Nat.le_refl _) _
        have HX14 := Lib.hid (show Whole (w13.alloc (.cells #[.int .u32 z.f, .int .u32 z.t, .slice z.A z.n z.c, .slice z.A' z.n' z.c'] enT)) w13.heap.size enT z.arr from Whole.new w13 enT z.arr)
        have HB14 := Lib.hid hb14
        clear hb14 hzu hzs hzv hzn
        go_upto_region 17 with fail
        clear z0 z1 z2 z3
        generalize w13.alloc (.cells #[.int .u32 z.f, .int .u32 z.t, .slice z.A z.n z.c, .slice z.A' z.n' z.c'] enT) = w14 at HX14 HB14 ⊢
        rcases K with _ | k
        · have hs0 : hs = [] := List.eq_nil_of_length_eq_zero HKK.out.symm
          obtain ⟨x, hx⟩ : ∃ x, x = z := ⟨_, rfl⟩
          have HXS := Lib.hid (show ∀ W, Below w.heap.size w W → SeesV w.heap.size W x from hx ▸ HZV.out)
          have HXG := Lib.hid (show u32 x.f ∧ u32 x.t ∧ x.n + x.n' ≤ 30 ∧ (∀ r ∈ x.xs ++ x.ys, r.s.size ≤ 600 ∧ r.d.size ≤ 2000) ∧ okE x.ent = true from hx ▸ ⟨HZU.out.1, HZU.out.2, HZN.out, (few_small HZS.out.1).2, HZS.out.2⟩)
          have HGO := Lib.hid (show goesE (lastT hs) x.ent.f = true by rw [hs0]; rfl)
          obtain ⟨w15, hw15⟩ : ∃ w, w = w14 := ⟨_, rfl⟩
          have hb15 : Below w13.heap.size w13 w15 := by rw [hw15]; exact HB14.out
          have hx15 : Whole w15 w13.heap.size enT x.arr := by rw [hw15, hx]; exact HX14.out
          rw [← hw15]
          clear hw15 hx hs0
          obtain ⟨G, hG⟩ : ∃ G, G = w13.heap.size := ⟨_, rfl⟩
          rw [← hG] at hx15 ⊢
          have hgw0 : w13.heap.size ≤ G := by omega
          clear hG
          have HX15 := Lib.hid hx15
          have HB15 := Lib.hid (HB13.out.trans (hb15.mono HB13.out.size))
          have HHAD15 := Lib.hid (own_below HHAD13.out hb15)
          have HSU15 := Lib.hid (HSU13.out.keep hb15)
          have HL15 := Lib.hid (HL13.out.same hb15)
          have HLA15 := Lib.hid (HLA13.out.below hb15)
          clear hb15 hx15
          obtain ⟨x0, x1, x2, x3⟩ := (show w15.cell? ⟨G, 0, none⟩ = some (.int .u32 x.f) ∧ w15.cell? ⟨G, 1, none⟩ = some (.int .u32 x.t) ∧ w15.cell? ⟨G, 2, none⟩ = some (.slice x.A x.n x.c) ∧ w15.cell? ⟨G, 3, none⟩ = some (.slice x.A' x.n' x.c') from ev_facts HX15.out)
          have hzv := HXS.out w15 HB15.out
          have hvl2 := HVL.out
          have hadd := Add_any HL15.out (by omega) (by omega) HLA15.out L1 frame_one (by decide) x hzv.1.1 hzv.2.1 HXG.out.1 HXG.out.2.1 HXG.out.2.2.1 HXG.out.2.2.2.1 (by omega) (by omega)
          obtain ⟨hgood, hgl⟩ := goes_bytes HXG.out.2.2.2.2 HXG.out.1 HXG.out.2.1 (by rw [ent_len, hzv.1.1.1, hzv.2.1.1]; exact HXG.out.2.2.1) (ent_small HXG.out.2.2.2.1)
          obtain ⟨a1, _, _, _, a5, _⟩ := (show One 1073741824 (86 + 3) S9 Q from HONE9.out).add (es := hs) (en := Q.length) hgood.1 HGO.out (by omega)
          rw [HVS9.out] at hadd
          obtain ⟨S16, hS16⟩ : ∃ s, s = (addL S9 L1 hs Q.length false x.ent).S := ⟨_, rfl⟩
          obtain ⟨Q2, hQ2⟩ : ∃ q, q = Q ++ frameL (bytesE x.ent) := ⟨_, rfl⟩
          rw [← hS16, ← hQ2] at a5
          have hq2 : hadL Q2 = (hs ++ [x.ent], Q2.length) := by
            have hh := HQH.out
            rw [hQ2, had_more (by rw [hh]) hgood (by rw [hh]; exact HGO.out), hh, List.length_append, frameL_len]
          have hQ2l : Q2.length ≤ 800000 := by rw [hQ2, List.length_append, frameL_len]; omega
          have HADD := Lib.hid hadd
          have HA1 := Lib.hid a1
          have HS16 := Lib.hid hS16
          have HONE16 := Lib.hid (show One 1073741824 (81 + 5) S16 Q2 from a5)
          have HQ2 := Lib.hid hq2
          clear hzv hvl2 hadd hgood hgl a1 a5 hS16 hQ2 hq2
          go_wp2_with fail
          refine (show Calls _ _ _ _ _ from HADD.out).mono ?_
          rintro e w16 ⟨rfl, hL16, _, hK16⟩
          rw [HA1.out]
          rw [← HS16.out] at hL16
          have HL16 := Lib.hid hL16
          have HB16 := Lib.hid (HB15.out.trans ((hK16.below HL15.out.base).mono HB3.out.size))
          have HHAD16 := Lib.hid (hK16.own HHAD15.out (by decide) HNH.out)
          have HSU16 := Lib.hid (HSU15.out.keepX hK16 (by
            rintro j (rfl | hj)
            · rw [whole_typ HLA15.out.cells]; decide
            · rw [own_typ HLA15.out.row hj]; decide))
          have HX16 := Lib.hid (hK16.whole HX15.out (by decide) (by
            rintro (hj | hj)
            · have := HLA13.out.cells.lt; omega
            · have := (HLA13.out.row.lt _ hj).2; omega))
          clear hL16 hK16 x0 x1 x2 x3
          go_wp2_with fail
          refine (open_one HL16.out (by omega) (by omega) HONE16.out (by omega)).mono ?_
          rintro e w17 ⟨g3, v3, vs3, S17, rfl, hL17, hK17, _, _, _, hla17, hvs17, hg17, hv17⟩
          rw [HQ2.out] at hla17 hvs17
          have HB17 := Lib.hid (HB16.out.trans ((hK17.below HL16.out.base).mono HB3.out.size))
          have HHAD17 := Lib.hid (hK17.own HHAD16.out (by decide))
          have HSU17 := Lib.hid (HSU16.out.keepX (.of_kept (fun _ => False) hK17) fun _ h => h.elim)
          have HX17 := Lib.hid (hK17.whole HX16.out (by decide))
          have HLA17 := Lib.hid (show LogAt w3.heap.size w17 g3 d 1 v3 vs3 vs3.length Q2.length false from hla17)
          have HVS17 := Lib.hid (show vs3.map Ev.ent = hs ++ [x.ent] from hvs17)
          have HNV := Lib.hid (show ∀ j, v3.ownBlock = some j → w16.heap.size ≤ j from hv17)
          have hs17 : G < w17.heap.size := HX17.out.lt
          clear hL17 hK17 hla17 hvs17 hg17 hv17
          obtain ⟨x0, x1, x2, x3⟩ := (show w17.cell? ⟨G, 0, none⟩ = some (.int .u32 x.f) ∧ w17.cell? ⟨G, 1, none⟩ = some (.int .u32 x.t) ∧ w17.cell? ⟨G, 2, none⟩ = some (.slice x.A x.n x.c) ∧ w17.cell? ⟨G, 3, none⟩ = some (.slice x.A' x.n' x.c') from ev_facts HX17.out)
          go_upto_region 22 with fail
          clear HFE HFO HADD HEN HSM HSM2 HRD HRD9 HL4 HL5 HL6 HL7 HL8 HL9 HL10 HL11 HL12
          have hvl3 : vs3.length = 0 + 1 := by have := congrArg List.length HVS17.out; rw [List.length_map, List.length_append, ← HKK.out] at this; exact this
          have hxs17 : SeesV w3.heap.size w17 x := (SeesVs.mono (vs := [x]) (fun v hv => by rw [List.mem_singleton] at hv; subst hv; exact HXS.out _ HB17.out) HB3.out.size) x (by simp)
          have HXS17 := Lib.hid hxs17
          have hbk3 := bulky_app (HVS17.out.trans (by rw [HUS.out])) HSU17.out hxs17 HLA17.out.sees HBU7.out (show x.n ≤ 1073741824 ∧ x.n' ≤ 1073741824 by have := HXG.out.2.2.1; omega)
          have HBK3 := Lib.hid hbk3
          have HENT := Lib.hid (fun (W : World) (hW : Below w17.heap.size w17 W) => (by
            have hh := Entries_any (HLA17.out.below hW) (by omega) hbk3
            rw [hvl3] at hh
            exact hh : Calls Tryz.prog 14 #[.pointer (some ⟨g3, 0, none⟩)] W (EntsOf w3.heap.size (0 + 1) vs3 W)))
          clear hvl3 hbk3 hxs17
          have HR17 := Lib.hid (show w6.heap.size ≤ w17.heap.size by omega)
          have HNG := Lib.hid (show some G ≠ (Value.slice A7 0 c7).ownBlock from fun e => by
            have := (HHAD13.out.lt _ e.symm).2
            omega)
          have hT0 : Below w17.heap.size w17 w17.drew := (Below.refl _ _).drew
          have hTA : Below w17.heap.size w17 (w17.drew.alloc (.cells #[.int .u32 x.f, .int .u32 x.t, .slice x.A x.n x.c, .slice x.A' x.n' x.c'] enT)) := hT0.alloc (Nat.le_refl _) _
          have hWN : Whole (w17.drew.alloc (.cells #[.int .u32 x.f, .int .u32 x.t, .slice x.A x.n x.c, .slice x.A' x.n' x.c'] enT)) w17.drew.heap.size enT x.arr := Whole.new w17.drew enT x.arr
          go_cut [4] (fun v wx => v = .bool true ∧ Below w.heap.size w wx)
          case first =>
            go_region_held3 (fun w' => w'.cell? ⟨G, 0, none⟩ = some (.int .u32 x.f) ∧ w'.cell? ⟨G, 1, none⟩ = some (.int .u32 x.t) ∧ w'.cell? ⟨G, 2, none⟩ = some (.slice x.A x.n x.c) ∧ w'.cell? ⟨G, 3, none⟩ = some (.slice x.A' x.n' x.c')) (go_keep) (first
              | (go_at_call 14; refine (HENT.out _ hT0).mono ?_; rintro e u1 ⟨A18, c18, us3, rfl, ho1, hus3, hsu3, hB1⟩; have hU := hT0.trans (hB1.mono hT0.size); have hR2 := hT0.size; have hal : Below u1.heap.size u1 (u1.alloc (.cells #[.int .u32 x.f, .int .u32 x.t, .slice x.A x.n x.c, .slice x.A' x.n' x.c'] enT)) := (Below.refl _ _).alloc (Nat.le_refl _) _; have hV := hU.alloc hU.size (.cells #[.int .u32 x.f, .int .u32 x.t, .slice x.A x.n x.c, .slice x.A' x.n' x.c'] enT); have hW := (show Whole (u1.alloc (.cells #[.int .u32 x.f, .int .u32 x.t, .slice x.A x.n x.c, .slice x.A' x.n' x.c'] enT)) u1.heap.size enT x.arr from Whole.new u1 enT x.arr); have hO := own_below ho1 hal; have hS3 := hsu3.keep hal; (obtain ⟨y0, y1, y2, y3⟩ := (show u1.cell? ⟨G, 0, none⟩ = some (.int .u32 x.f) ∧ u1.cell? ⟨G, 1, none⟩ = some (.int .u32 x.t) ∧ u1.cell? ⟨G, 2, none⟩ = some (.slice x.A x.n x.c) ∧ u1.cell? ⟨G, 3, none⟩ = some (.slice x.A' x.n' x.c') from ev_facts (HX17.out.below hU HX17.out.lt))))
              | (go_at_call 14; refine (HENT.out _ hTA).mono ?_; rintro e u1 ⟨A18, c18, us3, rfl, ho1, hus3, hsu3, hB1⟩; have hU := hTA.trans (hB1.mono hTA.size); have hR2 := hTA.size; have hV := hU; have hW := hWN.below hB1 hWN.lt; have hO := ho1; have hS3 := hsu3; (obtain ⟨y0, y1, y2, y3⟩ := (show u1.cell? ⟨G, 0, none⟩ = some (.int .u32 x.f) ∧ u1.cell? ⟨G, 1, none⟩ = some (.int .u32 x.t) ∧ u1.cell? ⟨G, 2, none⟩ = some (.slice x.A x.n x.c) ∧ u1.cell? ⟨G, 3, none⟩ = some (.slice x.A' x.n' x.c') from ev_facts (HX17.out.below hU HX17.out.lt))))
              | (refine step_append_Eg (by rfl) (.tmp 156) (.tmp 158) (by rfl) w6.heap.size _ us1 0 (by rfl) (own_below HHAD17.out hV) _ _ x (by rfl) hW (by omega) (Nat.le_trans HR17.out hV.size) ?_; intro g7 cap7 u2 hown7 hg7; have HSMF := Lib.hid (again_same HHAD17.out HBR6.out hV hg7 hown7 hO hR2 (hus3.trans (HVS17.out.trans (by rw [HUS.out]))) hS3 (HSU17.out.keep hV) (HXS17.out.keep hV) (bulk_same hus3 HLA17.out.sees hsu3 HBK3.out) (by omega)); have hE := (HB17.out.trans (hV.mono HB17.out.size)).grown hg7 (Nat.le_trans HB17.out.size hV.size) (fun j hj => Nat.le_trans HB6.out.size (own_block_ge HHAD17.out j hj)); (obtain ⟨y0, y1, y2, y3⟩ := (show u2.cell? ⟨G, 0, none⟩ = some (.int .u32 x.f) ∧ u2.cell? ⟨G, 1, none⟩ = some (.int .u32 x.t) ∧ u2.cell? ⟨G, 2, none⟩ = some (.slice x.A x.n x.c) ∧ u2.cell? ⟨G, 3, none⟩ = some (.slice x.A' x.n' x.c') from ev_facts ((HX17.out.below hV HX17.out.lt).grown hg7 HNG.out))))
              | (go_at_call 15; refine Calls.mono HSMF.out ?_; rintro e u3 ⟨rfl, hB3⟩; have hF := hE.trans (hB3.mono hE.size); (obtain ⟨y0, y1, y2, y3⟩ := (show u3.cell? ⟨G, 0, none⟩ = some (.int .u32 x.f) ∧ u3.cell? ⟨G, 1, none⟩ = some (.int .u32 x.t) ∧ u3.cell? ⟨G, 2, none⟩ = some (.slice x.A x.n x.c) ∧ u3.cell? ⟨G, 3, none⟩ = some (.slice x.A' x.n' x.c') from ev_facts (((HX17.out.below hV HX17.out.lt).grown hg7 HNG.out).below hB3 ((HX17.out.below hV HX17.out.lt).grown hg7 HNG.out).lt)))))
            all_goals
              have HF := Lib.hid hF
              go_wp2_with fail
              go_meet
              exact ⟨rfl, HF.out⟩
          case rest =>
            obtain ⟨rfl, hBx⟩ := hcut
            go_wp2_with fail
            go_ret
            exact ⟨rfl, hBx⟩
        · obtain ⟨u, hu⟩ : ∃ u, us1[k]? = some u := ⟨us1[k]'(by have := congrArg List.length HUS.out; rw [List.length_map, ← HKK.out] at this; omega), List.getElem?_eq_getElem _⟩
          obtain ⟨gh, rfl, _, hgh, y0, y1, y2, y3⟩ := own_ev (own_below HHAD13.out HB14.out) (by have := congrArg List.length HUS.out; rw [List.length_map, ← HKK.out] at this; omega) hu
          have hut : u32 u.t := by
            have hm : u.ent ∈ (hadL P).1 := by rw [← HHS.out, ← HUS.out]; exact List.mem_map_of_mem (List.mem_of_getElem? hu)
            obtain ⟨b, _, hb⟩ := hadF_mem _ _ _ hm
            exact (of_u32 hb).1
          have hlast : lastT hs = some u.t := by
            unfold lastT
            rw [List.getLast?_eq_getElem?, ← HKK.out, ← HUS.out, List.getElem?_map, show k + 1 - 1 = k by omega, hu]
            rfl
          obtain ⟨x, hx⟩ : ∃ x : Ev, x = { z with f := u.t } := ⟨_, rfl⟩
          have HXS := Lib.hid (show ∀ W, Below w.heap.size w W → SeesV w.heap.size W x from hx ▸ HZV.out)
          have HXG := Lib.hid (show u32 x.f ∧ u32 x.t ∧ x.n + x.n' ≤ 30 ∧ (∀ r ∈ x.xs ++ x.ys, r.s.size ≤ 600 ∧ r.d.size ≤ 2000) ∧ okE x.ent = true from hx ▸ ⟨hut, HZU.out.2, HZN.out, (few_small HZS.out.1).2, HZS.out.2⟩)
          have HGO := Lib.hid (show goesE (lastT hs) x.ent.f = true by rw [hlast, hx]; show decide (u.t = u.t) = true; simp)
          have k0 : (0 : Int) ≤ (k : Int) := by omega
          have hb15 : Below w13.heap.size w13 (w14.setCell ⟨w13.heap.size, 0, none⟩ (.int .u32 u.t)) := HB14.out.setCell (Nat.le_refl _) _
          have hx15 : Whole (w14.setCell ⟨w13.heap.size, 0, none⟩ (.int .u32 u.t)) w13.heap.size enT x.arr := by
            have := HX14.out.put 0 (.int .u32 u.t)
            rw [hx]
            simpa [Ev.arr, enA] using this
          clear hx hlast hut hu
          have q14 := HX14.out.frozen 0
          have e14 : w14.cell? ⟨w13.heap.size, 0, none⟩ = some (.int .u32 z.f) := HX14.out.cell 0
          go_upto_region 19 with fail
          clear y0 y1 y2 y3 q14 e14
          generalize w14.setCell ⟨w13.heap.size, 0, none⟩ (.int .u32 u.t) = w15 at hb15 hx15 ⊢
          obtain ⟨G, hG⟩ : ∃ G, G = w13.heap.size := ⟨_, rfl⟩
          rw [← hG] at hx15 ⊢
          have hgw0 : w13.heap.size ≤ G := by omega
          clear hG
          have HX15 := Lib.hid hx15
          have HB15 := Lib.hid (HB13.out.trans (hb15.mono HB13.out.size))
          have HHAD15 := Lib.hid (own_below HHAD13.out hb15)
          have HSU15 := Lib.hid (HSU13.out.keep hb15)
          have HL15 := Lib.hid (HL13.out.same hb15)
          have HLA15 := Lib.hid (HLA13.out.below hb15)
          clear hb15 hx15
          obtain ⟨x0, x1, x2, x3⟩ := (show w15.cell? ⟨G, 0, none⟩ = some (.int .u32 x.f) ∧ w15.cell? ⟨G, 1, none⟩ = some (.int .u32 x.t) ∧ w15.cell? ⟨G, 2, none⟩ = some (.slice x.A x.n x.c) ∧ w15.cell? ⟨G, 3, none⟩ = some (.slice x.A' x.n' x.c') from ev_facts HX15.out)
          have hzv := HXS.out w15 HB15.out
          have hvl2 := HVL.out
          have hadd := Add_any HL15.out (by omega) (by omega) HLA15.out L1 frame_one (by decide) x hzv.1.1 hzv.2.1 HXG.out.1 HXG.out.2.1 HXG.out.2.2.1 HXG.out.2.2.2.1 (by omega) (by omega)
          obtain ⟨hgood, hgl⟩ := goes_bytes HXG.out.2.2.2.2 HXG.out.1 HXG.out.2.1 (by rw [ent_len, hzv.1.1.1, hzv.2.1.1]; exact HXG.out.2.2.1) (ent_small HXG.out.2.2.2.1)
          obtain ⟨a1, _, _, _, a5, _⟩ := (show One 1073741824 (86 + 3) S9 Q from HONE9.out).add (es := hs) (en := Q.length) hgood.1 HGO.out (by omega)
          rw [HVS9.out] at hadd
          obtain ⟨S16, hS16⟩ : ∃ s, s = (addL S9 L1 hs Q.length false x.ent).S := ⟨_, rfl⟩
          obtain ⟨Q2, hQ2⟩ : ∃ q, q = Q ++ frameL (bytesE x.ent) := ⟨_, rfl⟩
          rw [← hS16, ← hQ2] at a5
          have hq2 : hadL Q2 = (hs ++ [x.ent], Q2.length) := by
            have hh := HQH.out
            rw [hQ2, had_more (by rw [hh]) hgood (by rw [hh]; exact HGO.out), hh, List.length_append, frameL_len]
          have hQ2l : Q2.length ≤ 800000 := by rw [hQ2, List.length_append, frameL_len]; omega
          have HADD := Lib.hid hadd
          have HA1 := Lib.hid a1
          have HS16 := Lib.hid hS16
          have HONE16 := Lib.hid (show One 1073741824 (81 + 5) S16 Q2 from a5)
          have HQ2 := Lib.hid hq2
          clear hzv hvl2 hadd hgood hgl a1 a5 hS16 hQ2 hq2
          go_wp2_with fail
          refine (show Calls _ _ _ _ _ from HADD.out).mono ?_
          rintro e w16 ⟨rfl, hL16, _, hK16⟩
          rw [HA1.out]
          rw [← HS16.out] at hL16
          have HL16 := Lib.hid hL16
          have HB16 := Lib.hid (HB15.out.trans ((hK16.below HL15.out.base).mono HB3.out.size))
          have HHAD16 := Lib.hid (hK16.own HHAD15.out (by decide) HNH.out)
          have HSU16 := Lib.hid (HSU15.out.keepX hK16 (by
            rintro j (rfl | hj)
            · rw [whole_typ HLA15.out.cells]; decide
            · rw [own_typ HLA15.out.row hj]; decide))
          have HX16 := Lib.hid (hK16.whole HX15.out (by decide) (by
            rintro (hj | hj)
            · have := HLA13.out.cells.lt; omega
            · have := (HLA13.out.row.lt _ hj).2; omega))
          clear hL16 hK16 x0 x1 x2 x3
          go_wp2_with fail
          refine (open_one HL16.out (by omega) (by omega) HONE16.out (by omega)).mono ?_
          rintro e w17 ⟨g3, v3, vs3, S17, rfl, hL17, hK17, _, _, _, hla17, hvs17, hg17, hv17⟩
          rw [HQ2.out] at hla17 hvs17
          have HB17 := Lib.hid (HB16.out.trans ((hK17.below HL16.out.base).mono HB3.out.size))
          have HHAD17 := Lib.hid (hK17.own HHAD16.out (by decide))
          have HSU17 := Lib.hid (HSU16.out.keepX (.of_kept (fun _ => False) hK17) fun _ h => h.elim)
          have HX17 := Lib.hid (hK17.whole HX16.out (by decide))
          have HLA17 := Lib.hid (show LogAt w3.heap.size w17 g3 d 1 v3 vs3 vs3.length Q2.length false from hla17)
          have HVS17 := Lib.hid (show vs3.map Ev.ent = hs ++ [x.ent] from hvs17)
          have HNV := Lib.hid (show ∀ j, v3.ownBlock = some j → w16.heap.size ≤ j from hv17)
          have hs17 : G < w17.heap.size := HX17.out.lt
          clear hL17 hK17 hla17 hvs17 hg17 hv17
          obtain ⟨x0, x1, x2, x3⟩ := (show w17.cell? ⟨G, 0, none⟩ = some (.int .u32 x.f) ∧ w17.cell? ⟨G, 1, none⟩ = some (.int .u32 x.t) ∧ w17.cell? ⟨G, 2, none⟩ = some (.slice x.A x.n x.c) ∧ w17.cell? ⟨G, 3, none⟩ = some (.slice x.A' x.n' x.c') from ev_facts HX17.out)
          go_upto_region 22 with fail
          clear HFE HFO HADD HEN HSM HSM2 HRD HRD9 HL4 HL5 HL6 HL7 HL8 HL9 HL10 HL11 HL12
          have hvl3 : vs3.length = (k + 1) + 1 := by have := congrArg List.length HVS17.out; rw [List.length_map, List.length_append, ← HKK.out] at this; exact this
          have hxs17 : SeesV w3.heap.size w17 x := (SeesVs.mono (vs := [x]) (fun v hv => by rw [List.mem_singleton] at hv; subst hv; exact HXS.out _ HB17.out) HB3.out.size) x (by simp)
          have HXS17 := Lib.hid hxs17
          have hbk3 := bulky_app (HVS17.out.trans (by rw [HUS.out])) HSU17.out hxs17 HLA17.out.sees HBU7.out (show x.n ≤ 1073741824 ∧ x.n' ≤ 1073741824 by have := HXG.out.2.2.1; omega)
          have HBK3 := Lib.hid hbk3
          have HENT := Lib.hid (fun (W : World) (hW : Below w17.heap.size w17 W) => (by
            have hh := Entries_any (HLA17.out.below hW) (by omega) hbk3
            rw [hvl3] at hh
            exact hh : Calls Tryz.prog 14 #[.pointer (some ⟨g3, 0, none⟩)] W (EntsOf w3.heap.size ((k + 1) + 1) vs3 W)))
          clear hvl3 hbk3 hxs17
          have HR17 := Lib.hid (show w6.heap.size ≤ w17.heap.size by omega)
          have HNG := Lib.hid (show some G ≠ (Value.slice (some ⟨gh, 0, none⟩) (k + 1) c7).ownBlock from fun e => by
            have := (HHAD13.out.lt _ e.symm).2
            omega)
          have hT0 : Below w17.heap.size w17 w17.drew := (Below.refl _ _).drew
          have hTA : Below w17.heap.size w17 (w17.drew.alloc (.cells #[.int .u32 x.f, .int .u32 x.t, .slice x.A x.n x.c, .slice x.A' x.n' x.c'] enT)) := hT0.alloc (Nat.le_refl _) _
          have hWN : Whole (w17.drew.alloc (.cells #[.int .u32 x.f, .int .u32 x.t, .slice x.A x.n x.c, .slice x.A' x.n' x.c'] enT)) w17.drew.heap.size enT x.arr := Whole.new w17.drew enT x.arr
          go_cut [4] (fun v wx => v = .bool true ∧ Below w.heap.size w wx)
          case first =>
            go_region_held3 (fun w' => w'.cell? ⟨G, 0, none⟩ = some (.int .u32 x.f) ∧ w'.cell? ⟨G, 1, none⟩ = some (.int .u32 x.t) ∧ w'.cell? ⟨G, 2, none⟩ = some (.slice x.A x.n x.c) ∧ w'.cell? ⟨G, 3, none⟩ = some (.slice x.A' x.n' x.c')) (go_keep) (first
              | (go_at_call 14; refine (HENT.out _ hT0).mono ?_; rintro e u1 ⟨A18, c18, us3, rfl, ho1, hus3, hsu3, hB1⟩; have hU := hT0.trans (hB1.mono hT0.size); have hR2 := hT0.size; have hal : Below u1.heap.size u1 (u1.alloc (.cells #[.int .u32 x.f, .int .u32 x.t, .slice x.A x.n x.c, .slice x.A' x.n' x.c'] enT)) := (Below.refl _ _).alloc (Nat.le_refl _) _; have hV := hU.alloc hU.size (.cells #[.int .u32 x.f, .int .u32 x.t, .slice x.A x.n x.c, .slice x.A' x.n' x.c'] enT); have hW := (show Whole (u1.alloc (.cells #[.int .u32 x.f, .int .u32 x.t, .slice x.A x.n x.c, .slice x.A' x.n' x.c'] enT)) u1.heap.size enT x.arr from Whole.new u1 enT x.arr); have hO := own_below ho1 hal; have hS3 := hsu3.keep hal; (obtain ⟨y0, y1, y2, y3⟩ := (show u1.cell? ⟨G, 0, none⟩ = some (.int .u32 x.f) ∧ u1.cell? ⟨G, 1, none⟩ = some (.int .u32 x.t) ∧ u1.cell? ⟨G, 2, none⟩ = some (.slice x.A x.n x.c) ∧ u1.cell? ⟨G, 3, none⟩ = some (.slice x.A' x.n' x.c') from ev_facts (HX17.out.below hU HX17.out.lt))))
              | (go_at_call 14; refine (HENT.out _ hTA).mono ?_; rintro e u1 ⟨A18, c18, us3, rfl, ho1, hus3, hsu3, hB1⟩; have hU := hTA.trans (hB1.mono hTA.size); have hR2 := hTA.size; have hV := hU; have hW := hWN.below hB1 hWN.lt; have hO := ho1; have hS3 := hsu3; (obtain ⟨y0, y1, y2, y3⟩ := (show u1.cell? ⟨G, 0, none⟩ = some (.int .u32 x.f) ∧ u1.cell? ⟨G, 1, none⟩ = some (.int .u32 x.t) ∧ u1.cell? ⟨G, 2, none⟩ = some (.slice x.A x.n x.c) ∧ u1.cell? ⟨G, 3, none⟩ = some (.slice x.A' x.n' x.c') from ev_facts (HX17.out.below hU HX17.out.lt))))
              | (refine step_append_Eg (by rfl) (.tmp 156) (.tmp 158) (by rfl) w6.heap.size _ us1 (k + 1) (by rfl) (own_below HHAD17.out hV) _ _ x (by rfl) hW (by omega) (Nat.le_trans HR17.out hV.size) ?_; intro g7 cap7 u2 hown7 hg7; have HSMF := Lib.hid (again_same HHAD17.out HBR6.out hV hg7 hown7 hO hR2 (hus3.trans (HVS17.out.trans (by rw [HUS.out]))) hS3 (HSU17.out.keep hV) (HXS17.out.keep hV) (bulk_same hus3 HLA17.out.sees hsu3 HBK3.out) (by omega)); have hE := (HB17.out.trans (hV.mono HB17.out.size)).grown hg7 (Nat.le_trans HB17.out.size hV.size) (fun j hj => Nat.le_trans HB6.out.size (own_block_ge HHAD17.out j hj)); (obtain ⟨y0, y1, y2, y3⟩ := (show u2.cell? ⟨G, 0, none⟩ = some (.int .u32 x.f) ∧ u2.cell? ⟨G, 1, none⟩ = some (.int .u32 x.t) ∧ u2.cell? ⟨G, 2, none⟩ = some (.slice x.A x.n x.c) ∧ u2.cell? ⟨G, 3, none⟩ = some (.slice x.A' x.n' x.c') from ev_facts ((HX17.out.below hV HX17.out.lt).grown hg7 HNG.out))))
              | (go_at_call 15; refine Calls.mono HSMF.out ?_; rintro e u3 ⟨rfl, hB3⟩; have hF := hE.trans (hB3.mono hE.size); (obtain ⟨y0, y1, y2, y3⟩ := (show u3.cell? ⟨G, 0, none⟩ = some (.int .u32 x.f) ∧ u3.cell? ⟨G, 1, none⟩ = some (.int .u32 x.t) ∧ u3.cell? ⟨G, 2, none⟩ = some (.slice x.A x.n x.c) ∧ u3.cell? ⟨G, 3, none⟩ = some (.slice x.A' x.n' x.c') from ev_facts (((HX17.out.below hV HX17.out.lt).grown hg7 HNG.out).below hB3 ((HX17.out.below hV HX17.out.lt).grown hg7 HNG.out).lt)))))
            all_goals
              have HF := Lib.hid hF
              go_wp2_with fail
              go_meet
              exact ⟨rfl, HF.out⟩
          case rest =>
            obtain ⟨rfl, hBx⟩ := hcut
            go_wp2_with fail
            go_ret
            exact ⟨rfl, hBx⟩
end Go.Proofs.YtggognnjnfphgaaGreatDoor
