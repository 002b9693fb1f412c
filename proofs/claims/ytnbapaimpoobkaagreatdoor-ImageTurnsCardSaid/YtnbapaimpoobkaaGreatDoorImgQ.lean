/- Parts of the proofs of the statements of image. No statement of the seat is proved here. -/
import Derived.Test.YtnbapaimpoobkaaGreatDoorImgE
import Derived.Test.YtnbapaimpoobkaaGreatDoorZonD
namespace Go.Proofs.YtnbapaimpoobkaaGreatDoor
open Go.RowKit Go.Op

theorem back_recs (xs : List Rrd) : (xs.map Rrd.toRec).map ofRec = xs := by
  induction xs with
  | nil => rfl
  | cons x xs ih =>
    rw [List.map_cons, List.map_cons, ih]
    have h : ofRec x.toRec = x := by
      obtain ⟨s, t, c, l, d⟩ := x
      show (⟨mk s.data.toList, t, c, l, mk d.data.toList⟩ : Rrd) = _
      rw [mk_toList, mk_toList]
    rw [h]
theorem cut_two (x r : List UInt8) (hx : x.length < 65536) : cutR (mk (be x.length 2 ++ x ++ r)) 2 = (mk x, mk r, 0) := by
  have hlt : x.length < 256 ^ 2 := by omega
  have hbl := be_length x.length 2
  have e4 : ((2 : Int)).toNat = 2 := rfl
  have e1 : (be x.length 2 ++ x ++ r).take 2 = be x.length 2 := by rw [List.append_assoc, List.take_left' hbl]
  have e2 : (be x.length 2 ++ x ++ r).drop 2 = x ++ r := by rw [List.append_assoc, List.drop_left' hbl]
  have hlen : (be x.length 2 ++ x ++ r).length = 2 + x.length + r.length := by simp [hbl]; omega
  have hn : numOf ((mk (be x.length 2 ++ x ++ r)).extract 0 2) = x.length := by rw [mk_extract, mk_num, List.drop_zero, e1, num_be_eq _ _ hlt]
  rw [cutR, if_pos (by decide), e4, hn, mk_size, hlen, if_neg (by omega), mk_extract, mk_extract, mk_extract]
  have h1 : (be x.length 2 ++ x ++ r).take (2 + x.length + r.length) = be x.length 2 ++ x ++ r := List.take_of_length_le (by omega)
  rw [h1, e2, List.drop_zero, List.take_left' rfl]
  have h2 : (x ++ r).take (2 + x.length + r.length - 2) = x ++ r := List.take_of_length_le (by simp; omega)
  rw [h2, List.drop_left' rfl]
theorem head_img (g : Nat) (nn R : List UInt8) : (mk (headI g nn ++ R)).extract 0 8 = mk (be g 8) ∧ (mk (headI g nn ++ R)).extract 8 (mk (headI g nn ++ R)).size = mk (be nn.length 2 ++ nn ++ R) := by
  unfold headI
  refine ⟨?_, ?_⟩
  · rw [mk_extract]; exact congrArg mk (seg_app (a := []) (c := be nn.length 2 ++ nn ++ R) (by simp) (by simp) (by simp [be_length]))
  · rw [mk_extract]; exact congrArg mk (seg_app (a := be g 8) (b := be nn.length 2 ++ nn ++ R) (c := []) (by simp) (by simp [be_length]) (by rw [mk_size]; simp [be_length]))
theorem ofI_head (g : Nat) (nn R : List UInt8) (hg : g < 18446744073709551616) (hn : nn.length < 65536) : ofI (mk (headI g nn ++ R)) = (recsE (mk R)).map fun l => (g, mk nn, l) := by
  obtain ⟨h1, h2⟩ := head_img g nn R
  have hs : ¬ (mk (headI g nn ++ R)).size < 8 := by rw [mk_size, List.length_append, headI_len]; omega
  unfold ofI
  rw [if_neg hs, h1, h2, cut_two nn R hn, mk_num, num_be_eq _ _ (by omega)]
  rfl
theorem ofI_img {g : Nat} {nn : List UInt8} {D : List Rrd} (hg : g < 18446744073709551616) (hn : nn.length < 65536) (h : ∀ x ∈ D, okR x.toRec = true) : ofI (mk (imgB g nn D)) = some (g, mk nn, D.map Rrd.toRec) := by
  have ha : (D.map Rrd.toRec).all okR = true := by
    rw [List.all_eq_true]
    intro r hr
    obtain ⟨x, hx, rfl⟩ := List.mem_map.1 hr
    exact h x hx
  have hr : recsE (mk (rowE ((D.map Rrd.toRec).map ownE))) = some (D.map Rrd.toRec) := by
    unfold recsE
    rw [rowE_piecesR _ (own_lt ha fun r hr => ok_data (List.all_eq_true.1 ha r hr))]
    simp only [if_true]
    exact recs_own _ ha
  unfold imgB
  rw [ofI_head g nn _ hg hn, hr]
  rfl
theorem ofI_cutoff {g : Nat} {nn : List UInt8} {D : List Rrd} (hg : g < 18446744073709551616) (hn : nn.length < 65536) (h : ∀ x ∈ D, okR x.toRec = true) (hne : D ≠ []) : ofI (mk (imgB g nn D).dropLast) = none := by
  have ha : (D.map Rrd.toRec).all okR = true := by
    rw [List.all_eq_true]
    intro r hr
    obtain ⟨x, hx, rfl⟩ := List.mem_map.1 hr
    exact h x hx
  have hm : (D.map Rrd.toRec).map ownE ≠ [] := by simpa using hne
  have hrn : rowE ((D.map Rrd.toRec).map ownE) ≠ [] := by
    cases hm2 : (D.map Rrd.toRec).map ownE with
    | nil => exact absurd hm2 hm
    | cons x l => intro e'; have := congrArg List.length e'; rw [rowE] at this; simp [be_length] at this
  have hb : (imgB g nn D).dropLast = headI g nn ++ (rowE ((D.map Rrd.toRec).map ownE)).dropLast := by unfold imgB; rw [List.dropLast_append_of_ne_nil hrn]
  have hr : recsE (mk (rowE ((D.map Rrd.toRec).map ownE)).dropLast) = none := by
    unfold recsE
    rw [rowE_shortR _ hm (own_lt ha fun r hr => ok_data (List.all_eq_true.1 ha r hr))]
    rfl
  rw [hb, ofI_head g nn _ hg hn, hr]
  rfl
theorem imgB_len {g : Nat} {nn : List UInt8} {D : List Rrd} (h : ∀ x ∈ D, okR x.toRec = true) (hd : ∀ x ∈ D, x.d.size ≤ 2000) : 10 ≤ (imgB g nn D).length ∧ (imgB g nn D).length ≤ 10 + nn.length + D.length * 2269 := by
  have h1 := rowE_len 2265 ((D.map Rrd.toRec).map ownE) (fun y hy => by
    obtain ⟨r, hr, rfl⟩ := List.mem_map.1 hy
    obtain ⟨x, hx, rfl⟩ := List.mem_map.1 hr
    have h2 := own_len (h x hx)
    have h3 := hd x hx
    rw [rrd_data x, mk_size] at h3
    omega)
  have h2 : ((D.map Rrd.toRec).map ownE).length = D.length := by simp
  rw [h2] at h1
  unfold imgB
  rw [List.length_append, headI_len]
  omega
theorem isZ_two {nn : List UInt8} {D : List Rrd} (h : isZ nn D = true) : 2 ≤ D.length := by
  have h0 := h
  unfold isZ at h
  rw [Bool.and_eq_true, Bool.and_eq_true, Bool.and_eq_true, Bool.and_eq_true, decide_eq_true_eq, decide_eq_true_eq, decide_eq_true_eq] at h
  obtain ⟨s, hs⟩ := isZ_soa h0
  have hsm : s ∈ typX 6 D := by rw [hs]; simp
  obtain ⟨y, hy⟩ := List.exists_mem_of_length_pos h.2.2.2.1
  obtain ⟨m1, m2⟩ := typX_mem.1 hsm
  obtain ⟨m3, m4⟩ := typX_mem.1 hy
  have m5 := (atX_mem.1 m3).1
  match D, m1, m5 with
  | [x], m1, m5 =>
    simp at m1 m5
    rw [← m5] at m1
    rw [m1] at m2
    omega
  | x :: y :: l, _, _ => simp
theorem ofC_self' {l : List Rrd} (h : SetL cX l) : ofC l = l := by
  have hs : Srt cX l := by
    refine List.Pairwise.imp ?_ h
    intro a b e
    have := cX_flip a b
    omega
  have hl : ∀ l : List Rrd, SetL cX l → lastX l = l := by
    intro l
    induction l with
    | nil => intro _; rfl
    | cons x l ih =>
      intro h
      cases l with
      | nil => rfl
      | cons y l =>
        obtain ⟨h1, h2⟩ := List.pairwise_cons.1 h
        have e := h1 y (by simp)
        rw [lastX, if_neg (by omega), ih h2]
  rw [← lastX_of hs (St.refl l), hl l h]
theorem few_small {xs : List Rrd} (h : fewL xs = true) : ∀ x ∈ xs, x.s.size ≤ 600 ∧ x.d.size ≤ 2000 := by
  unfold fewL at h
  rw [Bool.and_eq_true, decide_eq_true_eq, List.all_eq_true] at h
  intro x hx
  have := h.2 x hx
  unfold lowR at this
  rw [Bool.and_eq_true, decide_eq_true_eq, decide_eq_true_eq] at this
  exact ⟨this.2, this.1⟩
theorem codeZ_again {nn : List UInt8} {D : List Rrd} (h1 : (nameL nn).isSome = true) (h2 : OkL D) (h3 : SetL cX D) (h4 : isZ nn D = true) : codeZ nn D = 0 := by
  unfold codeZ; rw [h1, h2.all, ofC_self' h3, h4]; rfl
theorem name_short {nn : List UInt8} (h : (nameL nn).isSome = true) : nn.length ≤ 255 := by
  cases hn : nameL nn with
  | none => rw [hn] at h; cases h
  | some L => exact (nameL_is hn).2.2
end Go.Proofs.YtnbapaimpoobkaaGreatDoor
