/- Parts of the proofs of the statements of image. No statement of the seat is proved here. -/
import Derived.Test.YtnbapaimpoobkaaGreatDoorImgF
import Derived.Test.YtnbapaimpoobkaaGreatDoorImgK
import Derived.Test.YtnbapaimpoobkaaGreatDoorImgQ
import Derived.Test.YtnbapaimpoobkaaGreatDoorImgD
namespace Go.Proofs.YtnbapaimpoobkaaGreatDoor
open Go.RowKit Go.Op

def LinesAt (ls : List (List UInt8)) (w : World) (k : Nat) (v : Value) (wr : World) : Prop :=
  ∃ acc : List Rrd, acc.length = k ∧ Lns ls acc k ∧ wr.ownsRow w.heap.size 27 5 v k (rcells acc) ∧ Below w.heap.size w wr
/-- what Read leaves -/
def ReadOut (w' : World) (N : ByteArray) (nn : List UInt8) (ls : List (List UInt8)) (e : Ending) : Prop := match recsL ls with
  | none => e = .returned (.tuple #[.agg zeroZ, .int .i64 2])
  | some xs => NewOut w' N nn xs e
theorem ReadOut.no {w' : World} {N : ByteArray} {nn : List UInt8} {ls : List (List UInt8)} (h : recsL ls = none) : ReadOut w' N nn ls (.returned (.tuple #[.agg zeroZ, .int .i64 2])) := by unfold ReadOut; rw [h]
theorem ReadOut.yes {w' : World} {N : ByteArray} {nn : List UInt8} {ls : List (List UInt8)} {xs : List Rrd} {e : Ending} (h : recsL ls = some xs) (k : NewOut w' N nn xs e) : ReadOut w' N nn ls e := by unfold ReadOut; rw [h]; exact k
theorem recsL_low : ∀ (ls : List (List UInt8)) (l : List Rrd), (∀ s ∈ ls, s.length ≤ 60000) → recsL ls = some l → LowL l := by
  intro ls
  induction ls with
  | nil => intro l _ h x hx; simp [recsL] at h; subst h; cases hx
  | cons s r ih =>
    intro l hs h
    rw [recsL] at h
    cases hx : recL s with
    | none => rw [hx] at h; cases h
    | some x =>
      rw [hx] at h
      cases hr : recsL r with
      | none => rw [hr] at h; cases h
      | some t =>
        rw [hr] at h
        simp at h
        subst h
        intro y hy
        rcases List.mem_cons.1 hy with rfl | hy
        · obtain ⟨h1, h2, _⟩ := recL_low hx
          have := hs s (by simp)
          omega
        · exact ih t (fun q hq => hs q (List.mem_cons_of_mem _ hq)) hr y hy
theorem one_twoX (w3 : World) (C : Obj) (x : Rrd) : SeesR ((w3.alloc C).alloc (.cells #[.string x.s, .int .i64 x.t, .int .i64 x.c, .int .i64 x.l, .string x.d] rrT)) (w3.heap.size + 1 + 1) (some ⟨w3.heap.size + 1, 0, none⟩) 1 [x] := by
  have h := SeesR.one (w3.alloc C) x
  rw [World.size_alloc] at h
  exact h
set_option maxHeartbeats 8000000 in
set_option maxRecDepth 20000 in
theorem IRead_any (N : ByteArray) (nn : List UInt8) (A : Option Addr) (m c : Nat) (ls : List (List UInt8)) (w : World) (hN : N = mk nn) (hs : Sees w w.heap.size A m (texts (ls.map mk))) (hm : m ≤ 60000) (hl : ∀ s ∈ ls, s.length ≤ 60000) (he : EnvL w) :
    Calls Tryz.prog 22 #[.string N, .slice A m c] w fun e w' => ReadOut w' N nn ls e ∧ Below w.heap.size w w' := by
  obtain ⟨W0, hW0⟩ : ∃ W0, W0 = w.alloc (.cells #[.string ⟨#[]⟩, .slice none 0 0, .string ⟨#[]⟩, .int .i64 0, .int .i64 0, .int .i64 0, .string ⟨#[]⟩] zoT) := ⟨_, rfl⟩
  obtain ⟨r, hr⟩ : ∃ r, r = w.heap.size := ⟨_, rfl⟩
  have HLM := Lib.hid (show ls.length = m by have := hs.len; simpa [texts] using this)
  have HB0 := Lib.hid (show Below r w W0 by rw [hW0, hr]; exact (Below.refl _ _).alloc (Nat.le_refl _) _)
  have HR0 := Lib.hid (show r ≤ W0.heap.size by rw [hW0, hr, World.size_alloc]; omega)
  have HZ0 := Lib.hid (show Whole W0 r zoT #[.string ⟨#[]⟩, .slice none 0 0, .string ⟨#[]⟩, .int .i64 0, .int .i64 0, .int .i64 0, .string ⟨#[]⟩] by rw [hW0, hr]; exact Whole.new _ _ _)
  have HS0 := Lib.hid (show Sees W0 r A m (texts (ls.map mk)) by rw [← hr] at hs; exact hs.below HB0.out)
  have HE0 := Lib.hid (show EnvL W0 from he.beyond (by have := HB0.out; rw [hr] at this; exact this))
  have HN := Lib.hid hN
  have HL := Lib.hid hl
  have HWW := Lib.hid hW0
  have HR := Lib.hid hr
  have HRZ := Lib.hid (show r ≤ w.heap.size by rw [hr]; exact Nat.le_refl _)
  rw [← hr]
  clear hW0 hr hs he hl hN
  go_enter Tryz.func22, Tryz.ntmps22
  go_wp2_with fail
  rw [← HWW.out, ← HR.out]
  go_loopw [6, 13] (fun v i wr => ∃ k : Nat, k ≤ m ∧ i = .int .i64 (k : Nat) ∧ LinesAt ls W0 k v wr) (fun _ i _ => m - (intOf i).toNat)
  case atStart => exact ⟨0, Nat.zero_le _, rfl, ⟨[], rfl, Lns.start ls, own_nil _ _ _ _, Below.refl _ _⟩⟩
  case round =>
    obtain ⟨k, hk, rfl, ⟨acc, hacc, hre, hO, hB2⟩⟩ := hrel
    have HO := Lib.hid hO
    have HB := Lib.hid (HB0.out.trans (hB2.mono HR0.out))
    have HB2 := Lib.hid hB2
    have HST := Lib.hid hre
    have HA := Lib.hid hacc
    obtain ⟨A2, c2, rfl, hs0, hcap⟩ := own_sees hO
    have HS2 := Lib.hid hs0
    clear hO hB2 hre hs0 hcap hacc
    by_cases hkn : k < m
    · have g1 : (k : Int) < (m : Int) := by omega
      obtain ⟨b, off, rfl, hb, hc⟩ := texts_at (HS0.out.below (HB2.out.mono HR0.out)) hkn
      have hkl : k < ls.length := by rw [HLM.out]; exact hkn
      obtain ⟨s, hsk⟩ : ∃ s, s = ls[k] := ⟨_, rfl⟩
      have hg : (ls.map mk).getD k ByteArray.empty = mk s := by rw [hsk]; simp [List.getD, hkl]
      have HPK := Lib.hid (show ls[k]? = some s by rw [hsk]; exact List.getElem?_eq_getElem hkl)
      have HSL := Lib.hid (HL.out s (List.mem_of_getElem? HPK.out))
      have HRO := Lib.hid (recordOf_any (mk s) s _ rfl (by have := HSL.out; omega) (HE0.out.beyond HB2.out))
      rw [hg] at hc
      clear hg hsk hkl
      go_wp2_with fail
      refine HRO.out.mono ?_
      rintro e w3 ⟨hre, hB3⟩
      have HB3 := Lib.hid (HB.out.trans (hB3.mono (Nat.le_trans HRZ.out HB.out.size)))
      have HB23 := Lib.hid (HB2.out.trans (hB3.mono HB2.out.size))
      have HO3 := Lib.hid (own_below HO.out hB3)
      clear hB3 hc
      cases hx : recL s with
      | none =>
        have HF := Lib.hid (HST.out.fails HPK.out hx)
        unfold RecOut at hre
        rw [hx] at hre
        simp only at hre
        subst hre
        clear hx
        have HZ4 := Lib.hid ((HZ0.out.below HB23.out HZ0.out.lt).alloc (.cells #[.string ⟨#[]⟩, .int .i64 0, .int .i64 0, .int .i64 0, .string ⟨#[]⟩] rrT))
        have HB4 := Lib.hid (HB3.out.alloc (Nat.le_trans HRZ.out HB3.out.size) (.cells #[.string ⟨#[]⟩, .int .i64 0, .int .i64 0, .int .i64 0, .string ⟨#[]⟩] rrT))
        obtain ⟨f0, f1, f2, f3, f4, f5, f6⟩ := zo_frozen HZ4.out
        obtain ⟨k0, k1, k2, k3, k4, k5, k6⟩ := zo_facts HZ4.out
        go_wp2_with fail
        refine retZ2 rfl rfl rfl rfl (sevZ_put HZ4.out _ _ _ _ _ _ _) ?_
        exact ⟨.no HF.out, sevZ_below HB4.out (Nat.le_refl _) _ _ _ _ _ _ _⟩
      | some x =>
        have HSTEP := Lib.hid (HST.out.step HPK.out hx)
        unfold RecOut at hre
        rw [hx] at hre
        simp only at hre
        subst hre
        clear hx
        have hw4 := Whole.new w3 rrT (rrA x.s x.d x.t x.c x.l)
        obtain ⟨d0, d1, d2, d3, d4⟩ := rr_facts hw4
        clear hw4
        have HO5 := Lib.hid ((HO3.out.alloc (.cells #[.string x.s, .int .i64 x.t, .int .i64 x.c, .int .i64 x.l, .string x.d] rrT)).alloc (.cells #[.string x.s, .int .i64 x.t, .int .i64 x.c, .int .i64 x.l, .string x.d] rrT))
        have HB25 := Lib.hid (show Below W0.heap.size W0 ((w3.alloc (.cells #[.string x.s, .int .i64 x.t, .int .i64 x.c, .int .i64 x.l, .string x.d] rrT)).alloc (.cells #[.string x.s, .int .i64 x.t, .int .i64 x.c, .int .i64 x.l, .string x.d] rrT)) from (HB23.out.alloc HB23.out.size _).alloc (by have := HB23.out.size; rw [World.size_alloc]; omega) _)
        have HA5 := Lib.hid HB25.out.size
        have HLE := Lib.hid (show k + 1 ≤ 1073741824 by omega)
        unfold rrA at *
        go_wp2_with (at_builtin; (refine wpList_append_R rfl _ _ rfl W0.heap.size _ _ acc rfl HO5.out (w3.heap.size + 1 + 1) _ _ _ _ rfl (one_twoX w3 _ x) HLE.out HA5.out ?_); intro v6 w6 ho hg)
        have HO6 := Lib.hid ho
        have HB26 := Lib.hid (HB25.out.grown hg HA5.out (own_block_ge HO5.out))
        clear ho hg
        go_wp2_with fail
        go_roundw
        case rel => exact ⟨k + 1, by omega, by go_num, ⟨acc ++ [x], by rw [List.length_append, HA.out]; rfl, HSTEP.out, HO6.out, HB26.out⟩⟩
        case measure => simp [intOf]; omega
    · obtain rfl : k = m := by omega
      have HRL := Lib.hid (show recsL ls = some acc from (show Lns ls acc ls.length by rw [HLM.out]; exact HST.out).ends)
      have HLOW := Lib.hid (recsL_low ls acc HL.out HRL.out)
      have HZ3 := Lib.hid (HZ0.out.below HB2.out HZ0.out.lt)
      go_wp2_with fail
      refine (ZNew_any A2 k c2 N nn acc _ HN.out HS2.out hm HLOW.out).mono ?_
      rintro e w5 ⟨hno, hB5⟩
      have HZ5 := Lib.hid (HZ3.out.below hB5 HZ3.out.lt)
      have HB5 := Lib.hid (HB.out.trans (hB5.mono (Nat.le_trans HRZ.out HB.out.size)))
      clear hB5
      obtain ⟨f0, f1, f2, f3, f4, f5, f6⟩ := zo_frozen HZ5.out
      obtain ⟨k0, k1, k2, k3, k4, k5, k6⟩ := zo_facts HZ5.out
      rcases hno with ⟨hcode, rfl⟩ | ⟨hcode, rfl⟩ | ⟨hcode, v, rfl, hzv⟩
      · have HC := Lib.hid hcode
        clear hcode
        unfold zeroZ
        go_wp2_with fail
        refine retZ2 rfl rfl rfl rfl (sevZ_put HZ5.out _ _ _ _ _ _ _) ?_
        exact ⟨.yes HRL.out (.inl ⟨HC.out, rfl⟩), sevZ_below HB5.out (Nat.le_refl _) _ _ _ _ _ _ _⟩
      · have HC := Lib.hid hcode
        clear hcode
        unfold zeroZ
        go_wp2_with fail
        refine retZ2 rfl rfl rfl rfl (sevZ_put HZ5.out _ _ _ _ _ _ _) ?_
        exact ⟨.yes HRL.out (.inr (.inl ⟨HC.out, rfl⟩)), sevZ_below HB5.out (Nat.le_refl _) _ _ _ _ _ _ _⟩
      · have HC := Lib.hid hcode
        have HOKD := Lib.hid ((HLOW.out.ok (codeZ_zero hcode).2.1).ofC)
        have HZV := Lib.hid hzv
        obtain ⟨A7, c7, s7, rfl, _, _, _⟩ := hzv
        clear hcode
        go_wp2_with fail
        refine retZ2 rfl rfl rfl rfl (sevZ_put HZ5.out _ _ _ _ _ _ _) ?_
        exact ⟨.yes HRL.out (.inr (.inr ⟨HC.out, _, rfl, zone_far HZV.out (by unfold zeroZ; exact HZ5.out) HOKD.out (sev_grown _ _ _ _ _ _ _ _ _)⟩)), sevZ_below HB5.out (Nat.le_refl _) _ _ _ _ _ _ _⟩
end Go.Proofs.YtnbapaimpoobkaaGreatDoor
namespace Go.Proofs.YtnbapaimpoobkaaGreatDoor
open Go.RowKit Go.Op
set_option linter.unusedVariables false

theorem SetL.only {l : List Rrd} (h : SetL cX l) : ∀ {x y : Rrd}, x ∈ l → y ∈ l → cX x y = 0 → x = y := by
  induction l with
  | nil => intro x y hx; cases hx
  | cons z l ih =>
    obtain ⟨h1, h2⟩ := List.pairwise_cons.1 h
    intro x y hx hy e
    rcases List.mem_cons.1 hx with rfl | hx2
    · rcases List.mem_cons.1 hy with rfl | hy2
      · rfl
      · have := h1 y hy2; omega
    · rcases List.mem_cons.1 hy with rfl | hy2
      · have := h1 x hx2
        have := cX_flip x y
        omega
      · exact ih h2 hx2 hy2 e
theorem putX_has (r : Rrd) : ∀ l : List Rrd, r ∈ putX cX r l
  | [] => by simp [putX]
  | x :: l => by
    unfold putX
    split
    · exact List.mem_cons_of_mem _ (putX_has r l)
    · split <;> simp
theorem putX_keep {r y : Rrd} (hn : cX y r ≠ 0) : ∀ {l : List Rrd}, y ∈ l → y ∈ putX cX r l
  | x :: l, h => by
    unfold putX
    rcases List.mem_cons.1 h with rfl | h
    · split
      · simp
      · simp
    · split
      · exact List.mem_cons_of_mem _ (putX_keep hn h)
      · split
        · exact List.mem_cons_of_mem _ h
        · exact List.mem_cons_of_mem _ (List.mem_cons_of_mem _ h)
theorem set_unique : ∀ {a b : List Rrd}, SetL cX a → SetL cX b → (∀ x, x ∈ a ↔ x ∈ b) → a = b
  | [], [], _, _, _ => rfl
  | [], y :: b, _, _, h => by have := (h y).2 (by simp); cases this
  | x :: a, [], _, _, h => by have := (h x).1 (by simp); cases this
  | x :: a, y :: b, ha, hb, h => by
    obtain ⟨a1, a2⟩ := List.pairwise_cons.1 ha
    obtain ⟨b1, b2⟩ := List.pairwise_cons.1 hb
    have hxy : x = y := by
      rcases List.mem_cons.1 ((h x).1 (by simp)) with e | e
      · exact e
      · rcases List.mem_cons.1 ((h y).2 (by simp)) with e' | e'
        · exact e'.symm
        · have k1 := b1 x e
          have k2 := a1 y e'
          have k3 := cX_flip x y
          omega
    subst hxy
    have hno : ∀ z, z ∈ a ∨ z ∈ b → z ≠ x := by
      rintro z (hz | hz) rfl
      · have := a1 z hz
        rw [cX_ord.self z] at this
        exact absurd this (by decide)
      · have := b1 z hz
        rw [cX_ord.self z] at this
        exact absurd this (by decide)
    rw [set_unique a2 b2 fun z => ?_]
    constructor
    · intro hz
      rcases List.mem_cons.1 ((h z).1 (List.mem_cons_of_mem _ hz)) with e | e
      · exact absurd e (hno z (.inl hz))
      · exact e
    · intro hz
      rcases List.mem_cons.1 ((h z).2 (List.mem_cons_of_mem _ hz)) with e | e
      · exact absurd e (hno z (.inr hz))
      · exact e
theorem u8_is {a : Int} (h : (Lit.int .u8 a).wf = true) : ∃ v : Nat, a = (v : Int) ∧ v < 256 := by
  have h2 : 0 ≤ a ∧ a ≤ 255 := by simpa [Lit.wf, IntKind.min, IntKind.max, IntKind.bits, IntKind.signed] using h
  exact ⟨a.toNat, by omega, by omega⟩
theorem ofC_cover {T D : List Rrd} (h : SetL cX D) (h1 : ∀ x ∈ T, x ∈ D) (h2 : ∀ x ∈ D, x ∈ T) : ofC T = D := by
  have k : ∀ (l E : List Rrd), (∀ x ∈ l, x ∈ D) → (∀ x ∈ E, x ∈ D) → ∀ x, (x ∈ l ∨ x ∈ E) → x ∈ l.foldl (fun D r => putX cX r D) E := by
    intro l
    induction l with
    | nil => intro E _ _ x hx; rcases hx with hx | hx; cases hx; exact hx
    | cons r l ih =>
      intro E hl hE x hx
      rw [List.foldl_cons]
      refine ih _ (fun y hy => hl y (List.mem_cons_of_mem _ hy)) (fun y hy => ?_) x ?_
      · rcases putX_mem r E y hy with rfl | hy
        · exact hl _ (by simp)
        · exact hE y hy
      · rcases hx with hx | hx
        · rcases List.mem_cons.1 hx with rfl | hx
          · exact .inr (putX_has _ _)
          · exact .inl hx
        · by_cases e : cX x r = 0
          · have := h.only (hE x hx) (hl r (by simp)) e
            subst this
            exact .inr (putX_has _ _)
          · exact .inr (putX_keep e hx)
  exact set_unique (ofC_set T) h fun x => ⟨fun hx => h1 x (ofC_mem T x hx), fun hx => k T [] h1 (fun y hy => by cases hy) x (.inl (h2 x hx))⟩
/-- the elements from a place on, around and around -/
def turnL (D : List Rrd) (v k : Nat) : List Rrd := (List.range k).map fun i => D.getD ((i + v) % D.length) ⟨⟨#[]⟩, 0, 0, 0, ⟨#[]⟩⟩
theorem turnL_succ (D : List Rrd) (v k : Nat) {x : Rrd} (hx : D[(k + v) % D.length]? = some x) : turnL D v (k + 1) = turnL D v k ++ [x] := by
  unfold turnL
  rw [List.range_succ, List.map_append]
  simp [List.getD, hx]
theorem turnL_in {D : List Rrd} {v k : Nat} (h : 0 < D.length) : ∀ x ∈ turnL D v k, x ∈ D := by
  intro x hx
  unfold turnL at hx
  obtain ⟨i, _, rfl⟩ := List.mem_map.1 hx
  have hj : (i + v) % D.length < D.length := Nat.mod_lt _ h
  simp only [List.getD, List.getElem?_eq_getElem hj, Option.getD_some]
  exact List.getElem_mem hj
theorem turnL_all {D : List Rrd} {v k : Nat} (hk : D.length ≤ k) : ∀ x ∈ D, x ∈ turnL D v k := by
  intro x hx
  obtain ⟨j, hj, rfl⟩ := List.getElem_of_mem hx
  obtain ⟨m, hm⟩ : ∃ m, m = D.length := ⟨_, rfl⟩
  have h0 : 0 < m := by omega
  have hr : v % m < m := Nat.mod_lt _ h0
  have hd := Nat.div_add_mod v m
  obtain ⟨i, hi⟩ : ∃ i, i = (j + (m - v % m)) % m := ⟨_, rfl⟩
  have him : i < m := by rw [hi]; exact Nat.mod_lt _ h0
  have e : (i + v) % m = j := by
    rw [hi, Nat.mod_add_mod]
    have e2 : j + (m - v % m) + v = j + m * (v / m + 1) := by rw [Nat.mul_add]; omega
    rw [e2, Nat.add_mul_mod_self_left, Nat.mod_eq_of_lt (by omega)]
  unfold turnL
  refine List.mem_map.2 ⟨i, List.mem_range.2 (by omega), ?_⟩
  rw [← hm, e]
  simp [List.getD, hj]
theorem recL_lineL {x : Rrd} (h : OkX x) : recL (lineL x) = some x := by
  obtain ⟨n1, n2, n3, _, _⟩ := ok_nums h
  obtain ⟨L, hm⟩ := (ok_parts h.1).1
  unfold lineL
  rw [recL_line hm n1 n2 n3, ← rrd_name x, ← rrd_data x]
theorem recsL_lines : ∀ T : List Rrd, (∀ x ∈ T, OkX x) → recsL (T.map lineL) = some T
  | [], _ => rfl
  | x :: T, h => by rw [List.map_cons, recsL, recL_lineL (h x (by simp)), recsL_lines T (fun y hy => h y (List.mem_cons_of_mem _ hy))]; rfl
theorem lineL_len {x : Rrd} (h : OkX x) (hd : x.d.size ≤ 2000) : (lineL x).length ≤ 60000 := by
  obtain ⟨n1, n2, n3, _, _⟩ := ok_nums h
  have h1 := textN_len x.toRec.n
  have nn : ∀ z : Int, z < 10000000000 → (decI z).length ≤ 10 := fun z hz => by unfold decI; exact dec_len (by omega)
  have h2 := nn x.t n1.2
  have h3 := nn x.c n2.2
  have h4 := nn x.l n3.2
  have h5 : x.toRec.d.length ≤ 2000 := by have := rrd_data x; have := congrArg ByteArray.size this; rw [mk_size] at this; omega
  unfold lineL lineW
  simp only [List.length_append, List.length_cons, hexL_len]
  omega
end Go.Proofs.YtnbapaimpoobkaaGreatDoor
