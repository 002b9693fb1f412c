/- Parts of the proofs of the statements of image. No statement of the seat is proved here. -/
import Derived.Test.YtnbapaimpoobkaaGreatDoorShm
import Derived.Test.YtnbapaimpoobkaaGreatDoorNaM
import Derived.Test.YtnbapaimpoobkaaGreatDoorNaE
import Derived.Test.YtnbapaimpoobkaaGreatDoorNaI
namespace Go.Proofs.YtnbapaimpoobkaaGreatDoor
open Go.RowKit Go.Shelf
set_option maxRecDepth 20000

theorem builderX : Builder.Extra Tryz.prog writeL_ren := {
  sizeBuilder := by kernel_rfl
  liesBuilder := by kernel_rfl
  t5 := Tryz.underlying5
  a5 := Tryz.isAgg5
  z5 := Tryz.sizeOf5
  v5 := Tryz.zeroValue5
  infoByte := by kernel_rfl
  cellsByte := by kernel_rfl
  sizeByte := by kernel_rfl
  neB5 := by decide }
theorem builderXs : Builder.Extra Tryz.prog stringL_ren := { builderX with }
theorem builderXj : Builder.Extra Tryz.prog joinL_ren := { builderX with }

/-- block b, of one's own, is a strings.Builder that holds the bytes l -/
def Bld (b : Nat) (l : List UInt8) (w : World) : Prop := Lib.IsBuilderF 66 5 b b (Lib.byteCells l) w

theorem Bld.new (w : World) : Bld w.heap.size [] (w.alloc (.cells #[.pointer none, .slice none 0 0] 66)) :=
  Lib.IsBuilderF.of (Lib.fresh_isBuilder _ _ w)
theorem Bld.drew {b : Nat} {l : List UInt8} {w : World} (h : Bld b l w) : Bld b l w.drew := h
theorem byteCells_snoc (l : List UInt8) (c : UInt8) : Lib.byteCells (l ++ [c]) = Lib.byteCells l ++ [.int .u8 (c.toNat : Nat)] := by simp [Lib.byteCells]
theorem byteCells_len (l : List UInt8) : (Lib.byteCells l).length = l.length := by simp [Lib.byteCells]
theorem Bld.lt {b : Nat} {l : List UInt8} {w : World} (h : Bld b l w) : b < w.heap.size := by
  rcases h with h | h <;> exact h.lt

theorem WriteByte_any (b : Nat) (l : List UInt8) (c : UInt8) (w : World) (h : Bld b l w) (hl : l.length ≤ 100000000000) :
    Calls Tryz.prog 142 #[.pointer (some ⟨b, 0, none⟩), .int .u8 (c.toNat : Nat)] w fun e w' => e = .returned .nilIface ∧ Bld b (l ++ [c]) w' ∧ Below b w w' := by
  refine (Any.Builder_WriteByte_k writeL builderX b b (Lib.byteCells l) (c.toNat : Nat) w h (by rw [byteCells_len]; omega) (Nat.le_of_lt h.lt)).mono ?_
  rintro e w' ⟨rfl, h1, h2, _⟩
  refine ⟨rfl, ?_, h2⟩
  rw [← byteCells_snoc] at h1
  exact .inr h1
theorem WB (b : Nat) (l : List UInt8) (c : Int) (w : World) (h : Bld b l w) (hl : l.length ≤ 100000000000) (h0 : 0 ≤ c) (h1 : c < 256) :
    Calls Tryz.prog 142 #[.pointer (some ⟨b, 0, none⟩), .int .u8 c] w fun e w' => e = .returned .nilIface ∧ Bld b (l ++ [UInt8.ofNat c.toNat]) w' ∧ Below b w w' := by
  have e : ((UInt8.ofNat c.toNat).toNat : Int) = c := by rw [UInt8.toNat_ofNat']; omega
  have := WriteByte_any b l (UInt8.ofNat c.toNat) w h hl
  rwa [e] at this
theorem BString_any (b : Nat) (l : List UInt8) (w : World) (h : Bld b l w) :
    Calls Tryz.prog 40 #[.pointer (some ⟨b, 0, none⟩)] w fun e w' => e = .returned (.string (mk l)) ∧ Bld b l w' ∧ Below b w w' :=
  Any.Builder_String_any_f stringL builderXs b b l w h (Nat.le_of_lt h.lt)
theorem BLen_any (b : Nat) (l : List UInt8) (w : World) (h : Bld b l w) :
    Calls Tryz.prog 219 #[.pointer (some ⟨b, 0, none⟩)] w fun e w' => e = .returned (.int .i64 l.length) ∧ w' = w := by
  have := Any.Builder_Len_f lenL b b (Lib.byteCells l) w h
  rwa [byteCells_len] at this

/-! ### The table of weights -/
/-- the variable 'weights' holds what its initialiser lays -/
def Wts (w : World) : Prop := w.cell? ⟨0, 0, none⟩ = some (.int .i64 100) ∧ w.cell? ⟨0, 1, none⟩ = some (.int .i64 10) ∧ w.cell? ⟨0, 2, none⟩ = some (.int .i64 1)
theorem Wts.pos {w : World} (h : Wts w) : 0 < w.heap.size := World.block_lt_of_cell? w _ h.1
theorem Wts.below {w w' : World} {B : Nat} (h : Wts w) (hB : Below B w w') (hb : 0 < B) : Wts w' :=
  ⟨(hB.cell (p := ⟨0, 0, none⟩) hb).trans h.1, (hB.cell (p := ⟨0, 1, none⟩) hb).trans h.2.1, (hB.cell (p := ⟨0, 2, none⟩) hb).trans h.2.2⟩
theorem Wts.beyond {w w' : World} (h : Wts w) (hB : Below w.heap.size w w') : Wts w' := h.below hB h.pos
abbrev wtsV : Array Value := #[.int .i64 100, .int .i64 10, .int .i64 1]
theorem wts_0 (W : World) : (Instr.index 188 (.agg wtsV) (.int .i64 0)).run Tryz.prog W = .ok (.int .i64 100) W := by kernel_rfl
theorem wts_1 (W : World) : (Instr.index 188 (.agg wtsV) (.int .i64 1)).run Tryz.prog W = .ok (.int .i64 10) W := by kernel_rfl
theorem wts_2 (W : World) : (Instr.index 188 (.agg wtsV) (.int .i64 2)).run Tryz.prog W = .ok (.int .i64 1) W := by kernel_rfl
theorem Wts.drew {w : World} (h : Wts w) : Wts w.drew := h
end Go.Proofs.YtnbapaimpoobkaaGreatDoor
namespace Go.Proofs.YtnbapaimpoobkaaGreatDoor
open Go.RowKit
set_option maxRecDepth 20000

attribute [local go_sem] wts_0 wts_1 wts_2

theorem byteT_esc {c : UInt8} {d : Nat} (hd : d = c.toNat) (h : d = 46 ∨ d = 92) : byteT c = [92, c] := by unfold byteT; rw [if_pos (by rw [← hd]; exact h)]
theorem byteT_self {c : UInt8} {d : Nat} (hd : d = c.toNat) (h : ¬ (d = 46 ∨ d = 92)) (h2 : 33 ≤ d ∧ d ≤ 126) : byteT c = [c] := by
  unfold byteT; rw [if_neg (by rw [← hd]; exact h), if_pos (by rw [← hd]; exact h2)]
theorem byteT_dec {c : UInt8} {d : Nat} (hd : d = c.toNat) (h : ¬ (d = 46 ∨ d = 92)) (h2 : ¬ (33 ≤ d ∧ d ≤ 126)) : byteT c = [92, dig (d / 100), dig (d / 10), dig d] := by
  unfold byteT; rw [if_neg (by rw [← hd]; exact h), if_neg (by rw [← hd]; exact h2), ← hd]
theorem of_toNat {c : UInt8} {d : Nat} (hd : d = c.toNat) : UInt8.ofNat ((d : Int)).toNat = c := by subst hd; simp

theorem dec_ends (l : List UInt8) (d : Nat) : (((l ++ [UInt8.ofNat (Int.toNat 92)]) ++ [UInt8.ofNat (48 + (d : Int) / 100 % 10).toNat]) ++ [UInt8.ofNat (48 + (d : Int) / 10 % 10).toNat]) ++ [UInt8.ofNat (48 + (d : Int) % 10).toNat] =
    l ++ [92, dig (d / 100), dig (d / 10), dig d] := by
  have e1 : (48 + (d : Int) / 100 % 10).toNat = 48 + d / 100 % 10 := by omega
  have e2 : (48 + (d : Int) / 10 % 10).toNat = 48 + d / 10 % 10 := by omega
  have e3 : (48 + (d : Int) % 10).toNat = 48 + d % 10 := by omega
  rw [e1, e2, e3]
  simp [dig]

set_option maxHeartbeats 2000000 in
theorem writeByte_dec (b d : Nat) (l : List UInt8) (w : World) (h : Bld b l w) (hw : Wts w) (hb : 0 < b) (hl : l.length ≤ 1000000) (hd : d < 256) (_h1 : ¬ (d = 46 ∨ d = 92)) (h2 : ¬ (33 ≤ d ∧ d ≤ 126)) :
    Calls Tryz.prog 141 #[.pointer (some ⟨b, 0, none⟩), .int .u8 (d : Nat)] w fun e w' => e = .returned (.tuple #[]) ∧ Bld b (l ++ [92, dig (d / 100), dig (d / 10), dig d]) w' ∧ Below b w w' := by
  have g1 : ((d : Int) == 46) = false := by rw [beq_eq_false_iff_ne]; omega
  have g2 : ((d : Int) == 92) = false := by rw [beq_eq_false_iff_ne]; omega
  have H := Lib.hid h
  have HW := Lib.hid hw
  have HE := Lib.hid (dec_ends l d)
  have HL := Lib.hid hl
  have HB := Lib.hid hb
  clear h hw hl hb
  go_enter Tryz.func141, Tryz.ntmps141
  by_cases h3 : 33 ≤ d
  all_goals (
    first
    | (have g3 : (33 : Int) ≤ (d : Int) := by omega
       have g4 : ¬ (d : Int) ≤ 126 := by omega)
    | have g3 : ¬ (33 : Int) ≤ (d : Int) := by omega
    go_wp2_with fail
    refine (WB b l 92 _ H.out (by have := HL.out; omega) (by decide) (by decide)).mono ?_
    rintro e w1 ⟨rfl, B1, D1⟩
    obtain ⟨c0, c1, c2⟩ := HW.out.below D1 HB.out
    have B1 := Lib.hid B1
    have D1 := Lib.hid D1
    go_wp2_with fail
    refine wp_loop_rounds 4 ?_
    rw [rounds_succ]
    go_wp2_with fail
    refine (WB b _ _ _ B1.out (by have := HL.out; simp; omega) (by omega) (by omega)).mono ?_
    rintro e w2 ⟨rfl, B2, D2⟩
    have B2 := Lib.hid B2
    have D2 := Lib.hid D2
    go_wp2_with fail
    rw [rounds_succ]
    go_wp2_with fail
    refine (WB b _ _ _ B2.out (by have := HL.out; simp; omega) (by omega) (by omega)).mono ?_
    rintro e w3 ⟨rfl, B3, D3⟩
    have B3 := Lib.hid B3
    have D3 := Lib.hid D3
    go_wp2_with fail
    rw [rounds_succ]
    go_wp2_with fail
    refine (WB b _ _ _ B3.out (by have := HL.out; simp; omega) (by omega) (by omega)).mono ?_
    rintro e w4 ⟨rfl, B4, D4⟩
    have B4 := Lib.hid B4
    have D4 := Lib.hid D4
    go_wp2_with fail
    rw [rounds_succ]
    go_wp2_with fail
    go_end0
    refine ⟨rfl, ?_, ((D1.out.trans D2.out).trans D3.out).trans D4.out⟩
    rw [← HE.out]; exact B4.out)

theorem writeByte_any (b d : Nat) (c : UInt8) (l : List UInt8) (w : World) (h : Bld b l w) (hw : Wts w) (hb : 0 < b) (hl : l.length ≤ 1000000) (hd : d = c.toNat) :
    Calls Tryz.prog 141 #[.pointer (some ⟨b, 0, none⟩), .int .u8 (d : Nat)] w fun e w' => e = .returned (.tuple #[]) ∧ Bld b (l ++ byteT c) w' ∧ Below b w w' := by
  have hd2 : d < 256 := by rw [hd]; exact c.toNat_lt
  by_cases h1 : d = 46 ∨ d = 92
  · rw [byteT_esc hd h1]
    have HC := Lib.hid (of_toNat hd)
    clear hd
    go_enter Tryz.func141, Tryz.ntmps141
    rcases h1 with h1 | h1
    all_goals (
      subst h1
      go_wp2_with fail
      refine (WB b l 92 _ h (by omega) (by decide) (by decide)).mono ?_
      rintro e w1 ⟨rfl, B1, D1⟩
      go_wp2_with fail
      refine (WB b _ _ _ B1 (by simp; omega) (by decide) (by decide)).mono ?_
      rintro e w2 ⟨rfl, B2, D2⟩
      go_wp2_with fail
      go_end0
      refine ⟨rfl, ?_, D1.trans D2⟩
      rw [show l ++ [92, c] = (l ++ [UInt8.ofNat (Int.toNat 92)]) ++ [c] by simp, ← HC.out]
      exact B2)
  · by_cases h2 : 33 ≤ d ∧ d ≤ 126
    · rw [byteT_self hd h1 h2]
      have HC := Lib.hid (of_toNat hd)
      have g1 : ((d : Int) == 46) = false := by rw [beq_eq_false_iff_ne]; omega
      have g2 : ((d : Int) == 92) = false := by rw [beq_eq_false_iff_ne]; omega
      have g3 : (33 : Int) ≤ (d : Int) := by omega
      have g4 : (d : Int) ≤ 126 := by omega
      clear hd h1 h2
      go_enter Tryz.func141, Tryz.ntmps141
      go_wp2_with fail
      refine (WB b l (d : Nat) _ h (by omega) (by omega) (by omega)).mono ?_
      rw [HC.out]
      rintro e w1 ⟨rfl, B1, D1⟩
      go_wp2_with fail
      go_end0
      exact ⟨rfl, B1, D1⟩
    · rw [byteT_dec hd h1 h2]
      exact writeByte_dec b d l w h hw hb hl hd2 h1 h2

/-! ### Text -/
theorem labsT_take {L : List (List UInt8)} {k : Nat} (h : k < L.length) : labsT (L.take (k + 1)) = labsT (L.take k) ++ bytesT L[k] ++ [46] := by
  rw [List.take_succ_eq_append_getElem h, labsT_snoc]; unfold labT; rw [List.append_assoc]
theorem labsT_take_le (L : List (List UInt8)) (k : Nat) : (labsT (L.take k)).length ≤ (labsT L).length := by
  have : labsT L = labsT (L.take k) ++ labsT (L.drop k) := by
    have h : ∀ A B : List (List UInt8), labsT (A ++ B) = labsT A ++ labsT B := by intro A B; simp [labsT]
    rw [← h, List.take_append_drop]
  rw [this]; simp
theorem bytesT_take {x : List UInt8} {j : Nat} (h : j < x.length) : bytesT (x.take (j + 1)) = bytesT (x.take j) ++ byteT x[j] := by
  rw [List.take_succ_eq_append_getElem h, bytesT_snoc]
theorem bytesT_take_le (x : List UInt8) (j : Nat) : (bytesT (x.take j)).length ≤ 4 * x.length := by
  have := bytesT_len (x.take j)
  have h2 : (x.take j).length ≤ x.length := by simp; omega
  omega

set_option maxHeartbeats 2000000 in
theorem dotText_labels (S : ByteArray) (s : List UInt8) (L : List (List UInt8)) (w : World) (hS : S = mk s) (hN : nameL s = some L) (hL : L ≠ []) (hw : Wts w) :
    Calls Tryz.prog 93 #[.string S] w fun e w' => e = .returned (.string (mk (labsT L))) ∧ Below w.heap.size w w' := by
  have h0 := hw.pos
  have hfew := name_few hN
  have hlen := labsT_take_len hN
  have hgood := (nameL_is hN).2.1
  obtain ⟨n, hn⟩ : ∃ n, n = L.length := ⟨_, rfl⟩
  have hnp : 0 < n := by rw [hn]; exact List.length_pos_iff.2 hL
  have hn255 : n ≤ 255 := by omega
  have HN := Lib.hid hN
  have HS := Lib.hid hS
  have HW := Lib.hid hw
  have HLN := Lib.hid hlen
  have HG := Lib.hid hgood
  have HNL := Lib.hid hn
  clear hN hS hw hlen hgood hL hfew
  have g0 : ((n : Int) == 0) = false := by rw [beq_eq_false_iff_ne]; omega
  go_enter Tryz.func93, Tryz.ntmps93
  go_wp2_with fail
  refine (Labels_yes S s L _ HS.out HN.out).mono ?_
  rw [← hn]
  rintro e w1 ⟨v, rfl, hown, hB1⟩
  obtain ⟨A, c, rfl, hs⟩ := Sees.own hown
  have HB1 := Lib.hid hB1
  have HSE := Lib.hid hs
  have HW1 := Lib.hid (HW.out.beyond hB1)
  have hb0 : 0 < w1.heap.size := HW1.out.pos
  have HBL := Lib.hid (Bld.new w1)
  have HB2 := Lib.hid ((Below.refl w1.heap.size w1).alloc (Nat.le_refl _) (.cells #[.pointer none, .slice none 0 0] 66))
  clear hB1 hown hs hn
  go_wp2_with fail
  go_loopw [21] (fun i wr => ∃ k : Nat, k ≤ n ∧ i = .int .i64 k ∧ Bld w1.heap.size (labsT (L.take k)) wr ∧ Below w1.heap.size w1 wr) (fun i _ => n - (intOf i).toNat)
  case atStart => exact ⟨0, Nat.zero_le _, rfl, HBL.out, HB2.out⟩
  case round =>
    obtain ⟨k, hk, rfl, hb, hB⟩ := hrel
    by_cases hlt : k < n
    · have hkL : k < L.length := by have := HNL.out; omega
      have g1 : (k : Int) < (n : Int) := by omega
      have hsr := HSE.out.below hB
      obtain ⟨b2, off2, rfl, _, hc⟩ := textL_at hsr hlt hkL
      obtain ⟨x, hx⟩ : ∃ x, x = L[k] := ⟨_, rfl⟩
      have hx63 : x.length ≤ 63 := by rw [hx]; exact (HG.out _ (List.getElem_mem hkL)).2
      have hroom : (labsT (L.take k)).length ≤ 1020 := Nat.le_trans (labsT_take_le L k) HLN.out
      have hstep : labsT (L.take (k + 1)) = labsT (L.take k) ++ bytesT x ++ [46] := by rw [hx]; exact labsT_take hkL
      rw [← hx] at hc
      obtain ⟨T, hT⟩ : ∃ T, T = labsT (L.take k) := ⟨_, rfl⟩
      rw [← hT] at hb hroom hstep
      obtain ⟨X, hX⟩ : ∃ X, X = mk x := ⟨_, rfl⟩
      rw [← hX] at hc
      have hXz : X.size = x.length := by rw [hX, mk_size]
      have HX := Lib.hid hX
      have HXZ := Lib.hid hXz
      have HST := Lib.hid hstep
      have HRM := Lib.hid hroom
      have Hb := Lib.hid hb
      have HB := Lib.hid hB
      clear hx hsr hb hB hT hX hXz hstep hroom
      go_wp2_with fail
      go_loopw [27] (fun i wr2 => ∃ j : Nat, j ≤ X.size ∧ i = .int .i64 j ∧ Bld w1.heap.size (T ++ bytesT (x.take j)) wr2 ∧ Below w1.heap.size w1 wr2) (fun i _ => X.size - (intOf i).toNat)
      case atStart => exact ⟨0, Nat.zero_le _, rfl, by simpa [bytesT] using Hb.out, HB.out⟩
      case round =>
        obtain ⟨j, hj, rfl, hb, hB⟩ := hrel
        have Hb2 := Lib.hid hb
        have HB3 := Lib.hid hB
        clear hb hB
        by_cases hlt2 : j < X.size
        · have hjx : j < x.length := by have := HXZ.out; omega
          have g2 : (j : Int) < (X.size : Int) := by omega
          obtain ⟨d, hd⟩ : ∃ d, d = x[j].toNat := ⟨_, rfl⟩
          have hcx : (X[j]'hlt2).toNat = d := by rw [mk_get HX.out hlt2 hjx, hd]
          have HD := Lib.hid hd
          have HTK := Lib.hid (bytesT_take hjx)
          clear hd
          go_wp2_with fail
          refine (writeByte_any w1.heap.size d x[j] (T ++ bytesT (x.take j)) _ Hb2.out (HW1.out.below HB3.out hb0) hb0 (by have := HRM.out; have := bytesT_take_le x j; simp; omega) HD.out).mono ?_
          rintro e w2 ⟨rfl, h2, hB2⟩
          have HH2 := Lib.hid h2
          have HHB := Lib.hid (HB3.out.trans hB2)
          clear h2 hB2
          go_wp2_with fail
          go_roundw
          case rel => exact ⟨j + 1, by omega, by go_num, by rw [HTK.out, ← List.append_assoc]; exact HH2.out, HHB.out⟩
          case measure => simp [intOf]; omega
        · obtain rfl : j = X.size := by omega
          have HALL : Hid (x.take X.size = x) := Lib.hid (List.take_of_length_le (by have := HXZ.out; omega))
          go_wp2_with fail
          refine (WB w1.heap.size (T ++ bytesT x) 46 _ (by have := Hb2.out; rwa [HALL.out] at this) (by have := HRM.out; have := bytesT_len x; simp; omega) (by decide) (by decide)).mono ?_
          rintro e w2 ⟨rfl, h2, hB2⟩
          have HH2 := Lib.hid h2
          have HHB := Lib.hid (HB3.out.trans hB2)
          clear h2 hB2
          go_wp2_with fail
          go_roundw
          case rel => exact ⟨k + 1, by omega, by go_num, by rw [HST.out]; exact HH2.out, HHB.out⟩
          case measure => simp [intOf]; omega
    · obtain rfl : k = n := by omega
      rw [List.take_of_length_le (by have := HNL.out; omega)] at hb
      go_wp2_with fail
      refine (BString_any w1.heap.size (labsT L) _ hb).mono ?_
      rintro e w2 ⟨rfl, _, hB2⟩
      go_wp2_with fail
      go_ret
      exact ⟨rfl, HB1.out.trans ((hB.trans hB2).mono HB1.out.size)⟩

theorem dotText_any (S : ByteArray) (s : List UInt8) (w : World) (hS : S = mk s) (hb : s.length ≤ 1073741824) (hw : Wts w) :
    Calls Tryz.prog 93 #[.string S] w fun e w' => e = .returned (.string (mk (textN s))) ∧ Below w.heap.size w w' := by
  cases h : nameL s with
  | none =>
    rw [textN_none h]
    have HS := Lib.hid hS
    clear hS hw
    go_enter Tryz.func93, Tryz.ntmps93
    go_wp2_with fail
    refine (Labels_no S s _ HS.out hb h).mono ?_
    rintro e w1 ⟨rfl, hB1⟩
    go_wp2_with fail
    go_ret
    exact ⟨rfl, hB1⟩
  | some L =>
    rw [textN_some h]
    by_cases hL : L = []
    · subst hL
      rw [dotT_nil]
      have HS := Lib.hid hS
      clear hS hw
      go_enter Tryz.func93, Tryz.ntmps93
      go_wp2_with fail
      refine (Labels_yes S s [] _ HS.out h).mono ?_
      rintro e w1 ⟨v, rfl, hown, hB1⟩
      obtain ⟨A, c, rfl, _⟩ := Sees.own hown
      clear hown
      go_wp2_with fail
      go_ret
      exact ⟨rfl, hB1⟩
    · rw [dotT_cons hL]
      exact dotText_labels S s L w hS h hL hw
end Go.Proofs.YtnbapaimpoobkaaGreatDoor
