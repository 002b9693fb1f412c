/- Parts of the proofs of the statements of image. No statement of the seat is proved here. -/
import Derived.Test.YtnbapaimpoobkaaGreatDoorDoA
import Derived.Test.YtnbapaimpoobkaaGreatDoorImgM
import Derived.Test.YtnbapaimpoobkaaGreatDoorShm
import Derived.Shelf.Strings.SplitShaped
import Derived.Shelf.Strconv.Itoa3
import Derived.Shelf.Strconv.ErrVar
import Derived.Shelf.Small.Strs
import Derived.Lib.AppendIntMem
import Derived.Lib.AtoiErrMem
import Derived.Lib.ItoaMem
import Derived.Lib.AtoiBound
import Derived.Deep.RegionLaw
namespace Go.Proofs.YtnbapaimpoobkaaGreatDoor
open Go.RowKit Go.Shelf

/-! ### variables -/
theorem var_below {P : Program} {w w' : World} {name : String} {v : Array Value} (h : w.var? P name = some v) (hb : Below w.heap.size w w') : w'.var? P name = some v := by
  unfold World.var? at *
  cases hg : P.globalNamed name with
  | none => simp [hg] at h
  | some g =>
    simp only [hg, Option.bind_some] at h ⊢
    have hlt : g < w.heap.size := by
      rcases Nat.lt_or_ge g w.heap.size with h' | h'
      · exact h'
      · rw [Array.getElem?_eq_none h'] at h; simp at h
    rw [hb.block g hlt]
    exact h
/-- the weights of a byte's digits and the powers of ten stand -/
structure Env (w : World) : Prop where
  wts : Wts w
  tab : Lib.TabIs Tryz.prog w "internal/strconv.uint64pow10" .u64 Lib.pow10Tab
theorem Env.beyond {w w' : World} (h : Env w) (hB : Below w.heap.size w w') : Env w' := ⟨h.wts.beyond hB, var_below h.tab hB⟩
/-- .. and the library's error of the syntax and its bound for short searches -/
structure EnvL (w : World) : Prop where
  env : Env w
  syn : ∃ tp p, w.var? Tryz.prog "strconv.ErrSyntax" = some #[.iface tp p]
  max : ∃ m, w.cell? ⟨1, 0, none⟩ = some (.int .i64 m)
theorem EnvL.beyond {w w' : World} (h : EnvL w) (hB : Below w.heap.size w w') : EnvL w' := by
  obtain ⟨tp, p, hs⟩ := h.syn
  obtain ⟨m, hm⟩ := h.max
  exact ⟨h.env.beyond hB, ⟨tp, p, var_below hs hB⟩, ⟨m, (hB.cell (p := ⟨1, 0, none⟩) (World.block_lt_of_cell? w _ hm)).trans hm⟩⟩

/-! ### the library -/
theorem Itoa_any (n : Int) (w : World) (h0 : 0 ≤ n) (h1 : n ≤ 9223372036854775807) (he : Env w) :
    Calls Tryz.prog 94 #[.int .i64 n] w fun e w' => e = .returned (.string (mk (decI n))) ∧ Below w.heap.size w w' := by
  refine (Any.strconv_Itoa itoaL n (by omega) h1 w he.tab).mono ?_
  rintro e w' ⟨rfl, k, os, rfl⟩
  refine ⟨?_, Lib.below_grow _ w (Nat.le_refl _) k os⟩
  have e2 : Lib.itoa n = decI n := by unfold Lib.itoa decI; rw [if_neg (by omega)]
  rw [e2]; rfl
theorem Atoi_some (S : ByteArray) (s : List UInt8) (n : Int) (w : World) (hS : S = mk s) (hl : s.length ≤ 18) (h : Lib.atoi s = some n) :
    Calls Tryz.prog 153 #[.string S] w fun e w' => e = .returned (.tuple #[.int .i64 n, .nilIface]) ∧ Below w.heap.size w w' := by
  have hd : S.data.toList = s := by rw [hS]; simp [mk]
  refine (Any.strconv_Atoi { atoiL with } S n (by rw [hS, mk_size]; exact hl) (by rw [hd]; exact h) w).mono ?_
  rintro e w' ⟨rfl, t, rfl⟩
  exact ⟨rfl, Lib.bytesWorld_below _ _ _⟩
theorem Atoi_none (S : ByteArray) (s : List UInt8) (w : World) (hS : S = mk s) (hl : s.length ≤ 18) (h : Lib.atoi s = none) (he : EnvL w) :
    Calls Tryz.prog 153 #[.string S] w fun e w' => (∃ t N, e = .returned (.tuple #[.int .i64 0, .iface t (.pointer (some ⟨N, 0, none⟩))])) ∧ Below w.heap.size w w' := by
  have hd : S.data.toList = s := by rw [hS]; simp [mk]
  obtain ⟨tp, p, hs⟩ := he.syn
  refine (Any.strconv_Atoi_err_var atoiL S (by rw [hS, mk_size]; exact hl) (by rw [hd]; exact h) tp p w hs).mono ?_
  rintro e w' ⟨N, rfl, _, _, hb⟩
  exact ⟨⟨_, N, rfl⟩, hb⟩
theorem Words_split (S : ByteArray) (s : List UInt8) (w : World) (hS : S = mk s) (hl : s.length ≤ 100000) (he : EnvL w) :
    Calls Tryz.prog 108 #[.string S, .string ⟨#[32]⟩] w fun e w' => (∃ g, e = .returned (.slice (some ⟨g, 0, none⟩) (wordsL s).length (wordsL s).length) ∧ Sees w' w'.heap.size (some ⟨g, 0, none⟩) (wordsL s).length (texts ((wordsL s).map mk))) ∧ Below w.heap.size w w' := by
  obtain ⟨m, hm⟩ := he.max
  have hsz : S.size = s.length := by rw [hS, mk_size]
  have hc := Lib.splitB_all ⟨#[32]⟩ (by decide) 0 (Lib.countB S ⟨#[32]⟩) S rfl
  have hw := splitB_words S s hS
  rw [hw, List.length_map] at hc
  have := Any.strings_Split { splitL with } splitL.i9 S ⟨#[32]⟩ m w (by omega) hm (by decide)
  rw [hw, ← hc] at this
  refine this.mono ?_
  rintro e w' ⟨rfl, rfl⟩
  refine ⟨⟨w.heap.size, rfl, ?_⟩, (Below.refl _ _).alloc (Nat.le_refl _) _⟩
  have hW := Whole.new w 9 ((wordsL s).map mk |>.map Value.string).toArray
  refine ⟨by simp [texts], fun _ => ⟨w.heap.size, 0, rfl, hW.lt, fun j u hu => ?_⟩⟩
  rw [Nat.zero_add]
  refine (hW.cell j).trans ?_
  rw [← hu]
  simp [texts]
theorem digits_half : ∀ n : Fin 256, Lib.indexByte [48, 49, 50, 51, 52, 53, 54, 55, 56, 57, 97, 98, 99, 100, 101, 102] (UInt8.ofNat n.val) = halfI (UInt8.ofNat n.val) := by decide +kernel
theorem IndexByte_any (c : Nat) (w : World) (hc : c < 256) :
    Calls Tryz.prog 154 #[.string ⟨#[48, 49, 50, 51, 52, 53, 54, 55, 56, 57, 97, 98, 99, 100, 101, 102]⟩, .int .u8 (c : Nat)] w fun e w' => e = .returned (.int .i64 (halfI (UInt8.ofNat c))) ∧ w' = w := by
  have := Any.strings_IndexByte indexL ⟨#[48, 49, 50, 51, 52, 53, 54, 55, 56, 57, 97, 98, 99, 100, 101, 102]⟩ (c : Nat) w
  have e := digits_half ⟨c, hc⟩
  rw [Int.toNat_natCast] at this
  have e2 : c.toUInt8 = UInt8.ofNat c := rfl
  rw [e2] at this
  rw [← e]
  exact this
theorem JoinS_any (g c n : Nat) (T : List (List UInt8)) (w : World) (hn : T.length = n) (hc : n ≤ c) (hg : g < w.heap.size) (hcell : ∀ k x, T[k]? = some x → w.cell? ⟨g, k, none⟩ = some (.string (mk x))) (hb : n ≤ 100) (hl : (Lib.join T [32]).length ≤ 1000000) :
    Calls Tryz.prog 92 #[.slice (some ⟨g, 0, none⟩) n c, .string ⟨#[32]⟩] w fun e w' => e = .returned (.string (mk (Lib.join T [32]))) ∧ Below w.heap.size w w' := by
  have e1 : (T.map mk).map (·.data.toList) = T := by
    rw [List.map_map]
    have : ((fun s : ByteArray => s.data.toList) ∘ mk) = id := by funext l; simp [mk]
    rw [this]; simp
  have := Any.strings_Join joinL builderXj g 0 c (T.map mk) ⟨#[32]⟩ w (fun j x hx => by
    rw [List.getElem?_map] at hx
    cases hT : T[j]? with
    | none => rw [hT] at hx; cases hx
    | some y =>
      rw [hT] at hx
      injection hx with hx
      subst hx
      rw [Nat.zero_add]
      exact hcell j y hT) hg (by simp; omega) (by simp; omega) (by rw [e1]; show (Lib.join T [32]).length ≤ _; omega)
  rw [e1, List.length_map, hn] at this
  exact this
/-- what is joined by single blanks -/
theorem join_five (a b c d e : List UInt8) : Lib.join [a, b, c, d, e] [32] = a ++ blk :: (b ++ blk :: (c ++ blk :: (d ++ blk :: e))) := by
  simp [Lib.join, blk]
end Go.Proofs.YtnbapaimpoobkaaGreatDoor
namespace Go.Proofs.YtnbapaimpoobkaaGreatDoor
open Go.RowKit Go.Shelf

theorem byte_ofB {S : ByteArray} {s : List UInt8} {k : Nat} (hS : S = mk s) (hk : k < S.size) : ∃ (h : k < s.length), (S[k]'hk).toNat = s[k].toNat := by
  subst hS
  exact ⟨by rw [mk_size] at hk; exact hk, rfl⟩
theorem hexL_takeB {d : List UInt8} {k : Nat} (h : k < d.length) : hexL (d.take (k + 1)) = hexL (d.take k) ++ [hexD (d[k].toNat / 16)] ++ [hexD (d[k].toNat % 16)] := by
  rw [List.take_succ_eq_append_getElem h, hexL_snoc]; simp [hexC]
theorem hex_litB : ∀ k : Fin 16, (⟨#[48, 49, 50, 51, 52, 53, 54, 55, 56, 57, 97, 98, 99, 100, 101, 102]⟩ : ByteArray)[k.val]'(by have := k.isLt; exact this) = hexD k.val := by decide +kernel
set_option maxHeartbeats 2000000 in
theorem pairsOf_any (S : ByteArray) (s : List UInt8) (w : World) (hS : S = mk s) (hb : s.length ≤ 1000000) :
    Calls Tryz.prog 95 #[.string S] w fun e w' => e = .returned (.string (mk (hexL s))) ∧ Below w.heap.size w w' := by
  have hz : S.size = s.length := by rw [hS, mk_size]
  obtain ⟨b, hbb⟩ : ∃ b, b = w.heap.size := ⟨_, rfl⟩
  have HBL := Lib.hid (show Bld b [] (w.alloc (.cells #[.pointer none, .slice none 0 0] 66)) by rw [hbb]; exact Bld.new w)
  have HB0 := Lib.hid (show Below b w (w.alloc (.cells #[.pointer none, .slice none 0 0] 66)) by rw [hbb]; exact (Below.refl w.heap.size w).alloc (Nat.le_refl _) _)
  have HS := Lib.hid hS
  have HZ := Lib.hid hz
  have hb2 : S.size ≤ 1000000 := by omega
  clear hz hS hb
  go_enter Tryz.func95, Tryz.ntmps95
  go_wp2_with fail
  rw [← hbb]
  have HBB := Lib.hid hbb
  clear hbb
  go_loopw [7] (fun i wr => ∃ k : Nat, k ≤ S.size ∧ i = .int .i64 (k : Nat) ∧ Bld b (hexL (s.take k)) wr ∧ Below b w wr) (fun i _ => S.size - (intOf i).toNat)
  case atStart => exact ⟨0, Nat.zero_le _, rfl, HBL.out, HB0.out⟩
  case round =>
    obtain ⟨k, hk, rfl, hl, hB⟩ := hrel
    have HL := Lib.hid hl
    have HB := Lib.hid hB
    have hlen : (hexL (s.take k)).length ≤ 2000000 := by rw [hexL_len, List.length_take]; have := HZ.out; omega
    clear hl hB
    by_cases hlt : k < S.size
    · have g1 : (k : Int) < (S.size : Int) := by omega
      have g0 : (0 : Int) ≤ (k : Int) := by omega
      obtain ⟨hks, hc⟩ := byte_ofB HS.out hlt
      obtain ⟨d, hd⟩ : ∃ d, d = s[k].toNat := ⟨_, rfl⟩
      rw [← hd] at hc
      have hd8 : d < 256 := by rw [hd]; exact s[k].toNat_lt
      have HT := Lib.hid (show hexL (s.take (k + 1)) = hexL (s.take k) ++ [hexD (d / 16)] ++ [hexD (d % 16)] by rw [hd]; exact hexL_takeB hks)
      clear hd
      have g3 : (0 : Int) ≤ (d : Int) / 16 := by omega
      have g4 : (d : Int) / 16 < 16 := by omega
      have g5 : (0 : Int) ≤ (d : Int) % 16 := by omega
      have g6 : (d : Int) % 16 < 16 := by omega
      have E1 := Lib.hid (hex_litB ⟨d / 16, by omega⟩)
      have E2 := Lib.hid (hex_litB ⟨d % 16, by omega⟩)
      go_wp2_with fail
      refine (WriteByte_any b _ _ _ HL.out (by omega)).mono ?_
      rintro e w1 ⟨rfl, hl1, hB1⟩
      have HL1 := Lib.hid (show Bld b (hexL (s.take k) ++ [hexD (d / 16)]) w1 by rw [← E1.out]; exact hl1)
      have HB1 := Lib.hid (HB.out.trans hB1)
      clear hl1 hB1
      go_wp2_with fail
      refine (WriteByte_any b _ _ _ HL1.out (by simp; omega)).mono ?_
      rintro e w2 ⟨rfl, hl2, hB2⟩
      have HL2 := Lib.hid (show Bld b (hexL (s.take (k + 1))) w2 by rw [HT.out, ← E2.out]; exact hl2)
      have HB2 := Lib.hid (HB1.out.trans hB2)
      clear hl2 hB2
      go_wp2_with fail
      go_roundw
      case rel => exact ⟨k + 1, by omega, by go_num, HL2.out, HB2.out⟩
      case measure => simp [intOf]; omega
    · obtain rfl : k = S.size := by omega
      have HE := Lib.hid (show s.take S.size = s by rw [HZ.out, List.take_length])
      go_wp2_with fail
      refine (BString_any b _ _ HL.out).mono ?_
      rintro e w1 ⟨rfl, _, hB1⟩
      have HB1 := Lib.hid (HB.out.trans hB1)
      clear hB1
      go_wp2_with fail
      go_ret
      exact ⟨by rw [HE.out]; rfl, by have := HB1.out; rwa [HBB.out] at this⟩

/-! ### numberOf -/
def numOutB (s : List UInt8) : Value := if 0 ≤ numL s then .tuple #[.int .i64 (numL s), .bool true] else .tuple #[.int .i64 0, .bool false]
theorem mk_neq {a b : List UInt8} (h : a ≠ b) : ((mk a).toList == (mk b).toList) = false := by
  rw [mk_beq]; exact beq_eq_false_iff_ne.2 h
set_option maxHeartbeats 2000000 in
theorem numberOf_any (S : ByteArray) (s : List UInt8) (w : World) (hS : S = mk s) (hb : s.length ≤ 1000000) (he : EnvL w) :
    Calls Tryz.prog 110 #[.string S] w fun e w' => e = .returned (numOutB s) ∧ Below w.heap.size w w' := by
  have hz : S.size = s.length := by rw [hS, mk_size]
  have HS := Lib.hid hS
  have HE := Lib.hid he
  clear hS he
  by_cases hl : 10 < s.length
  · have g1 : (10 : Int) < (S.size : Int) := by omega
    have HO := Lib.hid (show numOutB s = .tuple #[.int .i64 0, .bool false] by unfold numOutB; rw [numL_long hl]; rfl)
    go_enter Tryz.func110, Tryz.ntmps110
    go_wp2_with fail
    go_ret2
    exact ⟨by rw [HO.out]; rfl, Below.refl _ _⟩
  · have g1 : ¬ (10 : Int) < (S.size : Int) := by omega
    cases ha : Lib.atoi s with
    | none =>
      have HO := Lib.hid (show numOutB s = .tuple #[.int .i64 0, .bool false] by
        unfold numOutB
        rw [if_neg]
        intro h
        obtain ⟨v, _, _, h3, _⟩ := numL_some (by omega) h
        rw [ha] at h3; cases h3)
      have HA := Lib.hid ha
      clear ha
      go_enter Tryz.func110, Tryz.ntmps110
      go_wp2_with fail
      refine (Atoi_none S s _ HS.out (by omega) HA.out HE.out).mono ?_
      rintro e w1 ⟨⟨t, N, rfl⟩, hB1⟩
      have HB1 := Lib.hid hB1
      clear hB1
      go_wp2_with fail
      go_ret2
      exact ⟨by rw [HO.out]; rfl, HB1.out⟩
    | some n =>
      have HA := Lib.hid ha
      by_cases hn : n < 0
      · have HO := Lib.hid (show numOutB s = .tuple #[.int .i64 0, .bool false] by
          unfold numOutB
          rw [if_neg]
          intro h
          obtain ⟨v, _, _, h3, _⟩ := numL_some (by omega) h
          rw [ha] at h3
          injection h3 with h3
          omega)
        clear ha
        go_enter Tryz.func110, Tryz.ntmps110
        go_wp2_with fail
        refine (Atoi_some S s n _ HS.out (by omega) HA.out).mono ?_
        rintro e w1 ⟨rfl, hB1⟩
        have HB1 := Lib.hid hB1
        clear hB1
        go_wp2_with fail
        go_ret2
        exact ⟨by rw [HO.out]; rfl, HB1.out⟩
      · have hn0 : 0 ≤ n := by omega
        by_cases heq : Lib.decDigits n.toNat = s
        · have HO := Lib.hid (show numOutB s = .tuple #[.int .i64 n, .bool true] by
            have h0 : 0 ≤ numL s := by
              rcases Int.lt_or_le (numL s) 0 with g | g
              · rcases (numL_none (by omega) (by omega)).2 n ha with k | k
                · omega
                · exact absurd heq k
              · exact g
            obtain ⟨v, h1, _, h3, _⟩ := numL_some (by omega) h0
            rw [ha] at h3
            injection h3 with h3
            unfold numOutB
            rw [if_pos h0, h1, h3])
          have hnl : n ≤ 9223372036854775807 := by have := (Lib.atoi_bound ha (by omega)).2; omega
          have HEQ := Lib.hid (show mk (decI n) = S by rw [HS.out]; unfold decI; rw [heq])
          clear ha heq
          go_enter Tryz.func110, Tryz.ntmps110
          go_wp2_with fail
          refine (Atoi_some S s n _ HS.out (by omega) HA.out).mono ?_
          rintro e w1 ⟨rfl, hB1⟩
          have HB1 := Lib.hid hB1
          clear hB1
          go_wp2_with fail
          refine (Itoa_any n _ hn0 hnl (HE.out.env.beyond HB1.out)).mono ?_
          rw [HEQ.out]
          rintro e w2 ⟨rfl, hB2⟩
          have HB2 := Lib.hid (HB1.out.trans (hB2.mono HB1.out.size))
          clear hB2
          go_wp2_with fail
          go_ret2
          exact ⟨by rw [HO.out]; rfl, HB2.out⟩
        · have HO := Lib.hid (show numOutB s = .tuple #[.int .i64 0, .bool false] by
            unfold numOutB
            rw [if_neg]
            intro h
            obtain ⟨v, _, _, h3, h4⟩ := numL_some (by omega) h
            rw [ha] at h3
            injection h3 with h3
            apply heq
            rw [h3, Int.toNat_natCast, h4])
          have hnl : n ≤ 9223372036854775807 := by have := (Lib.atoi_bound ha (by omega)).2; omega
          have hne := mk_neq heq
          obtain ⟨D, hD⟩ : ∃ D, D = mk (decI n) := ⟨_, rfl⟩
          have hne2 : (D.toList == S.toList) = false := by rw [hD, HS.out]; exact hne
          have HD := Lib.hid hD
          clear ha heq hD hne
          go_enter Tryz.func110, Tryz.ntmps110
          go_wp2_with fail
          refine (Atoi_some S s n _ HS.out (by omega) HA.out).mono ?_
          rintro e w1 ⟨rfl, hB1⟩
          have HB1 := Lib.hid hB1
          clear hB1
          go_wp2_with fail
          refine (Itoa_any n _ hn0 hnl (HE.out.env.beyond HB1.out)).mono ?_
          rw [← HD.out]
          rintro e w2 ⟨rfl, hB2⟩
          have HB2 := Lib.hid (HB1.out.trans (hB2.mono HB1.out.size))
          clear hB2
          go_wp2_with fail
          go_ret2
          exact ⟨by rw [HO.out]; rfl, HB2.out⟩

/-! ### dataOf -/
def DataOut (s : List UInt8) (e : Ending) : Prop := ∃ D ok, e = .returned (.tuple #[.string D, .bool ok]) ∧ (match unhexL s with | some d => ok = true ∧ D = mk d | none => ok = false)
theorem DataOut.no {s : List UInt8} {D : ByteArray} (h : unhexL s = none) : DataOut s (.returned (.tuple #[.string D, .bool false])) := ⟨D, false, rfl, by rw [h]⟩
theorem DataOut.yes {s d : List UInt8} (h : unhexL s = some d) : DataOut s (.returned (.tuple #[.string (mk d), .bool true])) := ⟨_, true, rfl, by rw [h]; exact ⟨rfl, rfl⟩⟩
theorem or_fin : ∀ p q : Fin 16, bits BinOp.or IntKind.i64 (((p.val : Nat) : Int) * 16) ((q.val : Nat) : Int) % 256 = ((p.val : Nat) : Int) * 16 + ((q.val : Nat) : Int) := by decide +kernel
theorem or_is {p q : Int} (h0 : 0 ≤ p) (h1 : p ≤ 15) (h2 : 0 ≤ q) (h3 : q ≤ 15) : bits BinOp.or IntKind.i64 (p * 16) q % 256 = p * 16 + q := by
  have := or_fin ⟨p.toNat, by omega⟩ ⟨q.toNat, by omega⟩
  simp only [Int.toNat_of_nonneg h0, Int.toNat_of_nonneg h2] at this
  exact this
def strSizeB : Value → Nat | .string x => x.size | _ => 0
def DAt (s : List UInt8) (b : Nat) (w : World) (v : Value) (wr : World) : Prop :=
  ∃ (T : ByteArray) (t d : List UInt8), v = .string T ∧ T = mk t ∧ Pairs s d t ∧ 2 * d.length + t.length = s.length ∧ Bld b d wr ∧ Below b w wr
set_option maxHeartbeats 4000000 in
theorem dataOf_any (S : ByteArray) (s : List UInt8) (w : World) (hS : S = mk s) (hb : s.length ≤ 1000000) :
    Calls Tryz.prog 111 #[.string S] w fun e w' => DataOut s e ∧ Below w.heap.size w w' := by
  have hz : S.size = s.length := by rw [hS, mk_size]
  by_cases hodd : s.length % 2 = 1
  · have HF := Lib.hid (unhex_odd _ s (Nat.le_refl _) hodd)
    have g1 : (S.size : Int) % 2 = 1 := by omega
    clear hS hz hodd
    go_enter Tryz.func111, Tryz.ntmps111
    go_wp2_with fail
    go_ret2
    exact ⟨.no HF.out, Below.refl _ _⟩
  · have g1 : (S.size : Int) % 2 = 0 := by omega
    have hev : s.length % 2 = 0 := by omega
    obtain ⟨b, hbb⟩ : ∃ b, b = w.heap.size := ⟨_, rfl⟩
    have HBL := Lib.hid (show Bld b [] (w.alloc (.cells #[.pointer none, .slice none 0 0] 66)) by rw [hbb]; exact Bld.new w)
    have HB0 := Lib.hid (show Below b w (w.alloc (.cells #[.pointer none, .slice none 0 0] 66)) by rw [hbb]; exact (Below.refl w.heap.size w).alloc (Nat.le_refl _) _)
    have HS := Lib.hid hS
    have HZ := Lib.hid hz
    have HEV := Lib.hid hev
    clear hS hz hodd hev
    go_enter Tryz.func111, Tryz.ntmps111
    go_wp2_with fail
    rw [← hbb]
    have HBB := Lib.hid hbb
    clear hbb
    clear g1
    go_loopw [0, 5, 6] (fun v _ _ wr => DAt s b w v wr) (fun v _ _ _ => strSizeB v)
    case atStart => exact ⟨S, s, [], rfl, HS.out, Pairs.start s, by simp, HBL.out, HB0.out⟩
    case round =>
      obtain ⟨T, t, d, rfl, hT, hp, hlen, hl, hB⟩ := hrel
      have htz : T.size = t.length := by rw [hT, mk_size]
      have HL := Lib.hid hl
      have HB := Lib.hid hB
      have HP := Lib.hid hp
      have HLEN := Lib.hid hlen
      have HT := Lib.hid hT
      have hd1 : d.length ≤ 1000000 := by omega
      clear hl hB hp hT
      by_cases h0 : t = []
      · have hTe : T = ⟨#[]⟩ := by rw [HT.out, h0]; rfl
        have hne : T.toList.isEmpty = true := by rw [hTe]; kernel_rfl
        have HE := Lib.hid (show unhexL s = some d by have := HP.out; rw [h0] at this; exact this.ends)
        clear hTe h0 hlen htz
        go_wp2_with fail
        refine (BString_any b _ _ HL.out).mono ?_
        rintro e w1 ⟨rfl, _, hB1⟩
        have HB1 := Lib.hid (HB.out.trans hB1)
        clear hB1
        go_wp2_with fail
        go_ret2
        exact ⟨.yes HE.out, by have := HB1.out; rwa [HBB.out] at this⟩
      · have hp0 := List.length_pos_iff.2 h0
        have hne : T.toList.isEmpty = false := not_empty (by omega)
        have h2 : 2 ≤ t.length := by have := HEV.out; omega
        obtain ⟨a, c, r, htr⟩ : ∃ a c r, t = a :: c :: r := by
          match t, h2 with
          | a :: c :: r, _ => exact ⟨a, c, r, rfl⟩
        have k0 : 0 < T.size := by omega
        have k1 : 1 < T.size := by omega
        have g2 : (1 : Int) < (T.size : Int) := by omega
        have g3 : (0 : Int) < (T.size : Int) := by omega
        have g4 : (2 : Int) ≤ (T.size : Int) := by omega
        obtain ⟨hk0, hc0⟩ := byte_ofB HT.out k0
        obtain ⟨hk1, hc1⟩ := byte_ofB HT.out k1
        subst htr
        rw [List.getElem_cons_zero] at hc0
        rw [List.getElem_cons_succ, List.getElem_cons_zero] at hc1
        obtain ⟨x, hx⟩ : ∃ x, x = a.toNat := ⟨_, rfl⟩
        obtain ⟨y, hy⟩ : ∃ y, y = c.toNat := ⟨_, rfl⟩
        have hx8 : x < 256 := by rw [hx]; exact a.toNat_lt
        have hy8 : y < 256 := by rw [hy]; exact c.toNat_lt
        rw [← hx] at hc0
        rw [← hy] at hc1
        have ea : UInt8.ofNat x = a := by rw [hx]; exact UInt8.ofNat_toNat
        have eb : UInt8.ofNat y = c := by rw [hy]; exact UInt8.ofNat_toNat
        have r1 := halfI_range a
        have r2 := halfI_range c
        obtain ⟨p, hpa⟩ : ∃ p, p = halfI a := ⟨_, rfl⟩
        obtain ⟨q, hqb⟩ : ∃ q, q = halfI c := ⟨_, rfl⟩
        have HA := Lib.hid (show halfI (UInt8.ofNat x) = p by rw [ea, hpa])
        have HBQ := Lib.hid (show halfI (UInt8.ofNat y) = q by rw [eb, hqb])
        rw [← hpa] at r1
        rw [← hqb] at r2
        have HPA := Lib.hid hpa
        have HQB := Lib.hid hqb
        have HR := Lib.hid (show T.extract 2 T.size = mk r by rw [HT.out, mk_extract, mk_size, List.take_length]; rfl)
        have HRL := Lib.hid (show r.length + 2 = T.size by simp at htz; omega)
        clear hx hy ea eb hpa hqb h0 htz hlen hk0 hk1 h2 hp0
        go_wp2_with fail
        refine wp_region_noPanic ?_
        go_region_law (go_simp; go_at_call 154; (first | (with_reducible refine (IndexByte_any x _ hx8).mono ?_; rw [HA.out]; rintro e w1 ⟨rfl, rfl⟩) | (with_reducible refine (IndexByte_any y _ hy8).mono ?_; rw [HBQ.out]; rintro e w1 ⟨rfl, rfl⟩)))
        all_goals
          refine NoPanic.normal ?_
          by_cases hneg : p < 0
          · have HF := Lib.hid (show unhexL s = none from HP.out.fails (.inl (by rw [← HPA.out]; exact hneg)))
            go_wp2_with fail
            go_ret2
            exact ⟨.no HF.out, by have := HB.out.drew; rwa [HBB.out] at this⟩
          · by_cases hneg2 : q < 0
            · have HF := Lib.hid (show unhexL s = none from HP.out.fails (.inr (by rw [← HQB.out]; exact hneg2)))
              go_wp2_with fail
              go_ret2
              exact ⟨.no HF.out, by have := HB.out.drew; rwa [HBB.out] at this⟩
            · have HST := Lib.hid (show Pairs s (d ++ [UInt8.ofNat (p * 16 + q).toNat]) r by have h2 := HP.out.step (by rw [← HPA.out]; omega) (by rw [← HQB.out]; omega); rwa [← HPA.out, ← HQB.out] at h2)
              have HOR := Lib.hid (or_is (p := p) (q := q) (by omega) (by omega) (by omega) (by omega))
              go_wp2_with fail
              rw [HOR.out]
              refine (WB b d (p * 16 + q) _ HL.out.drew (by omega) (by omega) (by omega)).mono ?_
              rintro e w1 ⟨rfl, hl1, hB1⟩
              have HL1 := Lib.hid hl1
              have HB1 := Lib.hid (HB.out.drew.trans hB1)
              clear hl1 hB1
              go_wp2_with fail
              rw [HR.out]
              go_roundw
              case rel =>
                have HX : DAt s b w (.string (mk r)) w1 := ⟨mk r, r, d ++ [UInt8.ofNat (p * 16 + q).toNat], rfl, rfl, HST.out, by have := HLEN.out; simp at this ⊢; omega, HL1.out, HB1.out⟩
                first | exact HX | exact ⟨_, _, HX⟩
              case measure =>
                have e1 : (mk r).size = r.length := mk_size r
                have e2 := HRL.out
                show (mk r).size < T.size
                omega
end Go.Proofs.YtnbapaimpoobkaaGreatDoor
