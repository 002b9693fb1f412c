/- Parts of the proofs of the statements of image. No statement of the seat is proved here. -/
import Derived.Test.YtnbapaimpoobkaaGreatDoorNaM
import Derived.Lib.ItoaNum
import Derived.Lib.AtoiTie
import Derived.Lib.SplitLaws
import Derived.Lib.CountLaws
import Derived.Lib.IndexLaws
import Derived.Test.YtnbapaimpoobkaaGreatDoorDoA
import Derived.Test.YtnbapaimpoobkaaGreatDoorShm
import Derived.Shelf.Strings.SplitShaped
import Derived.Shelf.Strconv.Itoa3
import Derived.Shelf.Strconv.ErrVar
import Derived.Shelf.Small.Strs
import Derived.Lib.AppendIntMem
import Derived.Lib.AtoiErrMem
import Derived.Lib.ItoaMem
import Derived.Lib.AtoiBound
import Derived.Deep.RegionLaw
import Derived.Test.YtnbapaimpoobkaaGreatDoorRrA
import Derived.Test.YtnbapaimpoobkaaGreatDoorZonD
import Derived.Deep.RegionHeld3
namespace Go.Proofs.YtnbapaimpoobkaaGreatDoor

/-! ### words -/
def blk : UInt8 := 32
/-- the words of a text: those that are read, the word at which the reading is -/
def wdF (out : List (List UInt8)) (cur : List UInt8) : List UInt8 → List (List UInt8)
  | [] => out ++ [cur]
  | c :: r => if c = blk then wdF (out ++ [cur]) [] r else wdF out (cur ++ [c]) r
def wordsL (s : List UInt8) : List (List UInt8) := wdF [] [] s
/-- where a loop that goes through a text is: the words found, where the word began, where it is -/
def Wds (s : List UInt8) (out : List (List UInt8)) (f i : Nat) : Prop := f ≤ i ∧ i ≤ s.length ∧ wordsL s = wdF out ((s.take i).drop f) (s.drop i)
theorem Wds.start (s : List UInt8) : Wds s [] 0 0 := ⟨Nat.le_refl _, Nat.zero_le _, by simp [wordsL]⟩
theorem Wds.ends {s : List UInt8} {out : List (List UInt8)} {f : Nat} (h : Wds s out f s.length) : wordsL s = out ++ [(s.take s.length).drop f] := by
  rw [h.2.2, List.drop_length, wdF]

/-! ### as the library splits -/
/-! ### decimal numbers -/
def valD (l : List UInt8) : Nat := l.foldl (fun n c => n * 10 + (c.toNat - 48)) 0
theorem valD_snoc (l : List UInt8) (c : UInt8) : valD (l ++ [c]) = valD l * 10 + (c.toNat - 48) := by simp [valD]
/-- the number of a word of one to ten digits; -1 -/
def numL (s : List UInt8) : Int := if s.length = 0 ∨ 10 < s.length ∨ (s.head? = some 48 ∧ 1 < s.length) ∨ s.all isD = false then -1 else (valD s : Nat)
def decI (n : Int) : List UInt8 := Lib.decDigits n.toNat
theorem dec_big {u : Nat} (h : ¬ u < 10) : Lib.decDigits u = Lib.decDigits (u / 10) ++ [UInt8.ofNat (48 + u % 10)] := by rw [Lib.decDigits, dif_neg h]
theorem dg_nat (k : Nat) (h : k < 10) : (UInt8.ofNat (48 + k)).toNat = 48 + k := by rw [UInt8.toNat_ofNat']; omega
theorem isD_dg (k : Nat) (h : k < 10) : isD (UInt8.ofNat (48 + k)) = true := by unfold isD; rw [dg_nat k h]; simp; omega
theorem dec_facts : ∀ (n u : Nat), u ≤ n → (Lib.decDigits u).all isD = true ∧ valD (Lib.decDigits u) = u ∧ 1 ≤ (Lib.decDigits u).length ∧ ((Lib.decDigits u).head? = some 48 → u = 0) := by
  intro n
  induction n with
  | zero =>
    intro u hu
    obtain rfl : u = 0 := by omega
    rw [Lib.decDigits_one (by decide)]
    exact ⟨by decide, by decide, by decide, fun _ => rfl⟩
  | succ n ih =>
    intro u hu
    by_cases h : u < 10
    · rw [Lib.decDigits_one h]
      refine ⟨by rw [List.all_cons, isD_dg u h]; rfl, ?_, Nat.le_refl _, ?_⟩
      · show (0 * 10 + ((UInt8.ofNat (48 + u)).toNat - 48)) = u
        rw [dg_nat u h]; omega
      · intro e
        rw [List.head?_cons] at e
        injection e with e
        have := congrArg UInt8.toNat e
        rw [dg_nat u h] at this
        have e48 : (48 : UInt8).toNat = 48 := rfl
        omega
    · obtain ⟨i1, i2, i3, i4⟩ := ih (u / 10) (by omega)
      rw [dec_big h]
      refine ⟨by rw [List.all_append, i1, List.all_cons, isD_dg (u % 10) (by omega)]; rfl, ?_, by simp, ?_⟩
      · rw [valD_snoc, i2, dg_nat (u % 10) (by omega)]; omega
      · intro e
        cases hd : Lib.decDigits (u / 10) with
        | nil => rw [hd] at i3; simp at i3
        | cons c r =>
          rw [hd] at e i4
          simp at e
          have := i4 (by simp [e])
          omega
theorem dec_len {u : Nat} (h : u < 10000000000) : (Lib.decDigits u).length ≤ 10 := by
  rw [Lib.decDigits_length]
  rcases Nat.lt_or_ge 10 (Lib.nDigits u) with g | g
  · exfalso
    obtain ⟨k, hk⟩ : ∃ k, Lib.nDigits u = k + 1 := ⟨Lib.nDigits u - 1, by omega⟩
    have h1 : 10 ^ 10 ≤ u := by
      have : ∀ (m v : Nat), m + 1 ≤ Lib.nDigits v → m = 0 ∨ 10 ^ m ≤ v := by
        intro m
        induction m with
        | zero => intro v _; exact .inl rfl
        | succ m ih =>
          intro v hv
          right
          by_cases hs : v < 10
          · rw [Lib.nDigits_small hs] at hv; omega
          · rw [Lib.nDigits_big hs] at hv
            rcases ih (v / 10) (by omega) with e | e
            · subst e; simp; omega
            · rw [Nat.pow_succ]; omega
      rcases this 10 u (by omega) with e | e
      · cases e
      · exact e
    simp at h1; omega
  · exact g
theorem decFrom_val : ∀ (s : List UInt8) (a : Nat), s.all isD = true → Lib.decFrom a s = some (s.foldl (fun n c => n * 10 + (c.toNat - 48)) a)
  | [], a, _ => rfl
  | c :: r, a, h => by
    rw [List.all_cons, Bool.and_eq_true] at h
    have hc : 48 ≤ c.toNat ∧ c.toNat ≤ 57 := by have := h.1; unfold isD at this; simpa using this
    rw [Lib.decFrom, Lib.digitVal, if_pos hc, List.foldl_cons]
    exact decFrom_val r _ h.2
/-! ### pairs of digits -/
def hexD (n : Nat) : UInt8 := if n < 10 then UInt8.ofNat (48 + n) else UInt8.ofNat (87 + n)
def hexC (c : UInt8) : List UInt8 := [hexD (c.toNat / 16), hexD (c.toNat % 16)]
def hexL (d : List UInt8) : List UInt8 := d.flatMap hexC
theorem hexL_snoc (d : List UInt8) (c : UInt8) : hexL (d ++ [c]) = hexL d ++ hexC c := by simp [hexL]
theorem hexL_cons (d : List UInt8) (c : UInt8) : hexL (c :: d) = hexC c ++ hexL d := by simp [hexL]
theorem hexL_len (d : List UInt8) : (hexL d).length = 2 * d.length := by
  induction d with
  | nil => rfl
  | cons c d ih => rw [hexL_cons, List.length_append, ih]; simp [hexC]; omega
def halfI (c : UInt8) : Int := if 48 ≤ c.toNat ∧ c.toNat ≤ 57 then (c.toNat : Int) - 48 else if 97 ≤ c.toNat ∧ c.toNat ≤ 102 then (c.toNat : Int) - 87 else -1
def unhexL : List UInt8 → Option (List UInt8)
  | [] => some []
  | [_] => none
  | a :: b :: r => if halfI a < 0 ∨ halfI b < 0 then none else (unhexL r).map (UInt8.ofNat (halfI a * 16 + halfI b).toNat :: ·)
/-- where a loop over pairs is -/
def Pairs (s d : List UInt8) (t : List UInt8) : Prop := unhexL s = (unhexL t).map (d ++ ·)
theorem Pairs.start (s : List UInt8) : Pairs s [] s := by unfold Pairs; cases unhexL s <;> simp
theorem Pairs.step {s d t : List UInt8} {a b : UInt8} (h : Pairs s d (a :: b :: t)) (ha : 0 ≤ halfI a) (hb : 0 ≤ halfI b) : Pairs s (d ++ [UInt8.ofNat (halfI a * 16 + halfI b).toNat]) t := by
  unfold Pairs at h ⊢
  rw [h, unhexL, if_neg (by omega)]
  cases unhexL t <;> simp
theorem Pairs.fails {s d t : List UInt8} {a b : UInt8} (h : Pairs s d (a :: b :: t)) (hb : halfI a < 0 ∨ halfI b < 0) : unhexL s = none := by
  unfold Pairs at h
  rw [h, unhexL, if_pos hb]; rfl
theorem Pairs.ends {s d : List UInt8} (h : Pairs s d []) : unhexL s = some d := by
  unfold Pairs at h
  rw [h, unhexL]; simp
theorem Pairs.one {s d : List UInt8} {a : UInt8} (h : Pairs s d [a]) : unhexL s = none := by
  unfold Pairs at h
  rw [h, unhexL]; rfl

end Go.Proofs.YtnbapaimpoobkaaGreatDoor
namespace Go.Proofs.YtnbapaimpoobkaaGreatDoor
open Go.RowKit Go.Shelf

/-! ### variables -/
theorem var_below {P : Program} {w w' : World} {name : String} {v : Array Value} (h : w.var? P name = some v) (hb : Below w.heap.size w w') : w'.var? P name = some v := by
  unfold World.var? at *
  cases hg : P.globalNamed name with
  | none => simp [hg] at h
  | some g =>
    simp only [hg, Option.bind_some] at h ⊢
    have hlt : g < w.heap.size := by
      rcases Nat.lt_or_ge g w.heap.size with h' | h'
      · exact h'
      · rw [Array.getElem?_eq_none h'] at h; simp at h
    rw [hb.block g hlt]
    exact h
/-- the weights of a byte's digits and the powers of ten stand -/
structure Env (w : World) : Prop where
  wts : Wts w
  tab : Lib.TabIs Tryz.prog w "internal/strconv.uint64pow10" .u64 Lib.pow10Tab
theorem Env.beyond {w w' : World} (h : Env w) (hB : Below w.heap.size w w') : Env w' := ⟨h.wts.beyond hB, var_below h.tab hB⟩
/-- .. and the library's error of the syntax and its bound for short searches -/
structure EnvL (w : World) : Prop where
  env : Env w
  syn : ∃ tp p, w.var? Tryz.prog "strconv.ErrSyntax" = some #[.iface tp p]
  max : ∃ m, w.cell? ⟨1, 0, none⟩ = some (.int .i64 m)
theorem EnvL.beyond {w w' : World} (h : EnvL w) (hB : Below w.heap.size w w') : EnvL w' := by
  obtain ⟨tp, p, hs⟩ := h.syn
  obtain ⟨m, hm⟩ := h.max
  exact ⟨h.env.beyond hB, ⟨tp, p, var_below hs hB⟩, ⟨m, (hB.cell (p := ⟨1, 0, none⟩) (World.block_lt_of_cell? w _ hm)).trans hm⟩⟩

/-! ### the library -/
theorem Itoa_any (n : Int) (w : World) (h0 : 0 ≤ n) (h1 : n ≤ 9223372036854775807) (he : Env w) :
    Calls Tryz.prog 94 #[.int .i64 n] w fun e w' => e = .returned (.string (mk (decI n))) ∧ Below w.heap.size w w' := by
  refine (Any.strconv_Itoa itoaL n (by omega) h1 w he.tab).mono ?_
  rintro e w' ⟨rfl, k, os, rfl⟩
  refine ⟨?_, Lib.below_grow _ w (Nat.le_refl _) k os⟩
  have e2 : Lib.itoa n = decI n := by unfold Lib.itoa decI; rw [if_neg (by omega)]
  rw [e2]; rfl
theorem JoinS_any (g c n : Nat) (T : List (List UInt8)) (w : World) (hn : T.length = n) (hc : n ≤ c) (hg : g < w.heap.size) (hcell : ∀ k x, T[k]? = some x → w.cell? ⟨g, k, none⟩ = some (.string (mk x))) (hb : n ≤ 100) (hl : (Lib.join T [32]).length ≤ 1000000) :
    Calls Tryz.prog 92 #[.slice (some ⟨g, 0, none⟩) n c, .string ⟨#[32]⟩] w fun e w' => e = .returned (.string (mk (Lib.join T [32]))) ∧ Below w.heap.size w w' := by
  have e1 : (T.map mk).map (·.data.toList) = T := by
    rw [List.map_map]
    have : ((fun s : ByteArray => s.data.toList) ∘ mk) = id := by funext l; simp [mk]
    rw [this]; simp
  have := Any.strings_Join joinL builderXj g 0 c (T.map mk) ⟨#[32]⟩ w (fun j x hx => by
    rw [List.getElem?_map] at hx
    cases hT : T[j]? with
    | none => rw [hT] at hx; cases hx
    | some y =>
      rw [hT] at hx
      injection hx with hx
      subst hx
      rw [Nat.zero_add]
      exact hcell j y hT) hg (by simp; omega) (by simp; omega) (by rw [e1]; show (Lib.join T [32]).length ≤ _; omega)
  rw [e1, List.length_map, hn] at this
  exact this
/-- what is joined by single blanks -/
theorem join_five (a b c d e : List UInt8) : Lib.join [a, b, c, d, e] [32] = a ++ blk :: (b ++ blk :: (c ++ blk :: (d ++ blk :: e))) := by
  simp [Lib.join, blk]
end Go.Proofs.YtnbapaimpoobkaaGreatDoor
namespace Go.Proofs.YtnbapaimpoobkaaGreatDoor
open Go.RowKit Go.Shelf

theorem byte_ofB {S : ByteArray} {s : List UInt8} {k : Nat} (hS : S = mk s) (hk : k < S.size) : ∃ (h : k < s.length), (S[k]'hk).toNat = s[k].toNat := by
  subst hS
  exact ⟨by rw [mk_size] at hk; exact hk, rfl⟩
theorem hexL_takeB {d : List UInt8} {k : Nat} (h : k < d.length) : hexL (d.take (k + 1)) = hexL (d.take k) ++ [hexD (d[k].toNat / 16)] ++ [hexD (d[k].toNat % 16)] := by
  rw [List.take_succ_eq_append_getElem h, hexL_snoc]; simp [hexC]
theorem hex_litB : ∀ k : Fin 16, (⟨#[48, 49, 50, 51, 52, 53, 54, 55, 56, 57, 97, 98, 99, 100, 101, 102]⟩ : ByteArray)[k.val]'(by have := k.isLt; exact this) = hexD k.val := by decide +kernel
set_option maxHeartbeats 2000000 in
theorem pairsOf_any (S : ByteArray) (s : List UInt8) (w : World) (hS : S = mk s) (hb : s.length ≤ 1000000) :
    Calls Tryz.prog 95 #[.string S] w fun e w' => e = .returned (.string (mk (hexL s))) ∧ Below w.heap.size w w' := by
  have hz : S.size = s.length := by rw [hS, mk_size]
  obtain ⟨b, hbb⟩ : ∃ b, b = w.heap.size := ⟨_, rfl⟩
  have HBL := Lib.hid (show Bld b [] (w.alloc (.cells #[.pointer none, .slice none 0 0] 66)) by rw [hbb]; exact Bld.new w)
  have HB0 := Lib.hid (show Below b w (w.alloc (.cells #[.pointer none, .slice none 0 0] 66)) by rw [hbb]; exact (Below.refl w.heap.size w).alloc (Nat.le_refl _) _)
  have HS := Lib.hid hS
  have HZ := Lib.hid hz
  have hb2 : S.size ≤ 1000000 := by omega
  clear hz hS hb
  go_enter Tryz.func95, Tryz.ntmps95
  go_wp2_with fail
  rw [← hbb]
  have HBB := Lib.hid hbb
  clear hbb
  go_loopw [7] (fun i wr => ∃ k : Nat, k ≤ S.size ∧ i = .int .i64 (k : Nat) ∧ Bld b (hexL (s.take k)) wr ∧ Below b w wr) (fun i _ => S.size - (intOf i).toNat)
  case atStart => exact ⟨0, Nat.zero_le _, rfl, HBL.out, HB0.out⟩
  case round =>
    obtain ⟨k, hk, rfl, hl, hB⟩ := hrel
    have HL := Lib.hid hl
    have HB := Lib.hid hB
    have hlen : (hexL (s.take k)).length ≤ 2000000 := by rw [hexL_len, List.length_take]; have := HZ.out; omega
    clear hl hB
    by_cases hlt : k < S.size
    · have g1 : (k : Int) < (S.size : Int) := by omega
      have g0 : (0 : Int) ≤ (k : Int) := by omega
      obtain ⟨hks, hc⟩ := byte_ofB HS.out hlt
      obtain ⟨d, hd⟩ : ∃ d, d = s[k].toNat := ⟨_, rfl⟩
      rw [← hd] at hc
      have hd8 : d < 256 := by rw [hd]; exact s[k].toNat_lt
      have HT := Lib.hid (show hexL (s.take (k + 1)) = hexL (s.take k) ++ [hexD (d / 16)] ++ [hexD (d % 16)] by rw [hd]; exact hexL_takeB hks)
      clear hd
      have g3 : (0 : Int) ≤ (d : Int) / 16 := by omega
      have g4 : (d : Int) / 16 < 16 := by omega
      have g5 : (0 : Int) ≤ (d : Int) % 16 := by omega
      have g6 : (d : Int) % 16 < 16 := by omega
      have E1 := Lib.hid (hex_litB ⟨d / 16, by omega⟩)
      have E2 := Lib.hid (hex_litB ⟨d % 16, by omega⟩)
      go_wp2_with fail
      refine (WriteByte_any b _ _ _ HL.out (by omega)).mono ?_
      rintro e w1 ⟨rfl, hl1, hB1⟩
      have HL1 := Lib.hid (show Bld b (hexL (s.take k) ++ [hexD (d / 16)]) w1 by rw [← E1.out]; exact hl1)
      have HB1 := Lib.hid (HB.out.trans hB1)
      clear hl1 hB1
      go_wp2_with fail
      refine (WriteByte_any b _ _ _ HL1.out (by simp; omega)).mono ?_
      rintro e w2 ⟨rfl, hl2, hB2⟩
      have HL2 := Lib.hid (show Bld b (hexL (s.take (k + 1))) w2 by rw [HT.out, ← E2.out]; exact hl2)
      have HB2 := Lib.hid (HB1.out.trans hB2)
      clear hl2 hB2
      go_wp2_with fail
      go_roundw
      case rel => exact ⟨k + 1, by omega, by go_num, HL2.out, HB2.out⟩
      case measure => simp [intOf]; omega
    · obtain rfl : k = S.size := by omega
      have HE := Lib.hid (show s.take S.size = s by rw [HZ.out, List.take_length])
      go_wp2_with fail
      refine (BString_any b _ _ HL.out).mono ?_
      rintro e w1 ⟨rfl, _, hB1⟩
      have HB1 := Lib.hid (HB.out.trans hB1)
      clear hB1
      go_wp2_with fail
      go_ret
      exact ⟨by rw [HE.out]; rfl, by have := HB1.out; rwa [HBB.out] at this⟩

/-! ### numberOf -/
/-! ### dataOf -/
end Go.Proofs.YtnbapaimpoobkaaGreatDoor
namespace Go.Proofs.YtnbapaimpoobkaaGreatDoor

/-! ### lines -/
def lineW (n : List UInt8) (t c l : Int) (d : List UInt8) : List UInt8 := textN n ++ blk :: (decI t ++ blk :: (decI c ++ blk :: (decI l ++ blk :: hexL d)))
def lineL (x : Rrd) : List UInt8 := lineW x.toRec.n x.t x.c x.l x.toRec.d
def recL (s : List UInt8) : Option Rrd := match wordsL s with
  | [a, b, c, d, e] => if (readN a).2 = 0 ∧ 0 ≤ numL b ∧ 0 ≤ numL c ∧ 0 ≤ numL d then (unhexL e).map fun x => ⟨mk (readN a).1, numL b, numL c, numL d, mk x⟩ else none
  | _ => none
def recsL : List (List UInt8) → Option (List Rrd)
  | [] => some []
  | s :: r => match recL s with | none => none | some x => (recsL r).map (x :: ·)
def Lns (ls : List (List UInt8)) (acc : List Rrd) (k : Nat) : Prop := recsL ls = (recsL (ls.drop k)).map (acc ++ ·)
theorem Lns.start (ls : List (List UInt8)) : Lns ls [] 0 := by unfold Lns; cases h : recsL ls <;> simp [h]
theorem Lns.step {ls : List (List UInt8)} {acc : List Rrd} {k : Nat} {p : List UInt8} {r : Rrd} (h : Lns ls acc k) (hp : ls[k]? = some p) (ho : recL p = some r) : Lns ls (acc ++ [r]) (k + 1) := by
  have hk : k < ls.length := (List.getElem?_eq_some_iff.1 hp).1
  have e : ls[k] = p := (List.getElem?_eq_some_iff.1 hp).2
  unfold Lns at h ⊢
  rw [h, List.drop_eq_getElem_cons hk, e, recsL, ho]
  cases recsL (ls.drop (k + 1)) <;> simp
theorem Lns.fails {ls : List (List UInt8)} {acc : List Rrd} {k : Nat} {p : List UInt8} (h : Lns ls acc k) (hp : ls[k]? = some p) (ho : recL p = none) : recsL ls = none := by
  have hk : k < ls.length := (List.getElem?_eq_some_iff.1 hp).1
  have e : ls[k] = p := (List.getElem?_eq_some_iff.1 hp).2
  unfold Lns at h
  rw [h, List.drop_eq_getElem_cons hk, e, recsL, ho]
  rfl
theorem Lns.ends {ls : List (List UInt8)} {acc : List Rrd} (h : Lns ls acc ls.length) : recsL ls = some acc := by
  unfold Lns at h
  rw [h, List.drop_length, recsL]
  simp
end Go.Proofs.YtnbapaimpoobkaaGreatDoor
namespace Go.Proofs.YtnbapaimpoobkaaGreatDoor
open Go.RowKit Go.Op

theorem lineW_len (n d : List UInt8) (t c l : Int) (hd : d.length ≤ 70000) (ht : t < 10000000000) (hc : c < 10000000000) (hl : l < 10000000000) : (lineW n t c l d).length ≤ 150000 := by
  have h1 := textN_len n
  have nn : ∀ z : Int, z < 10000000000 → (decI z).length ≤ 10 := fun z hz => by unfold decI; exact dec_len (by omega)
  have h2 := nn t ht
  have h3 := nn c hc
  have h4 := nn l hl
  unfold lineW
  simp only [List.length_append, List.length_cons, hexL_len]
  omega
theorem five_join {g : Nat} {W : World} {a b c d e : List UInt8} (h : Whole W g 9 #[.string (mk a), .string (mk b), .string (mk c), .string (mk d), .string (mk e)]) : ∀ k x, [a, b, c, d, e][k]? = some x → W.cell? ⟨g, k, none⟩ = some (.string (mk x)) := by
  intro k x hx
  refine (h.cell k).trans ?_
  match k, hx with
  | 0, hx => simp at hx; subst hx; rfl
  | 1, hx => simp at hx; subst hx; rfl
  | 2, hx => simp at hx; subst hx; rfl
  | 3, hx => simp at hx; subst hx; rfl
  | 4, hx => simp at hx; subst hx; rfl
set_option maxHeartbeats 8000000 in
set_option maxRecDepth 20000 in
theorem lineOf_any (x : Rrd) (w : World) (he : Env w) (hn : x.toRec.n.length ≤ 1073741824) (ht : 0 ≤ x.t ∧ x.t < 10000000000) (hc : 0 ≤ x.c ∧ x.c < 10000000000) (hl : 0 ≤ x.l ∧ x.l < 10000000000) (hd : x.toRec.d.length ≤ 70000) :
    Calls Tryz.prog 43 #[.agg #[.string x.s, .int .i64 x.t, .int .i64 x.c, .int .i64 x.l, .string x.d]] w fun e w' => e = .returned (.string (mk (lineL x))) ∧ Below w.heap.size w w' := by
  obtain ⟨s, t, c, l, d⟩ := x
  have HS := Lib.hid (rrd_name ⟨s, t, c, l, d⟩)
  have HD := Lib.hid (rrd_data ⟨s, t, c, l, d⟩)
  obtain ⟨nn, hnn⟩ : ∃ nn, nn = (Rrd.mk s t c l d).toRec.n := ⟨_, rfl⟩
  obtain ⟨dd, hdd⟩ : ∃ dd, dd = (Rrd.mk s t c l d).toRec.d := ⟨_, rfl⟩
  have HLL := Lib.hid (show lineL ⟨s, t, c, l, d⟩ = Lib.join [textN nn, decI t, decI c, decI l, hexL dd] [32] by rw [join_five, hnn, hdd]; rfl)
  have HLN := Lib.hid (show (Lib.join [textN nn, decI t, decI c, decI l, hexL dd] [32]).length ≤ 1000000 by rw [join_five]; have := lineW_len nn dd t c l (by rw [hdd]; exact hd) ht.2 hc.2 hl.2; unfold lineW at this; omega)
  rw [← hnn] at HS hn
  rw [← hdd] at HD hd
  simp only at HS HD ht hc hl
  obtain ⟨t0, t1⟩ := ht
  obtain ⟨c0, c1⟩ := hc
  obtain ⟨l0, l1⟩ := hl
  obtain ⟨W, hW⟩ : ∃ W, W = w.alloc (.cells #[.string s, .int .i64 t, .int .i64 c, .int .i64 l, .string d] 27) := ⟨_, rfl⟩
  obtain ⟨g, hg⟩ : ∃ g, g = w.heap.size := ⟨_, rfl⟩
  have HB0 := Lib.hid (show Below w.heap.size w W by rw [hW]; exact (Below.refl _ _).alloc (Nat.le_refl _) _)
  have hWh : Whole W g 27 #[.string s, .int .i64 t, .int .i64 c, .int .i64 l, .string d] := by rw [hW, hg]; exact Whole.new w _ _
  have HE := Lib.hid (fun (W' : World) (h : Below W.heap.size W W') => (he.beyond HB0.out).beyond h)
  have q0 : ∀ W', Below W.heap.size W W' → W'.cell? ⟨g, 0, none⟩ = some (.string s) := fun W' h => (hWh.below h hWh.lt).cell 0
  have q1 : ∀ W', Below W.heap.size W W' → W'.cell? ⟨g, 1, none⟩ = some (.int .i64 t) := fun W' h => (hWh.below h hWh.lt).cell 1
  have q2 : ∀ W', Below W.heap.size W W' → W'.cell? ⟨g, 2, none⟩ = some (.int .i64 c) := fun W' h => (hWh.below h hWh.lt).cell 2
  have q3 : ∀ W', Below W.heap.size W W' → W'.cell? ⟨g, 3, none⟩ = some (.int .i64 l) := fun W' h => (hWh.below h hWh.lt).cell 3
  have q4 : ∀ W', Below W.heap.size W W' → W'.cell? ⟨g, 4, none⟩ = some (.string d) := fun W' h => (hWh.below h hWh.lt).cell 4
  have HWW := Lib.hid hW
  have HG := Lib.hid hg
  have HTXT := Lib.hid (fun (W' : World) (h : Below W.heap.size W W') => dotText_any s nn W' HS.out hn (HE.out W' h).wts)
  have HIT := Lib.hid (fun (W' : World) (h : Below W.heap.size W W') => Itoa_any t W' t0 (by omega) (HE.out W' h))
  have HIC := Lib.hid (fun (W' : World) (h : Below W.heap.size W W') => Itoa_any c W' c0 (by omega) (HE.out W' h))
  have HIL := Lib.hid (fun (W' : World) (h : Below W.heap.size W W') => Itoa_any l W' l0 (by omega) (HE.out W' h))
  have HPR := Lib.hid (fun (W' : World) => pairsOf_any d dd W' HD.out (by omega))
  generalize hT1 : textN nn = x1 at *
  generalize hT2 : decI t = x2 at *
  generalize hT3 : decI c = x3 at *
  generalize hT4 : decI l = x4 at *
  generalize hT5 : hexL dd = x5 at *
  clear hW hg he hWh hnn hdd t0 t1 c0 c1 l0 l1 hT1 hT2 hT3 hT4 hT5 hn hd
  go_enter Tryz.func43, Tryz.ntmps43
  go_wp2_with fail
  rw [← HWW.out, ← HG.out]
  have hb1 : Below W.heap.size W W.drew := (Below.refl _ _).drew
  go_region_held3 (fun w' => Below W.heap.size W w') (go_keep) (first
    | (go_at_call 93; (refine (HTXT.out _ hb1).mono ?_; rintro e w1 ⟨rfl, hB1⟩; have hT1 : Below W.heap.size W w1 := hb1.trans (hB1.mono hb1.size)))
    | (go_at_call 94; (refine (HIL.out _ hT3).mono ?_; rintro e w4 ⟨rfl, hB4⟩; have hT4 : Below W.heap.size W w4 := hT3.trans (hB4.mono hT3.size)))
    | (go_at_call 94; (refine (HIC.out _ hT2).mono ?_; rintro e w3 ⟨rfl, hB3⟩; have hT3 : Below W.heap.size W w3 := hT2.trans (hB3.mono hT2.size)))
    | (go_at_call 94; (refine (HIT.out _ hT1).mono ?_; rintro e w2 ⟨rfl, hB2⟩; have hT2 : Below W.heap.size W w2 := hT1.trans (hB2.mono hT1.size)))
    | (go_at_call 95; (refine (HPR.out _).mono ?_; rintro e w5 ⟨rfl, hB5⟩; have hT5 : Below W.heap.size W w5 := hT4.trans (hB5.mono hT4.size); have hN5 := Whole.new w5 9 #[.string (mk x1), .string (mk x2), .string (mk x3), .string (mk x4), .string (mk x5)]; have hA5 : Below W.heap.size W (w5.alloc (.cells #[.string (mk x1), .string (mk x2), .string (mk x3), .string (mk x4), .string (mk x5)] 9)) := hT5.alloc hT5.size _))
    | (go_at_call 92; (refine (JoinS_any w5.heap.size 5 5 [x1, x2, x3, x4, x5] _ rfl (Nat.le_refl _) hN5.lt (five_join hN5) (by decide) HLN.out).mono ?_; rw [← HLL.out]; rintro e w6 ⟨rfl, hB6⟩; have hT6 : Below W.heap.size W w6 := hA5.trans (hB6.mono hA5.size))))
  all_goals (
    have HBF := Lib.hid (HB0.out.trans (hT6.mono HB0.out.size))
    go_wp2_with fail
    go_ret
    exact ⟨rfl, HBF.out⟩)

theorem ok_nums {x : Rrd} (h : OkX x) : (0 ≤ x.t ∧ x.t < 10000000000) ∧ (0 ≤ x.c ∧ x.c < 10000000000) ∧ (0 ≤ x.l ∧ x.l < 10000000000) ∧ x.toRec.n.length ≤ 1073741824 ∧ x.toRec.d.length ≤ 70000 := by
  have h2 := h.name
  have h3 := h.data
  obtain ⟨_, h4, h5, h6, _⟩ := ok_parts h.1
  have e1 : x.toRec.t = x.t := rfl
  have e2 : x.toRec.c = x.c := rfl
  have e3 : x.toRec.l = x.l := rfl
  refine ⟨⟨?_, ?_⟩, ⟨?_, ?_⟩, ⟨?_, ?_⟩, ?_, ?_⟩ <;> omega
def lineS (x : Rrd) : ByteArray := mk (lineL x)
set_option maxHeartbeats 8000000 in
set_option maxRecDepth 20000 in
theorem Lines_any (N : ByteArray) (D : List Rrd) (z : Value) (w : World) (hz : ZoneAt w w.heap.size N D z) (hD : D.length ≤ 100000) (hok : OkL D) (he : Env w) :
    Calls Tryz.prog 16 #[z] w fun e w' => ∃ u, e = .returned u ∧ w'.ownsRow w.heap.size 9 1 u D.length (texts (D.map lineS)) ∧ Below w.heap.size w w' := by
  obtain ⟨m, hm⟩ : ∃ m, m = D.length := ⟨_, rfl⟩
  have HZA := Lib.hid hz
  have HOKL := Lib.hid hok
  have HE := Lib.hid he
  obtain ⟨A, c, s, rfl, _, _, _⟩ := hz
  obtain ⟨W0, hW0⟩ : ∃ W0, W0 = w.alloc (.cells #[.string N, .slice A D.length c, .string s.s, .int .i64 s.t, .int .i64 s.c, .int .i64 s.l, .string s.d] zoT) := ⟨_, rfl⟩
  have HB0 := Lib.hid (show Below w.heap.size w W0 by rw [hW0]; exact (Below.refl _ _).alloc (Nat.le_refl _) _)
  have HX0 := Lib.hid (show Whole W0 w.heap.size zoT #[.string N, .slice A D.length c, .string s.s, .int .i64 s.t, .int .i64 s.c, .int .i64 s.l, .string s.d] by rw [hW0]; exact Whole.new w zoT _)
  have HW0 := Lib.hid hW0
  have HM := Lib.hid hm
  clear hW0 hok he
  obtain ⟨d0, d1, d2, d3, d4, d5, d6⟩ := zo_facts HX0.out
  rw [← hm] at hD
  clear hm
  go_enter Tryz.func16, Tryz.ntmps16
  go_wp2_with fail
  rw [← HW0.out]
  go_wp2_with fail
  refine (All_any N D _ _ (HZA.out.later HB0.out) (by rw [← HM.out]; omega)).mono ?_
  rintro e w4 ⟨u, rfl, hown, hB4⟩
  have HB4 := Lib.hid (HB0.out.trans (hB4.mono HB0.out.size))
  obtain ⟨R, hRR⟩ : ∃ R, R = W0.heap.size := ⟨_, rfl⟩
  rw [← hRR, ← HM.out] at hown
  obtain ⟨A4, k4, rfl, hs4⟩ := SeesR.own hown
  have HS4 := Lib.hid hs4
  clear hown hB4 hs4 hRR d0 d1 d2 d3 d4 d5 d6
  go_wp2_with fail
  rw [← HM.out]
  go_loopw [3, 9] (fun v i wr => ∃ k : Nat, k ≤ m ∧ i = .int .i64 (k : Nat) ∧ wr.ownsRow w4.heap.size 9 1 v k (texts ((D.take k).map lineS)) ∧ Below w4.heap.size w4 wr) (fun _ i _ => m - (intOf i).toNat)
  case atStart => exact ⟨0, Nat.zero_le _, rfl, World.ownsRow_nil _ _ _ _, Below.refl _ _⟩
  case round =>
    obtain ⟨k, hk, rfl, hO, hBw⟩ := hrel
    have HO := Lib.hid hO
    have HB := Lib.hid hBw
    have HSR := Lib.hid ((HS4.out.keep hBw).more hBw.size)
    obtain ⟨i0, hi0, hz0, hz1, hz2⟩ := info_parts text_info
    have H63 : Hid (k + 1 ≤ maxLen) := Lib.hid (by unfold maxLen; omega)
    have H47 : Hid ((k + 1) * 16 ≤ 140737488355328) := Lib.hid (by omega)
    clear hO hBw
    by_cases hkN : k < m
    · have g1 : (k : Int) < (m : Int) := by omega
      have g0 : (0 : Int) ≤ (k : Int) := by omega
      obtain ⟨b, off, x, rfl, hb, hxk, hx5⟩ := HSR.out.at hkN
      have HXK := Lib.hid hxk
      obtain ⟨x0, x1, x2, x3, x4⟩ := hx5
      obtain ⟨n1, n2, n3, n4, n5⟩ := ok_nums (HOKL.out x (List.mem_of_getElem? hxk))
      have hHX := Whole.new wr rrT (rrA x.s x.d x.t x.c x.l)
      obtain ⟨d0, d1, d2, d3, d4⟩ := rr_facts hHX
      have HBA := Lib.hid (show Below wr.heap.size wr (wr.alloc (.cells #[.string x.s, .int .i64 x.t, .int .i64 x.c, .int .i64 x.l, .string x.d] rrT)) from (Below.refl _ _).alloc (Nat.le_refl _) _)
      have HTK := Lib.hid (show texts ((D.take (k + 1)).map lineS) = texts ((D.take k).map lineS) ++ [.string (lineS x)] by rw [List.take_add_one, hxk]; simp [texts])
      have HLO := Lib.hid (fun (W' : World) (h : Env W') => (lineOf_any x W' h n4 n1 n2 n3 n5))
      clear hHX hxk n1 n2 n3 n4 n5
      unfold rrA at *
      go_wp2_with fail
      refine (HLO.out _ ((HE.out.beyond HB4.out).beyond (HB.out.trans (HBA.out.mono HB.out.size)))).mono ?_
      rintro e w6 ⟨rfl, hB6⟩
      have HB6 := Lib.hid (HBA.out.trans (hB6.mono HBA.out.size))
      clear hB6 x0 x1 x2 x3 x4 d0 d1 d2 d3 d4
      go_wp2_with (at_builtin; refine wpList_append_own _ rfl _ _ 37 rfl w4.heap.size 9 i0 (.string ⟨#[]⟩) 1 16 Tryz.underlying37 hi0 hz0 hz1 hz2 rfl (by decide) _ _ _ rfl ((own_below HO.out HB6.out).alloc _) ⟨w6.heap.size, 0, none⟩ 1 1 [.string (mk (lineL x))] rfl rfl (news1 _ _ _) (one1 _ rfl) H63.out H47.out (by have := HB.out.size; have := HB6.out.size; simp; omega) ?_; intro v2 w2 hown2 hgrow _)
      have HO3 := Lib.hid (show w2.ownsRow w4.heap.size 9 1 v2 (k + 1) (texts ((D.take (k + 1)).map lineS)) by rw [HTK.out]; exact hown2)
      have HA6 := Lib.hid (HB6.out.alloc HB6.out.size (.cells #[.string (mk (lineL x))] 9))
      have HB2 := Lib.hid ((HB.out.trans (HA6.out.mono HB.out.size)).grown hgrow (by have := HB.out.size; have := HA6.out.size; omega) (fun j hj => (HO.out.lt j hj).1))
      clear hown2 hgrow
      go_roundw
      case rel => exact ⟨k + 1, by omega, by go_num, HO3.out, HB2.out⟩
      case measure => simp [intOf]; omega
    · obtain rfl : k = m := by omega
      have HE := Lib.hid (show D.take k = D by rw [HM.out, List.take_length])
      go_wp2_with fail
      go_ret
      exact ⟨_, rfl, by have h := own_less HO.out HB4.out.size; rw [HE.out] at h; rw [← HM.out]; exact h, HB4.out.trans (HB.out.mono HB4.out.size)⟩
end Go.Proofs.YtnbapaimpoobkaaGreatDoor
namespace Go.Proofs.YtnbapaimpoobkaaGreatDoor
open Go.RowKit Go.Op

theorem img_least : 30 < (imgB 1 [1, 97, 0] leL).length := by decide +kernel
set_option maxHeartbeats 8000000 in
set_option maxRecDepth 20000 in
theorem iawake_any (w : World) (he : Env w) : Calls Tryz.prog 8 #[] w fun e w' => e = .returned (.bool true) ∧ Below w.heap.size w w' := by
  have HE := Lib.hid he
  obtain ⟨S, hS⟩ : ∃ S, S = mk (imgB 1 [1, 97, 0] leL) := ⟨_, rfl⟩
  have hSz : (30 : Int) < (S.size : Int) := by have := img_least; rw [hS, mk_size]; omega
  have HS := Lib.hid hS
  clear he hS
  go_enter Tryz.func8, Tryz.ntmps8
  go_wp2_with fail
  refine (Least_any _).mono ?_
  rintro e w1 ⟨⟨A, c, rfl, hs⟩, hB⟩
  have HB1 := Lib.hid hB
  have HS1 := Lib.hid hs
  clear hB hs
  go_wp2_with fail
  refine (New_yes A 2 c ⟨#[1, 97, 0]⟩ [1, 97, 0] leL _ rfl (by decide) HS1.out (by decide) low_leL (by rw [name_a]; rfl) ok_leL isZ_leL).mono ?_
  rintro e w2 ⟨⟨v, rfl, hz⟩, hB⟩
  have HB2 := Lib.hid (HB1.out.trans (hB.mono HB1.out.size))
  rw [ofC_leL] at hz
  have HZ := Lib.hid hz
  obtain ⟨A2, c2', s2, rfl, hs2, hcap2, hsoa2⟩ := hz
  have hw0 := Whole.new w2 zoT #[.string ⟨#[1, 97, 0]⟩, .slice A2 leL.length c2', .string s2.s, .int .i64 s2.t, .int .i64 s2.c, .int .i64 s2.l, .string s2.d]
  have hB0 : Below w2.heap.size w2 (w2.alloc (.cells #[.string ⟨#[1, 97, 0]⟩, .slice A2 leL.length c2', .string s2.s, .int .i64 s2.t, .int .i64 s2.c, .int .i64 s2.l, .string s2.d] zoT)) := (Below.refl _ _).alloc (Nat.le_refl _) _
  obtain ⟨c0, c1, c2, c3, c4, c5, c6⟩ := zo_facts hw0
  have HZ3 := Lib.hid (HZ.out.later hB0)
  have HW3 := Lib.hid hw0
  have HB3 := Lib.hid (HB2.out.trans (hB0.mono HB2.out.size))
  clear hB hw0 hB0 hs2 hcap2 hsoa2
  rw [show leL.length = 2 from rfl] at *
  go_wp2_with fail
  refine (Lines_any ⟨#[1, 97, 0]⟩ leL _ _ HZ3.out (by decide) ok_leL (HE.out.beyond HB3.out)).mono ?_
  rintro e w4 ⟨u, rfl, ho, hB⟩
  obtain ⟨A4, c4', rfl, _⟩ := Sees.own ho
  have HZ4 := Lib.hid (HZ3.out.later hB)
  have hw := HW3.out.below hB HW3.out.lt
  have HB4 := Lib.hid (HB3.out.trans (hB.mono HB3.out.size))
  have HW4 := Lib.hid hw
  clear c0 c1 c2 c3 c4 c5 c6
  obtain ⟨c0, c1, c2, c3, c4, c5, c6⟩ := zo_facts hw
  clear hB hw ho
  rw [show leL.length = 2 from rfl] at *
  go_wp2_with fail
  refine (IBytes_any 1 ⟨#[1, 97, 0]⟩ [1, 97, 0] leL _ _ HZ4.out rfl (by decide) (by decide) (by decide) ok_leL).mono ?_
  rw [← HS.out]
  rintro e w5 ⟨rfl, hB⟩
  have HB5 := Lib.hid (HB4.out.trans (hB.mono HB4.out.size))
  clear hB
  go_wp2_with fail
  go_ret
  exact ⟨rfl, HB5.out⟩
end Go.Proofs.YtnbapaimpoobkaaGreatDoor
