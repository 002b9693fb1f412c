/- Parts of the proofs of the statements of image. No statement of the seat is proved here. -/
import Derived.Test.YtnbapaimpoobkaaGreatDoorDoA
import Derived.Test.YtnbapaimpoobkaaGreatDoorImgM
import Derived.Test.YtnbapaimpoobkaaGreatDoorShm
import Derived.Shelf.Strings.SplitShaped
import Derived.Shelf.Strconv.Itoa3
import Derived.Shelf.Strconv.ErrVar
import Derived.Shelf.Small.Strs
import Derived.Lib.AppendIntMem
import Derived.Lib.AtoiErrMem
import Derived.Lib.ItoaMem
namespace Go.Proofs.YtnbapaimpoobkaaGreatDoor
open Go.RowKit Go.Shelf

/-! ### variables -/
theorem var_below {P : Program} {w w' : World} {name : String} {v : Array Value} (h : w.var? P name = some v) (hb : Below w.heap.size w w') : w'.var? P name = some v := by
  unfold World.var? at *
  cases hg : P.globalNamed name with
  | none => simp [hg] at h
  | some g =>
    simp only [hg, Option.bind_some] at h ⊢
    have hlt : g < w.heap.size := by
      rcases Nat.lt_or_ge g w.heap.size with h' | h'
      · exact h'
      · rw [Array.getElem?_eq_none h'] at h; simp at h
    rw [hb.block g hlt]
    exact h
/-- the weights of a byte's digits and the powers of ten stand -/
structure Env (w : World) : Prop where
  wts : Wts w
  tab : Lib.TabIs Tryz.prog w "internal/strconv.uint64pow10" .u64 Lib.pow10Tab
theorem Env.beyond {w w' : World} (h : Env w) (hB : Below w.heap.size w w') : Env w' := ⟨h.wts.beyond hB, var_below h.tab hB⟩
/-- .. and the library's error of the syntax and its bound for short searches -/
structure EnvL (w : World) : Prop where
  env : Env w
  syn : ∃ tp p, w.var? Tryz.prog "strconv.ErrSyntax" = some #[.iface tp p]
  max : ∃ m, w.cell? ⟨1, 0, none⟩ = some (.int .i64 m)
theorem EnvL.beyond {w w' : World} (h : EnvL w) (hB : Below w.heap.size w w') : EnvL w' := by
  obtain ⟨tp, p, hs⟩ := h.syn
  obtain ⟨m, hm⟩ := h.max
  exact ⟨h.env.beyond hB, ⟨tp, p, var_below hs hB⟩, ⟨m, (hB.cell (p := ⟨1, 0, none⟩) (World.block_lt_of_cell? w _ hm)).trans hm⟩⟩

/-! ### the library -/
theorem Itoa_any (n : Int) (w : World) (h0 : 0 ≤ n) (h1 : n ≤ 9223372036854775807) (he : Env w) :
    Calls Tryz.prog 94 #[.int .i64 n] w fun e w' => e = .returned (.string (mk (decI n))) ∧ Below w.heap.size w w' := by
  refine (Any.strconv_Itoa itoaL n (by omega) h1 w he.tab).mono ?_
  rintro e w' ⟨rfl, k, os, rfl⟩
  refine ⟨?_, Lib.below_grow _ w (Nat.le_refl _) k os⟩
  have e2 : Lib.itoa n = decI n := by unfold Lib.itoa decI; rw [if_neg (by omega)]
  rw [e2]; rfl
theorem Atoi_some (S : ByteArray) (s : List UInt8) (n : Int) (w : World) (hS : S = mk s) (hl : s.length ≤ 18) (h : Lib.atoi s = some n) :
    Calls Tryz.prog 153 #[.string S] w fun e w' => e = .returned (.tuple #[.int .i64 n, .nilIface]) ∧ Below w.heap.size w w' := by
  have hd : S.data.toList = s := by rw [hS]; simp [mk]
  refine (Any.strconv_Atoi { atoiL with } S n (by rw [hS, mk_size]; exact hl) (by rw [hd]; exact h) w).mono ?_
  rintro e w' ⟨rfl, t, rfl⟩
  exact ⟨rfl, Lib.bytesWorld_below _ _ _⟩
theorem Atoi_none (S : ByteArray) (s : List UInt8) (w : World) (hS : S = mk s) (hl : s.length ≤ 18) (h : Lib.atoi s = none) (he : EnvL w) :
    Calls Tryz.prog 153 #[.string S] w fun e w' => (∃ t N, e = .returned (.tuple #[.int .i64 0, .iface t (.pointer (some ⟨N, 0, none⟩))])) ∧ Below w.heap.size w w' := by
  have hd : S.data.toList = s := by rw [hS]; simp [mk]
  obtain ⟨tp, p, hs⟩ := he.syn
  refine (Any.strconv_Atoi_err_var atoiL S (by rw [hS, mk_size]; exact hl) (by rw [hd]; exact h) tp p w hs).mono ?_
  rintro e w' ⟨N, rfl, _, _, hb⟩
  exact ⟨⟨_, N, rfl⟩, hb⟩
theorem Words_split (S : ByteArray) (s : List UInt8) (w : World) (hS : S = mk s) (hl : s.length ≤ 100000) (he : EnvL w) :
    Calls Tryz.prog 108 #[.string S, .string ⟨#[32]⟩] w fun e w' => (∃ g, e = .returned (.slice (some ⟨g, 0, none⟩) (wordsL s).length (wordsL s).length) ∧ Sees w' w'.heap.size (some ⟨g, 0, none⟩) (wordsL s).length (texts ((wordsL s).map mk))) ∧ Below w.heap.size w w' := by
  obtain ⟨m, hm⟩ := he.max
  have hsz : S.size = s.length := by rw [hS, mk_size]
  have hc := Lib.splitB_all ⟨#[32]⟩ (by decide) 0 (Lib.countB S ⟨#[32]⟩) S rfl
  have hw := splitB_words S s hS
  rw [hw, List.length_map] at hc
  have := Any.strings_Split { splitL with } splitL.i9 S ⟨#[32]⟩ m w (by omega) hm (by decide)
  rw [hw, ← hc] at this
  refine this.mono ?_
  rintro e w' ⟨rfl, rfl⟩
  refine ⟨⟨w.heap.size, rfl, ?_⟩, (Below.refl _ _).alloc (Nat.le_refl _) _⟩
  have hW := Whole.new w 9 ((wordsL s).map mk |>.map Value.string).toArray
  refine ⟨by simp [texts], fun _ => ⟨w.heap.size, 0, rfl, hW.lt, fun j u hu => ?_⟩⟩
  rw [Nat.zero_add]
  refine (hW.cell j).trans ?_
  rw [← hu]
  simp [texts]
theorem digits_half : ∀ n : Fin 256, Lib.indexByte [48, 49, 50, 51, 52, 53, 54, 55, 56, 57, 97, 98, 99, 100, 101, 102] (UInt8.ofNat n.val) = halfI (UInt8.ofNat n.val) := by decide +kernel
theorem IndexByte_any (c : Nat) (w : World) (hc : c < 256) :
    Calls Tryz.prog 154 #[.string ⟨#[48, 49, 50, 51, 52, 53, 54, 55, 56, 57, 97, 98, 99, 100, 101, 102]⟩, .int .u8 (c : Nat)] w fun e w' => e = .returned (.int .i64 (halfI (UInt8.ofNat c))) ∧ w' = w := by
  have := Any.strings_IndexByte indexL ⟨#[48, 49, 50, 51, 52, 53, 54, 55, 56, 57, 97, 98, 99, 100, 101, 102]⟩ (c : Nat) w
  have e := digits_half ⟨c, hc⟩
  rw [Int.toNat_natCast] at this
  have e2 : c.toUInt8 = UInt8.ofNat c := rfl
  rw [e2] at this
  rw [← e]
  exact this
theorem JoinS_any (g c n : Nat) (T : List (List UInt8)) (w : World) (hn : T.length = n) (hc : n ≤ c) (hg : g < w.heap.size) (hcell : ∀ k x, T[k]? = some x → w.cell? ⟨g, k, none⟩ = some (.string (mk x))) (hb : n ≤ 100) (hl : (Lib.join T [32]).length ≤ 1000000) :
    Calls Tryz.prog 92 #[.slice (some ⟨g, 0, none⟩) n c, .string ⟨#[32]⟩] w fun e w' => e = .returned (.string (mk (Lib.join T [32]))) ∧ Below w.heap.size w w' := by
  have e1 : (T.map mk).map (·.data.toList) = T := by
    rw [List.map_map]
    have : ((fun s : ByteArray => s.data.toList) ∘ mk) = id := by funext l; simp [mk]
    rw [this]; simp
  have := Any.strings_Join joinL builderXj g 0 c (T.map mk) ⟨#[32]⟩ w (fun j x hx => by
    rw [List.getElem?_map] at hx
    cases hT : T[j]? with
    | none => rw [hT] at hx; cases hx
    | some y =>
      rw [hT] at hx
      injection hx with hx
      subst hx
      rw [Nat.zero_add]
      exact hcell j y hT) hg (by simp; omega) (by simp; omega) (by rw [e1]; show (Lib.join T [32]).length ≤ _; omega)
  rw [e1, List.length_map, hn] at this
  exact this
/-- what is joined by single blanks -/
theorem join_five (a b c d e : List UInt8) : Lib.join [a, b, c, d, e] [32] = a ++ blk :: (b ++ blk :: (c ++ blk :: (d ++ blk :: e))) := by
  simp [Lib.join, blk]
end Go.Proofs.YtnbapaimpoobkaaGreatDoor
