/- The law NameBack, walked. -/
import Derived.Test.YtfmpoibcchiakaaNamP
import Derived.Test.YtfmpoibcchiakaaFrame
import Derived.ChangeSlices
namespace Go.Proofs.Ytfmpoibcchiakaa
open Go.ChangeShapes Go.WideShapes Go.ChangeAt Go.RowKit

/-! ### A slice of booleans that came in -/
def bools (l : List Bool) : List Value := l.map Value.bool
/-- what a walk is told of a slice of booleans that came in -/
def InBools (W : World) (a : Option Addr) (len : Nat) (zs : List Bool) : Prop := Sees W W.heap.size a len (bools zs)
theorem bools_at {w : World} {B : Nat} {A : Option Addr} {n : Nat} {zs : List Bool} (h : Sees w B A n (bools zs)) {k : Nat} (hk : k < n) :
    ∃ b off x, A = some ⟨b, off, none⟩ ∧ b < B ∧ w.cell? ⟨b, off + k, none⟩ = some (.bool x) := by
  obtain ⟨b, off, e, hb, hc⟩ := h.addr (by omega)
  have hl : k < zs.length := by have := h.len; simp [bools] at this; omega
  exact ⟨b, off, zs[k], e, hb, hc k _ (by simp [bools, hl])⟩
section
variable {H : Type} {enc : TypeId × Value → H} {P : Program} {w : World} {base : Nat} {spare : Nat → Bool} {held : Bool}
def boolOf (y : DataW H × List MemPlace) : Bool := match y.1 with | .lit (.bool b) => b | _ => false
theorem open_bools {t e : TypeId} {fuel : Nat} {cs : List Value} {x : DataW H × List MemPlace} (ht : P.underlying t = some (.slice e)) (he : P.underlying e = some .bool) (hc : P.cellsOf e = 1)
    (h : DataW.trod enc P w base spare held fuel t cs = some x) :
    cs = [.slice none 0 0] ∨
    ∃ (a : Addr) (len cap : Nat) (zs : List Bool), cs = [.slice (some a) len cap] ∧ zs.length = len ∧ (∀ i, i < len → w.cell? (a.add i) = some (.bool (zs.getD i false))) := by
  rcases DataW.trod_slice ht h with h0 | ⟨a, len, cap, elems, rest, n, _, rfl, rfl, hb, hl, hm, hlen, hel, hsp, hns⟩
  · exact Or.inl h0.1
  right
  have each : ∀ i y, elems[i]? = some y → w.cell? (a.add i) = some (.bool (boolOf y)) := by
    intro i y hy
    have hi : i < len := by have := (List.getElem?_eq_some_iff.1 hy).1; omega
    have hb' : (w.cells? base (a.add (i * P.cellsOf e)) (P.cellsOf e)).bind (DataW.trod enc P w base spare held n e) = some y := by rw [hel i hi, ← hy]
    rw [hc, Nat.mul_one, Option.bind_eq_some_iff] at hb'
    obtain ⟨cs', hcs, hy'⟩ := hb'
    obtain ⟨m, rfl, rfl⟩ := DataW.trod_bool he hy'
    exact cell_of_cells?_one hcs
  refine ⟨a, len, cap, elems.map boolOf, rfl, by simpa using hlen, fun i hi => ?_⟩
  have hi' : i < elems.length := by omega
  have hy : elems[i]? = some (elems[i]'hi') := List.getElem?_eq_getElem hi'
  rw [each i _ hy]
  simp [List.getD, hy]
end
theorem bools_in {H : Type} {enc : TypeId × Value → H} {W : World} {base : Nat} {held : Bool} {T E : TypeId} {a : Option Addr} {len cap : Nat} {d : DataW H} {p : List MemPlace}
    (hT : Try.prog.underlying T = some (.slice E)) (hE : Try.prog.underlying E = some .bool) (hc1 : Try.prog.cellsOf E = 1)
    (h : DataW.Trod enc Try.prog W base (fun _ => true) held T (.slice a len cap) d p) : ∃ zs, InBools W a len zs := by
  obtain ⟨fuel, hf⟩ := h
  rcases open_bools hT hE hc1 hf with hcs | ⟨x, l, c, zs, hcs, hz, hcell⟩
  · simp [Value.cells] at hcs
    obtain ⟨rfl, rfl, rfl⟩ := hcs
    exact ⟨[], Sees.nil _ _ _⟩
  · simp [Value.cells] at hcs
    obtain ⟨rfl, rfl, rfl⟩ := hcs
    refine ⟨zs, sees_of_cells (by simp [bools]; omega) (fun i hi => ?_)⟩
    rw [hcell i hi]
    simp [bools, List.getD, show i < zs.length by omega]

/-! ### upper -/
def upp (c : UInt8) : UInt8 := if 97 ≤ c.toNat ∧ c.toNat ≤ 122 then UInt8.ofNat (c.toNat - 32) else c
def uppS (x : List UInt8) : List UInt8 := x.map upp
theorem uppS_len (x : List UInt8) : (uppS x).length = x.length := by simp [uppS]
theorem low_upp (c : UInt8) : low (upp c) = low c := by
  by_cases h : 97 ≤ c.toNat ∧ c.toNat ≤ 122
  · have e : (upp c).toNat = c.toNat - 32 := by unfold upp; rw [if_pos h, UInt8.toNat_ofNat']; omega
    have e1 : (low (upp c)).toNat = c.toNat := by rw [low_up (by omega) (by omega), e]; omega
    have e2 : (low c).toNat = c.toNat := low_not (by omega)
    exact UInt8.toNat_inj.1 (by rw [e1, e2])
  · have e : upp c = c := by unfold upp; rw [if_neg h]
    rw [e]
theorem lowS_uppS (x : List UInt8) : lowS (uppS x) = lowS x := by simp [lowS, uppS, low_upp]
theorem uppS_take {s : List UInt8} {k : Nat} (h : k < s.length) : uppS (s.take (k + 1)) = uppS (s.take k) ++ [upp s[k]] := by
  rw [List.take_succ_eq_append_getElem h]; simp only [uppS, List.map_append, List.map_cons, List.map_nil]
theorem upp_up {c : UInt8} (h1 : 97 ≤ c.toNat) (h2 : c.toNat ≤ 122) : (upp c).toNat = c.toNat - 32 := by
  unfold upp; rw [if_pos ⟨h1, h2⟩, UInt8.toNat_ofNat']; omega
theorem upp_not {c : UInt8} (h : ¬ (97 ≤ c.toNat ∧ c.toNat ≤ 122)) : (upp c).toNat = c.toNat := by unfold upp; rw [if_neg h]

set_option maxHeartbeats 1000000 in
theorem upper_any (S : ByteArray) (s : List UInt8) (w : World) (hS : S = mk s) (hl : s.length ≤ 1000) :
    Calls Try.prog 29 #[.string S] w fun e w' => e = .returned (.string (mk (uppS s))) ∧ Below w.heap.size w w' := by
  have hSz : S.size = s.length := by rw [hS, mk_size]
  have HS := Lib.hid hS
  have HSZ := Lib.hid hSz
  have hS1 : S.size ≤ 1000 := by omega
  clear hS hSz
  go_enter Try.func29, Try.ntmps29
  go_wp2_with fail
  go_loopw [3, 4] (fun v i wr => ∃ k : Nat, k ≤ S.size ∧ i = .int .i64 k ∧ wr.ownsRow w.heap.size 5 1 v k (bytesV (uppS (s.take k))) ∧ Below w.heap.size w wr) (fun _ i _ => S.size - (intOf i).toNat)
  case atStart => exact ⟨0, Nat.zero_le _, rfl, World.ownsRow_nil _ _ _ _, Below.refl _ _⟩
  case round =>
    obtain ⟨k, hk, rfl, hown, GB⟩ := hrel
    by_cases hlt : k < S.size
    · have hks : k < s.length := by have := HSZ.out; omega
      obtain ⟨d, hd⟩ : ∃ d, d = s[k].toNat := ⟨_, rfl⟩
      have hc : (S[k]'hlt).toNat = d := by rw [mk_get HS.out hlt hks, hd]
      have hd255 : d ≤ 255 := by have := s[k].toNat_lt; omega
      have HD := Lib.hid hd
      have HO := Lib.hid hown
      have H63 : Hid (k + 1 ≤ maxLen) := Lib.hid (by unfold maxLen; omega)
      have H47 : Hid ((k + 1) * 1 ≤ 140737488355328) := Lib.hid (by omega)
      obtain ⟨i0, hi0, hz0, hz1, hz2⟩ := info_parts u8_info
      have HT := Lib.hid (uppS_take hks)
      clear hd hown
      by_cases h1 : 97 ≤ d
      · have g1 : (97 : Int) ≤ (d : Int) := by omega
        by_cases h2 : d ≤ 122
        · have g2 : (d : Int) ≤ 122 := by omega
          have HV := Lib.hid (upp_up (c := s[k]) (by rw [← HD.out]; exact h1) (by rw [← HD.out]; exact h2))
          go_wp2_with (at_builtin; refine wpList_append_own _ rfl _ _ 46 rfl w.heap.size 5 i0 (.int .u8 0) 1 1 Try.underlying46 hi0 hz0 hz1 hz2 rfl (by decide) _ _ _ rfl (HO.out.alloc _) ⟨wr.heap.size, 0, none⟩ 1 1 [_] rfl rfl (news1 _ _ _) (one1 _ rfl) H63.out H47.out (by have := GB.size; simp; omega) ?_; intro v2 w2 hown2 hgrow _)
          have hown3 : w2.ownsRow w.heap.size 5 1 v2 (k + 1) (bytesV (uppS (s.take (k + 1)))) := by
            have hd32 : ((d - 32 : Nat) : Int) = (d : Int) - 32 := by omega
            rw [HT.out, bytesV_snoc, HV.out, ← HD.out, hd32]; simpa using hown2
          have HO3 := Lib.hid hown3
          have HB2 := Lib.hid ((GB.alloc GB.size _).grown hgrow (by have := GB.size; simp; omega) (fun j hj => (HO.out.lt j hj).1))
          clear hown2 hown3 hgrow
          go_roundw
          case rel => exact ⟨k + 1, by omega, by go_num, HO3.out, HB2.out⟩
          case measure => simp [intOf]; omega
        · have g2 : ¬ (d : Int) ≤ 122 := by omega
          have HV := Lib.hid (upp_not (c := s[k]) (by rw [← HD.out]; omega))
          go_wp2_with (at_builtin; refine wpList_append_own _ rfl _ _ 46 rfl w.heap.size 5 i0 (.int .u8 0) 1 1 Try.underlying46 hi0 hz0 hz1 hz2 rfl (by decide) _ _ _ rfl (HO.out.alloc _) ⟨wr.heap.size, 0, none⟩ 1 1 [_] rfl rfl (news1 _ _ _) (one1 _ rfl) H63.out H47.out (by have := GB.size; simp; omega) ?_; intro v2 w2 hown2 hgrow _)
          have hown3 : w2.ownsRow w.heap.size 5 1 v2 (k + 1) (bytesV (uppS (s.take (k + 1)))) := by
            rw [HT.out, bytesV_snoc, HV.out, ← HD.out]; simpa using hown2
          have HO3 := Lib.hid hown3
          have HB2 := Lib.hid ((GB.alloc GB.size _).grown hgrow (by have := GB.size; simp; omega) (fun j hj => (HO.out.lt j hj).1))
          clear hown2 hown3 hgrow
          go_roundw
          case rel => exact ⟨k + 1, by omega, by go_num, HO3.out, HB2.out⟩
          case measure => simp [intOf]; omega
      · have g1 : ¬ (97 : Int) ≤ (d : Int) := by omega
        have HV := Lib.hid (upp_not (c := s[k]) (by rw [← HD.out]; omega))
        go_wp2_with (at_builtin; refine wpList_append_own _ rfl _ _ 46 rfl w.heap.size 5 i0 (.int .u8 0) 1 1 Try.underlying46 hi0 hz0 hz1 hz2 rfl (by decide) _ _ _ rfl (HO.out.alloc _) ⟨wr.heap.size, 0, none⟩ 1 1 [_] rfl rfl (news1 _ _ _) (one1 _ rfl) H63.out H47.out (by have := GB.size; simp; omega) ?_; intro v2 w2 hown2 hgrow _)
        have hown3 : w2.ownsRow w.heap.size 5 1 v2 (k + 1) (bytesV (uppS (s.take (k + 1)))) := by
          rw [HT.out, bytesV_snoc, HV.out, ← HD.out]; simpa using hown2
        have HO3 := Lib.hid hown3
        have HB2 := Lib.hid ((GB.alloc GB.size _).grown hgrow (by have := GB.size; simp; omega) (fun j hj => (HO.out.lt j hj).1))
        clear hown2 hown3 hgrow
        go_roundw
        case rel => exact ⟨k + 1, by omega, by go_num, HO3.out, HB2.out⟩
        case measure => simp [intOf]; omega
    · obtain rfl : k = S.size := by omega
      rw [List.take_of_length_le (by have := HSZ.out; omega)] at hown
      have hcv := str_of_own hown
      go_wp2_with fail
      go_ret
      exact ⟨rfl, GB⟩


/-! ### The law -/
/-- Z is L but for the case of letters -/
def Sim (L Z : List (List UInt8)) : Prop := Z.map lowS = L.map lowS ∧ Z.map List.length = L.map List.length
theorem Sim.self (L : List (List UInt8)) : Sim L L := ⟨rfl, rfl⟩
theorem Sim.len {L Z : List (List UInt8)} (h : Sim L Z) : Z.length = L.length := by
  have := congrArg List.length h.2
  simpa using this
theorem Sim.set {L Z : List (List UInt8)} (h : Sim L Z) {k : Nat} (hk : k < Z.length) : Sim L (Z.set k (uppS Z[k])) := by
  refine ⟨?_, ?_⟩
  · rw [List.map_set, lowS_uppS, ← h.1]
    apply List.ext_getElem?
    intro i
    rw [List.getElem?_set]
    split
    · rename_i e; subst e; simp [hk]
    · rfl
  · rw [List.map_set, uppS_len, ← h.2]
    apply List.ext_getElem?
    intro i
    rw [List.getElem?_set]
    split
    · rename_i e; subst e; simp [hk]
    · rfl
theorem Sim.at {L Z : List (List UInt8)} (h : Sim L Z) {x : List UInt8} (hx : x ∈ Z) : ∃ y ∈ L, y.length = x.length := by
  have : x.length ∈ L.map List.length := by rw [← h.2]; exact List.mem_map_of_mem hx
  obtain ⟨y, hy, e⟩ := List.mem_map.1 this
  exact ⟨y, hy, e⟩
theorem Sim.good {L Z : List (List UInt8)} (h : Sim L Z) (hg : Good L) : Good Z := by
  intro x hx
  obtain ⟨y, hy, e⟩ := h.at hx
  obtain ⟨h1, h2⟩ := hg y hy
  refine ⟨fun e' => h1 ?_, by omega⟩
  rw [e'] at e
  exact List.eq_nil_of_length_eq_zero (by simpa using e)
theorem Sim.enc {L Z : List (List UInt8)} (h : Sim L Z) : (enc Z).length = (enc L).length := by
  have hs : ∀ X : List (List UInt8), (labs X).length = ((X.map List.length).map (· + 1)).sum := by
    intro X
    induction X with
    | nil => rfl
    | cons x X ih => simp [labs, lab_len, ih]
  rw [enc_len, enc_len, hs, hs, h.2]
theorem ofN_good {Z : List (List UInt8)} (hg : Good Z) (hl : (enc Z).length ≤ 255) : ofN Z = (enc Z, 0) := by
  refine ofN_ok (fun h => (hg _ h).1 rfl) ?_
  rintro (⟨x, hx, h⟩ | h)
  · have := (hg x hx).2; omega
  · omega

theorem back_none (S : ByteArray) (s : List UInt8) (A : Option Addr) (n c : Nat) (w : World) (HS : Hid (S = mk s)) (h : (nameL s).isSome = false) :
    Calls Try.prog 7 #[.string S, .slice A n c] w fun e w' => e = .returned (.bool true) ∧ Below w.heap.size w w' := by
  go_enter Try.func7, Try.ntmps7
  go_wp2_with fail
  refine (awake_any _).mono ?_
  rintro e w1 ⟨rfl, hB1⟩
  go_wp2_with fail
  refine (RefRight_any S s _ HS.out).mono ?_
  rw [h]
  rintro e w2 ⟨rfl, hB2⟩
  have GB2 := hB1.trans (hB2.mono hB1.size)
  go_wp2_with fail
  refine (awake_any _).mono ?_
  rintro e w3 ⟨rfl, hB3⟩
  go_wp2_with fail
  go_ret
  exact ⟨rfl, GB2.trans (hB3.mono GB2.size)⟩

set_option maxHeartbeats 4000000 in
theorem back_name (S F : ByteArray) (s : List UInt8) (L : List (List UInt8)) (A : Option Addr) (n c : Nat) (zs : List Bool) (w : World) (HS : Hid (S = mk s)) (HF : Hid (F = mk (foldL s))) (h : nameL s = some L) (ht : Sees w w.heap.size A n (bools zs)) :
    Calls Try.prog 7 #[.string S, .slice A n c] w fun e w' => e = .returned (.bool true) ∧ Below w.heap.size w w' := by
  obtain ⟨he, hg, hl⟩ := nameL_is h
  have hyes : (nameL s).isSome = true := by rw [h]; rfl
  have hof : ofN L = (s, 0) := by rw [he]; exact ofN_good hg (by rw [← he]; exact hl)
  have hb : s.length ≤ 1073741824 := by omega
  have hSS : (S.toList == S.toList) = true := by simp
  have hLx : ∀ x ∈ L, x.length ≤ 100000 := fun x hx => by have := (hg x hx).2; omega
  obtain ⟨m, hm⟩ : ∃ m, m = L.length := ⟨_, rfl⟩
  have hm255 : m ≤ 255 := by rw [hm]; exact name_few h
  have HN := Lib.hid h
  have HG := Lib.hid hg
  have HE := Lib.hid he
  have HL := Lib.hid hl
  have HOF := Lib.hid hof
  have HLX := Lib.hid hLx
  have HM := Lib.hid hm
  clear h hg he hl hof hLx hm
  go_enter Try.func7, Try.ntmps7
  go_wp2_with fail
  refine (awake_any _).mono ?_
  rintro e w1 ⟨rfl, hB1⟩
  go_wp2_with fail
  refine (RefRight_any S s _ HS.out).mono ?_
  rw [hyes]
  rintro e w2 ⟨rfl, hB2⟩
  have GB2 := hB1.trans (hB2.mono hB1.size)
  clear hB1 hB2
  go_wp2_with fail
  refine (Labels_yes S s L _ HS.out HN.out).mono ?_
  rw [← HM.out]
  rintro e w3 ⟨v, rfl, own3, hB3⟩
  obtain ⟨Al, cl, rfl, hs3⟩ := Sees.own own3
  have GB3 := GB2.trans (hB3.mono GB2.size)
  have hsz2 := GB2.size
  clear hB3 GB2
  go_wp2_with fail
  refine (Of_any Al m cl L _ hs3 (by omega) HLX.out).mono ?_
  rw [HOF.out]
  simp only
  rw [← HS.out]
  rintro e w4 ⟨rfl, hB4⟩
  have GB4 := GB3.trans (hB4.mono GB3.size)
  have own4 := own_below own3 hB4
  clear hB4 GB3 own3 hs3
  go_wp2_with fail
  go_loopw [9] (fun i wr => ∃ (k : Nat) (Z : List (List UInt8)), k ≤ m ∧ i = .int .i64 k ∧ wr.ownsRow w2.heap.size 9 1 (.slice Al m cl) m (textL Z) ∧ Sim L Z ∧ Below w.heap.size w wr) (fun i _ => m - (intOf i).toNat)
  case atStart => exact ⟨0, L, Nat.zero_le _, rfl, own4, Sim.self L, GB4⟩
  case round =>
    obtain ⟨k, Z, hk, rfl, hown, hsim, GB⟩ := hrel
    have HSIM := Lib.hid hsim
    have hZl : Z.length = m := by rw [hsim.len, ← HM.out]
    clear hsim own4 GB4
    by_cases hlt : k < m ∧ k < n
    · obtain ⟨h1, h2⟩ := hlt
      have g1 : (k : Int) < (m : Int) := by omega
      have g2 : (k : Int) < (n : Int) := by omega
      have hkZ : k < Z.length := by omega
      obtain ⟨bt, offt, t, hA, _, hct⟩ := bools_at (ht.below GB) h2
      subst hA
      cases t
      · have HZl := Lib.hid hZl
        have HOW := Lib.hid hown
        clear hZl hown
        go_wp2_with fail
        go_roundw
        case rel => exact ⟨k + 1, Z, by omega, by go_num, HOW.out, HSIM.out, GB⟩
        case measure => simp [intOf]; omega
      · obtain ⟨g, hA⟩ : ∃ g, Al = some ⟨g, 0, none⟩ := by
          rcases hown.2 with ⟨e, h0⟩ | ⟨g, cap, cur, e, _⟩
          · omega
          · injection e with e _ _; exact ⟨g, e⟩
        subst hA
        obtain ⟨X, hX⟩ : ∃ X, X = mk Z[k] := ⟨_, rfl⟩
        obtain ⟨Y, hY⟩ : ∃ Y, Y = mk (uppS Z[k]) := ⟨_, rfl⟩
        have hcell : wr.cell? ⟨g, k, none⟩ = some (.string X) := by
          rw [hown.cellAt k (by omega), hX]; simp [textL, texts, hkZ]
        have hgw : w.heap.size ≤ g := by
          have := (hown.lt g rfl).1
          omega
        have hgr : g < wr.heap.size := (hown.lt g rfl).2
        have hxs : Z[k].length ≤ 63 := by
          obtain ⟨y, hy, e⟩ := HSIM.out.at (List.getElem_mem hkZ)
          have := (HG.out y hy).2
          omega
        have HX := Lib.hid hX
        have HY := Lib.hid hY
        have HZl := Lib.hid hZl
        have HOW := Lib.hid hown
        have HXS := Lib.hid hxs
        have hst := HSIM.out.set hkZ
        have HST := Lib.hid hst
        clear hX hY hZl hown hst hxs
        go_wp2_with (go_at_call 29; refine (upper_any X Z[k] _ HX.out (by have := HXS.out; omega)).mono ?_; rw [← HY.out]; rintro e w5 ⟨rfl, hB5⟩; have own5 := own_below HOW.out hB5; have hc5 := own5.cellAt k (by omega); have hc6 : w5.cell? ⟨g, k, none⟩ = some (.string X) := (hB5.cell (p := ⟨g, k, none⟩) hgr).trans hcell; have hf5 := own5.frozenAt k; have own6 := (own5.stored k (.string Y)).1; rw [HY.out, textL_set, ← HY.out] at own6; have HO6 := Lib.hid own6; have GB6 := Lib.hid ((GB.trans (hB5.mono GB.size)).setCell (p := ⟨g, k, none⟩) hgw (.string Y)); clear hc5 own5 own6 hB5)
        go_roundw
        case rel => exact ⟨k + 1, _, by omega, by go_num, HO6.out, HST.out, GB6.out⟩
        case measure => simp [intOf]; omega
    · obtain ⟨U, hU⟩ : ∃ U, U = mk (enc Z) := ⟨_, rfl⟩
      have hgZ := HSIM.out.good HG.out
      have hlZ : (enc Z).length ≤ 255 := by rw [HSIM.out.enc, ← HE.out]; exact HL.out
      have hoZ := ofN_good hgZ hlZ
      have hnZ := nameL_enc hgZ hlZ
      have hsame := HSIM.out.1
      have hbZ : (enc Z).length ≤ 1073741824 := by omega
      have hf0 := foldL_some HN.out
      have hfZ : foldL (enc Z) = foldL s := by rw [(foldL_some hnZ).2.1, hsame, hf0.2.1]
      have hff : foldL (foldL s) = foldL s := by rw [(foldL_some hf0.2.2).2.1, lows_lows, hf0.2.1]
      have hfl : (foldL s).length ≤ 1073741824 := by rw [hf0.1, lowS_len]; exact hb
      have ha1 : alikeN (enc Z) s = true := by unfold alikeN; rw [hnZ, HN.out]; simp [hsame]
      have ha2 : alikeN (foldL s) s = true := by unfold alikeN; rw [hf0.2.2, HN.out]; simp [lowS_lowS]
      have hu1 : underN s (enc Z) = true := by unfold underN; rw [HN.out, hnZ]; simp [hsame]
      have hu2 : underN s [0] = true := by
        have h0 : nameL [0] = some [] := nameL_enc (L := []) (fun x hx => by cases hx) (by decide)
        unfold underN; rw [HN.out, h0]; simp
      have hZx : ∀ x ∈ Z, x.length ≤ 100000 := fun x hx => by have := (hgZ x hx).2; omega
      have hFF : (F.toList == F.toList) = true := by simp
      have HU := Lib.hid hU
      have HOZ := Lib.hid hoZ
      have HBZ := Lib.hid hbZ
      have HFZ := Lib.hid hfZ
      have HFF := Lib.hid hff
      have HFL := Lib.hid hfl
      have HA1 := Lib.hid ha1
      have HA2 := Lib.hid ha2
      have HU1 := Lib.hid hu1
      have HU2 := Lib.hid hu2
      have HZX := Lib.hid hZx
      obtain ⟨A6, c6, hv6, hs6⟩ := Sees.own hown
      injection hv6 with e1 _ e2
      subst e1; subst e2
      have HS6 := Lib.hid hs6
      clear hU hgZ hlZ hoZ hnZ hsame hbZ hf0 hfZ hff hfl ha1 ha2 hu1 hu2 hZx hown hs6 hZl
      have hg : ((k : Int) < (m : Int) ∧ ¬ (k : Int) < (n : Int)) ∨ ¬ (k : Int) < (m : Int) := by omega
      rcases hg with ⟨g1, g2⟩ | g1
      all_goals
        clear hlt
        go_wp2_with fail
        refine (Of_any Al m cl Z _ HS6.out (by omega) HZX.out).mono ?_
        rw [HOZ.out]
        simp only
        rw [← HU.out]
        rintro e w6 ⟨rfl, hB6⟩
        have GB6 := GB.trans (hB6.mono GB.size)
        clear hB6
        go_wp2_with fail
        refine (Fold_any S s _ HS.out hb).mono ?_
        rw [← HF.out]
        rintro e w7 ⟨rfl, hB7⟩
        have GB7 := GB6.trans (hB7.mono GB6.size)
        clear hB7 GB6
        go_wp2_with fail
        refine (Alike_any U S (enc Z) s _ HU.out HS.out HBZ.out hb).mono ?_
        rw [HA1.out]
        rintro e w8 ⟨rfl, hB8⟩
        have GB8 := GB7.trans (hB8.mono GB7.size)
        clear hB8 GB7
        go_wp2_with fail
        refine (Fold_any U (enc Z) _ HU.out HBZ.out).mono ?_
        rw [HFZ.out, ← HF.out]
        rintro e w9 ⟨rfl, hB9⟩
        have GB9 := GB8.trans (hB9.mono GB8.size)
        clear hB9 GB8
        go_wp2_with fail
        refine (Fold_any F (foldL s) _ HF.out HFL.out).mono ?_
        rw [HFF.out, ← HF.out]
        rintro e w10 ⟨rfl, hB10⟩
        have GB10 := GB9.trans (hB10.mono GB9.size)
        clear hB10 GB9
        go_wp2_with fail
        refine (Alike_any F S (foldL s) s _ HF.out HS.out HFL.out hb).mono ?_
        rw [HA2.out]
        rintro e w11 ⟨rfl, hB11⟩
        have GB11 := GB10.trans (hB11.mono GB10.size)
        clear hB11 GB10
        go_wp2_with fail
        refine (Under_any S U s (enc Z) _ HS.out HU.out hb HBZ.out).mono ?_
        rw [HU1.out]
        rintro e w12 ⟨rfl, hB12⟩
        have GB12 := GB11.trans (hB12.mono GB11.size)
        clear hB12 GB11
        go_wp2_with fail
        refine (Under_any S ⟨#[0]⟩ s [0] _ HS.out rfl hb (by decide)).mono ?_
        rw [HU2.out]
        rintro e w13 ⟨rfl, hB13⟩
        have GB13 := GB12.trans (hB13.mono GB12.size)
        clear hB13 GB12
        go_wp2_with fail
        go_ret
        exact ⟨rfl, GB13⟩
theorem NameBack_walk (S : ByteArray) (A : Option Addr) (n c : Nat) (zs : List Bool) (w : World) (_h : S.size ≤ maxLen) (hz : InBools w A n zs) :
    Calls Try.prog 7 #[.string S, .slice A n c] w fun e w' => e = .returned (.bool true) ∧ Below w.heap.size w w' := by
  obtain ⟨s, hS⟩ := mk_of S
  cases h : nameL s with
  | none => exact back_none S s A n c w hS (by rw [h]; rfl)
  | some L => exact back_name S _ s L A n c zs w hS (Lib.hid rfl) h hz
end Go.Proofs.Ytfmpoibcchiakaa
