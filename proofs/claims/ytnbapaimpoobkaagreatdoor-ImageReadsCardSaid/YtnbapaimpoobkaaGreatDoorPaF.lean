/- Parts of the proofs of the statements of image. No statement of the seat is proved here. -/
import Derived.Test.YtnbapaimpoobkaaGreatDoorPaA
import Derived.Test.YtnbapaimpoobkaaGreatDoorNaI
import Derived.Deep.RegionLaw
import Derived.Deep.AppendLies
import Derived.Deep.AppendSrc
namespace Go.Proofs.YtnbapaimpoobkaaGreatDoor
open Go.RowKit

abbrev KnL := List (List UInt8 × Nat)
def kf (KL : KnL) : Kn := fun r => (KL.find? fun k => k.1 == r).map (·.2)
def kcells (KL : KnL) : List Value := KL.flatMap fun k => [.string (mk k.1), .int .i64 (k.2 : Nat)]
theorem kcells_len (KL : KnL) : (kcells KL).length = KL.length * 2 := by
  induction KL with
  | nil => rfl
  | cons x r ih => simp only [kcells, List.flatMap_cons] at ih ⊢; simp only [List.length_append, List.length_cons, List.length_nil, ih]; omega
theorem kcells_snoc (KL : KnL) (r : List UInt8) (p : Nat) : kcells (KL ++ [(r, p)]) = kcells KL ++ [.string (mk r), .int .i64 (p : Nat)] := by simp [kcells]
theorem kcells_at (KL : KnL) {j : Nat} (hj : j < KL.length) : (kcells KL)[j * 2]? = some (.string (mk KL[j].1)) ∧ (kcells KL)[j * 2 + 1]? = some (.int .i64 (KL[j].2 : Nat)) := by
  induction KL generalizing j with
  | nil => simp at hj
  | cons x r ih =>
    cases j with
    | zero => exact ⟨rfl, rfl⟩
    | succ j =>
      have := ih (j := j) (by simpa using hj)
      simp only [kcells, List.flatMap_cons] at this ⊢
      rw [show (j + 1) * 2 = j * 2 + 2 by omega, show j * 2 + 2 + 1 = j * 2 + 1 + 2 by omega]
      simpa using this
theorem kf_none_snoc {KL : KnL} {r : List UInt8} {p : Nat} (h : kf KL r = none) : kf (KL ++ [(r, p)]) = fun k => if k = r then some p else kf KL k := by
  funext k
  unfold kf at h ⊢
  rw [Option.map_eq_none_iff] at h
  rw [List.find?_append]
  by_cases hk : k = r
  · subst hk
    rw [h, if_pos rfl]
    simp
  · rw [if_neg hk]
    cases hf : KL.find? (fun x => x.1 == k) with
    | some x => rfl
    | none =>
      have : (r == k) = false := by simpa using fun e : r = k => hk e.symm
      simp [this]
def kfI (KL : KnL) (r : List UInt8) : Int := match kf KL r with | some t => (t : Int) | none => -1
/-- what a walk knows of a slice of known names -/
def SeesK (W : World) (B : Nat) (A : Option Addr) (n : Nat) (KL : KnL) : Prop :=
  KL.length = n ∧ (0 < n → ∃ b off, A = some ⟨b, off, none⟩ ∧ b < B ∧ (∃ cs fr, W.heap[b]? = some (.cells cs 207 fr)) ∧ ∀ j u, (kcells KL)[j]? = some u → W.cell? ⟨b, off + j, none⟩ = some u)
theorem SeesK.keep {w w' : World} {B : Nat} {A : Option Addr} {n : Nat} {KL : KnL} (h : SeesK w B A n KL) (hb : Below B w w') : SeesK w' B A n KL :=
  ⟨h.1, fun hn => by
    obtain ⟨b, off, e, hlt, ⟨cs, fr, ht⟩, hc⟩ := h.2 hn
    exact ⟨b, off, e, hlt, ⟨cs, fr, (hb.block b hlt).trans ht⟩, fun j u hu => (hb.cell hlt).trans (hc j u hu)⟩⟩
theorem SeesK.more {w : World} {B B' : Nat} {A : Option Addr} {n : Nat} {KL : KnL} (h : SeesK w B A n KL) (hB : B ≤ B') : SeesK w B' A n KL :=
  ⟨h.1, fun hn => by
    obtain ⟨b, off, e, hlt, ht, hc⟩ := h.2 hn
    exact ⟨b, off, e, by omega, ht, hc⟩⟩
theorem find_drop {KL : KnL} {r : List UInt8} {k : Nat} (h : ∀ x ∈ KL.take k, x.1 ≠ r) : kf KL r = kf (KL.drop k) r := by
  unfold kf
  conv => lhs; rw [← List.take_append_drop k KL, List.find?_append]
  rw [List.find?_eq_none.2 (by intro x hx; simpa using h x hx)]
  rfl

set_option maxHeartbeats 1000000 in
theorem find_any (X : ByteArray) (A : Option Addr) (n c B : Nat) (KL : KnL) (S : ByteArray) (r : List UInt8) (w : World) (h : SeesK w B A n KL) (hB : B ≤ w.heap.size) (hn : n ≤ 1000000) (hS : S = mk r) :
    Calls Tryz.prog 209 #[.agg #[.string X, .slice A n c], .string S] w fun e w' => e = .returned (.int .i64 (kfI KL r)) ∧ Below w.heap.size w w' := by
  have hlen := h.1
  have FB : Below w.heap.size w (w.alloc (.cells #[.string X, .slice A n c] 151)) := (Below.refl _ _).alloc (Nat.le_refl _) _
  have HH := Lib.hid ((h.more hB).keep FB)
  have HFB := Lib.hid FB
  have HS := Lib.hid hS
  have HL := Lib.hid hlen
  have hW := Whole.new w 151 #[.string X, .slice A n c]
  have c1 := (hW.cell 1).trans (show _ = some (Value.slice A n c) from rfl)
  clear h hS hlen FB hW hB
  go_enter Tryz.func209, Tryz.ntmps209
  go_wp2
  revert c1 HH HFB
  generalize w.alloc (.cells #[.string X, .slice A n c] 151) = W
  intro HH HFB c1
  go_loop [5] (fun i => ∃ k : Nat, k ≤ n ∧ i = .int .i64 k ∧ ∀ x ∈ KL.take k, x.1 ≠ r) (fun i => n - (intOf i).toNat)
  case atStart => exact ⟨0, Nat.zero_le _, rfl, by simp⟩
  case round =>
    obtain ⟨k, hk, rfl, hno⟩ := hrel
    have HNO := Lib.hid hno
    clear hno
    by_cases hlt : k < n
    · have hkL : k < KL.length := by have := HL.out; omega
      have g1 : (k : Int) < (n : Int) := by omega
      obtain ⟨b, off, rfl, _, _, hc⟩ := HH.out.2 (by omega)
      obtain ⟨e0, e1⟩ := kcells_at KL hkL
      have c2 := hc _ _ e0
      have c3 := hc _ _ e1
      rw [← Nat.add_assoc] at c3
      have hd : KL.drop k = KL[k] :: KL.drop (k + 1) := List.drop_eq_getElem_cons hkL
      obtain ⟨x, hx⟩ : ∃ x, x = KL[k] := ⟨_, rfl⟩
      rw [← hx] at c2 c3 hd
      have HX := Lib.hid hx
      have HD := Lib.hid hd
      clear hc e0 e1 hx hd
      by_cases he : x.1 = r
      · have heq : ((mk x.1).toList == S.toList) = true := by rw [HS.out, mk_beq, he]; simp
        have hR : Hid (kfI KL r = (x.2 : Int)) := Lib.hid (by
          unfold kfI
          rw [find_drop HNO.out, HD.out]
          unfold kf
          rw [List.find?_cons_of_pos (by simpa using he)]
          rfl)
        clear he
        go_wp2
        go_ret
        exact ⟨by rw [hR.out]; rfl, HFB.out⟩
      · have heq : ((mk x.1).toList == S.toList) = false := by rw [HS.out, mk_beq, beq_eq_false_iff_ne]; exact he
        have HE := Lib.hid he
        clear he
        go_wp2
        go_round
        case rel =>
          refine ⟨k + 1, by omega, by go_num, fun y hy => ?_⟩
          rw [List.take_succ_eq_append_getElem hkL] at hy
          rcases List.mem_append.1 hy with hy | hy
          · exact HNO.out y hy
          · rw [List.mem_singleton] at hy
            rw [hy, ← HX.out]; exact HE.out
        case measure => simp [intOf]; omega
    · obtain rfl : k = n := by omega
      have hR : Hid (kfI KL r = -1) := Lib.hid (by
        unfold kfI
        rw [find_drop HNO.out, List.drop_eq_nil_of_le (by have := HL.out; omega)]
        rfl)
      go_wp2
      go_ret
      exact ⟨by rw [hR.out]; rfl, HFB.out⟩

/-- the reference's packer, as a value -/
def rpV (l : List UInt8) (A : Option Addr) (n c : Nat) : Value := .agg #[.string (mk l), .slice A n c]
def RefPk (w : World) (l : List UInt8) (K : Kn) (v : Value) : Prop := ∃ A n c KL, v = rpV l A n c ∧ SeesK w w.heap.size A n KL ∧ kf KL = K ∧ n ≤ l.length
theorem RefPk.same {w w' : World} {l : List UInt8} {K : Kn} {v : Value} (h : RefPk w l K v) (hb : Below w.heap.size w w') : RefPk w' l K v := by
  obtain ⟨A, n, c, KL, h1, h2, h3, h4⟩ := h
  exact ⟨A, n, c, KL, h1, (h2.keep hb).more hb.size, h3, h4⟩
theorem Kp.whole {B b m c : Nat} {w w' : World} {v v' : Value} {l0 : List UInt8} {K0 : Kn} {g t : Nat} {cs : Array Value} (hw : Whole w g t cs) (hp : Pk B w b m v l0 K0 c) (hk : Kp b m v v' w w') (h1 : t ≠ pkT) (h2 : t ≠ 5) : Whole w' g t cs := by
  have hgb : g ≠ b := by
    rintro rfl
    obtain ⟨p, _, hb⟩ := hp.blk
    rw [hw] at hb
    injection hb with hb
    injection hb with _ hb _
    exact absurd hb h1
  have hgm : g ≠ m := by
    rintro rfl
    obtain ⟨D, n', ⟨es, clock, hm, _⟩, _⟩ := hp.map
    rw [hw] at hm; cases hm
  exact (hk.block g hw.lt hgb hgm (Lib.ownBlock_neF hp.row hw h2)).trans hw
theorem RefPk.zero (w : World) : RefPk w [] noneK (rpV [] none 0 0) := ⟨none, 0, 0, [], rfl, ⟨rfl, fun h => absurd h (by omega)⟩, rfl, Nat.le_refl _⟩

/-- seen, in a block that is neither g nor the one behind it -/
def SeesX (W : World) (g : Nat) (A : Option Addr) (n : Nat) (KL : KnL) : Prop :=
  KL.length = n ∧ (0 < n → ∃ b off, A = some ⟨b, off, none⟩ ∧ b < W.heap.size ∧ b ≠ g ∧ b ≠ g + 1 ∧ (∃ cs fr, W.heap[b]? = some (.cells cs 207 fr)) ∧ ∀ j u, (kcells KL)[j]? = some u → W.cell? ⟨b, off + j, none⟩ = some u)
theorem SeesX.sees {W : World} {g : Nat} {A : Option Addr} {n : Nat} {KL : KnL} (h : SeesX W g A n KL) : SeesK W W.heap.size A n KL :=
  ⟨h.1, fun hn => by
    obtain ⟨b, off, e, h1, _, _, ht, h2⟩ := h.2 hn
    exact ⟨b, off, e, h1, ht, h2⟩⟩
theorem SeesX.keep {W W' : World} {g : Nat} {A : Option Addr} {n : Nat} {KL : KnL} (h : SeesX W g A n KL) (hb : Below W.heap.size W W') : SeesX W' g A n KL :=
  ⟨h.1, fun hn => by
    obtain ⟨b, off, e, h1, h2, h3, ⟨cs, fr, ht⟩, hc⟩ := h.2 hn
    exact ⟨b, off, e, Nat.lt_of_lt_of_le h1 hb.size, h2, h3, ⟨cs, fr, (hb.block b h1).trans ht⟩, fun j u hu => (hb.cell h1).trans (hc j u hu)⟩⟩
theorem SeesX.put {W : World} {g : Nat} {A : Option Addr} {n : Nat} {KL : KnL} (h : SeesX W g A n KL) {p : Addr} (u : Value) (hp : p.block = g ∨ p.block = g + 1) : SeesX (W.setCell p u) g A n KL :=
  ⟨h.1, fun hn => by
    obtain ⟨b, off, e, h1, h2, h3, ⟨cs, fr, ht⟩, hc⟩ := h.2 hn
    refine ⟨b, off, e, by rw [size_put]; exact h1, h2, h3, ⟨cs, fr, (Below.heap_setCell W p u b (by omega)).trans ht⟩, fun j x hx => ?_⟩
    have hne : p ≠ ⟨b, off + j, none⟩ := by intro e'; subst e'; simp at hp; omega
    exact (World.cell?_setCell_other (w := W) (a := p) (b := ⟨b, off + j, none⟩) (v := u) hne).trans (hc j x hx)⟩
theorem SeesX.own {W : World} {g base : Nat} {v : Value} {n : Nat} {KL : KnL} (h : W.ownsRow base 207 2 v n (kcells KL)) (hb : g + 1 < base) (hl : KL.length = n) : ∃ A c, v = .slice A n c ∧ SeesX W g A n KL := by
  rcases h.2 with ⟨rfl, rfl⟩ | ⟨b, cap, cur, rfl, hbb, hh, h1, h2, h3, h4⟩
  · exact ⟨none, 0, rfl, hl, fun h0 => absurd h0 (by omega)⟩
  · refine ⟨some ⟨b, 0, none⟩, cap, rfl, hl, fun _ => ⟨b, 0, rfl, (Array.getElem?_eq_some_iff.1 hh).1, by omega, by omega, ⟨cur, _, hh⟩, fun j u hu => ?_⟩⟩
    have := h.cells (g := b) rfl j u hu
    rwa [show (⟨b, 0, none⟩ : Addr).add j = ⟨b, 0 + j, none⟩ from by unfold Addr.add; split <;> simp_all] at this

theorem known_info : (Tryz.prog.info? 207).map (fun i => (i.zero, i.size, i.bytes)) = some (some (.agg #[.string ⟨#[]⟩, .int .i64 0]), 2, 24) := by kernel_rfl
theorem kcells_one (KL : KnL) : ∀ u ∈ kcells KL, u.oneCell' = true := by
  intro u hu
  simp only [kcells, List.mem_flatMap] at hu
  obtain ⟨k, _, hu⟩ := hu
  simp only [List.mem_cons, List.not_mem_nil, or_false] at hu
  rcases hu with rfl | rfl <;> rfl
set_option maxRecDepth 20000 in
/-- known names appended to a row of one's own that is not nil: one step of a region -/
theorem step_append_K {w : World} {ops : Array Oper} {o : Oper} {a : Act} {K : Act → World → Prop} {Q : Exit → Act → World → Prop} {E : Prop} (hgd : o.guard = none) (s x : Operand)
    (ho : o.op = .call { callee := .builtin .append, args := #[s, x], argTypes := #[149, 149] }) (base : Nat) (v : Value) (n : Nat) (xs : List Value) (hs : a.eval s = v) (hown : w.ownsRow base 207 2 v n xs) (hv : v ≠ .slice none 0 0)
    (B : Nat) (A : Option Addr) (m c : Nat) (KL : KnL) (hx : a.eval x = .slice A m c) (hr : SeesK w B A m KL) (N : Nat) (hN : n + m = N) (ys : List Value) (hys : xs ++ kcells KL = ys) (h63 : N ≤ 1073741824) (hbase : base ≤ w.heap.size)
    (h : ∀ v' w', w'.ownsRow base 207 2 v' N ys → w.grownBy w' v.ownBlock → v' ≠ .slice none 0 0 → K (a.put o.dst v') w') : if Region.wanted o (yielded ops a.tmps) = true then Oper.wp Tryz.prog o a w K Q else E := by
  have hw : Region.wanted o (yielded ops a.tmps) = true := by simp [Region.wanted, hgd]
  rw [if_pos hw]
  subst hN
  subst hys
  obtain ⟨i, hi, hz0, hz1, hz2⟩ := info_parts known_info
  have hkl := kcells_len KL
  rw [hr.1] at hkl
  rcases A with _ | ad
  · have hm : m = 0 := by
      rcases Nat.eq_zero_or_pos m with h0 | h0
      · exact h0
      · obtain ⟨b, off, e, _⟩ := hr.2 h0
        cases e
    subst hm
    have hn : kcells KL = [] := List.eq_nil_of_length_eq_zero (by omega)
    rw [hn, List.append_nil] at h
    rcases hown.2 with ⟨rfl, _⟩ | ⟨g, cap, cur, rfl, _, _, hnc, _⟩
    · exact absurd rfl hv
    · have hrun := run_append_room_src (P := Tryz.prog) w 149 149 o.type 207 i Tryz.underlying149 hi g 0 n cap (.slice none 0 c) 0 [] (Src.ofNil w Tryz.underlying149 c) (by omega) (by simp) (by simp)
      have hsame : w.setCells g (0 + n * i.size) [] = w := rfl
      rw [hsame] at hrun
      unfold Oper.wp
      simp [execOp, ho, resolve, invoke, builtin, hs, hx, hrun, Result.andThen]
      exact h _ _ hown (World.grownBy.refl w _) hv
  · have hcells : ∀ j u, (kcells KL)[j]? = some u → w.cell? (ad.add j) = some u := by
      intro j u hu
      have hj : j < (kcells KL).length := (List.getElem?_eq_some_iff.1 hu).1
      obtain ⟨b, off, e, _, _, hc⟩ := hr.2 (by omega)
      injection e with e
      subst e
      rw [show (⟨b, off, none⟩ : Addr).add j = ⟨b, off + j, none⟩ from by unfold Addr.add; split <;> simp_all]
      exact hc j u hu
    refine wp_append_own w s x 149 ho base 207 i (.agg #[.string ⟨#[]⟩, .int .i64 0]) 2 24 Tryz.underlying149 hi hz0 hz1 hz2 rfl (by decide) v n xs hs hown ad m c (kcells KL) hx hkl hcells (kcells_one KL) (by unfold maxLen; omega) (by omega) hbase ?_
    intro v' w' h1 h2 h3
    exact h v' w' h1 h2 fun e => hv (h3.1 e).1
theorem own_noneK (w : World) (base : Nat) (hb : base ≤ w.heap.size) : (w.alloc (.cells #[] 207)).ownsRow base 207 2 (.slice (some ⟨w.heap.size, 0, none⟩) 0 0) 0 [] :=
  ⟨rfl, .inr ⟨w.heap.size, 0, #[], rfl, hb, heap_alloc_new w _, Nat.le_refl _, by unfold maxLen; omega, rfl, rfl⟩⟩
theorem sees_oneK {W : World} {g : Nat} {r : List UInt8} {p : Nat} (h : Whole W g 207 #[.string (mk r), .int .i64 (p : Nat)]) : SeesK W (g + 1) (some ⟨g, 0, none⟩) 1 [(r, p)] := by
  refine ⟨rfl, fun _ => ⟨g, 0, rfl, by omega, ⟨_, _, h⟩, fun j u hu => ?_⟩⟩
  match j, hu with
  | 0, hu => rw [h.cell]; simpa [kcells] using hu
  | 1, hu => rw [h.cell]; simpa [kcells] using hu
  | j + 2, hu => simp [kcells] at hu

abbrev rpT : TypeId := 151
/-- where the reference's Name stands -/
def RefNameAt (w : World) (may : Bool) (L : List (List UInt8)) (l : List UInt8) (K : Kn) (nV : Value) (wr : World) : Prop :=
  ∃ L' l' A' n' c' KL', nV = .string (mk (enc L')) ∧ Good L' ∧ (enc L').length ≤ 255 ∧ Whole wr w.heap.size rpT #[.string (mk l'), .slice A' n' c'] ∧ Whole wr (w.heap.size + 1) rpT #[.string ⟨#[]⟩, .slice none 0 0] ∧ SeesX wr w.heap.size A' n' KL' ∧
    n' ≤ l'.length ∧ l'.length + (enc L').length ≤ l.length + 255 ∧ putL may L l K = putL may L' l' (kf KL') ∧ (∀ r t, kf KL' r = some t → t < 16384) ∧ Below w.heap.size w wr
def sizeS : Value → Nat
  | .string s => s.size
  | _ => 0
theorem enc_is_root {x : List UInt8} {L : List (List UInt8)} : ((mk (enc (x :: L))).toList == [0]) = false := by
  rw [mk_is, beq_eq_false_iff_ne]
  intro e
  have h1 := congrArg List.length e
  rw [enc_len_cons] at h1
  have := enc_pos L
  simp at h1
  omega

theorem two_str (W : World) (t : Nat) (ht : t < 16384) :
    (convert 64 9 (.slice (some ⟨W.heap.size, 0, none⟩) 2 2)).run Tryz.prog (W.alloc (.cells #[.int .u8 (192 + (t : Int) / 256), .int .u8 ((t : Int) % 256)] 5)) =
      .ok (.string (mk (ptrB t))) (W.alloc (.cells #[.int .u8 (192 + (t : Int) / 256), .int .u8 ((t : Int) % 256)] 5)) := by
  have hW := Whole.new W 5 #[.int .u8 (192 + (t : Int) / 256), .int .u8 ((t : Int) % 256)]
  have h1 : (UInt8.ofNat (192 + t / 256)).toNat = 192 + t / 256 := by rw [UInt8.toNat_ofNat']; omega
  have h2 : (UInt8.ofNat (t % 256)).toNat = t % 256 := by rw [UInt8.toNat_ofNat']; omega
  refine Row8.str (l := ptrB t) ⟨fun j hj => ?_, fun j _ => hW.frozen j⟩ 2 2 rfl
  match j, hj with
  | 0, _ =>
    refine (hW.cell 0).trans ?_
    show some (Value.int .u8 (192 + (t : Int) / 256)) = some (.int .u8 ((UInt8.ofNat (192 + t / 256)).toNat : Nat))
    rw [h1]; congr 2
  | 1, _ =>
    refine (hW.cell 1).trans ?_
    show some (Value.int .u8 ((t : Int) % 256)) = some (.int .u8 ((UInt8.ofNat (t % 256)).toNat : Nat))
    rw [h2]; congr 2
  | j + 2, hj => rw [ptr_len] at hj; omega
theorem rp_facts {W : World} {g : Nat} {y z : Value} {A : Option Addr} {n c : Nat} (h0 : Whole W g rpT #[y, .slice A n c]) (h1 : Whole W (g + 1) rpT #[z, .slice none 0 0]) :
    W.cell? ⟨g, 0, none⟩ = some y ∧ W.cell? ⟨g, 1, none⟩ = some (.slice A n c) ∧ W.frozen? ⟨g, 0, none⟩ = false ∧ W.frozen? ⟨g, 1, none⟩ = false ∧ W.cell? ⟨g + 1, 0, none⟩ = some z ∧ W.cell? ⟨g + 1, 1, none⟩ = some (.slice none 0 0) ∧
      W.frozen? ⟨g + 1, 0, none⟩ = false ∧ W.frozen? ⟨g + 1, 1, none⟩ = false :=
  ⟨(h0.cell 0).trans rfl, (h0.cell 1).trans rfl, h0.frozen 0, h0.frozen 1, (h1.cell 0).trans rfl, (h1.cell 1).trans rfl, h1.frozen 0, h1.frozen 1⟩
theorem rp_size : (Tryz.prog.info? rpT).map (·.size) = some 2 := by kernel_rfl
theorem ret2 {fn : Func} {R : Ending → World → Prop} {a : Act} {w : World} {p r : Nat} {a0 a1 : Value} (hf : fn.results = #[.cell p rpT]) (hd : a.defers = []) (hp : a.tmps.getD p undef = .pointer (some ⟨r, 0, none⟩))
    (h : Whole w r rpT #[a0, a1]) (hR : R (.returned (.agg #[a0, a1])) w) : bodyPost Tryz.prog fn R .ret a w :=
  bodyPost_ret (results_cell_row hf _ _ r _ _ (0, 0) _ hp h Tryz.underlying151 rfl rp_size) hd hR
/-- what the return leaves: the packer's message has turned, then the result is laid -/
theorem ref_end {w wr : World} {l2 : List UInt8} {A' : Option Addr} {n' c' : Nat} {KL' : KnL} {K : Kn} {X y z : Value} (_hw0 : Whole wr w.heap.size rpT #[y, .slice A' n' c']) (hw1 : Whole wr (w.heap.size + 1) rpT #[z, .slice none 0 0]) (hx : SeesX wr w.heap.size A' n' KL')
    (hB : Below w.heap.size w wr) (hX : X = .string (mk l2)) (hk : kf KL' = K) (hn : n' ≤ l2.length) :
    let W3 := ((wr.setCell ⟨w.heap.size, 0, none⟩ X).setCell ⟨w.heap.size + 1, 0, none⟩ X).setCell ⟨w.heap.size + 1, 1, none⟩ (.slice A' n' c')
    Whole W3 (w.heap.size + 1) rpT #[X, .slice A' n' c'] ∧ RefPk W3 l2 K (.agg #[X, .slice A' n' c']) ∧ Below w.heap.size w W3 := by
  intro W3
  have e1 := (hw1.far (p := ⟨w.heap.size, 0, none⟩) (by show w.heap.size + 1 ≠ w.heap.size; omega) X)
  have e2 := (e1.put 0 X).put 1 (.slice A' n' c')
  have e3 : (((#[z, .slice none 0 0] : Array Value).setIfInBounds 0 X).setIfInBounds 1 (.slice A' n' c')) = #[X, .slice A' n' c'] := by simp
  rw [e3] at e2
  have e4 := ((hx.put (p := ⟨w.heap.size, 0, none⟩) X (.inl rfl)).put (p := ⟨w.heap.size + 1, 0, none⟩) X (.inr rfl)).put (p := ⟨w.heap.size + 1, 1, none⟩) (.slice A' n' c') (.inr rfl)
  refine ⟨e2, ⟨A', n', c', KL', by rw [hX]; rfl, e4.sees, hk, hn⟩, ?_⟩
  exact ((hB.setCell (p := ⟨w.heap.size, 0, none⟩) (Nat.le_refl _) _).setCell (p := ⟨w.heap.size + 1, 0, none⟩) (Nat.le_succ _) _).setCell (p := ⟨w.heap.size + 1, 1, none⟩) (Nat.le_succ _) _

set_option maxHeartbeats 40000000 in
set_option maxRecDepth 20000 in
theorem RefName_in (w : World) (l : List UInt8) (A : Option Addr) (n c : Nat) (KL : KnL) (S : ByteArray) (L : List (List UInt8)) (may : Bool) (h : SeesK w w.heap.size A n KL) (hnl : n ≤ l.length) (hl : l.length ≤ 900000) (hS : S = mk (enc L)) (hG : Good L) (hlen : (enc L).length ≤ 255)
    (hK : ∀ r t, kf KL r = some t → t < 16384) :
    Calls Tryz.prog 181 #[rpV l A n c, .string S, .bool may] w fun e w' => ∃ v, e = .returned v ∧ RefPk w' (putL may L l (kf KL)).1 (putL may L l (kf KL)).2 v ∧ Below w.heap.size w w' := by
  have FB : Below w.heap.size w ((w.alloc (.cells #[.string (mk l), .slice A n c] rpT)).alloc (.cells #[.string ⟨#[]⟩, .slice none 0 0] rpT)) := ((Below.refl _ _).alloc (Nat.le_refl _) _).alloc (by simp) _
  have W0 := (Whole.new w rpT #[.string (mk l), .slice A n c]).alloc (.cells #[.string ⟨#[]⟩, .slice none 0 0] rpT)
  have W1 := Whole.new (w.alloc (.cells #[.string (mk l), .slice A n c] rpT)) rpT #[.string ⟨#[]⟩, .slice none 0 0]
  rw [World.size_alloc] at W1
  have hX : SeesX ((w.alloc (.cells #[.string (mk l), .slice A n c] rpT)).alloc (.cells #[.string ⟨#[]⟩, .slice none 0 0] rpT)) w.heap.size A n KL :=
    ⟨h.1, fun hn => by
      obtain ⟨b, off, e, h1, ⟨cs, fr, ht⟩, hc⟩ := h.2 hn
      exact ⟨b, off, e, by simp; omega, by omega, by omega, ⟨cs, fr, (FB.block b h1).trans ht⟩, fun j u hu => (FB.cell h1).trans (hc j u hu)⟩⟩
  have HX := Lib.hid hX
  have HFB := Lib.hid FB
  have HW0 := Lib.hid W0
  have HW1 := Lib.hid W1
  have HS := Lib.hid hS
  have HG := Lib.hid hG
  have HK := Lib.hid hK
  clear h hS hG hK hX FB W0 W1
  unfold rpV
  go_enter Tryz.func181, Tryz.ntmps181
  go_wp2_with fail
  revert HX HFB HW0 HW1
  generalize (w.alloc (.cells #[.string (mk l), .slice A n c] rpT)).alloc (.cells #[.string ⟨#[]⟩, .slice none 0 0] rpT) = W
  intro HX HFB HW0 HW1
  go_loopw [1] (fun nV wr => RefNameAt w may L l (kf KL) nV wr) (fun nV _ => sizeS nV)
  case atStart => exact ⟨L, l, A, n, c, KL, by rw [HS.out], HG.out, hlen, HW0.out, HW1.out, HX.out, hnl, by omega, rfl, HK.out, HFB.out⟩
  case round =>
    obtain ⟨L', l', A', n', c', KL', rfl, hg, hlen', hw0, hw1, hx, hnl', hroom, hput, hlt, hB⟩ := hrel
    have HW0 := Lib.hid hw0
    have HW1 := Lib.hid hw1
    have HX := Lib.hid hx
    have HG := Lib.hid hg
    have HP := Lib.hid hput
    have HLT := Lib.hid hlt
    have HB := Lib.hid hB
    have c0 : wr.cell? ⟨w.heap.size, 0, none⟩ = some (.string (mk l')) := (hw0.cell 0).trans rfl
    have c1 : wr.cell? ⟨w.heap.size, 1, none⟩ = some (.slice A' n' c') := (hw0.cell 1).trans rfl
    have f0 : wr.frozen? ⟨w.heap.size, 0, none⟩ = false := hw0.frozen 0
    have d0 : wr.cell? ⟨w.heap.size + 1, 0, none⟩ = some (.string ⟨#[]⟩) := (hw1.cell 0).trans rfl
    have d1 : wr.cell? ⟨w.heap.size + 1, 1, none⟩ = some (.slice none 0 0) := (hw1.cell 1).trans rfl
    have e0 : wr.frozen? ⟨w.heap.size + 1, 0, none⟩ = false := hw1.frozen 0
    have e1 : wr.frozen? ⟨w.heap.size + 1, 1, none⟩ = false := hw1.frozen 1
    clear hw0 hw1 hx hg hput hlt hB HFB
    cases L' with
    | nil =>
      have hT : ((mk (enc [])).toList == [0]) = true := by rw [mk_is]; rfl
      have hpt : putL may [] l' (kf KL') = (l' ++ [0], kf KL') := rfl
      have HPT := Lib.hid (HP.out.trans hpt)
      have hap : Value.string (mk l' ++ ⟨#[0]⟩) = .string (mk (l' ++ [0])) := by rw [show (⟨#[0]⟩ : ByteArray) = mk [0] from rfl, mk_append]
      obtain ⟨r1, r2, r3⟩ := ref_end (X := .string (mk l' ++ ⟨#[0]⟩)) HW0.out HW1.out HX.out HB.out hap rfl (by simp; omega)
      have R1 := Lib.hid r1
      have R2 := Lib.hid r2
      have R3 := Lib.hid r3
      have hms := mk_size l'
      have hll : l'.length ≤ 901000 := by omega
      clear hpt hap r1 r2 r3
      go_wp2_with fail
      refine ret2 rfl rfl rfl R1.out ⟨_, rfl, ?_, R3.out⟩
      rw [HPT.out]
      exact R2.out
    | cons x M =>
      have hT := @enc_is_root x M
      obtain ⟨T, hTT⟩ : ∃ T, T = mk (enc (x :: M)) := ⟨_, rfl⟩
      rw [← hTT] at hT ⊢
      have HT := Lib.hid hTT
      have hms := mk_size l'
      have hll : l'.length ≤ 901000 := by omega
      obtain ⟨Y, hY⟩ : ∃ Y, Y = mk l' := ⟨_, rfl⟩
      rw [← hY] at c0 hms
      have HY := Lib.hid hY
      have hx63 := HG.out x (by simp)
      have hxl := enc_len_cons x M
      have hTz : T.size = x.length + 1 + (enc M).length := by rw [hTT, mk_size, hxl]
      clear hTT hY
      cases hk : knownK may (kf KL') (enc (x :: M)) with
      | some t =>
        obtain ⟨rfl, hkr⟩ := known_some hk
        have ht := HLT.out _ _ hkr
        have hpt : putL true (x :: M) l' (kf KL') = (l' ++ ptrB t, kf KL') := put_ptr hk
        have HPT := Lib.hid (HP.out.trans hpt)
        have hfi : kfI KL' (enc (x :: M)) = (t : Int) := by unfold kfI; rw [hkr]
        have HFI := Lib.hid hfi
        have ht0 : (0 : Int) ≤ (t : Int) := by omega
        clear hpt hk hkr hfi
        go_wp2_with fail
        refine (find_any Y A' n' c' _ KL' T (enc (x :: M)) _ HX.out.sees (Nat.le_refl _) (by omega) HT.out).mono ?_
        rw [HFI.out]
        rintro e w2 ⟨rfl, hB2⟩
        have HW02 := Lib.hid (show Whole w2 w.heap.size rpT #[.string Y, .slice A' n' c'] from by rw [HY.out]; exact HW0.out.below hB2 HW0.out.lt)
        have HW12 := Lib.hid (HW1.out.below hB2 HW1.out.lt)
        have HX2 := Lib.hid (HX.out.keep hB2)
        have HB2 := Lib.hid (HB.out.trans (hB2.mono HB.out.size))
        clear hB2 c0 c1 f0 d0 d1 e0 e1
        obtain ⟨c0, c1, f0, f1, d0, d1, e0, e1⟩ := rp_facts HW02.out HW12.out
        have hcv := two_str w2 t ht
        have ho := (Below.refl w2.heap.size w2).alloc (Nat.le_refl _) (.cells #[.int .u8 (192 + (t : Int) / 256), .int .u8 ((t : Int) % 256)] 5)
        have HW03 := Lib.hid (HW02.out.alloc (.cells #[.int .u8 (192 + (t : Int) / 256), .int .u8 ((t : Int) % 256)] 5))
        have HW13 := Lib.hid (HW12.out.alloc (.cells #[.int .u8 (192 + (t : Int) / 256), .int .u8 ((t : Int) % 256)] 5))
        have hap : Value.string (Y ++ mk (ptrB t)) = .string (mk (l' ++ ptrB t)) := by rw [HY.out, mk_append]
        obtain ⟨r1, r2, r3⟩ := ref_end (X := .string (Y ++ mk (ptrB t))) HW03.out HW13.out (HX2.out.keep ho) (HB2.out.trans (ho.mono HB2.out.size)) hap rfl (by simp; omega)
        have R1 := Lib.hid r1
        have R2 := Lib.hid r2
        have R3 := Lib.hid r3
        have hpz : (mk (ptrB t)).size = 2 := by rw [mk_size, ptr_len]
        clear hap r1 r2 r3 ho
        obtain ⟨c0', c1', f0', f1', d0', d1', e0', e1'⟩ := rp_facts HW03.out HW13.out
        go_wp2_with fail
        refine ret2 rfl rfl rfl R1.out ⟨_, rfl, ?_, R3.out⟩
        rw [HPT.out]
        exact R2.out
      | none =>
        cases hkr : kf KL' (enc (x :: M)) with
        | some t =>
          have hmay : may = false := by
            unfold knownK at hk
            cases may
            · rfl
            · rw [if_pos rfl, hkr] at hk; cases hk
          subst hmay
          have hfi : kfI KL' (enc (x :: M)) = (t : Int) := by unfold kfI; rw [hkr]
          have HFI := Lib.hid hfi
          have ht0 : (0 : Int) ≤ (t : Int) := by omega
          have hKK : learnK (kf KL') (enc (x :: M)) l'.length = kf KL' := by unfold learnK; rw [if_neg (by rw [hkr]; simp)]
          clear hkr hfi
          go_wp2_with fail
          refine (find_any Y A' n' c' _ KL' T (enc (x :: M)) _ HX.out.sees (Nat.le_refl _) (by omega) HT.out).mono ?_
          rw [HFI.out]
          rintro e w2 ⟨rfl, hB2⟩
          have HW02 := Lib.hid (show Whole w2 w.heap.size rpT #[.string Y, .slice A' n' c'] from by rw [HY.out]; exact HW0.out.below hB2 HW0.out.lt)
          have HW12 := Lib.hid (HW1.out.below hB2 HW1.out.lt)
          have HX2 := Lib.hid (HX.out.keep hB2)
          have HB2 := Lib.hid (HB.out.trans (hB2.mono HB.out.size))
          clear hB2 c0 c1 f0 d0 d1 e0 e1
          have HPO := Lib.hid (HP.out.trans (show putL _ (x :: M) l' (kf KL') = putL _ M (l' ++ lab x) (kf KL') from by rw [put_on hk, hKK]))
          obtain ⟨c0, c1, f0, f1, d0, d1, e0, e1⟩ := rp_facts HW02.out HW12.out
          have hc0 : (T[0]'(by omega)).toNat = x.length := by
            have hl0 : 0 < (enc (x :: M)).length := by omega
            rw [mk_get HT.out (by omega) hl0]
            have e : (enc (x :: M))[0] = UInt8.ofNat x.length := by simp [enc_cons, lab]
            rw [e, UInt8.toNat_ofNat']; have := hx63.2; omega
          have hcut1 : Y ++ T.extract 0 (1 + x.length) = mk (l' ++ lab x) := by
            rw [HY.out, HT.out, mk_extract, List.drop_zero, enc_cons, List.take_left' (by rw [lab_len]; omega), mk_append]
          have hcut2 : T.extract (1 + x.length) T.size = mk (enc M) := by
            rw [HT.out, mk_extract, mk_size, List.take_length, enc_cons, List.drop_left' (by rw [lab_len]; omega)]
          have hxs : (T.extract 0 (1 + x.length)).size = x.length + 1 := by rw [ByteArray.size_extract]; omega
          have HC1 := Lib.hid hcut1
          have HC2 := Lib.hid hcut2
          have g3 : (1 : Int) + (x.length : Int) ≤ (T.size : Int) := by omega
          have g4 : 0 < T.size := by omega
          clear hcut1 hcut2 hk
          go_wp2_with fail
          go_region
          all_goals (
            go_wp2_with fail
            go_roundw
            case rel =>
              refine ⟨M, l' ++ lab x, A', n', c', KL', by first | rw [HC2.out] | rw [← hTz, HC2.out], HG.out.tail, by omega, ?_, (HW12.out).drew.far (p := ⟨w.heap.size, 0, none⟩) (by show w.heap.size + 1 ≠ w.heap.size; omega) _, ((HX2.out).keep (Below.refl _ _).drew).put (p := ⟨w.heap.size, 0, none⟩) _ (.inl rfl), by rw [List.length_append, lab_len]; omega, by rw [List.length_append, lab_len]; omega, HPO.out, by rw [← hKK]; exact learn_lt HLT.out, (HB2.out).drew.setCell (p := ⟨w.heap.size, 0, none⟩) (Nat.le_refl _) _⟩
              rw [← HC1.out]
              have hq := (HW02.out).put 0 (.string (Y ++ T.extract 0 (1 + x.length)))
              have hq2 : Whole (w2.setCell ⟨w.heap.size, 0, none⟩ (.string (Y ++ T.extract 0 (1 + x.length)))) w.heap.size rpT #[.string (Y ++ T.extract 0 (1 + x.length)), .slice A' n' c'] := by simpa using hq
              exact hq2
            case measure => simp only [sizeS, ByteArray.size_extract]; omega)
        | none =>
          have hfi : kfI KL' (enc (x :: M)) = -1 := by unfold kfI; rw [hkr]
          have HFI := Lib.hid hfi
          by_cases h4 : l'.length < 16384
          · have hKK : learnK (kf KL') (enc (x :: M)) l'.length = kf (KL' ++ [(enc (x :: M), l'.length)]) := by unfold learnK; rw [if_pos ⟨by rw [hkr]; rfl, h4⟩, kf_none_snoc hkr]
            have g5 : (l'.length : Int) < 16384 := by omega
            clear hkr hfi
            go_wp2_with fail
            refine (find_any Y A' n' c' _ KL' T (enc (x :: M)) _ HX.out.sees (Nat.le_refl _) (by omega) HT.out).mono ?_
            rw [HFI.out]
            rintro e w2 ⟨rfl, hB2⟩
            have HW02 := Lib.hid (show Whole w2 w.heap.size rpT #[.string Y, .slice A' n' c'] from by rw [HY.out]; exact HW0.out.below hB2 HW0.out.lt)
            have HW12 := Lib.hid (HW1.out.below hB2 HW1.out.lt)
            have HX2 := Lib.hid (HX.out.keep hB2)
            have HB2 := Lib.hid (HB.out.trans (hB2.mono HB.out.size))
            clear hB2 c0 c1 f0 d0 d1 e0 e1
            obtain ⟨c0, c1, f0, f1, d0, d1, e0, e1⟩ := rp_facts HW02.out HW12.out
            go_wp2_with fail
            have bE := (Below.refl w2.heap.size w2).alloc (Nat.le_refl _) (.cells #[] 207)
            have bS := (Below.refl w2.heap.size w2).alloc (Nat.le_refl _) (.cells #[.string T, .int .i64 (l'.length : Nat)] 207)
            have bES := bE.alloc bE.size (.cells #[.string T, .int .i64 (l'.length : Nat)] 207)
            have bSE := bS.alloc bS.size (.cells #[] 207)
            obtain ⟨bE0, bE1, bE2, bE3, _⟩ := rp_facts (HW02.out.below bE HW02.out.lt) (HW12.out.below bE HW12.out.lt)
            obtain ⟨bS0, bS1, bS2, bS3, _⟩ := rp_facts (HW02.out.below bS HW02.out.lt) (HW12.out.below bS HW12.out.lt)
            obtain ⟨bES0, bES1, bES2, bES3, _⟩ := rp_facts (HW02.out.below bES HW02.out.lt) (HW12.out.below bES HW12.out.lt)
            obtain ⟨bSE0, bSE1, bSE2, bSE3, _⟩ := rp_facts (HW02.out.below bSE HW02.out.lt) (HW12.out.below bSE HW12.out.lt)
            have oE := own_noneK w2 w2.heap.size (Nat.le_refl _)
            have oES : ((w2.alloc (.cells #[] 207)).alloc (.cells #[.string T, .int .i64 (l'.length : Nat)] 207)).ownsRow w2.heap.size 207 2 (.slice (some ⟨w2.heap.size, 0, none⟩) 0 0) 0 [] := own_below oE ((Below.refl _ _).alloc (Nat.le_refl _) _)
            have oSE : ((w2.alloc (.cells #[.string T, .int .i64 (l'.length : Nat)] 207)).alloc (.cells #[] 207)).ownsRow w2.heap.size 207 2 (.slice (some ⟨w2.heap.size + 1, 0, none⟩) 0 0) 0 [] := by have := own_noneK (w2.alloc (.cells #[.string T, .int .i64 (l'.length : Nat)] 207)) w2.heap.size (by simp); rwa [World.size_alloc] at this
            have wS : Whole (w2.alloc (.cells #[.string T, .int .i64 (l'.length : Nat)] 207)) w2.heap.size 207 #[.string T, .int .i64 (l'.length : Nat)] := Whole.new w2 _ _
            have wES : Whole ((w2.alloc (.cells #[] 207)).alloc (.cells #[.string T, .int .i64 (l'.length : Nat)] 207)) (w2.heap.size + 1) 207 #[.string T, .int .i64 (l'.length : Nat)] := by have := Whole.new (w2.alloc (.cells #[] 207)) 207 #[.string T, .int .i64 (l'.length : Nat)]; rwa [World.size_alloc] at this
            have BzbE := Lib.hid bE
            have BzbS := Lib.hid bS
            have BzbES := Lib.hid bES
            have BzbSE := Lib.hid bSE
            have OzoE := Lib.hid oE
            have OzoES := Lib.hid oES
            have OzoSE := Lib.hid oSE
            have WzwS := Lib.hid wS
            have WzwES := Lib.hid wES
            clear bE bS bES bSE oE oES oSE wS wES
            go_region_law (first
              | (refine step_append_K (by rfl) (.tmp 41) (.tmp 43) (by rfl) w2.heap.size (.slice (some ⟨w2.heap.size, 0, none⟩) 0 0) 0 [] (by rfl) (own_below OzoE.out (Below.refl _ _).drew) (by simp) w2.heap.size A' n' c' KL' (by rfl) (HX2.out.sees.keep BzbE.out.drew) n' (Nat.zero_add n') (kcells KL') (by rfl) (by omega) BzbE.out.drew.size ?_; intro v1 w1 hown1 hgrow1 hne1; have HB1 := Lib.hid (BzbE.out.drew.grown hgrow1 BzbE.out.drew.size (fun z hz => by simp [Value.ownBlock] at hz; omega)); have HO6 := Lib.hid hown1; have HN1 := Lib.hid hne1; have HWS := Lib.hid ((Whole.new w1 207 #[.string T, .int .i64 (l'.length : Nat)])); clear hown1 hgrow1 hne1; obtain ⟨k0, k1, k2, k3, _⟩ := rp_facts (HW02.out.below HB1.out HW02.out.lt) (HW12.out.below HB1.out HW12.out.lt); obtain ⟨j0, j1, j2, j3, _⟩ := rp_facts (HW02.out.below (HB1.out.alloc HB1.out.size (.cells #[.string T, .int .i64 (l'.length : Nat)] 207)) HW02.out.lt) (HW12.out.below (HB1.out.alloc HB1.out.size (.cells #[.string T, .int .i64 (l'.length : Nat)] 207)) HW12.out.lt))
              | (refine step_append_K (by rfl) (.tmp 41) (.tmp 43) (by rfl) w2.heap.size (.slice (some ⟨w2.heap.size, 0, none⟩) 0 0) 0 [] (by rfl) (own_below OzoES.out (Below.refl _ _).drew) (by simp) w2.heap.size A' n' c' KL' (by rfl) (HX2.out.sees.keep BzbES.out.drew) n' (Nat.zero_add n') (kcells KL') (by rfl) (by omega) BzbES.out.drew.size ?_; intro v1 w1 hown1 hgrow1 hne1; have HB1 := Lib.hid (BzbES.out.drew.grown hgrow1 BzbES.out.drew.size (fun z hz => by simp [Value.ownBlock] at hz; omega)); have HO6 := Lib.hid hown1; have HN1 := Lib.hid hne1; have HWS := Lib.hid ((show Whole w1 (w2.heap.size + 1) 207 #[.string T, .int .i64 (l'.length : Nat)] from WzwES.out.drew.grown hgrow1 (by simp [Value.ownBlock]))); clear hown1 hgrow1 hne1; obtain ⟨k0, k1, k2, k3, _⟩ := rp_facts (HW02.out.below HB1.out HW02.out.lt) (HW12.out.below HB1.out HW12.out.lt); obtain ⟨j0, j1, j2, j3, _⟩ := rp_facts (HW02.out.below (HB1.out.alloc HB1.out.size (.cells #[.string T, .int .i64 (l'.length : Nat)] 207)) HW02.out.lt) (HW12.out.below (HB1.out.alloc HB1.out.size (.cells #[.string T, .int .i64 (l'.length : Nat)] 207)) HW12.out.lt))
              | (refine step_append_K (by rfl) (.tmp 41) (.tmp 43) (by rfl) w2.heap.size (.slice (some ⟨w2.heap.size + 1, 0, none⟩) 0 0) 0 [] (by rfl) (own_below OzoSE.out (Below.refl _ _).drew) (by simp) w2.heap.size A' n' c' KL' (by rfl) (HX2.out.sees.keep BzbSE.out.drew) n' (Nat.zero_add n') (kcells KL') (by rfl) (by omega) BzbSE.out.drew.size ?_; intro v1 w1 hown1 hgrow1 hne1; have HB1 := Lib.hid (BzbSE.out.drew.grown hgrow1 BzbSE.out.drew.size (fun z hz => by simp [Value.ownBlock] at hz; omega)); have HO6 := Lib.hid hown1; have HN1 := Lib.hid hne1; have HWS := Lib.hid ((show Whole w1 w2.heap.size 207 #[.string T, .int .i64 (l'.length : Nat)] from ((WzwS.out.alloc (.cells #[] 207)).drew.grown hgrow1 (by simp [Value.ownBlock])))); clear hown1 hgrow1 hne1; obtain ⟨k0, k1, k2, k3, _⟩ := rp_facts (HW02.out.below HB1.out HW02.out.lt) (HW12.out.below HB1.out HW12.out.lt); obtain ⟨j0, j1, j2, j3, _⟩ := rp_facts (HW02.out.below (HB1.out.alloc HB1.out.size (.cells #[.string T, .int .i64 (l'.length : Nat)] 207)) HW02.out.lt) (HW12.out.below (HB1.out.alloc HB1.out.size (.cells #[.string T, .int .i64 (l'.length : Nat)] 207)) HW12.out.lt))
              | (refine step_append_K (by rfl) (.tmp 44) (.tmp 50) (by rfl) w2.heap.size v1 n' (kcells KL') (by rfl) (own_below HO6.out ((Below.refl _ _).alloc (Nat.le_refl _) _)) HN1.out _ (some ⟨w1.heap.size, 0, none⟩) 1 1 [(enc (x :: M), l'.length)] (by rfl) (sees_oneK (by rw [← HT.out]; exact HWS.out)) (n' + 1) rfl (kcells (KL' ++ [(enc (x :: M), l'.length)])) (by rw [kcells_snoc]; rfl) (by omega) (HB1.out.alloc HB1.out.size (.cells #[.string T, .int .i64 (l'.length : Nat)] 207)).size ?_; intro v2 w3 hown2 hgrow2 _; have HB3 := Lib.hid ((HB1.out.alloc HB1.out.size (.cells #[.string T, .int .i64 (l'.length : Nat)] 207)).grown hgrow2 (HB1.out.alloc HB1.out.size (.cells #[.string T, .int .i64 (l'.length : Nat)] 207)).size (fun z hz => (HO6.out.lt z hz).1)); obtain ⟨A4, c4, rfl, hx4⟩ := SeesX.own (g := w.heap.size) hown2 (by have := HW12.out.lt; omega) (by rw [List.length_append, HX2.out.1]; rfl); have HX3 := Lib.hid hx4; clear hown2 hgrow2 hx4; obtain ⟨i0, i1, i2, i3, _⟩ := rp_facts (HW02.out.below HB3.out HW02.out.lt) (HW12.out.below HB3.out HW12.out.lt))
              | (refine step_append_K (by rfl) (.tmp 44) (.tmp 50) (by rfl) w2.heap.size v1 n' (kcells KL') (by rfl) HO6.out HN1.out _ (some ⟨w2.heap.size + 1, 0, none⟩) 1 1 [(enc (x :: M), l'.length)] (by rfl) (sees_oneK (by rw [← HT.out]; exact HWS.out)) (n' + 1) rfl (kcells (KL' ++ [(enc (x :: M), l'.length)])) (by rw [kcells_snoc]; rfl) (by omega) HB1.out.size ?_; intro v2 w3 hown2 hgrow2 _; have HB3 := Lib.hid (HB1.out.grown hgrow2 HB1.out.size (fun z hz => (HO6.out.lt z hz).1)); obtain ⟨A4, c4, rfl, hx4⟩ := SeesX.own (g := w.heap.size) hown2 (by have := HW12.out.lt; omega) (by rw [List.length_append, HX2.out.1]; rfl); have HX3 := Lib.hid hx4; clear hown2 hgrow2 hx4; obtain ⟨i0, i1, i2, i3, _⟩ := rp_facts (HW02.out.below HB3.out HW02.out.lt) (HW12.out.below HB3.out HW12.out.lt))
              | (refine step_append_K (by rfl) (.tmp 44) (.tmp 50) (by rfl) w2.heap.size v1 n' (kcells KL') (by rfl) HO6.out HN1.out _ (some ⟨w2.heap.size, 0, none⟩) 1 1 [(enc (x :: M), l'.length)] (by rfl) (sees_oneK (by rw [← HT.out]; exact HWS.out)) (n' + 1) rfl (kcells (KL' ++ [(enc (x :: M), l'.length)])) (by rw [kcells_snoc]; rfl) (by omega) HB1.out.size ?_; intro v2 w3 hown2 hgrow2 _; have HB3 := Lib.hid (HB1.out.grown hgrow2 HB1.out.size (fun z hz => (HO6.out.lt z hz).1)); obtain ⟨A4, c4, rfl, hx4⟩ := SeesX.own (g := w.heap.size) hown2 (by have := HW12.out.lt; omega) (by rw [List.length_append, HX2.out.1]; rfl); have HX3 := Lib.hid hx4; clear hown2 hgrow2 hx4; obtain ⟨i0, i1, i2, i3, _⟩ := rp_facts (HW02.out.below HB3.out HW02.out.lt) (HW12.out.below HB3.out HW12.out.lt)))
            all_goals (
              have HW04 := Lib.hid (show Whole (w3.setCell ⟨w.heap.size, 1, none⟩ (.slice A4 (n' + 1) c4)) w.heap.size rpT #[.string Y, .slice A4 (n' + 1) c4] from by simpa using (HW02.out.below HB3.out HW02.out.lt).put 1 (.slice A4 (n' + 1) c4))
              have HW14 := Lib.hid ((HW12.out.below HB3.out HW12.out.lt).far (p := ⟨w.heap.size, 1, none⟩) (by show w.heap.size + 1 ≠ w.heap.size; omega) (.slice A4 (n' + 1) c4))
              have HX4 := Lib.hid (HX3.out.put (p := ⟨w.heap.size, 1, none⟩) (.slice A4 (n' + 1) c4) (.inl rfl))
              have HB4 := Lib.hid ((HB2.out.trans (HB3.out.mono HB2.out.size)).setCell (p := ⟨w.heap.size, 1, none⟩) (Nat.le_refl _) (.slice A4 (n' + 1) c4))
              revert HW04 HW14 HX4 HB4
              generalize w3.setCell ⟨w.heap.size, 1, none⟩ (.slice A4 (n' + 1) c4) = w4
              intro HW04 HW14 HX4 HB4
              have HPO := Lib.hid (HP.out.trans (show putL _ (x :: M) l' (kf KL') = putL _ M (l' ++ lab x) (kf (KL' ++ [(enc (x :: M), l'.length)])) from by rw [put_on hk, hKK]))
              obtain ⟨c0, c1, f0, f1, d0, d1, e0, e1⟩ := rp_facts HW04.out HW14.out
              have hc0 : (T[0]'(by omega)).toNat = x.length := by
                have hl0 : 0 < (enc (x :: M)).length := by omega
                rw [mk_get HT.out (by omega) hl0]
                have e : (enc (x :: M))[0] = UInt8.ofNat x.length := by simp [enc_cons, lab]
                rw [e, UInt8.toNat_ofNat']; have := hx63.2; omega
              have hcut1 : Y ++ T.extract 0 (1 + x.length) = mk (l' ++ lab x) := by
                rw [HY.out, HT.out, mk_extract, List.drop_zero, enc_cons, List.take_left' (by rw [lab_len]; omega), mk_append]
              have hcut2 : T.extract (1 + x.length) T.size = mk (enc M) := by
                rw [HT.out, mk_extract, mk_size, List.take_length, enc_cons, List.drop_left' (by rw [lab_len]; omega)]
              have hxs : (T.extract 0 (1 + x.length)).size = x.length + 1 := by rw [ByteArray.size_extract]; omega
              have HC1 := Lib.hid hcut1
              have HC2 := Lib.hid hcut2
              have g3 : (1 : Int) + (x.length : Int) ≤ (T.size : Int) := by omega
              have g4 : 0 < T.size := by omega
              clear hcut1 hcut2 hk
              go_wp2_with fail
              go_region
              all_goals (
                go_wp2_with fail
                go_roundw
                case rel =>
                  refine ⟨M, l' ++ lab x, A4, (n' + 1), c4, (KL' ++ [(enc (x :: M), l'.length)]), by first | rw [HC2.out] | rw [← hTz, HC2.out], HG.out.tail, by omega, ?_, (HW14.out).drew.far (p := ⟨w.heap.size, 0, none⟩) (by show w.heap.size + 1 ≠ w.heap.size; omega) _, ((HX4.out).keep (Below.refl _ _).drew).put (p := ⟨w.heap.size, 0, none⟩) _ (.inl rfl), by rw [List.length_append, lab_len]; omega, by rw [List.length_append, lab_len]; omega, HPO.out, by rw [← hKK]; exact learn_lt HLT.out, (HB4.out).drew.setCell (p := ⟨w.heap.size, 0, none⟩) (Nat.le_refl _) _⟩
                  rw [← HC1.out]
                  have hq := (HW04.out).put 0 (.string (Y ++ T.extract 0 (1 + x.length)))
                  have hq2 : Whole (w4.setCell ⟨w.heap.size, 0, none⟩ (.string (Y ++ T.extract 0 (1 + x.length)))) w.heap.size rpT #[.string (Y ++ T.extract 0 (1 + x.length)), .slice A4 (n' + 1) c4] := by simpa using hq
                  exact hq2
                case measure => simp only [sizeS, ByteArray.size_extract]; omega))
          · have hKK : learnK (kf KL') (enc (x :: M)) l'.length = kf KL' := by unfold learnK; rw [if_neg (by intro h; exact h4 h.2)]
            have g5 : decide ((l'.length : Int) < 16384) = false := by rw [decide_eq_false_iff_not]; omega
            clear hkr hfi
            go_wp2_with fail
            refine (find_any Y A' n' c' _ KL' T (enc (x :: M)) _ HX.out.sees (Nat.le_refl _) (by omega) HT.out).mono ?_
            rw [HFI.out]
            rintro e w2 ⟨rfl, hB2⟩
            have HW02 := Lib.hid (show Whole w2 w.heap.size rpT #[.string Y, .slice A' n' c'] from by rw [HY.out]; exact HW0.out.below hB2 HW0.out.lt)
            have HW12 := Lib.hid (HW1.out.below hB2 HW1.out.lt)
            have HX2 := Lib.hid (HX.out.keep hB2)
            have HB2 := Lib.hid (HB.out.trans (hB2.mono HB.out.size))
            clear hB2 c0 c1 f0 d0 d1 e0 e1
            have HPO := Lib.hid (HP.out.trans (show putL _ (x :: M) l' (kf KL') = putL _ M (l' ++ lab x) (kf KL') from by rw [put_on hk, hKK]))
            obtain ⟨c0, c1, f0, f1, d0, d1, e0, e1⟩ := rp_facts HW02.out HW12.out
            have hc0 : (T[0]'(by omega)).toNat = x.length := by
              have hl0 : 0 < (enc (x :: M)).length := by omega
              rw [mk_get HT.out (by omega) hl0]
              have e : (enc (x :: M))[0] = UInt8.ofNat x.length := by simp [enc_cons, lab]
              rw [e, UInt8.toNat_ofNat']; have := hx63.2; omega
            have hcut1 : Y ++ T.extract 0 (1 + x.length) = mk (l' ++ lab x) := by
              rw [HY.out, HT.out, mk_extract, List.drop_zero, enc_cons, List.take_left' (by rw [lab_len]; omega), mk_append]
            have hcut2 : T.extract (1 + x.length) T.size = mk (enc M) := by
              rw [HT.out, mk_extract, mk_size, List.take_length, enc_cons, List.drop_left' (by rw [lab_len]; omega)]
            have hxs : (T.extract 0 (1 + x.length)).size = x.length + 1 := by rw [ByteArray.size_extract]; omega
            have HC1 := Lib.hid hcut1
            have HC2 := Lib.hid hcut2
            have g3 : (1 : Int) + (x.length : Int) ≤ (T.size : Int) := by omega
            have g4 : 0 < T.size := by omega
            clear hcut1 hcut2 hk
            go_wp2_with fail
            go_region
            all_goals (
              go_wp2_with fail
              go_roundw
              case rel =>
                refine ⟨M, l' ++ lab x, A', n', c', KL', by first | rw [HC2.out] | rw [← hTz, HC2.out], HG.out.tail, by omega, ?_, (HW12.out).drew.far (p := ⟨w.heap.size, 0, none⟩) (by show w.heap.size + 1 ≠ w.heap.size; omega) _, ((HX2.out).keep (Below.refl _ _).drew).put (p := ⟨w.heap.size, 0, none⟩) _ (.inl rfl), by rw [List.length_append, lab_len]; omega, by rw [List.length_append, lab_len]; omega, HPO.out, by rw [← hKK]; exact learn_lt HLT.out, (HB2.out).drew.setCell (p := ⟨w.heap.size, 0, none⟩) (Nat.le_refl _) _⟩
                rw [← HC1.out]
                have hq := (HW02.out).put 0 (.string (Y ++ T.extract 0 (1 + x.length)))
                have hq2 : Whole (w2.setCell ⟨w.heap.size, 0, none⟩ (.string (Y ++ T.extract 0 (1 + x.length)))) w.heap.size rpT #[.string (Y ++ T.extract 0 (1 + x.length)), .slice A' n' c'] := by simpa using hq
                exact hq2
              case measure => simp only [sizeS, ByteArray.size_extract]; omega)
end Go.Proofs.YtnbapaimpoobkaaGreatDoor
