/- Parts of the proofs of the statements of image. No statement of the seat is proved here. -/
import Derived.RangeFuncNested
import Derived.RangeFuncBound
import Derived.RangeFuncCalls
import Derived.RangeFuncLeaves
import Derived.Shelf.Abstract
import Derived.Shelf.RegionOpen
import Derived.WalkKit
import Derived.OwnWalkIn
import Derived.TacticsInMore
import Derived.LoopNIn
import Derived.LoopIn
import Derived.Test.YtmpginmdaeclaaaGreatDoorNaM
import Derived.Test.YtmpginmdaeclaaaGreatDoorOcA
import Derived.Maps.AppendAt
import Derived.Lib.ConvBytes
set_option maxHeartbeats 32000000
set_option maxRecDepth 20000
namespace Go.Proofs.YtmpginmdaeclaaaGreatDoor
open Go.RowKit Go.Shelf
attribute [local go_sem] Oper.semAt_some
abbrev Pair := List UInt8 × List UInt8
abbrev encs2 (p : Pair) : Array Value := #[.string (mk p.1), .string (mk p.2)]
theorem Cut_no (X : ByteArray) (l : List UInt8) (w : World) (hX : X = mk l) (hl : l.length <= 1073741824) (h : cutL l = none) :
    Calls Tryz.prog 112 #[.string X, .int .i64 1] w fun e w' => e = .returned (.tuple #[.string empty, .string empty, .int .i64 2]) /\ Below w.heap.size w w' := by
  subst hX
  have := Cut_any (mk l) 1 w (by rw [mk_size]; exact hl)
  rwa [cut_none h] at this
theorem Cut_yes (X : ByteArray) (l a b : List UInt8) (w : World) (hX : X = mk l) (hl : l.length <= 1073741824) (h : cutL l = some (a, b)) :
    Calls Tryz.prog 112 #[.string X, .int .i64 1] w fun e w' => e = .returned (.tuple #[.string (mk a), .string (mk b), .int .i64 0]) /\ Below w.heap.size w w' := by
  subst hX
  have := Cut_any (mk l) 1 w (by rw [mk_size]; exact hl)
  rwa [cut_some h] at this
def CutAt (cur : List UInt8) (x y z : Value) : Prop :=
  (cutL cur = none /\ x = .string empty /\ y = .string empty /\ z = .int .i64 2) \/ (∃ a b, cutL cur = some (a, b) /\ x = .string (mk a) /\ y = .string (mk b) /\ z = .int .i64 0)
theorem Cut_at (X : ByteArray) (l : List UInt8) (w : World) (hX : X = mk l) (hl : l.length <= 1073741824) :
    Calls Tryz.prog 112 #[.string X, .int .i64 1] w fun e w' => (∃ x y z, e = .returned (.tuple #[x, y, z]) /\ CutAt l x y z) /\ Below w.heap.size w w' := by
  cases hc : cutL l with
  | none =>
    refine (Cut_no X l w hX hl hc).mono ?_
    rintro e w' ⟨rfl, hB⟩; exact ⟨⟨_, _, _, rfl, .inl ⟨hc, rfl, rfl, rfl⟩⟩, hB⟩
  | some p =>
    obtain ⟨a, b⟩ := p
    refine (Cut_yes X l a b w hX hl hc).mono ?_
    rintro e w' ⟨rfl, hB⟩; exact ⟨⟨_, _, _, rfl, .inr ⟨a, b, hc, rfl, rfl, rfl⟩⟩, hB⟩
def msr : Value -> Value -> Nat
  | .string b, .int _ k => b.size + (if k = 0 then 1 else 0)
  | _, _ => 0
theorem msr_ok (b : List UInt8) : msr (.string (mk b)) (.int .i64 0) = b.length + 1 := by simp [msr, mk_size]
theorem msr_no : msr (.string empty) (.int .i64 2) = 0 := rfl
theorem abides_below {β : Type} {B : Nat} {J : β -> World -> Prop} (h : AbidesFrom B J) {s : β} {W W' : World} (hs : J s W) (hb : Below W.heap.size W W') : J s W' :=
  h s W W' none hs ⟨hb.os, hb.tape, hb.output, hb.size, fun k hk _ => hb.block k hk⟩ (fun _ e => by cases e)
theorem mk_isEmpty (a : List UInt8) : (mk a).toList.isEmpty = a.isEmpty := by rw [ByteArray.toList_eq]; simp [mk]
theorem each1_in (l Bn n : Nat) (s : List UInt8) (hs : s.length <= 1073741824) (hn : 1 <= n) (J Jx : List Pair -> World -> Prop) (W : World) (hJ : AbidesFrom W.heap.size J)
    (hY : ∀ pre x W1, J pre W1 -> pre.length < (pairs s).length -> YieldAt Fence.wide (n - 1) Tryz.prog l (encs2 x) W1 fun e W' =>
      (e = .returned (.bool true) /\ J (pre ++ [x]) W' /\ True) \/ (e = .returned (.bool false) /\ Jx (pre ++ [x]) W'))
    (hBn : W.cell? ⟨Bn, 0, none⟩ = some (.string (mk s))) (h0 : J [] W) :
    CallsIn Fence.wide n Tryz.prog 170 #[.func (.yield l) #[] #[], .pointer (some ⟨Bn, 0, none⟩)] W fun e W' => (∃ v, e = .returned v) /\
      ((∃ ys, ys = pairs s /\ J ys W') \/ (∃ pre, pre <+: pairs s /\ Jx pre W')) := by
  refine callsIn_of_wp Tryz.func170 rfl trivial ?_ rfl
  simp only [Tryz.ntmps170, List.size_toArray, List.length_cons, List.length_nil, Nat.reduceAdd, Nat.reduceSub, Array.replicate_succ, Array.replicate_zero, List.push_toArray, List.append_toArray, List.nil_append, List.cons_append]
  gi_wp2_with (refine ⟨trivial, ?_⟩; gi_at_call 112; refine (callsIn_wide.2 (Cut_at _ s _ rfl hs)).mono ?_; rintro e w1 ⟨⟨x0, y0, z0, rfl, hc0⟩, hB⟩)
  gi_loopw [3, 4, 5] (fun x y z wr => ∃ (pre rest : List Pair) (cur : List UInt8), pairs s = pre ++ rest /\ pairs cur = rest /\ cur.length <= s.length /\ CutAt cur x y z /\ J pre wr) (fun _ y z _ => msr y z)
  case atStart => exact ⟨[], pairs s, s, rfl, rfl, Nat.le_refl _, hc0, abides_below hJ h0 hB⟩
  case round =>
    obtain ⟨pre, rest, cur, hp, hr, hlen, hc, hJs⟩ := hrel
    rcases hc with ⟨hc, rfl, rfl, rfl⟩ | ⟨a, b, hc, rfl, rfl, rfl⟩
    · have hend : pre = pairs s := by rw [hp, <-hr, pairs_none hc, List.append_nil]
      gi_wp2
      refine ⟨fun _ h => (by cases h), ?_⟩
      gi_wp2
      go_end0
      exact ⟨⟨_, rfl⟩, .inl ⟨pre, hend, hJs⟩⟩
    · by_cases ha : a = []
      · have hend : pre = pairs s := by rw [hp, <-hr, pairs_empty (by rw [hc, ha]), List.append_nil]
        have he : (mk a).toList.isEmpty = true := by rw [mk_isEmpty, ha]; rfl
        have HC := Ha hc
        clear hc ha
        gi_wp2
        refine ⟨fun _ h => (by cases h), ?_⟩
        gi_wp2
        go_end0
        exact ⟨⟨_, rfl⟩, .inl ⟨pre, hend, hJs⟩⟩
      · have hps : pairs cur = (a, b) :: pairs b := pairs_some hc ha
        have he : (mk a).toList.isEmpty = false := by rw [mk_isEmpty]; cases a <;> simp_all
        have hbl : b.length < cur.length := by have := cutL_lt hc; omega
        have hlt : pre.length < (pairs s).length := by rw [hp, <-hr, hps]; simp
        have hsplit : pairs s = (pre ++ [(a, b)]) ++ pairs b := by rw [hp, <-hr, hps]; simp
        obtain ⟨fn, tmps, assign, body, hy, hR⟩ := hY pre (a, b) wr hJs hlt
        dsimp only [encs2] at hy
        have HC := Ha hc
        have HP := Ha hps
        have HS := Ha hsplit
        clear hc ha hps hp hr hsplit hlt hY
        gi_wp2
        refine hR.mono ?_
        rintro e W3 (⟨rfl, hJ3, _⟩ | ⟨rfl, hJx3⟩)
        · gi_wp2_with (refine ⟨trivial, ?_⟩; gi_at_call 112; refine (callsIn_wide.2 (Cut_at _ b _ rfl (by omega))).mono ?_; rintro e w4 ⟨⟨x4, y4, z4, rfl, hc4⟩, hB4⟩)
          go_roundw
          case rel => exact ⟨pre ++ [(a, b)], pairs b, b, HS.out, rfl, by omega, hc4, abides_below hJ hJ3 hB4⟩
          case measure =>
            rw [show msr (.string (mk b)) (.int .i64 0) = b.length + 1 from msr_ok b]
            rcases hc4 with ⟨_, _, rfl, rfl⟩ | ⟨a5, b5, h5, _, rfl, rfl⟩
            · rw [msr_no]; omega
            · rw [msr_ok]; have := cutL_lt h5; omega
        · gi_wp2
          go_end0
          exact ⟨⟨_, rfl⟩, .inr ⟨pre ++ [(a, b)], ⟨pairs b, HS.out.symm⟩, hJx3⟩⟩
theorem each_in (n : Nat) (S : ByteArray) (w : World) :
    CallsIn Fence.wide n Tryz.prog 118 #[.string S] w fun e w' => e = .returned (.func (.func 170) #[] #[.pointer (some ⟨w.heap.size, 0, none⟩)]) /\ w' = w.alloc (.cells #[.string S] 9) := by
  refine callsIn_of_wp Tryz.func118 rfl trivial ?_ rfl
  simp only [Tryz.ntmps118, List.size_toArray, List.length_cons, List.length_nil, Nat.reduceAdd, Nat.reduceSub, Array.replicate_succ, Array.replicate_zero, List.push_toArray, List.append_toArray, List.nil_append, List.cons_append]
  gi_wp2
  go_ret
  exact ⟨rfl, rfl⟩
theorem each_stops (n Bn : Nat) (s : List UInt8) (hs : s.length <= 1073741824) (hn : 1 <= n) (w : World) (hBn : Bn < w.heap.size) (hc : w.cell? ⟨Bn, 0, none⟩ = some (.string (mk s))) :
    SeqStopsK Fence.wide n Tryz.prog 170 #[.pointer (some ⟨Bn, 0, none⟩)] encs2 (fun _ _ => True) (fun ys => ys = pairs s) (fun pre => pre <+: pairs s) (pairs s).length w := fun l J Jx W hW hJ _ hY h0 =>
  each1_in l Bn n s hs hn J Jx W hJ hY ((hW.cell (p := ⟨Bn, 0, none⟩) hBn).trans hc) h0
end Go.Proofs.YtmpginmdaeclaaaGreatDoor
namespace Go.Proofs.YtmpginmdaeclaaaGreatDoor
open Go.RowKit Go.Shelf
attribute [local go_sem] Oper.semAt_some
def Short (ps : List Pair) : Prop := ∀ p ∈ ps, p.1.length <= 63
theorem Short.nil : Short [] := fun p hp => by cases hp
theorem Short.snoc {ps : List Pair} {x : Pair} (h : Short ps) (hx : x.1.length <= 63) : Short (ps ++ [x]) := by
  intro p hp
  rcases List.mem_append.1 hp with h' | h'
  · exact h p h'
  · rw [List.mem_singleton] at h'; subst h'; exact hx
theorem Short.not {ps qs : List Pair} {x : Pair} (hx : ¬ x.1.length <= 63) (h : ps ++ [x] <+: qs) : ¬ Short qs := fun hq => hx (hq x (h.subset (by simp)))
def Long (ps : List Pair) : Prop := ∃ qs x, ps = qs ++ [x] /\ ¬ x.1.length <= 63
theorem Right_short (S : ByteArray) (s : List UInt8) (w : World) (hS : S = mk s) (hs : s.length <= 255) :
    Calls Tryz.prog 73 #[.string S] w fun e w' => e = .returned (.bool (nameL s).isSome) /\ Below w.heap.size w w' := by
  have hlen : ¬ (255 : Int) < (S.size : Int) := by rw [hS, mk_size]; omega
  have HS := Ha hS
  clear hS
  refine (callsIn_wide (n := 3)).1 ?_
  refine callsIn_of_wp_marks Tryz.func73 rfl trivial ?_ rfl
  simp only [Tryz.ntmps73, List.size_toArray, List.length_cons, List.length_nil, Nat.reduceAdd, Nat.reduceSub, Array.replicate_succ, Array.replicate_zero, List.push_toArray, List.append_toArray, List.nil_append, List.cons_append]
  gi_wp2_with (refine ⟨trivial, ?_⟩; gi_at_call 118; refine (each_in _ S _).mono ?_; rintro e w' ⟨rfl, rfl⟩)
  have bO := Boxed.new w 4 (.bool false)
  have bR := Boxed.new (w.alloc (.cells #[.bool false] 4)) 9 (.string S)
  have bN := Boxed.new ((w.alloc (.cells #[.bool false] 4)).alloc (.cells #[.string S] 9)) 9 (.string S)
  simp only [World.size_alloc] at bR bN
  have hB0 : Below w.heap.size w (((w.alloc (.cells #[.bool false] 4)).alloc (.cells #[.string S] 9)).alloc (.cells #[.string S] 9)) := (((Below.refl _ w).alloc (Nat.le_refl _) _).alloc (by simp) _).alloc (by simp; omega) _
  refine wpIn_rangeFunc_ownF rfl (by omega) (gf := 170) (lb := #[.pointer (some ⟨w.heap.size + 1 + 1, 0, none⟩)]) rfl trivial (enters_of Tryz.func170 (by kernel_rfl) rfl)
    (each_stops _ (w.heap.size + 1 + 1) s (by omega) (by omega) _ (by simp) (by rw [<-HS.out]; exact bN.cell)) (fun _ _ => trivial) (fun _ _ _ _ _ _ _ _ => trivial) (Below.refl _ _) (fun _ => rfl)
    (fun pre W => (Short pre /\ Boxed W w.heap.size 4 (.bool false) /\ Boxed W (w.heap.size + 1) 9 (.string (mk (lastR s pre)))) /\ Below w.heap.size w W)
    (fun c pre W => (c = .ret /\ Long pre /\ Boxed W w.heap.size 4 (.bool false)) /\ Below w.heap.size w W)
    (OwnFrom.and (Own.from (fun s A B row hs hg hr => ⟨hs.1, boxed_own _ _ (fun _ : Unit => _) () A B row hs.2.1 hg hr, boxed_own _ _ (fun _ : Unit => _) () A B row hs.2.2 hg hr⟩) _) (ownFrom_below (Nat.le_refl _) (by simp; omega)))
    (fun c => OwnFrom.and (Own.from (fun s A B row hs hg hr => ⟨hs.1, hs.2.1, boxed_own _ _ (fun _ : Unit => _) () A B row hs.2.2 hg hr⟩) _) (ownFrom_below (Nat.le_refl _) (by simp; omega)))
    ⟨⟨Short.nil, (bO.alloc _).alloc _, by rw [show lastR s [] = s from rfl, <-HS.out]; exact bR.alloc _⟩, hB0⟩
    ?a1 ?assign ?body ?done ?stop
  case assign =>
    intro l x W K hK
    gi_wp2
    exact hK
  case body =>
    rintro l pre x W ⟨⟨hp, hb, hr⟩, hB⟩ _; have hc := hb.cell
    have hf := hb.frozen
    have hc2 := hr.cell
    have hf2 := hr.frozen
    have hsz : ((mk x.1).size : Int) = (x.1.length : Int) := by rw [mk_size]
    by_cases h63 : x.1.length <= 63
    · have h2 : ¬ (63 : Int) < (x.1.length : Int) := by omega
      gi_wp2
      exact ⟨KeepsOthers.setCell _ _ _, trivial, ⟨hp.snoc h63, hb.other (by omega) _, by rw [lastR_snoc]; exact hr.set _⟩, hB.setCell (p := ⟨w.heap.size + 1, 0, none⟩) (by simp) _⟩
    · have h2 : (63 : Int) < (x.1.length : Int) := by omega
      gi_wp2
      exact ⟨KeepsOthers.setCell _ _ _, ⟨rfl, ⟨pre, x, rfl, h63⟩, hb.set _⟩, hB.setCell (p := ⟨w.heap.size, 0, none⟩) (by simp) _⟩
  case done =>
    rintro D ys W hD rfl ⟨⟨hp, hb, hr⟩, hB⟩ hK; have hc := hb.cell
    have hf := hb.frozen
    have hc2 := hr.cell
    have hf2 := hr.frozen
    have hN : nameL s = parse s := by unfold nameL; rw [if_neg (by omega)]
    have hres : ((mk (lastR s (pairs s))).toList == [0]) = (nameL s).isSome := by
      rw [hN, ByteArray.toList_eq]
      have := right_parse s
      cases hps : (parse s).isSome
      · rw [hps] at this
        simp only [Bool.false_eq_true, false_iff, not_and] at this
        have := this hp
        simpa [mk] using this
      · rw [hps] at this
        have := (this.1 rfl).2
        simpa [mk] using this
    have HR := Ha hres
    clear hres hN
    gi_wp2
    rw [HR.out]
    have hK' := (KeepsOthers.setCell W ⟨w.heap.size, 0, none⟩ (.bool (nameL s).isSome)).same D _ hK rfl
    refine ⟨by simp, .inl ⟨_, _, rfl, run_takeDeferred hK', ?_⟩⟩
    have hc5 := cell_kept (World.cell?_setCell_same' W ⟨w.heap.size, 0, none⟩ (.bool (nameL s).isSome) (by rw [hc]; rfl)) (grownBy_putObj' _ D (.deferred none)) (fun r e => by cases e; exact ⟨_, hK', rfl⟩)
    refine ⟨.bool (nameL s).isSome, ?_, rfl, (hB.setCell (p := ⟨w.heap.size, 0, none⟩) (Nat.le_refl _) _).trans (belowK_b (w := w) (Nat.le_refl _) _ D _ _ (by simp at hD; omega) hK' rfl rfl)⟩
    simp [results, Tryz.f73, go_sem, hc5]
  case stop =>
    rintro D c pre W hD hpre ⟨⟨rfl, hL, hb⟩, hB⟩ hK; have hc := hb.cell
    obtain ⟨qs, x, rfl, h63⟩ := hL
    have hN : (nameL s).isSome = false := by
      have e : nameL s = parse s := by unfold nameL; rw [if_neg (by omega)]
      rw [e]
      have := right_parse s
      cases hps : (parse s).isSome
      · rfl
      · rw [hps] at this
        exact absurd (this.1 rfl).1 (Short.not h63 hpre)
    gi_wp2
    refine ⟨by simp, .inl ⟨_, _, rfl, run_takeDeferred hK, ?_⟩⟩
    have hc5 := cell_kept hc (grownBy_putObj' _ D (.deferred none)) (fun r e => by cases e; exact ⟨_, hK, rfl⟩)
    refine ⟨.bool false, ?_, by rw [hN], hB.trans (belowK_b (w := w) (Nat.le_refl _) W D _ _ (by simp at hD; omega) hK rfl rfl)⟩
    simp [results, Tryz.f73, go_sem, hc5]
theorem Right_long (S : ByteArray) (s : List UInt8) (w : World) (hS : S = mk s) (hs : ¬ s.length <= 255) (hb : s.length <= 1073741824) :
    Calls Tryz.prog 73 #[.string S] w fun e w' => e = .returned (.bool (nameL s).isSome) /\ Below w.heap.size w w' := by
  have hlen : (255 : Int) < (S.size : Int) := by rw [hS, mk_size]; omega
  have hN : (nameL s).isSome = false := by unfold nameL; rw [if_pos (by omega)]; rfl
  rw [hN]
  clear hS hN
  refine (callsIn_wide (n := 3)).1 ?_
  refine callsIn_of_wp_marks Tryz.func73 rfl trivial ?_ rfl
  simp only [Tryz.ntmps73, List.size_toArray, List.length_cons, List.length_nil, Nat.reduceAdd, Nat.reduceSub, Array.replicate_succ, Array.replicate_zero, List.push_toArray, List.append_toArray, List.nil_append, List.cons_append]
  have bO := (Boxed.new w 4 (.bool false)).cell
  gi_wp2
  exact ⟨.bool false, by simp [results, Tryz.f73, go_sem], rfl, (Below.refl _ w).alloc (Nat.le_refl _) _⟩
theorem Right_any (S : ByteArray) (s : List UInt8) (w : World) (hS : S = mk s) (hb : s.length <= 1073741824) :
    Calls Tryz.prog 73 #[.string S] w fun e w' => e = .returned (.bool (nameL s).isSome) /\ Below w.heap.size w w' := by
  by_cases hs : s.length <= 255
  · exact Right_short S s w hS hs
  · exact Right_long S s w hS hs hb
end Go.Proofs.YtmpginmdaeclaaaGreatDoor
namespace Go.Proofs.YtmpginmdaeclaaaGreatDoor
open Go.RowKit Go.Shelf
attribute [local go_sem] Oper.semAt_some
theorem text_info : (Tryz.prog.info? 9).map (fun i => (i.zero, i.size, i.bytes)) = some (some (.string ⟨#[]⟩), 1, 16) := by kernel_rfl
def labV (ps : List Pair) : List Value := texts (ps.map fun p => mk p.1)
theorem labV_snoc (ps : List Pair) (x : Pair) : labV (ps ++ [x]) = labV ps ++ [.string (mk x.1)] := by simp [labV, texts]
theorem labelsOf_any (S : ByteArray) (s : List UInt8) (w : World) (hS : S = mk s) (hs : s.length <= 1000000) :
    Calls Tryz.prog 221 #[.string S] w fun e w' => ∃ v, e = .returned v /\ w'.ownsRow w.heap.size 9 1 v (pairs s).length (labV (pairs s)) /\ Below w.heap.size w w' := by
  have hpl := pairs_len s
  have HS := Ha hS
  have HPL := Ha hpl
  have H1 : Hid ((pairs s).length + 1 <= maxLen) := Ha (by unfold maxLen; omega)
  have H2 : Hid (((pairs s).length + 1) * 16 <= 140737488355328) := Ha (by omega)
  clear hS hpl
  obtain ⟨i0, hi, hz0, hz1, hz2⟩ := info_parts text_info
  refine (callsIn_wide (n := 3)).1 ?_
  refine callsIn_of_wp_marks Tryz.func221 rfl trivial ?_ rfl
  simp only [Tryz.ntmps221, List.size_toArray, List.length_cons, List.length_nil, Nat.reduceAdd, Nat.reduceSub, Array.replicate_succ, Array.replicate_zero, List.push_toArray, List.append_toArray, List.nil_append, List.cons_append]
  gi_wp2_with (refine ⟨trivial, ?_⟩; gi_at_call 118; refine (each_in _ S _).mono ?_; rintro e w' ⟨rfl, rfl⟩)
  have bO := Boxed.new w 68 (.slice none 0 0)
  have bN := Boxed.new (w.alloc (.cells #[.slice none 0 0] 68)) 9 (.string S)
  rw [World.size_alloc] at bN
  have hB0 : Below w.heap.size w ((w.alloc (.cells #[.slice none 0 0] 68)).alloc (.cells #[.string S] 9)) := ((Below.refl _ w).alloc (Nat.le_refl _) _).alloc (by simp) _
  refine wpIn_rangeFunc_ownG rfl (by omega) (gf := 170) (lb := #[.pointer (some ⟨w.heap.size + 1, 0, none⟩)]) rfl trivial (enters_of Tryz.func170 (by kernel_rfl) rfl)
    (each_stops _ (w.heap.size + 1) s (by omega) (by omega) _ (by simp) (by rw [<-HS.out]; exact bN.cell)) (fun _ _ => trivial) (fun _ _ _ _ _ _ _ _ => trivial) (Below.refl _ _) (fun _ => rfl)
    (fun pre W => (∃ v, Boxed W w.heap.size 68 v /\ W.ownsRow w.heap.size 9 1 v pre.length (labV pre) /\ True) /\ Below w.heap.size w W)
    (fun _ _ _ => False)
    (OwnFrom.and (Own.from (holdsRow_own w.heap.size w.heap.size 68 9 1 (fun pre : List Pair => pre.length) (fun pre => labV pre) (fun _ _ => True)) _) (ownFrom_below (Nat.le_refl _) (by simp; omega)))
    (fun _ _ _ _ _ hs _ _ => hs)
    ⟨⟨_, bO.alloc _, World.ownsRow_nil _ _ _ _, trivial⟩, hB0⟩
    ?a1 ?assign ?body ?done ?stop
  case assign =>
    intro l x W K hK
    gi_wp2
    exact hK
  case body =>
    rintro l pre x W ⟨⟨v, hv, hrow, _⟩, hB⟩ hlt; have hc := hv.cell
    have hm1 := H1.out
    have hm2 := H2.out
    gi_wp2_with (gi_at_builtin; refine wpListIn_append_own _ rfl _ _ 68 rfl w.heap.size 9 i0 (.string ⟨#[]⟩) 1 16 Tryz.underlying68 hi hz0 hz1 hz2 rfl (by decide) _ _ _ rfl (hrow.alloc _) ⟨W.heap.size, 0, none⟩ 1 1 [.string (mk x.1)] rfl rfl (cell_one_new _ _ _) (by simp [Value.oneCell']) (by omega) (by omega) (by have := hB.size; simp; omega) ?_; intro v' w1 hown' hgrow _; obtain ⟨g', cap', rfl⟩ := ownsRow_succ hown'; obtain ⟨hv1, hv2, hr2, hk2, hb2⟩ := hv.appended (by decide) hrow hB.size (Nat.le_refl _) hown' hgrow; have hc1 := hv1.cell; have hf1 := hv1.frozen)
    exact ⟨hk2.from _, trivial, ⟨_, hv2, by rw [labV_snoc]; simpa using hr2, trivial⟩, hB.trans hb2⟩
  case done =>
    rintro D ys W hD rfl ⟨⟨v, hv, hrow, _⟩, hB⟩ hK; have hc := hv.cell
    gi_wp2
    refine ⟨by simp, .inl ⟨_, _, rfl, run_takeDeferred hK, ?_⟩⟩
    exact ⟨_, results_tmp rfl _ _ _, v, rfl, ownsRow_putObj hrow _ hK rfl, hB.trans (belowK_b (w := w) (Nat.le_refl _) W D _ _ (by simp at hD; omega) hK rfl rfl)⟩
  case stop =>
    rintro D c pre W _ _ h _; exact h.elim
end Go.Proofs.YtmpginmdaeclaaaGreatDoor
namespace Go.Proofs.YtmpginmdaeclaaaGreatDoor
open Go.RowKit
structure Row8 (w : World) (g : Nat) (l : List UInt8) : Prop where
  cell : ∀ j (h : j < l.length), w.cell? ⟨g, j, none⟩ = some (.int .u8 (l[j].toNat : Nat))
  soft : ∀ j, j < l.length -> w.frozen? ⟨g, j, none⟩ = false
theorem Row8.put {w : World} {g : Nat} {l : List UInt8} (h : Row8 w g l) (j : Nat) (hj : j < l.length) (c : UInt8) : Row8 (w.setCell ⟨g, j, none⟩ (.int .u8 (c.toNat : Nat))) g (l.set j c) := by
  refine ⟨fun i hi => ?_, fun i hi => ?_⟩
  · by_cases he : j = i
    · subst he
      rw [World.cell?_setCell_same' w _ _ (by rw [h.cell j hj]; rfl)]
      simp
    · have hne : (⟨g, j, none⟩ : Addr) ≠ ⟨g, i, none⟩ := by intro e; injection e with _ e2 _; exact he e2
      have := World.cell?_setCell_other (w := w) (a := ⟨g, j, none⟩) (b := ⟨g, i, none⟩) (v := .int .u8 (c.toNat : Nat)) hne
      rw [this, h.cell i (by simpa using hi)]
      simp [he]
  · rw [World.frozen?_setCell]; exact h.soft i (by simpa using hi)
theorem Row8.str {w : World} {g : Nat} {l : List UInt8} (h : Row8 w g l) (n cap : Nat) (hn : l.length = n) :
    (convert 115 9 (.slice (some ⟨g, 0, none⟩) n cap)).run Tryz.prog w = .ok (.string ⟨l.toArray⟩) w := by
  subst hn
  refine run_convert_bytes_back w _ _ 5 ⟨g, 0, none⟩ cap l Tryz.underlying115 Tryz.underlying5 Tryz.underlying9 (fun j hj => ?_)
  rw [show (⟨g, 0, none⟩ : Addr).add j = ⟨g, 0 + j, none⟩ from by unfold Addr.add; split <;> simp_all, Nat.zero_add]
  exact h.cell j hj
theorem Row8.made (w : World) (s : ByteArray) : Row8 (Lib.bytesWorld w 5 s) w.heap.size s.data.toList := by
  refine ⟨fun j h => ?_, fun j h => ?_⟩
  · rw [Lib.bytesWorld_cell w _ s j (by simpa using h)]
    rw [List.getD_eq_getElem?_getD, List.getElem?_eq_getElem h]; rfl
  · have hsz : s.size <= (Lib.bytesCells w 5 s).size := by simp [Lib.bytesCells]
    have hj : j < s.size := by simpa using h
    simp only [World.frozen?, Lib.bytesWorld_at_new]
    simp; omega
theorem bytes_below (w : World) (s : ByteArray) : Below w.heap.size w (Lib.bytesWorld w 5 s) :=
  ⟨rfl, rfl, rfl, by rw [Lib.bytesWorld_size]; omega, fun k hk => Lib.bytesWorld_at_old _ _ _ _ hk⟩
theorem mk_beq (a b : List UInt8) : ((mk a).toList == (mk b).toList) = (a == b) := by
  rw [ByteArray.toList_eq, ByteArray.toList_eq]; simp [mk]
def textL (L : List (List UInt8)) : List Value := texts (L.map mk)
theorem labV_prs (L : List (List UInt8)) : labV (prs L) = textL L /\ (prs L).length = L.length := by
  induction L with
  | nil => exact ⟨rfl, rfl⟩
  | cons x L ih =>
    refine ⟨?_, by simp [prs, ih.2]⟩
    have := ih.1
    simp only [labV, textL, texts] at this ⊢
    simp [prs, this]
theorem labelsOf_name (S : ByteArray) (s : List UInt8) (L : List (List UInt8)) (w : World) (hS : S = mk s) (h : nameL s = some L) :
    Calls Tryz.prog 221 #[.string S] w fun e w' => ∃ v, e = .returned v /\ w'.ownsRow w.heap.size 9 1 v L.length (textL L) /\ Below w.heap.size w w' := by
  obtain ⟨h1, h2, h3⟩ := nameL_is h
  have hp : pairs s = prs L := by rw [h1, pairs_enc h2]
  have := labelsOf_any S s w hS (by omega)
  rw [hp, (labV_prs L).1, (labV_prs L).2] at this
  exact this
theorem Labels_yes (S : ByteArray) (s : List UInt8) (L : List (List UInt8)) (w : World) (hS : S = mk s) (h : nameL s = some L) :
    Calls Tryz.prog 264 #[.string S] w fun e w' => ∃ v, e = .returned (.tuple #[v, .int .i64 0]) /\ w'.ownsRow w.heap.size 9 1 v L.length (textL L) /\ Below w.heap.size w w' := by
  have h' : (nameL s).isSome = true := by rw [h]; rfl
  have hl : s.length <= 255 := (nameL_is h).2.2
  have HS := Ha hS
  clear hS
  go_enter Tryz.func264, Tryz.ntmps264
  go_wp2_with fail
  refine (Right_any S s _ HS.out (by omega)).mono ?_
  rw [h']
  rintro e w1 ⟨rfl, hB1⟩
  go_wp2_with fail
  refine (labelsOf_name S s L _ HS.out h).mono ?_
  rintro e w2 ⟨v, rfl, hown, hB2⟩
  go_wp2_with fail
  go_ret2
  exact ⟨v, rfl, ⟨hown.1, hown.2.imp id fun ⟨g, cap, cur, h1, h2, h3⟩ => ⟨g, cap, cur, h1, Nat.le_trans hB1.size h2, h3⟩⟩, hB1.trans (hB2.mono hB1.size)⟩
theorem foldByte_any (c : UInt8) (w : World) : Calls Tryz.prog 228 #[.int .u8 (c.toNat : Nat)] w fun e w' => e = .returned (.int .u8 ((low c).toNat : Nat)) /\ w = w' := by
  have hlt := c.toNat_lt
  obtain ⟨k, hk⟩ : ∃ k, k = c.toNat := ⟨_, rfl⟩
  rw [<-hk] at hlt ⊢
  by_cases h1 : 65 <= k
  · by_cases h2 : k <= 90
    · have e : (low c).toNat = k + 32 := by
        unfold low; rw [if_pos (by omega), UInt8.toNat_ofNat', <-hk]; omega
      rw [e]
      clear hk e; have g1 : (65 : Int) <= (k : Int) := by omega
      have g2 : (k : Int) <= 90 := by omega
      go_enter Tryz.func228, Tryz.ntmps228
      go_wp2_with fail
      go_ret
      refine ⟨ret_int ?_, rfl⟩
      first | omega | (simp; omega)
    · have e : low c = c := by unfold low; rw [if_neg (by omega)]
      rw [e, <-hk]
      clear hk e; have g1 : (65 : Int) <= (k : Int) := by omega
      have g2 : ¬ (k : Int) <= 90 := by omega
      go_enter Tryz.func228, Tryz.ntmps228
      go_wp2_with fail
      go_ret
      exact ⟨rfl, rfl⟩
  · have e : low c = c := by unfold low; rw [if_neg (by omega)]
    rw [e, <-hk]
    clear hk e; have g1 : ¬ (65 : Int) <= (k : Int) := by omega
    go_enter Tryz.func228, Tryz.ntmps228
    go_wp2_with fail
    go_ret
    exact ⟨rfl, rfl⟩
def mixL (s : List UInt8) (k : Nat) : List UInt8 := (s.take k).map low ++ s.drop k
theorem mixL_zero (s : List UInt8) : mixL s 0 = s := rfl
theorem mixL_all (s : List UInt8) : mixL s s.length = lowS s := by simp [mixL, lowS]
theorem mixL_len (s : List UInt8) (k : Nat) : (mixL s k).length = s.length := by simp [mixL]; omega
theorem mixL_at (s : List UInt8) (k : Nat) (h : k < s.length) : (mixL s k)[k]'(by rw [mixL_len]; exact h) = s[k] := by
  simp only [mixL]
  rw [List.getElem_append_right (by simp; omega)]
  simp only [List.getElem_drop, List.length_map, List.length_take]
  congr 1
  omega
theorem mixL_set (s : List UInt8) (k : Nat) (h : k < s.length) : (mixL s k).set k (low s[k]) = mixL s (k + 1) := by
  have h0 : ((s.take k).map low).length = k := by simp; omega
  simp only [mixL]
  rw [List.set_append_right _ _ (by omega), h0, Nat.sub_self, List.take_succ_eq_append_getElem h, List.map_append, List.append_assoc]
  congr 1
  rw [List.drop_eq_getElem_cons h]
  rfl
theorem Fold_name (S : ByteArray) (s : List UInt8) (w : World) (hS : S = mk s) (hl : s.length <= 255) (h : (nameL s).isSome = true) (hf : foldL s = lowS s) :
    Calls Tryz.prog 183 #[.string S] w fun e w' => e = .returned (.string (mk (foldL s))) /\ Below w.heap.size w w' := by
  have hconv := fun W S => Lib.run_convert_string_bytes (P := Tryz.prog) W 9 115 5 S Tryz.underlying9 Tryz.underlying115 Tryz.underlying5
  have hsz : S.size = s.length := by rw [hS, mk_size]
  have hd : S.data.toList = s := by rw [hS]; simp [mk]
  rw [hf]
  have HS := Ha hS
  have HD := Ha hd
  have HZ := Ha hsz
  have hS255 : S.size <= 255 := by omega
  clear hS hd hf hsz
  go_enter Tryz.func183, Tryz.ntmps183
  go_wp2_with fail
  refine (Right_any S s _ HS.out (by omega)).mono ?_
  rw [h]
  rintro e w1 ⟨rfl, hB1⟩
  go_wp2_with fail
  have hR0 : Row8 (Lib.bytesWorld w1 5 S) w1.heap.size (mixL s 0) := by rw [mixL_zero, <-HD.out]; exact Row8.made w1 S
  have hB0 : Below w.heap.size w (Lib.bytesWorld w1 5 S) := hB1.trans ((bytes_below w1 S).mono hB1.size)
  obtain ⟨cap, hcap⟩ : ∃ cap, cap = grownCap w1 S.size 0 5 := ⟨_, rfl⟩
  obtain ⟨g, hg⟩ : ∃ g, g = w1.heap.size := ⟨_, rfl⟩
  have hgw : w.heap.size <= g := by rw [hg]; exact hB1.size
  rw [<-hg] at hR0
  try rw [<-hcap]
  try rw [<-hg]
  generalize Lib.bytesWorld w1 5 S = W1 at hR0 hB0 ⊢
  clear hconv hcap hg hB1
  go_loopw [13] (fun i wr => ∃ k : Nat, k <= S.size /\ i = .int .i64 k /\ Row8 wr g (mixL s k) /\ Below w.heap.size w wr) (fun i _ => S.size - (intOf i).toNat)
  case atStart => exact ⟨0, Nat.zero_le _, rfl, hR0, hB0⟩
  case round =>
    obtain ⟨k, hk, rfl, hR, hB⟩ := hrel
    by_cases hlt : k < S.size
    · have hks : k < s.length := by have := HZ.out; omega
      have hc := hR.cell k (by rw [mixL_len]; exact hks)
      rw [mixL_at s k hks] at hc
      have hf := hR.soft k (by rw [mixL_len]; exact hks)
      have hput := hR.put k (by rw [mixL_len]; exact hks) (low s[k])
      rw [mixL_set s k hks] at hput
      have HP := Ha hput
      have HB := Ha (hB.setCell (p := ⟨g, k, none⟩) hgw (.int .u8 ((low s[k]).toNat : Nat)))
      obtain ⟨c, hcc⟩ : ∃ c, c = s[k] := ⟨_, rfl⟩
      rw [<-hcc] at hc HP HB
      clear hput hR hB hcc; go_wp2_with (go_at_call 228; refine (foldByte_any c _).mono ?_; rintro e w' ⟨rfl, rfl⟩); go_roundw
      case rel => exact ⟨k + 1, by omega, by go_num, HP.out, HB.out⟩
      case measure => simp [intOf]; omega
    · obtain rfl : k = S.size := by omega
      have hst := hR.str S.size cap (by rw [mixL_len, HZ.out])
      rw [show mixL s S.size = lowS s by rw [HZ.out]; exact mixL_all s] at hst
      go_wp2_with fail
      go_ret
      exact ⟨rfl, hB⟩
theorem Fold_any (S : ByteArray) (s : List UInt8) (w : World) (hS : S = mk s) (hb : s.length <= 1073741824) :
    Calls Tryz.prog 183 #[.string S] w fun e w' => e = .returned (.string (mk (foldL s))) /\ Below w.heap.size w w' := by
  cases h : nameL s with
  | some L => exact Fold_name S s w hS (nameL_is h).2.2 (by rw [h]; rfl) (foldL_some h).1
  | none =>
    have h' : (nameL s).isSome = false := by rw [h]; rfl
    rw [foldL_none h]
    have HS := Ha hS
    clear hS h; go_enter Tryz.func183, Tryz.ntmps183
    go_wp2_with fail
    refine (Right_any S s _ HS.out hb).mono ?_
    rw [h']
    rintro e w1 ⟨rfl, hB1⟩; go_wp2_with fail
    go_ret
    exact ⟨rfl, hB1⟩
theorem alike_fold (a b : List UInt8) {L : List (List UInt8)} (h : nameL a = some L) : (foldL a == foldL b) = alikeN a b := by
  unfold alikeN
  rw [h]
  obtain ⟨h1, h2, h3⟩ := foldL_some h
  obtain ⟨_, hg, _⟩ := nameL_is h
  cases k : nameL b with
  | none =>
    rw [foldL_none k, beq_eq_false_iff_ne]
    exact foldL_ne h
  | some M =>
    obtain ⟨k1, k2, k3⟩ := foldL_some k
    obtain ⟨_, kg, _⟩ := nameL_is k
    rw [h2, k2]
    simp only
    by_cases e : L.map lowS = M.map lowS
    · rw [e]; simp
    · rw [decide_eq_false e, beq_eq_false_iff_ne]
      exact fun e' => e (enc_inj hg.low kg.low e')
theorem Alike_any (A B : ByteArray) (a b : List UInt8) (w : World) (hA : A = mk a) (hB : B = mk b) (ha : a.length <= 1073741824) (hb : b.length <= 1073741824) :
    Calls Tryz.prog 179 #[.string A, .string B] w fun e w' => e = .returned (.bool (alikeN a b)) /\ Below w.heap.size w w' := by
  cases h : nameL a with
  | none =>
    have h' : (nameL a).isSome = false := by rw [h]; rfl
    have hal : alikeN a b = false := by unfold alikeN; rw [h]
    rw [hal]
    have HA := Ha hA
    clear hA hB h hal; go_enter Tryz.func179, Tryz.ntmps179
    go_wp2_with fail
    refine (Right_any A a _ HA.out ha).mono ?_
    rw [h']
    rintro e w1 ⟨rfl, hB1⟩; go_wp2_with fail
    go_ret
    exact ⟨rfl, hB1⟩
  | some L =>
    have h' : (nameL a).isSome = true := by rw [h]; rfl
    have hal : ((mk (foldL a)).toList == (mk (foldL b)).toList) = alikeN a b := by rw [mk_beq, alike_fold a b h]
    have HA := Ha hA
    have HB := Ha hB
    clear hA hB; go_enter Tryz.func179, Tryz.ntmps179
    go_wp2_with fail
    refine (Right_any A a _ HA.out ha).mono ?_
    rw [h']
    rintro e w1 ⟨rfl, hB1⟩; go_wp2_with fail
    refine (Fold_any A a _ HA.out ha).mono ?_
    rintro e w2 ⟨rfl, hB2⟩; go_wp2_with fail
    refine (Fold_any B b _ HB.out hb).mono ?_
    rintro e w3 ⟨rfl, hB3⟩; have GB := hB1.trans (hB2.mono hB1.size)
    go_wp2_with fail
    go_ret
    exact ⟨rfl, GB.trans (hB3.mono GB.size)⟩
end Go.Proofs.YtmpginmdaeclaaaGreatDoor
