/- The iterator over the labels of a string: what it yields. -/
import Derived.RangeFuncNested
import Derived.RangeFuncBound
import Derived.RangeFuncCalls
import Derived.RangeFuncLeaves
import Derived.Shelf.Abstract
import Derived.Shelf.RegionOpen
import Derived.WalkKit
import Derived.OwnWalkIn
import Derived.TacticsInMore
import Derived.LoopNIn
import Derived.LoopIn
import Derived.Test.YtdanncclnhkmgaaNamM
import Derived.Test.YtdanncclnhkmgaaOctC
namespace Go.Proofs.Ytdanncclnhkmgaa
open Go.RowKit Go.Shelf

attribute [local go_sem] Oper.semAt_some

abbrev Pair := List UInt8 × List UInt8
abbrev encs2 (p : Pair) : Array Value := #[.string (mk p.1), .string (mk p.2)]

theorem Cut_no (X : ByteArray) (l : List UInt8) (w : World) (hX : X = mk l) (hl : l.length ≤ 1073741824) (h : cutL l = none) :
    Calls Try.prog 55 #[.string X, .int .i64 1] w fun e w' => e = .returned (.tuple #[.string empty, .string empty, .int .i64 2]) ∧ Below w.heap.size w w' := by
  subst hX
  have := Cut_any (mk l) 1 w (by rw [mk_size]; exact hl)
  rwa [cut_none h] at this
theorem Cut_yes (X : ByteArray) (l a b : List UInt8) (w : World) (hX : X = mk l) (hl : l.length ≤ 1073741824) (h : cutL l = some (a, b)) :
    Calls Try.prog 55 #[.string X, .int .i64 1] w fun e w' => e = .returned (.tuple #[.string (mk a), .string (mk b), .int .i64 0]) ∧ Below w.heap.size w w' := by
  subst hX
  have := Cut_any (mk l) 1 w (by rw [mk_size]; exact hl)
  rwa [cut_some h] at this

/-- what the three variables of the loop hold when the bytes cur are still to be read -/
def CutAt (cur : List UInt8) (x y z : Value) : Prop :=
  (cutL cur = none ∧ x = .string empty ∧ y = .string empty ∧ z = .int .i64 2) ∨ (∃ a b, cutL cur = some (a, b) ∧ x = .string (mk a) ∧ y = .string (mk b) ∧ z = .int .i64 0)
theorem Cut_at (X : ByteArray) (l : List UInt8) (w : World) (hX : X = mk l) (hl : l.length ≤ 1073741824) :
    Calls Try.prog 55 #[.string X, .int .i64 1] w fun e w' => (∃ x y z, e = .returned (.tuple #[x, y, z]) ∧ CutAt l x y z) ∧ Below w.heap.size w w' := by
  cases hc : cutL l with
  | none =>
    refine (Cut_no X l w hX hl hc).mono ?_
    rintro e w' ⟨rfl, hB⟩
    exact ⟨⟨_, _, _, rfl, .inl ⟨hc, rfl, rfl, rfl⟩⟩, hB⟩
  | some p =>
    obtain ⟨a, b⟩ := p
    refine (Cut_yes X l a b w hX hl hc).mono ?_
    rintro e w' ⟨rfl, hB⟩
    exact ⟨⟨_, _, _, rfl, .inr ⟨a, b, hc, rfl, rfl, rfl⟩⟩, hB⟩
def msr : Value → Value → Nat
  | .string b, .int _ k => b.size + (if k = 0 then 1 else 0)
  | _, _ => 0
theorem msr_ok (b : List UInt8) : msr (.string (mk b)) (.int .i64 0) = b.length + 1 := by simp [msr, mk_size]
theorem msr_no : msr (.string empty) (.int .i64 2) = 0 := rfl
theorem abides_below {β : Type} {B : Nat} {J : β → World → Prop} (h : AbidesFrom B J) {s : β} {W W' : World} (hs : J s W) (hb : Below W.heap.size W W') : J s W' :=
  h s W W' none hs ⟨hb.os, hb.tape, hb.output, hb.size, fun k hk _ => hb.block k hk⟩ (fun _ e => by cases e)

theorem mk_isEmpty (a : List UInt8) : (mk a).toList.isEmpty = a.isEmpty := by rw [ByteArray.toList_eq]; simp [mk]

set_option maxRecDepth 100000 in
set_option maxHeartbeats 1000000 in
/-- the closure that yields the labels: for every body that keeps its word -/
theorem each1_in (l Bn n : Nat) (s : List UInt8) (hs : s.length ≤ 1073741824) (hn : 1 ≤ n) (J Jx : List Pair → World → Prop) (W : World) (hJ : AbidesFrom W.heap.size J)
    (hY : ∀ pre x W1, J pre W1 → pre.length < (pairs s).length → YieldAt Fence.wide (n - 1) Try.prog l (encs2 x) W1 fun e W' =>
      (e = .returned (.bool true) ∧ J (pre ++ [x]) W' ∧ True) ∨ (e = .returned (.bool false) ∧ Jx (pre ++ [x]) W'))
    (hBn : W.cell? ⟨Bn, 0, none⟩ = some (.string (mk s))) (h0 : J [] W) :
    CallsIn Fence.wide n Try.prog 91 #[.func (.yield l) #[] #[], .pointer (some ⟨Bn, 0, none⟩)] W fun e W' => (∃ v, e = .returned v) ∧
      ((∃ ys, ys = pairs s ∧ J ys W') ∨ (∃ pre, pre <+: pairs s ∧ Jx pre W')) := by
  refine callsIn_of_wp Try.func91 rfl trivial ?_ rfl
  simp only [Try.ntmps91, List.size_toArray, List.length_cons, List.length_nil, Nat.reduceAdd, Nat.reduceSub, Array.replicate_succ, Array.replicate_zero, List.push_toArray, List.append_toArray, List.nil_append, List.cons_append]
  gi_wp2_with (refine ⟨trivial, ?_⟩; gi_at_call 55; refine (callsIn_wide.2 (Cut_at _ s _ rfl hs)).mono ?_; rintro e w1 ⟨⟨x0, y0, z0, rfl, hc0⟩, hB⟩)
  gi_loopw [3, 4, 5] (fun x y z wr => ∃ (pre rest : List Pair) (cur : List UInt8), pairs s = pre ++ rest ∧ pairs cur = rest ∧ cur.length ≤ s.length ∧ CutAt cur x y z ∧ J pre wr) (fun _ y z _ => msr y z)
  case atStart => exact ⟨[], pairs s, s, rfl, rfl, Nat.le_refl _, hc0, abides_below hJ h0 hB⟩
  case round =>
    obtain ⟨pre, rest, cur, hp, hr, hlen, hc, hJs⟩ := hrel
    rcases hc with ⟨hc, rfl, rfl, rfl⟩ | ⟨a, b, hc, rfl, rfl, rfl⟩
    · have hend : pre = pairs s := by rw [hp, ← hr, pairs_none hc, List.append_nil]
      gi_wp2
      refine ⟨fun _ h => (by cases h), ?_⟩
      gi_wp2
      go_end0
      exact ⟨⟨_, rfl⟩, .inl ⟨pre, hend, hJs⟩⟩
    · by_cases ha : a = []
      · have hend : pre = pairs s := by rw [hp, ← hr, pairs_empty (by rw [hc, ha]), List.append_nil]
        have he : (mk a).toList.isEmpty = true := by rw [mk_isEmpty, ha]; rfl
        have HC := Lib.hid hc
        clear hc ha
        gi_wp2
        refine ⟨fun _ h => (by cases h), ?_⟩
        gi_wp2
        go_end0
        exact ⟨⟨_, rfl⟩, .inl ⟨pre, hend, hJs⟩⟩
      · have hps : pairs cur = (a, b) :: pairs b := pairs_some hc ha
        have he : (mk a).toList.isEmpty = false := by rw [mk_isEmpty]; cases a <;> simp_all
        have hbl : b.length < cur.length := by have := cutL_lt hc; omega
        have hlt : pre.length < (pairs s).length := by rw [hp, ← hr, hps]; simp
        have hsplit : pairs s = (pre ++ [(a, b)]) ++ pairs b := by rw [hp, ← hr, hps]; simp
        obtain ⟨fn, tmps, assign, body, hy, hR⟩ := hY pre (a, b) wr hJs hlt
        dsimp only [encs2] at hy
        have HC := Lib.hid hc
        have HP := Lib.hid hps
        have HS := Lib.hid hsplit
        clear hc ha hps hp hr hsplit hlt hY
        gi_wp2
        refine hR.mono ?_
        rintro e W3 (⟨rfl, hJ3, _⟩ | ⟨rfl, hJx3⟩)
        · gi_wp2_with (refine ⟨trivial, ?_⟩; gi_at_call 55; refine (callsIn_wide.2 (Cut_at _ b _ rfl (by omega))).mono ?_; rintro e w4 ⟨⟨x4, y4, z4, rfl, hc4⟩, hB4⟩)
          go_roundw
          case rel => exact ⟨pre ++ [(a, b)], pairs b, b, HS.out, rfl, by omega, hc4, abides_below hJ hJ3 hB4⟩
          case measure =>
            rw [show msr (.string (mk b)) (.int .i64 0) = b.length + 1 from msr_ok b]
            rcases hc4 with ⟨_, _, rfl, rfl⟩ | ⟨a5, b5, h5, _, rfl, rfl⟩
            · rw [msr_no]; omega
            · rw [msr_ok]; have := cutL_lt h5; omega
        · gi_wp2
          go_end0
          exact ⟨⟨_, rfl⟩, .inr ⟨pre ++ [(a, b)], ⟨pairs b, HS.out.symm⟩, hJx3⟩⟩

set_option maxHeartbeats 1000000 in
/-- 'each': the string is boxed; the closure captures the box -/
theorem each_in (n : Nat) (S : ByteArray) (w : World) :
    CallsIn Fence.wide n Try.prog 58 #[.string S] w fun e w' => e = .returned (.func (.func 91) #[] #[.pointer (some ⟨w.heap.size, 0, none⟩)]) ∧ w' = w.alloc (.cells #[.string S] 9) := by
  refine callsIn_of_wp Try.func58 rfl trivial ?_ rfl
  simp only [Try.ntmps58, List.size_toArray, List.length_cons, List.length_nil, Nat.reduceAdd, Nat.reduceSub, Array.replicate_succ, Array.replicate_zero, List.push_toArray, List.append_toArray, List.nil_append, List.cons_append]
  gi_wp2
  go_ret
  exact ⟨rfl, rfl⟩

/-- what 'each' hands back yields all pairs, in order; or a beginning of them, where a round has said 'no more' -/
theorem each_stops (n Bn : Nat) (s : List UInt8) (hs : s.length ≤ 1073741824) (hn : 1 ≤ n) (w : World) (hBn : Bn < w.heap.size) (hc : w.cell? ⟨Bn, 0, none⟩ = some (.string (mk s))) :
    SeqStopsK Fence.wide n Try.prog 91 #[.pointer (some ⟨Bn, 0, none⟩)] encs2 (fun _ _ => True) (fun ys => ys = pairs s) (fun pre => pre <+: pairs s) (pairs s).length w := fun l J Jx W hW hJ _ hY h0 =>
  each1_in l Bn n s hs hn J Jx W hJ hY ((hW.cell (p := ⟨Bn, 0, none⟩) hBn).trans hc) h0

end Go.Proofs.Ytdanncclnhkmgaa
