/- Parts of the proofs of the statements of image. No statement of the seat is proved here. -/
import Derived.Test.YtmpginmdaeclaaaGreatDoorPaA
import Derived.Test.YtmpginmdaeclaaaGreatDoorOcD
import Derived.Test.YtmpginmdaeclaaaGreatDoorOcJ
import Derived.Deep.RegionWith
import Derived.WalkMore
set_option maxHeartbeats 32000000
set_option maxRecDepth 20000
namespace Go.Proofs.YtmpginmdaeclaaaGreatDoor
open Go.RowKit
def ptrL : List UInt8 -> Option (Nat × List UInt8)
  | c :: d :: q => if 192 <= c.toNat then some ((c.toNat - 192) * 256 + d.toNat, q) else none
  | _ => none
theorem split_two (c d : UInt8) (q : List UInt8) : splitR (mk (c :: d :: q)) [2] = ([((c.toNat * 256 + d.toNat : Nat) : Int)], mk q, 0) := by
  have h1 : ¬ (((mk (c :: d :: q)).size : Int) < 2) := by rw [mk_size]; simp; omega
  have e1 : (mk (c :: d :: q)).extract 2 (mk (c :: d :: q)).size = mk q := by rw [mk_extract, mk_size, List.take_length]; rfl
  have e2 : numOf ((mk (c :: d :: q)).extract 0 2) = c.toNat * 256 + d.toNat := by rw [mk_extract, mk_num]; simp [num]
  refine splitR_some (by decide) ?_
  rw [splitF, if_neg h1]
  show Option.map _ (splitF ((mk (c :: d :: q)).extract 2 (mk (c :: d :: q)).size) []) = _
  rw [e1]
  show some ((numOf ((mk (c :: d :: q)).extract 0 2) : Int) :: [], mk q) = _
  rw [e2]
theorem split_less {r : List UInt8} (h : r.length < 2) : splitR (mk r) [2] = ([], empty, 2) := by
  refine splitR_none (by decide) ?_
  rw [splitF, if_pos (by rw [mk_size]; omega)]
theorem pointer_some (S : ByteArray) (r q : List UInt8) (t : Nat) (w : World) (hS : S = mk r) (hs : r.length <= 1073741824) (h : ptrL r = some (t, q)) :
    Calls Tryz.prog 254 #[.string S] w fun e w' => e = .returned (.tuple #[.int .i64 (t : Nat), .string (mk q), .bool true]) /\ Below w.heap.size w w' := by
  match r, h with
  | c :: d :: q', h =>
    have h' : (if 192 <= c.toNat then some ((c.toNat - 192) * 256 + d.toNat, q') else none) = some (t, q) := h
    clear h
    by_cases hc : 192 <= c.toNat
    · rw [if_pos hc] at h'
      injection h' with h
      injection h with h1 h2
      subst h2; have hcl := c.toNat_lt
      have hdl := d.toNat_lt
      have HSP := Ha (split_two c d q')
      obtain ⟨N, hN⟩ : ∃ N, N = c.toNat * 256 + d.toNat := ⟨_, rfl⟩
      have hN1 : 49152 <= N := by omega
      have hN2 : N < 65536 := by omega
      have hN3 : N - 49152 = t := by omega
      rw [<-hN] at HSP
      have HT := Ha hN3
      have hsz : S.size <= 1073741824 := by rw [hS, mk_size]; exact hs
      have HS := Ha hS
      clear hN h1 hS hcl hdl hc hN3; go_enter Tryz.func254, Tryz.ntmps254
      have F1 := Whole.new w 3 #[.int .i64 2]
      have FB : Below w.heap.size w (w.alloc (.cells #[.int .i64 2] 3)) := (Below.refl _ _).alloc (Nat.le_refl _) _
      go_wp2_with fail
      refine (Split_any S _ 1 1 (w.heap.size + 1) [2] _ (sees_one F1) (by decide) (by simp) hsz).mono ?_
      rintro e w1 ⟨A, cc, he, hsee, hB1⟩; rw [HS.out, HSP.out] at he hsee
      subst he; obtain ⟨b2, off2, rfl, _, hc2⟩ := hsee.addr (Nat.zero_lt_one)
      have hc0 : w1.cell? ⟨b2, off2, none⟩ = some (.int .u64 (N : Nat)) := hc2 0 _ rfl
      have HB2 := Ha (FB.trans (hB1.mono FB.size))
      have g1 : decide ((N : Int) < 49152) = false := by rw [decide_eq_false_iff_not]; omega
      have g2 : (N : Int) - 49152 = (t : Int) := by have := HT.out; omega
      have g3 : wrap64 (IntKind.u64.wrap ((N : Int) - 49152)) = (t : Int) := by
        rw [g2, IntKind.wrap_u64]
        unfold wrap64
        omega
      have G3 := Ha g3
      clear F1 FB hB1 hsee hc2 g2 g3 hN1 hN2; go_wp2_with fail
      go_ret3
      exact ⟨by rw [G3.out]; rfl, HB2.out⟩
    · rw [if_neg hc] at h'; cases h'
theorem pointer_none (S : ByteArray) (r : List UInt8) (w : World) (hS : S = mk r) (hs : r.length <= 1073741824) (h : ptrL r = none) :
    Calls Tryz.prog 254 #[.string S] w fun e w' => e = .returned (.tuple #[.int .i64 0, .string (mk []), .bool false]) /\ Below w.heap.size w w' := by
  have hsz : S.size <= 1073741824 := by rw [hS, mk_size]; exact hs
  have hcase : splitR (mk r) [2] = ([], empty, 2) \/ ∃ c d q, r = c :: d :: q /\ c.toNat < 192 := by
    match r, h with
    | [], _ => exact .inl (split_less (by simp))
    | [c], _ => exact .inl (split_less (by simp))
    | c :: d :: q, h =>
      have h' : (if 192 <= c.toNat then some ((c.toNat - 192) * 256 + d.toNat, q) else none) = none := h
      by_cases hc : 192 <= c.toNat
      · rw [if_pos hc] at h'; cases h'
      · exact .inr ⟨c, d, q, rfl, by omega⟩
  have HS := Ha hS
  clear hS
  rcases hcase with hsp | ⟨c, d, q, rfl, hc⟩
  · have HSP := Ha hsp
    clear hsp; go_enter Tryz.func254, Tryz.ntmps254
    have F1 := Whole.new w 3 #[.int .i64 2]
    have FB : Below w.heap.size w (w.alloc (.cells #[.int .i64 2] 3)) := (Below.refl _ _).alloc (Nat.le_refl _) _
    go_wp2_with fail
    refine (Split_any S _ 1 1 (w.heap.size + 1) [2] _ (sees_one F1) (by decide) (by simp) hsz).mono ?_
    rintro e w1 ⟨A, cc, he, hsee, hB1⟩; rw [HS.out, HSP.out] at he
    subst he; have HB2 := Ha (FB.trans (hB1.mono FB.size))
    clear F1 FB hB1 hsee; go_wp2_with fail
    go_ret3
    exact ⟨rfl, HB2.out⟩
  · have hdl := d.toNat_lt
    have HSP := Ha (split_two c d q)
    obtain ⟨N, hN⟩ : ∃ N, N = c.toNat * 256 + d.toNat := ⟨_, rfl⟩
    have hN1 : N < 49152 := by omega
    rw [<-hN] at HSP
    clear hN hdl hc; go_enter Tryz.func254, Tryz.ntmps254
    have F1 := Whole.new w 3 #[.int .i64 2]
    have FB : Below w.heap.size w (w.alloc (.cells #[.int .i64 2] 3)) := (Below.refl _ _).alloc (Nat.le_refl _) _
    go_wp2_with fail
    refine (Split_any S _ 1 1 (w.heap.size + 1) [2] _ (sees_one F1) (by decide) (by simp) hsz).mono ?_
    rintro e w1 ⟨A, cc, he, hsee, hB1⟩; rw [HS.out, HSP.out] at he hsee
    subst he; obtain ⟨b2, off2, rfl, _, hc2⟩ := hsee.addr (Nat.zero_lt_one)
    have hc0 : w1.cell? ⟨b2, off2, none⟩ = some (.int .u64 (N : Nat)) := hc2 0 _ rfl
    have HB2 := Ha (FB.trans (hB1.mono FB.size))
    have g1 : (N : Int) < 49152 := by omega
    clear F1 FB hB1 hsee hc2 hN1; go_wp2_with fail
    go_ret3
    exact ⟨rfl, HB2.out⟩
theorem Or_any (A : Option Addr) (cA B : Nat) (x y : Int) (w : World) (h : Sees w B A 2 (ints .i64 [x, y])) :
    Calls Tryz.prog 174 #[.slice A 2 cA] w fun e w' => e = .returned (.int .i64 (if x = 0 then y else x)) /\ w = w' := by
  obtain ⟨b, off, rfl, _, hc⟩ := h.addr (Nat.zero_lt_two)
  have c0 : w.cell? ⟨b, off, none⟩ = some (.int .i64 x) := hc 0 _ rfl
  have c1 : w.cell? ⟨b, off + 1, none⟩ = some (.int .i64 y) := hc 1 _ rfl
  clear hc h
  by_cases hx : x = 0
  · subst hx
    rw [if_pos rfl]
    by_cases hy : y = 0
    · subst hy
      go_enter Tryz.func174, Tryz.ntmps174
      go_wp2_with fail
      refine wp_loop_rounds 4 ?_
      rw [rounds_succ]
      go_wp2_with fail
      rw [rounds_succ]
      go_wp2_with fail
      rw [rounds_succ]
      go_wp2_with fail
      go_ret
      exact ⟨rfl, rfl⟩
    · have gy : (y == 0) = false := by rw [beq_eq_false_iff_ne]; exact hy
      go_enter Tryz.func174, Tryz.ntmps174
      go_wp2_with fail
      refine wp_loop_rounds 4 ?_
      rw [rounds_succ]
      go_wp2_with fail
      rw [rounds_succ]
      go_wp2_with fail
      go_ret
      exact ⟨rfl, rfl⟩
  · have gx : (x == 0) = false := by rw [beq_eq_false_iff_ne]; exact hx
    rw [if_neg hx]
    go_enter Tryz.func174, Tryz.ntmps174
    go_wp2_with fail
    refine wp_loop_rounds 4 ?_
    rw [rounds_succ]
    go_wp2_with fail
    go_ret
    exact ⟨rfl, rfl⟩
end Go.Proofs.YtmpginmdaeclaaaGreatDoor
namespace Go.Proofs.YtmpginmdaeclaaaGreatDoor
open Go.RowKit
section
variable {M n : List UInt8} {s p t : Nat} {nx : Option Nat} {q a b : List UInt8}
theorem ptrL_is {r : List UInt8} (h : ptrL r = some (t, q)) : ∃ c d, r = c :: d :: q /\ 192 <= c.toNat /\ t = (c.toNat - 192) * 256 + d.toNat := by
  match r, h with
  | c :: d :: q', h =>
    have h' : (if 192 <= c.toNat then some ((c.toNat - 192) * 256 + d.toNat, q') else none) = some (t, q) := h
    by_cases hc : 192 <= c.toNat
    · rw [if_pos hc] at h'
      injection h' with h'
      injection h' with h1 h2
      exact ⟨c, d, by rw [h2], hc, h1.symm⟩
    · rw [if_neg hc] at h'; cases h'
theorem ptrL_none {c d : UInt8} (h : ptrL (c :: d :: q) = none) : c.toNat < 192 := by
  have h' : (if 192 <= c.toNat then some ((c.toNat - 192) * 256 + d.toNat, q) else none) = none := h
  by_cases hc : 192 <= c.toNat
  · rw [if_pos hc] at h'; cases h'
  · omega
theorem drop_len (M : List UInt8) (p : Nat) : (M.drop p).length = M.length - p := List.length_drop
theorem rs_ptr (h : ptrL (M.drop p) = some (t, q)) (hn : n.length < 255) (ht : t < s) : readR M n s p nx = readR M n t t (some (nx.getD (p + 2))) := by
  obtain ⟨c, d, hr, hc, rfl⟩ := ptrL_is h
  exact rd_ptr hn hr hc ht
theorem rs_ptr_len (h : ptrL (M.drop p) = some (t, q)) : q.length + p + 2 = M.length := by
  obtain ⟨c, d, hr, _, _⟩ := ptrL_is h
  have h1 := congrArg List.length hr
  rw [drop_len] at h1
  simp only [List.length_cons] at h1
  omega
theorem rs_fore (h : ptrL (M.drop p) = some (t, q)) (ht : s <= t) : readR M n s p nx = none := by
  obtain ⟨c, d, hr, hc, rfl⟩ := ptrL_is h
  exact rd_fore hr hc ht
theorem rs_none (h : ptrL (M.drop p) = none) (h2 : cutL (M.drop p) = none) : readR M n s p nx = none := by
  cases hr : M.drop p with
  | nil => exact rd_end hr
  | cons c r =>
    rw [hr] at h h2
    have hlt : r.length < c.toNat := by
      have h3 : (if r.length < c.toNat then none else some (r.take c.toNat, r.drop c.toNat)) = none := h2
      by_cases hc : r.length < c.toNat
      · exact hc
      · rw [if_neg hc] at h3; cases h3
    cases r with
    | nil =>
      by_cases hc : 192 <= c.toNat
      · exact rd_ptr1 hr hc
      · exact rd_bad hr (by omega) (by omega) (by omega)
    | cons d q => exact rd_bad hr (by omega) (ptrL_none h) (by omega)
theorem rs_long (h : ptrL (M.drop p) = none) (h2 : cutL (M.drop p) = some (a, b)) (ha : 63 < a.length) : readR M n s p nx = none := by
  obtain ⟨hr, hal⟩ := cut_is h2
  have hc : (UInt8.ofNat a.length).toNat = a.length := by rw [UInt8.toNat_ofNat']; omega
  cases a with
  | nil => simp at ha
  | cons x y =>
    have hr' : M.drop p = UInt8.ofNat (x :: y).length :: x :: (y ++ b) := hr
    rw [hr'] at h
    have := ptrL_none h
    exact rd_bad hr' (by omega) this (by omega)
theorem rs_lab (h2 : cutL (M.drop p) = some (a, b)) (h0 : a ≠ []) (ha : a.length <= 63) (hn : n.length < 255) :
    readR M n s p nx = readR M (n ++ lab a) s (p + 1 + a.length) nx /\ b = M.drop (p + 1 + a.length) := by
  obtain ⟨hr, hal⟩ := cut_is h2
  have hc : (UInt8.ofNat a.length).toNat = a.length := by rw [UInt8.toNat_ofNat']; omega
  have h1 : 1 <= a.length := List.length_pos_iff.2 h0
  have hr' : M.drop p = UInt8.ofNat a.length :: (a ++ b) := hr
  refine ⟨?_, ?_⟩
  · rw [rd_lab hn hr' (by omega) (by omega) (by rw [hc]; simp), hc, List.take_left]
    rfl
  · rw [show p + 1 + a.length = p + (1 + a.length) by omega, <-List.drop_drop, hr, List.drop_left' (by rw [lab_len]; omega)]
theorem rs_zero (h2 : cutL (M.drop p) = some ([], b)) (hn : n.length < 255) : readR M n s p nx = some (n ++ [0], nx.getD (p + 1)) := by
  obtain ⟨hr, _⟩ := cut_is h2
  exact rd_zero hn hr rfl
theorem rs_len (h2 : cutL (M.drop p) = some (a, b)) : b.length + a.length + 1 + p = M.length := by
  have h3 := cutL_lt h2
  rw [drop_len] at h3
  omega
theorem rs_take (h2 : cutL (M.drop p) = some (a, b)) : (M.drop p).take ((M.drop p).length - b.length) = lab a := by
  obtain ⟨hr, _⟩ := cut_is h2
  rw [hr, List.take_left' (by rw [List.length_append]; omega)]
end
def readV : Option (List UInt8 × Nat) -> Value
  | some (n, k) => .tuple #[.string (mk n), .int .i64 (k : Nat), .int .i64 0]
  | none => .tuple #[.string (mk []), .int .i64 0, .int .i64 2]
def NxOk (nx : Option Nat) : Prop := ∀ k, nx = some k -> 0 < k
theorem or_nx {nx : Option Nat} (h : NxOk nx) (y : Nat) : (if ((nx.getD 0 : Nat) : Int) = 0 then ((y : Nat) : Int) else ((nx.getD 0 : Nat) : Int)) = ((nx.getD y : Nat) : Int) := by
  cases nx with
  | none => simp
  | some k =>
    have := h k rfl
    show (if ((k : Nat) : Int) = 0 then ((y : Nat) : Int) else (k : Int)) = (k : Int)
    rw [if_neg (by omega)]
theorem or_nx' {nx : Option Nat} (h : NxOk nx) (p : Nat) : (if ((nx.getD 0 : Nat) : Int) = 0 then (p : Int) + 1 else ((nx.getD 0 : Nat) : Int)) = ((nx.getD (p + 1) : Nat) : Int) := by
  rw [<-or_nx h (p + 1)]; rfl
def ReadAt (M : List UInt8) (R : Option (List UInt8 × Nat)) (w : World) (N st re nxv : Value) (wr : World) : Prop :=
  ∃ n s p nx, wr.ownsRow w.heap.size 5 1 N n.length (bytesV n) /\ st = .int .i64 (s : Nat) /\ re = .string (mk (M.drop p)) /\ nxv = .int .i64 ((nx.getD 0 : Nat) : Int) /\ NxOk nx /\ R = readR M n s p nx /\
    p <= M.length /\ s <= M.length /\ n.length <= 318 /\ Below w.heap.size w wr
theorem sees_two {W : World} {g ty : Nat} {x y : Value} (h : Whole W g ty #[x, y]) : Sees W (g + 1) (some ⟨g, 0, none⟩) 2 [x, y] := by
  refine ⟨rfl, fun _ => ⟨g, 0, rfl, by omega, fun j u hu => ?_⟩⟩
  match j, hu with
  | 0, hu => rw [h.cell]; simpa using hu
  | 1, hu => rw [h.cell]; simpa using hu
  | j + 2, hu => simp at hu
def lenV : Value -> Nat
  | .slice _ n _ => n
  | _ => 0
theorem Read_in (S : ByteArray) (M : List UInt8) (p0 : Nat) (w : World) (hS : S = mk M) (hM : M.length <= 1000000) (hp : p0 <= M.length) :
    Calls Tryz.prog 213 #[.string S, .int .i64 (p0 : Nat)] w fun e w' => e = .returned (readV (readR M [] p0 p0 none)) /\ Below w.heap.size w w' := by
  obtain ⟨R, hR⟩ : ∃ R, R = readR M [] p0 p0 none := ⟨_, rfl⟩
  rw [<-hR]
  have hSz : S.size = M.length := by rw [hS, mk_size]
  have g0 : (0 : Int) <= (p0 : Int) := by omega
  have g1 : (p0 : Int) <= (S.size : Int) := by omega
  have g2 : decide ((p0 : Int) < 0) = false := by rw [decide_eq_false_iff_not]; omega
  have g3 : decide (S.size < p0) = false := by rw [decide_eq_false_iff_not]; omega
  have HS := Ha hS
  have HR := Ha hR
  have HSZ := Ha hSz
  clear hS hR hSz
  go_enter Tryz.func213, Tryz.ntmps213
  go_wp2_with fail
  go_step3
  go_wp2_with fail
  go_quiet (fail)
  go_wp2_with fail
  go_step3
  go_wp2_with fail
  obtain ⟨Z, hZ⟩ : ∃ Z, Z = M.length := ⟨_, rfl⟩
  have HZ := Ha hZ
  have hex : S.extract p0 S.size = mk (M.drop p0) := by rw [HS.out, mk_extract, mk_size, List.take_length]
  clear g0 g1 g2 g3 hZ
  go_loopw [7, 8, 9, 10] (fun N st re nxv wr => ReadAt M R w N st re nxv wr) (fun N st _ _ _ => (intOf st).toNat + (255 - lenV N))
  case atStart => exact ⟨[], p0, p0, none, World.ownsRow_nil _ _ _ _, rfl, by rw [hex], rfl, (fun k hk => by cases hk), HR.out, hp, hp, by simp, below_drewN (Below.refl _ _) _⟩
  case round =>
    obtain ⟨n, s, p, nx, hown, rfl, rfl, rfl, hnx, hR, hpM, hsM, hn318, hB⟩ := hrel
    obtain ⟨A, cA, rfl, hsee⟩ := Sees.own hown
    have HO := Ha hown
    have HB := Ha hB
    have HRR := Ha hR
    have HNX := Ha hnx
    have hsz : (mk (M.drop p)).size = M.length - p := by rw [mk_size, drop_len]
    clear hown hB hsee hR hnx hex
    by_cases hn : n.length < 255
    · have gn : (n.length : Int) < 255 := by omega
      cases hq : ptrL (M.drop p) with
      | some tq =>
        obtain ⟨t, q⟩ := tq
        have hql := rs_ptr_len hq
        by_cases ht : t < s
        · have gt : ¬ ((s : Int) <= (t : Int)) := by omega
          have HST := Ha (HRR.out.trans (rs_ptr (nx := nx) hq hn ht))
          have HQ := Ha hq
          clear hq; obtain ⟨T, hT⟩ : ∃ T, T = mk (M.drop p) := ⟨_, rfl⟩
          rw [<-hT] at hsz ⊢
          have HT := Ha hT
          clear hT; go_wp2_with fail
          refine (pointer_some T (M.drop p) q t _ HT.out (by rw [drop_len]; omega) HQ.out).mono ?_
          rintro e w1 ⟨rfl, hB1⟩; have HB1 := Ha hB1
          clear hB1; go_wp2_with fail
          have hV : wrap64 ((S.size : Int) - ((mk q).size : Int)) = ((p + 2 : Nat) : Int) := by
            rw [HSZ.out, mk_size]; unfold wrap64; omega
          have F1 := Whole.new w1 3 #[.int .i64 ((nx.getD 0 : Nat) : Int), .int .i64 (wrap64 ((S.size : Int) - ((mk q).size : Int)))]
          have FB : Below w.heap.size w (w1.alloc (.cells #[.int .i64 ((nx.getD 0 : Nat) : Int), .int .i64 (wrap64 ((S.size : Int) - ((mk q).size : Int)))] 3)) := (HB.out.trans (HB1.out.mono HB.out.size)).alloc (Nat.le_trans HB.out.size HB1.out.size) _
          have FO : Below wr.heap.size wr (w1.alloc (.cells #[.int .i64 ((nx.getD 0 : Nat) : Int), .int .i64 (wrap64 ((S.size : Int) - ((mk q).size : Int)))] 3)) := HB1.out.alloc HB1.out.size _
          refine (Or_any _ 2 _ _ _ _ (sees_two F1)).mono ?_
          rw [hV, or_nx HNX.out]
          rw [hV] at FB FO
          clear F1 hV
          revert FB FO
          generalize w1.alloc (.cells #[.int .i64 ((nx.getD 0 : Nat) : Int), .int .i64 ((p + 2 : Nat) : Int)] 3) = W2
          intro FB FO
          rintro e w2 ⟨rfl, rfl⟩; have HFB := Ha FB
          have HOO := Ha (own_below HO.out FO)
          have htM : (t : Int) <= (S.size : Int) := by rw [HSZ.out]; omega
          have ht0 : (0 : Int) <= (t : Int) := by omega
          clear FB FO; go_wp2_with fail
          go_quiet (fail)
          have hex : S.extract t S.size = mk (M.drop t) := by rw [HS.out, mk_extract, mk_size, List.take_length]
          go_wp2_with fail
          go_roundw
          case rel =>
            refine ⟨n, t, t, some (nx.getD (p + 2)), own_below HOO.out (below_drewN (Below.refl _ _) _), rfl, by rw [hex], rfl, ?_, HST.out, by omega, by omega, hn318, below_drewN HFB.out _⟩
            intro k hk
            injection hk with hk
            cases hnx : nx with
            | none => rw [hnx] at hk; simp at hk; omega
            | some k' => rw [hnx] at hk; have := HNX.out k' hnx; simp at hk; omega
          case measure => simp [intOf, lenV]; omega
        · have gt : (s : Int) <= (t : Int) := by omega
          have HN := Ha (HRR.out.trans (rs_fore (n := n) (nx := nx) hq (by omega : s <= t)))
          have HQ := Ha hq
          clear hq; obtain ⟨T, hT⟩ : ∃ T, T = mk (M.drop p) := ⟨_, rfl⟩
          rw [<-hT] at hsz ⊢
          have HT := Ha hT
          clear hT; go_wp2_with fail
          refine (pointer_some T (M.drop p) q t _ HT.out (by rw [drop_len]; omega) HQ.out).mono ?_
          rintro e w1 ⟨rfl, hB1⟩; go_wp2_with fail
          rw [Exit.noGoto_ret]
          go_ret3
          exact ⟨by rw [HN.out]; rfl, HB.out.trans (hB1.mono HB.out.size)⟩
      | none =>
        obtain ⟨T, hT⟩ : ∃ T, T = mk (M.drop p) := ⟨_, rfl⟩
        rw [<-hT] at hsz ⊢
        have HT := Ha hT
        have HQ := Ha hq
        have hdl := drop_len M p
        clear hT
        cases hc : cutL (M.drop p) with
        | none =>
          have HN := Ha (HRR.out.trans (rs_none (n := n) (s := s) (nx := nx) hq hc))
          have HC := Ha hc
          clear hq hc; go_wp2_with fail
          refine (pointer_none T (M.drop p) _ HT.out (by omega) HQ.out).mono ?_
          rintro e w1 ⟨rfl, hB1⟩; go_wp2_with fail
          refine (Cut_no T (M.drop p) _ HT.out (by omega) HC.out).mono ?_
          rintro e w2 ⟨rfl, hB2⟩; go_wp2_with fail
          rw [Exit.noGoto_ret]
          go_ret3
          exact ⟨by rw [HN.out]; rfl, (HB.out.trans (hB1.mono HB.out.size)).trans (hB2.mono (Nat.le_trans HB.out.size hB1.size))⟩
        | some ab =>
          obtain ⟨a, b⟩ := ab
          have hms := mk_size a
          by_cases ha : 63 < a.length
          · have ga : (63 : Int) < (a.length : Int) := by omega
            have HN := Ha (HRR.out.trans (rs_long (n := n) (s := s) (nx := nx) hq hc ha))
            have HC := Ha hc
            clear hq hc; go_wp2_with fail
            refine (pointer_none T (M.drop p) _ HT.out (by omega) HQ.out).mono ?_
            rintro e w1 ⟨rfl, hB1⟩; go_wp2_with fail
            refine (Cut_yes T (M.drop p) a b _ HT.out (by omega) HC.out).mono ?_
            rintro e w2 ⟨rfl, hB2⟩; go_wp2_with fail
            rw [Exit.noGoto_ret]
            go_ret3
            exact ⟨by rw [HN.out]; rfl, (HB.out.trans (hB1.mono HB.out.size)).trans (hB2.mono (Nat.le_trans HB.out.size hB1.size))⟩
          · have ga : (a.length : Int) <= 63 := by omega
            have HTK := Ha (rs_take hc)
            have hbl := rs_len hc
            have hbs := mk_size b
            have HC := Ha hc
            clear hc hq; go_wp2_with fail
            refine (pointer_none T (M.drop p) _ HT.out (by omega) HQ.out).mono ?_
            rintro e w1 ⟨rfl, hB1⟩; have hB1' := Ha hB1
            clear hB1; go_wp2_with fail
            refine (Cut_yes T (M.drop p) a b _ HT.out (by omega) HC.out).mono ?_
            rintro e w2 ⟨rfl, hB2⟩; have HB2 := Ha ((HB.out.trans (hB1'.out.mono HB.out.size)).trans (hB2.mono (Nat.le_trans HB.out.size hB1'.out.size)))
            have HO2 := Ha (own_below HO.out (hB1'.out.trans (hB2.mono hB1'.out.size)))
            obtain ⟨i0, hi, hz0, hz1, hz2⟩ := info_parts byte_info
            clear hB2; go_wp2_with (at_builtin; refine Lib.wpList_append_own_string _ rfl _ _ 115 9 rfl w.heap.size 5 i0 Tryz.underlying115 Tryz.underlying9 hi hz0 hz1 hz2 _ _ _ rfl HO2.out _ rfl ?c3 ?c4 ?c5 ?_)
            case c3 => simp [ByteArray.size_extract]; unfold maxLen; omega
            case c4 => simp [ByteArray.size_extract]; omega
            case c5 => exact HB2.out.size
            intro v' w3 hown' hgrow _
            have hst : Lib.strCells (T.extract 0 (M.length - p - b.length)) = bytesV (lab a) := by
              have e : (T.extract 0 (M.length - p - b.length)).data.toList = lab a := by
                rw [HT.out, mk_extract, <-hdl, HTK.out, List.drop_zero]; rfl
              rw [Lib.strCells_eq, e]; rfl
            have hown3 : w3.ownsRow w.heap.size 5 1 v' (n ++ lab a).length (bytesV (n ++ lab a)) := by
              rw [hst] at hown'
              have e1 : (n ++ lab a).length = n.length + (M.length - p - b.length) := by rw [List.length_append, lab_len]; omega
              have e2 : bytesV (n ++ lab a) = bytesV n ++ bytesV (lab a) := by simp [bytesV]
              rw [e1, e2]; exact hown'
            have HB3 := Ha (HB2.out.grown hgrow HB2.out.size (fun k hk => (HO2.out.lt k hk).1))
            obtain ⟨A3, c3, rfl, _⟩ := Sees.own hown3
            have HO3 := Ha hown3
            clear hown' hgrow hown3 hst hi
            by_cases ha0 : a = []
            · subst ha0
              have HZ := Ha (HRR.out.trans (rs_zero (n := n) (s := s) (nx := nx) HC.out hn))
              have hem : (mk ([] : List UInt8)).toList.isEmpty = true := by rw [ByteArray.toList_eq]; rfl
              obtain ⟨N, hN⟩ : ∃ N, N = n ++ lab ([] : List UInt8) := ⟨_, rfl⟩
              rw [<-hN] at HO3 ⊢
              have HN := Ha hN
              have HBS := Ha hbs
              have hbl' : b.length + 1 + p = M.length := by simpa using hbl
              rename_i hs3
              clear hbs hms ha ga hbl hsz hdl hN hs3; go_wp2_with fail
              have hwI : IntKind.i64.wrap ((S.size : Int) - ((mk b).size : Int)) = (p : Int) + 1 := by
                rw [HSZ.out, HBS.out, IntKind.wrap_i64]; omega
              have hw6 : wrap64 ((S.size : Int) - ((mk b).size : Int)) = (p : Int) + 1 := by
                rw [HSZ.out, HBS.out]; unfold wrap64; omega
              have hcv1 := str_of_own (own_below HO3.out (Below.refl _ _).drew)
              have hcv2 := str_of_own (own_below HO3.out ((Below.refl _ _).alloc (Nat.le_refl _) (.cells #[.int .i64 ((nx.getD 0 : Nat) : Int), .int .i64 ((p : Int) + 1)] 3)).drew)
              have F1 := Whole.new w3.drew 3 #[.int .i64 ((nx.getD 0 : Nat) : Int), .int .i64 ((p : Int) + 1)]
              have FB : Below w.heap.size w (w3.drew.alloc (.cells #[.int .i64 ((nx.getD 0 : Nat) : Int), .int .i64 ((p : Int) + 1)] 3)) := HB3.out.drew.alloc HB3.out.size _
              have F1 := Ha F1
              have FB := Ha FB
              have HOR := Ha (or_nx' HNX.out p)
              go_region_with (go_at_call 174; (refine (Or_any _ 2 _ _ _ _ (sees_two F1.out)).mono ?_; rw [HOR.out]; rintro e w4 ⟨rfl, rfl⟩))
              all_goals (
                go_wp2_with fail
                rw [Exit.noGoto_ret]
                go_ret3
                exact ⟨by rw [HZ.out, HN.out]; rfl, FB.out⟩)
            · have hem : (mk a).toList.isEmpty = false := not_empty (by rw [mk_size]; intro e; exact ha0 (List.eq_nil_of_length_eq_zero e))
              obtain ⟨hr1, hr2⟩ := rs_lab (s := s) (nx := nx) HC.out ha0 (by omega) hn
              have HST := Ha (HRR.out.trans hr1)
              have HB := Ha hr2
              clear hr1 hr2 ha0; go_wp2_with fail
              go_roundw
              case rel =>
                exact ⟨n ++ lab a, s, p + 1 + a.length, nx, HO3.out, rfl, by rw [<-HB.out], rfl, HNX.out, HST.out, by omega, hsM, by rw [List.length_append, lab_len]; omega, HB3.out⟩
              case measure => simp [intOf, lenV, lab_len]; omega
    · have gn : decide ((n.length : Int) < 255) = false := by rw [decide_eq_false_iff_not]; omega
      have HN := Ha (HRR.out.trans (rd_full (m := M) (s := s) (p := p) (nx := nx) (by omega : 255 <= n.length)))
      go_wp2_with fail
      rw [Exit.noGoto_ret]
      go_ret3
      exact ⟨by rw [HN.out]; rfl, HB.out⟩
end Go.Proofs.YtmpginmdaeclaaaGreatDoor
