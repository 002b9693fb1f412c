/- What is known: looked up, learnt; a pointer written. No statement of the seat is proved here. -/
import Derived.Test.YtdanncclnhkmgaaPakA
import Derived.Deep.RegionHeld3
import Derived.StillTailTactics
namespace Go.Proofs.Ytdanncclnhkmgaa
open Go.RowKit Go.Maps

theorem zeroI (w : World) : (zeroValue 3).run Try.prog w = .ok (.int .i64 0) w := by kernel_rfl
section
variable {B b m c : Nat} {w w' : World} {v v' : Value} {l : List UInt8} {K : Kn}
theorem pk_look (h : Pk B w b m v l K c) {S : ByteArray} {r : List UInt8} (hS : S = mk r) (hr : r.length ≤ 300) :
    (Instr.lookup 59 (.map (some m)) (.string S) true).run Try.prog w = .ok (.tuple #[.int .i64 ((K r).getD 0 : Nat), .bool (K r).isSome]) w := by
  obtain ⟨D, n, h1, h2, h3⟩ := h.map
  have hsz : S.size ≤ maxLen := by rw [hS, mk_size]; unfold maxLen; omega
  have hk := Go.WideMaps.keyOf_string_mk (k := 9) (P := Try.prog) Try.underlying9 hsz
  have hSr : S.data.toList = r := by rw [hS]; rfl
  rw [hSr] at hk
  obtain ⟨v, ps, e1, e2⟩ := h1.look_ok law Try.underlying59 (zeroI w) (intR_mk 0) hk
  rw [(h3.2 r).2] at e2
  rw [intR_inv e2, (h3.2 r).1] at e1
  exact e1
theorem Pk.putK (h : Pk B w b m v l K c) {D' : DataW Unit} {n' : Nat} {K' : Kn} {c' : Nat} (hg : w.grownBy w' (some m)) (hm : w'.ownsMap Try.prog 9 intR m n' D') (hn : n' ≤ c') (hK : KMap D' K') :
    Pk B w' b m v l K' c' ∧ Kp b m v v w w' := by
  obtain ⟨p, hp, hb⟩ := h.blk
  exact ⟨⟨h.hb, h.hm, ⟨p, hp, (hg.block b h.blt (fun e => h.nm (Option.some.inj e))).trans hb⟩, h.row.kept hg (.inr h.nmv), ⟨D', n', hm, hn, hK⟩, h.nl⟩, .of_grown hg fun k hk => .inr (.inl (Option.some.inj hk).symm)⟩

set_option maxHeartbeats 1000000 in
theorem learn_any (h : Pk B w b m v l K c) (S : ByteArray) (r : List UInt8) (hS : S = mk r) (hr : r.length ≤ 300) (hc : c ≤ 1000000) :
    Calls Try.prog 76 #[pkP b, .string S] w fun e w' => e = .returned (.tuple #[]) ∧ Pk B w' b m v l (learnK K r l.length) (c + 1) ∧ Kp b m v v w w' := by
  have c2 := h.cell2
  have hl := pk_look h hS hr
  cases hk : (K r).isSome
  · rw [hk] at hl
    have hkn : (K r).isNone = true := by cases h' : K r <;> simp_all
    by_cases h4 : l.length < 16384
    · have h4I : (l.length : Int) < 16384 := by omega
      have hL : learnK K r l.length = fun k => if k = r then some l.length else K k := by unfold learnK; rw [if_pos ⟨hkn, h4⟩]
      rw [hL]
      have hsz : S.size ≤ maxLen := by rw [hS, mk_size]; unfold maxLen; omega
      have hkey := Go.WideMaps.keyOf_string_mk (k := 9) (P := Try.prog) Try.underlying9 hsz
      have hSr : S.data.toList = r := by rw [hS]; rfl
      rw [hSr] at hkey
      have HH := Lib.hid h
      have HC := Lib.hid hc
      obtain ⟨D, n, hm1, hm2, hm3⟩ := h.map
      have HM1 := Lib.hid hm1
      have HM2 := Lib.hid hm2
      have HM3 := Lib.hid hm3
      clear h hS hL hk hkn hc hm1 hm2 hm3 hsz hSr
      go_enter Try.func76, Try.ntmps76
      go_wp2_with fail
      refine (Len_any HH.out).mono ?_
      rintro e w1 ⟨rfl, rfl⟩
      go_wp2_with fail
      obtain ⟨w2, hrun, hm2, hg2⟩ := (show w.drew.ownsMap Try.prog 9 intR m n D from HM1.out).update law Try.underlying59 (by have := HM2.out; have := HC.out; unfold maxLen; omega) hkey (intR_mk (l.length : Nat))
      obtain ⟨k1, k2⟩ := HH.out.drew.putK hg2 hm2 (Nat.succ_le_succ HM2.out) (HM3.out.put r l.length)
      have HK1 := Lib.hid k1
      have HK2 := Lib.hid k2
      clear hm2 hg2 k1 k2
      go_region_with (go_at_call 18; (refine (Len_any HH.out.drew).mono ?_; rintro e w1 ⟨rfl, rfl⟩))
      all_goals (go_wp2_with fail; go_end0; exact ⟨rfl, HK1.out, (Kp.refl _ _ _ _).drew.trans HK2.out⟩)
    · have h4I : decide ((l.length : Int) < 16384) = false := by rw [decide_eq_false_iff_not]; omega
      have hL : learnK K r l.length = K := by
        unfold learnK; rw [if_neg]; rintro ⟨_, h2⟩; exact h4 h2
      rw [hL]
      have HH := Lib.hid h
      clear h hS hL hkn hk
      go_enter Try.func76, Try.ntmps76
      go_wp2_with fail
      refine (Len_any HH.out).mono ?_
      rintro e w1 ⟨rfl, rfl⟩
      go_wp2_with fail
      go_end0
      exact ⟨rfl, HH.out.more (Nat.le_succ _), .refl _ _ _ _⟩
  · rw [hk] at hl
    have hL : learnK K r l.length = K := by
      unfold learnK; rw [if_neg]; rintro ⟨h1, _⟩; cases h' : K r <;> simp_all
    rw [hL]
    have HH := Lib.hid h
    clear h hS
    go_enter Try.func76, Try.ntmps76
    go_wp2_with fail
    go_end0
    exact ⟨rfl, HH.out.more (Nat.le_succ _), .refl _ _ _ _⟩

theorem join_ptr {t : Nat} (ht : t < 16384) : joinR [49152 + (t : Int)] [2] = (mk (ptrB t), 0) := by
  have e1 : (49152 + (t : Int)).toNat = 49152 + t := by omega
  have e2 : ((2 : Int)).toNat = 2 := rfl
  have e3 : fitB (49152 + t) 2 = true := by unfold fitB; rw [decide_eq_true_eq]; omega
  have e4 : be (49152 + t) 2 = ptrB t := by
    have a1 : (49152 + t) / 256 ^ 1 = 192 + t / 256 := by omega
    have a2 : UInt8.ofNat ((49152 + t) / 256 ^ 0) = UInt8.ofNat (t % 256) := by
      apply UInt8.toNat_inj.1
      rw [UInt8.toNat_ofNat', UInt8.toNat_ofNat']
      omega
    simp only [be, ptrB, a1, a2]
  refine joinR_some (by decide) rfl ?_
  simp only [joinF, e1, e2, e3, e4, if_true, Option.map_some, List.append_nil]
theorem sees_one {W : World} {g ty : Nat} {x : Value} (h : Whole W g ty #[x]) : Sees W (g + 1) (some ⟨g, 0, none⟩) 1 [x] := by
  refine ⟨rfl, fun _ => ⟨g, 0, rfl, by omega, fun j u hu => ?_⟩⟩
  rcases Nat.eq_zero_or_pos j with h0 | h0
  · subst h0
    rw [show 0 + 0 = 0 from rfl, h.cell1]
    simpa using hu
  · rw [List.getElem?_eq_none (by simp; omega)] at hu; cases hu
set_option maxHeartbeats 1000000 in
theorem point_any (h : Pk B w b m v l K c) (t : Nat) (ht : t < 16384) (hlen : l.length + 2 ≤ 1000000000) (hBw : B ≤ w.heap.size) :
    Calls Try.prog 75 #[pkP b, .int .i64 (t : Nat)] w fun e w' => e = .returned (.tuple #[]) ∧ ∃ v', Pk B w' b m v' (l ++ ptrB t) K c ∧ Kp b m v v' w w' := by
  have hj := join_ptr ht
  have g0 : (0 : Int) ≤ (t : Int) := by omega
  have HH := Lib.hid h
  have HJ := Lib.hid hj
  clear h hj
  go_enter Try.func75, Try.ntmps75
  have F1 := (Whole.new w 72 #[.int .u64 (49152 + (t : Int))]).alloc (.cells #[.int .i64 2] 3)
  have F2 := Whole.new (w.alloc (.cells #[.int .u64 (49152 + (t : Int))] 72)) 3 #[.int .i64 2]
  rw [World.size_alloc] at F2
  have FB : Below w.heap.size w ((w.alloc (.cells #[.int .u64 (49152 + (t : Int))] 72)).alloc (.cells #[.int .i64 2] 3)) := ((Below.refl _ _).alloc (Nat.le_refl _) _).alloc (by simp) _
  go_wp2_with fail
  refine (Join_any _ _ 1 1 1 1 (w.heap.size + 1) (w.heap.size + 1 + 1) [49152 + (t : Int)] [2] _ (sees_one F1) (sees_one F2) (by simp) (by simp) (by decide) (by decide) ?_).mono ?_
  · intro z hz
    obtain rfl : z = 49152 + (t : Int) := by simpa using hz
    omega
  rintro e w1 ⟨he, hB1⟩
  rw [HJ.out] at he
  subst he
  have hB2 : Below w.heap.size w w1 := FB.trans (hB1.mono FB.size)
  have HP := Lib.hid (HH.out.same hB2)
  have HB2 := Lib.hid hB2
  clear hB1 hB2 F1 F2 FB
  go_wp2_with fail
  refine (Raw_any HP.out _ (by rw [mk_size, ptr_len]; omega) (Nat.le_trans hBw HB2.out.size)).mono ?_
  rintro e w2 ⟨rfl, v', h1, h2⟩
  go_wp2_with fail
  go_end0
  exact ⟨rfl, v', h1, (Kp.of_below HB2.out).trans h2⟩
end
end Go.Proofs.Ytdanncclnhkmgaa
