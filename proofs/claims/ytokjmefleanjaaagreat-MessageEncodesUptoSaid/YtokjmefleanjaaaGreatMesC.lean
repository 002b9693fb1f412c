/- flagsOf, bitsOf, setBits of the program. No statement of the seat is proved here. -/
import Derived.Test.YtokjmefleanjaaaGreatMesB
import Derived.Laws.BitsAllLaws
namespace Go.Proofs.YtokjmefleanjaaaGreat
open Go.RowKit Go.Op

/-- the five flags of a message in block g, each with its bit -/
def flgL (g : Nat) : List Value := [.pointer (some ⟨g, 1, none⟩), .int .u64 32768, .pointer (some ⟨g, 3, none⟩), .int .u64 1024, .pointer (some ⟨g, 4, none⟩), .int .u64 512, .pointer (some ⟨g, 5, none⟩), .int .u64 256, .pointer (some ⟨g, 6, none⟩), .int .u64 128]
def flgA (g : Nat) : Value := .agg #[.pointer (some ⟨g, 1, none⟩), .int .u64 32768, .pointer (some ⟨g, 3, none⟩), .int .u64 1024, .pointer (some ⟨g, 4, none⟩), .int .u64 512, .pointer (some ⟨g, 5, none⟩), .int .u64 256, .pointer (some ⟨g, 6, none⟩), .int .u64 128]
abbrev flT : TypeId := 123
theorem flg_size : (Tryz.prog.info? flT).map (·.size) = some 10 := by kernel_rfl
set_option maxHeartbeats 4000000 in
set_option maxRecDepth 20000 in
theorem flagsOf_any (g : Nat) (w : World) : Calls Tryz.prog 70 #[.pointer (some ⟨g, 0, none⟩)] w fun e w' => e = .returned (flgA g) ∧ Below w.heap.size w w' := by
  have HB := Lib.hid (show Below w.heap.size w (w.alloc (.cells #[.pointer none, .int .u64 0, .pointer none, .int .u64 0, .pointer none, .int .u64 0, .pointer none, .int .u64 0, .pointer none, .int .u64 0] flT)) from (Below.refl _ _).alloc (Nat.le_refl _) _)
  have HW := Lib.hid (Whole.new w flT #[.pointer none, .int .u64 0, .pointer none, .int .u64 0, .pointer none, .int .u64 0, .pointer none, .int .u64 0, .pointer none, .int .u64 0])
  go_enter Tryz.func70, Tryz.ntmps70
  go_wp2_with fail
  obtain ⟨W, hW⟩ : ∃ W, W = w.alloc (.cells #[.pointer none, .int .u64 0, .pointer none, .int .u64 0, .pointer none, .int .u64 0, .pointer none, .int .u64 0, .pointer none, .int .u64 0] flT) := ⟨_, rfl⟩
  rw [← hW] at HB HW ⊢
  clear hW
  go_still_tail 21, (by kernel_rfl)
  change wpList _ _ _ _ _ W.drew
  have HW5 := Lib.hid HW.out.drew
  have HB5 := Lib.hid HB.out.drew
  generalize W.drew = w5 at HW5 HB5 ⊢
  have c0 := HW5.out.cell 0
  have c1 := HW5.out.cell 1
  have c2 := HW5.out.cell 2
  have c3 := HW5.out.cell 3
  have c4 := HW5.out.cell 4
  have c5 := HW5.out.cell 5
  have c6 := HW5.out.cell 6
  have c7 := HW5.out.cell 7
  have c8 := HW5.out.cell 8
  have c9 := HW5.out.cell 9
  have f0 := HW5.out.frozen 0
  have f1 := HW5.out.frozen 1
  have f2 := HW5.out.frozen 2
  have f3 := HW5.out.frozen 3
  have f4 := HW5.out.frozen 4
  have f5 := HW5.out.frozen 5
  have f6 := HW5.out.frozen 6
  have f7 := HW5.out.frozen 7
  have f8 := HW5.out.frozen 8
  have f9 := HW5.out.frozen 9
  go_wp2_with fail
  exact bodyPost_ret (results_cell_row rfl _ _ _ _ _ (0, 0) _ rfl (whole_new_row (flgL g) HW5.out rfl) Tryz.underlying123 rfl flg_size) rfl ⟨rfl, putAll_below (Nat.le_refl _) (flgL g) 0 HB5.out⟩

theorem flg_0 (g : Nat) (W : World) : (Instr.index flT (flgA g) (.int .i64 0)).run Tryz.prog W = .ok (.agg #[.pointer (some ⟨g, 1, none⟩), .int .u64 32768]) W := by kernel_rfl
theorem flg_1 (g : Nat) (W : World) : (Instr.index flT (flgA g) (.int .i64 1)).run Tryz.prog W = .ok (.agg #[.pointer (some ⟨g, 3, none⟩), .int .u64 1024]) W := by kernel_rfl
theorem flg_2 (g : Nat) (W : World) : (Instr.index flT (flgA g) (.int .i64 2)).run Tryz.prog W = .ok (.agg #[.pointer (some ⟨g, 4, none⟩), .int .u64 512]) W := by kernel_rfl
theorem flg_3 (g : Nat) (W : World) : (Instr.index flT (flgA g) (.int .i64 3)).run Tryz.prog W = .ok (.agg #[.pointer (some ⟨g, 5, none⟩), .int .u64 256]) W := by kernel_rfl
theorem flg_4 (g : Nat) (W : World) : (Instr.index flT (flgA g) (.int .i64 4)).run Tryz.prog W = .ok (.agg #[.pointer (some ⟨g, 6, none⟩), .int .u64 128]) W := by kernel_rfl
attribute [local go_sem] flg_0 flg_1 flg_2 flg_3 flg_4

/-! ### bits -/
theorem or_bit (x j : Nat) (h : x / 2 ^ j % 2 = 0) : x ||| 2 ^ j = x + 2 ^ j := by
  obtain ⟨hi, hhi⟩ : ∃ hi, hi = x / 2 ^ (j + 1) := ⟨_, rfl⟩
  obtain ⟨lo, hlo⟩ : ∃ lo, lo = x % 2 ^ j := ⟨_, rfl⟩
  have hl : lo < 2 ^ j := by rw [hlo]; exact Nat.mod_lt _ (Nat.two_pow_pos j)
  have hj : 2 ^ (j + 1) = 2 * 2 ^ j := by rw [Nat.pow_succ, Nat.mul_comm]
  have hx : x = 2 ^ (j + 1) * hi + lo := by
    have e1 := Nat.div_add_mod x (2 ^ j)
    have e2 := Nat.div_add_mod (x / 2 ^ j) 2
    rw [h, Nat.div_div_eq_div_mul, ← Nat.pow_succ, ← hhi] at e2
    rw [← hlo, ← e2, Nat.add_zero, ← Nat.mul_assoc, Nat.mul_comm (2 ^ j) 2, ← hj] at e1
    exact e1.symm
  have hl2 : lo < 2 ^ (j + 1) := by omega
  have hs : 2 ^ j + lo < 2 ^ (j + 1) := by omega
  have e1 := Nat.two_pow_add_eq_or_of_lt hl2 hi
  have e2 := Nat.two_pow_add_eq_or_of_lt hs hi
  have e3 := Nat.two_pow_add_eq_or_of_lt hl 1
  rw [Nat.mul_one] at e3
  rw [hx, show 2 ^ (j + 1) * hi + lo + 2 ^ j = 2 ^ (j + 1) * hi + (2 ^ j + lo) by omega, e2, e1, e3, Nat.or_assoc, Nat.or_comm lo]
theorem or_u64 {a b c : Nat} (ha : a < 65536) (hb : b < 65536) (h : a ||| b = c) : bits .or .u64 (a : Int) (b : Int) = (c : Int) := by
  rw [u64_or_nat a b (by omega) (by omega), h]
theorem and_bit (x j : Nat) : x &&& 2 ^ j = if x / 2 ^ j % 2 = 1 then 2 ^ j else 0 := by
  apply Nat.eq_of_testBit_eq
  intro i
  rw [Nat.testBit_and, Nat.testBit_two_pow]
  by_cases hi : j = i
  · subst hi
    rw [Nat.testBit_eq_decide_div_mod_eq, decide_eq_true rfl, Bool.and_true]
    by_cases h : x / 2 ^ j % 2 = 1
    · rw [if_pos h, Nat.testBit_two_pow]; simp [h]
    · rw [if_neg h]; simp [h]
  · rw [decide_eq_false hi, Bool.and_false]
    by_cases h : x / 2 ^ j % 2 = 1
    · rw [if_pos h, Nat.testBit_two_pow, decide_eq_false hi]
    · rw [if_neg h]; simp
def baseH (h : Hd) : Nat := h.op.toNat * 2048 + h.z.toNat * 16 + h.rc.toNat
theorem base_or {h : Hd} (k : okH h = true) : bits .or .u64 (bits .or .u64 (h.op * 2048) (h.z * 16)) h.rc = (baseH h : Int) := by
  obtain ⟨_, h2, h3, h4⟩ := okH_is k
  have e1 : h.op * 2048 = ((h.op.toNat * 2048 : Nat) : Int) := by omega
  have e2 : h.z * 16 = ((h.z.toNat * 16 : Nat) : Int) := by omega
  have e3 : h.rc = ((h.rc.toNat : Nat) : Int) := by omega
  have g1 := Nat.two_pow_add_eq_or_of_lt (i := 11) (b := h.z.toNat * 16) (by omega) h.op.toNat
  have g2 := Nat.two_pow_add_eq_or_of_lt (i := 4) (b := h.rc.toNat) (by omega) (h.op.toNat * 128 + h.z.toNat)
  rw [show (2 : Nat) ^ 11 = 2048 from rfl] at g1
  rw [show (2 : Nat) ^ 4 = 16 from rfl] at g2
  rw [e1, e2, or_u64 (c := h.op.toNat * 2048 + h.z.toNat * 16) (by omega) (by omega) (by rw [Nat.mul_comm h.op.toNat, ← g1])]
  rw [show h.rc = ((h.rc.toNat : Nat) : Int) from e3] 
  rw [or_u64 (c := baseH h) (by omega) (by omega) ?_]
  unfold baseH
  rw [show h.op.toNat * 2048 + h.z.toNat * 16 = 16 * (h.op.toNat * 128 + h.z.toNat) by omega, g2]
def accH (h : Hd) : Nat → Nat
  | 0 => baseH h
  | 1 => baseH h + bitB h.qr 32768
  | 2 => baseH h + bitB h.qr 32768 + bitB h.aa 1024
  | 3 => baseH h + bitB h.qr 32768 + bitB h.aa 1024 + bitB h.tc 512
  | 4 => baseH h + bitB h.qr 32768 + bitB h.aa 1024 + bitB h.tc 512 + bitB h.rd 256
  | _ => baseH h + bitB h.qr 32768 + bitB h.aa 1024 + bitB h.tc 512 + bitB h.rd 256 + bitB h.ra 128
theorem acc_end (h : Hd) : accH h 5 = bitsH h := by
  simp only [accH, baseH, bitsH]
  omega
theorem acc_0 {h : Hd} (k : okH h = true) : (h.qr = true → bits .or .u64 (accH h 0 : Nat) 32768 = ((accH h 1 : Nat) : Int)) ∧ (h.qr = false → accH h 0 = accH h 1) := by
  obtain ⟨_, h2, h3, h4⟩ := okH_is k
  obtain ⟨a, ha, ea, _⟩ := bitB_is h.qr
  obtain ⟨b, hb, eb, _⟩ := bitB_is h.aa
  obtain ⟨c, hc, ec, _⟩ := bitB_is h.tc
  obtain ⟨d, hd, ed, _⟩ := bitB_is h.rd
  refine ⟨fun e => ?_, fun e => by simp only [accH]; rw [e]; simp [bitB]⟩
  have hn : accH h 1 = accH h 0 + 32768 := by simp only [accH]; rw [e]; simp [bitB]
  have ha : accH h 0 < 65536 ∧ accH h 0 / 32768 % 2 = 0 := by
    simp only [accH, baseH]
    omega
  rw [hn]
  have := or_bit (accH h 0) 15 (by rw [show (2 : Nat) ^ 15 = 32768 from rfl]; exact ha.2)
  rw [show (2 : Nat) ^ 15 = 32768 from rfl] at this
  exact or_u64 (b := 32768) ha.1 (by omega) this
theorem acc_1 {h : Hd} (k : okH h = true) : (h.aa = true → bits .or .u64 (accH h 1 : Nat) 1024 = ((accH h 2 : Nat) : Int)) ∧ (h.aa = false → accH h 1 = accH h 2) := by
  obtain ⟨_, h2, h3, h4⟩ := okH_is k
  obtain ⟨a, ha, ea, _⟩ := bitB_is h.qr
  obtain ⟨b, hb, eb, _⟩ := bitB_is h.aa
  obtain ⟨c, hc, ec, _⟩ := bitB_is h.tc
  obtain ⟨d, hd, ed, _⟩ := bitB_is h.rd
  refine ⟨fun e => ?_, fun e => by simp only [accH]; rw [e]; simp [bitB]⟩
  have hn : accH h 2 = accH h 1 + 1024 := by simp only [accH]; rw [e]; simp [bitB]
  have ha : accH h 1 < 65536 ∧ accH h 1 / 1024 % 2 = 0 := by
    simp only [accH, baseH, ea]
    omega
  rw [hn]
  have := or_bit (accH h 1) 10 (by rw [show (2 : Nat) ^ 10 = 1024 from rfl]; exact ha.2)
  rw [show (2 : Nat) ^ 10 = 1024 from rfl] at this
  exact or_u64 (b := 1024) ha.1 (by omega) this
theorem acc_2 {h : Hd} (k : okH h = true) : (h.tc = true → bits .or .u64 (accH h 2 : Nat) 512 = ((accH h 3 : Nat) : Int)) ∧ (h.tc = false → accH h 2 = accH h 3) := by
  obtain ⟨_, h2, h3, h4⟩ := okH_is k
  obtain ⟨a, ha, ea, _⟩ := bitB_is h.qr
  obtain ⟨b, hb, eb, _⟩ := bitB_is h.aa
  obtain ⟨c, hc, ec, _⟩ := bitB_is h.tc
  obtain ⟨d, hd, ed, _⟩ := bitB_is h.rd
  refine ⟨fun e => ?_, fun e => by simp only [accH]; rw [e]; simp [bitB]⟩
  have hn : accH h 3 = accH h 2 + 512 := by simp only [accH]; rw [e]; simp [bitB]
  have ha : accH h 2 < 65536 ∧ accH h 2 / 512 % 2 = 0 := by
    simp only [accH, baseH, ea, eb]
    omega
  rw [hn]
  have := or_bit (accH h 2) 9 (by rw [show (2 : Nat) ^ 9 = 512 from rfl]; exact ha.2)
  rw [show (2 : Nat) ^ 9 = 512 from rfl] at this
  exact or_u64 (b := 512) ha.1 (by omega) this
theorem acc_3 {h : Hd} (k : okH h = true) : (h.rd = true → bits .or .u64 (accH h 3 : Nat) 256 = ((accH h 4 : Nat) : Int)) ∧ (h.rd = false → accH h 3 = accH h 4) := by
  obtain ⟨_, h2, h3, h4⟩ := okH_is k
  obtain ⟨a, ha, ea, _⟩ := bitB_is h.qr
  obtain ⟨b, hb, eb, _⟩ := bitB_is h.aa
  obtain ⟨c, hc, ec, _⟩ := bitB_is h.tc
  obtain ⟨d, hd, ed, _⟩ := bitB_is h.rd
  refine ⟨fun e => ?_, fun e => by simp only [accH]; rw [e]; simp [bitB]⟩
  have hn : accH h 4 = accH h 3 + 256 := by simp only [accH]; rw [e]; simp [bitB]
  have ha : accH h 3 < 65536 ∧ accH h 3 / 256 % 2 = 0 := by
    simp only [accH, baseH, ea, eb, ec]
    omega
  rw [hn]
  have := or_bit (accH h 3) 8 (by rw [show (2 : Nat) ^ 8 = 256 from rfl]; exact ha.2)
  rw [show (2 : Nat) ^ 8 = 256 from rfl] at this
  exact or_u64 (b := 256) ha.1 (by omega) this
theorem acc_4 {h : Hd} (k : okH h = true) : (h.ra = true → bits .or .u64 (accH h 4 : Nat) 128 = ((accH h 5 : Nat) : Int)) ∧ (h.ra = false → accH h 4 = accH h 5) := by
  obtain ⟨_, h2, h3, h4⟩ := okH_is k
  obtain ⟨a, ha, ea, _⟩ := bitB_is h.qr
  obtain ⟨b, hb, eb, _⟩ := bitB_is h.aa
  obtain ⟨c, hc, ec, _⟩ := bitB_is h.tc
  obtain ⟨d, hd, ed, _⟩ := bitB_is h.rd
  refine ⟨fun e => ?_, fun e => by simp only [accH]; rw [e]; simp [bitB]⟩
  have hn : accH h 5 = accH h 4 + 128 := by simp only [accH]; rw [e]; simp [bitB]
  have ha : accH h 4 < 65536 ∧ accH h 4 / 128 % 2 = 0 := by
    simp only [accH, baseH, ea, eb, ec, ed]
    omega
  rw [hn]
  have := or_bit (accH h 4) 7 (by rw [show (2 : Nat) ^ 7 = 128 from rfl]; exact ha.2)
  rw [show (2 : Nat) ^ 7 = 128 from rfl] at this
  exact or_u64 (b := 128) ha.1 (by omega) this
set_option maxHeartbeats 4000000 in
set_option maxRecDepth 20000 in
theorem bitsOf_any (h : Hd) (q a n d : Value) (w : World) (hok : okH h = true) :
    Calls Tryz.prog 40 #[.agg (msA h q a n d)] w fun e w' => e = .returned (.int .u64 (bitsH h : Nat)) ∧ Below w.heap.size w w' := by
  obtain ⟨_, h2, h3, h4⟩ := okH_is hok
  obtain ⟨W, hW⟩ : ∃ W, W = w.alloc (.cells (msA h q a n d) msT) := ⟨_, rfl⟩
  obtain ⟨g, hg⟩ : ∃ g, g = w.heap.size := ⟨_, rfl⟩
  have HB0 := Lib.hid (show Below w.heap.size w W by rw [hW]; exact (Below.refl _ _).alloc (Nat.le_refl _) _)
  have HW0 := Lib.hid (show Whole W g msT (msA h q a n d) by rw [hW, hg]; exact Whole.new w msT _)
  have HWW := Lib.hid hW
  have HG := Lib.hid hg
  have HOK := Lib.hid hok
  clear hW hg hok
  unfold msA at *
  obtain ⟨_, _, c2, _, _, _, _, c7, c8, _, _, _, _⟩ := ms_facts HW0.out
  have w2 : IntKind.u64.wrap h.op = h.op := by rw [IntKind.wrap_u64]; omega
  have w3 : IntKind.u64.wrap h.z = h.z := by rw [IntKind.wrap_u64]; omega
  have w4 : IntKind.u64.wrap h.rc = h.rc := by rw [IntKind.wrap_u64]; omega
  go_enter Tryz.func40, Tryz.ntmps40
  go_wp2_with fail
  rw [← HWW.out, ← HG.out]
  rw [base_or HOK.out]
  refine (flagsOf_any g _).mono ?_
  rintro e w1 ⟨rfl, hB⟩
  have HB1 := Lib.hid (HB0.out.trans (hB.mono HB0.out.size))
  have HW1 := Lib.hid (HW0.out.below hB HW0.out.lt)
  clear hB c2 c7 c8 w2 w3 w4 h2 h3 h4
  go_wp2_with fail
  go_loopw [3, 20] (fun n i wr => ∃ k : Nat, k ≤ 5 ∧ n = .int .u64 (accH h k : Nat) ∧ i = .int .i64 (k : Nat) ∧ Below w1.heap.size w1 wr) (fun _ i _ => 5 - (intOf i).toNat)
  case atStart => exact ⟨0, by omega, rfl, rfl, Below.refl _ _⟩
  case round =>
    obtain ⟨k, hk, rfl, rfl, hB⟩ := hrel
    have HBR := Lib.hid hB
    have HWR := Lib.hid (HW1.out.below hB HW1.out.lt)
    clear hB
    rcases (show k = 0 ∨ k = 1 ∨ k = 2 ∨ k = 3 ∨ k = 4 ∨ k = 5 by omega) with rfl | rfl | rfl | rfl | rfl | rfl
    · have HA := HBR.out.alloc HBR.out.size (.cells #[.pointer (some ⟨g, 1, none⟩), .int .u64 32768] 122)
      have HWN := HWR.out.alloc (.cells #[.pointer (some ⟨g, 1, none⟩), .int .u64 32768] 122)
      have c0 := HWN.cell 1
      replace HA := Lib.hid HA
      cases hf : h.qr with
      | true =>
        have HE := Lib.hid ((acc_0 HOK.out).1 hf)
        have c : ((wr.alloc (.cells #[.pointer (some ⟨g, 1, none⟩), .int .u64 32768] 122)).cell? ⟨g, 1, none⟩) = some (.bool true) := by rw [← hf]; exact c0
        clear hf HWN c0
        go_wp2_with fail
        go_roundw
        case rel => exact ⟨1, by omega, by rw [HE.out], rfl, HA.out⟩
        case measure => simp [intOf]
      | false =>
        have HE := Lib.hid ((acc_0 HOK.out).2 hf)
        have c : ((wr.alloc (.cells #[.pointer (some ⟨g, 1, none⟩), .int .u64 32768] 122)).cell? ⟨g, 1, none⟩) = some (.bool false) := by rw [← hf]; exact c0
        clear hf HWN c0
        go_wp2_with fail
        go_roundw
        case rel => exact ⟨1, by omega, by rw [HE.out], rfl, HA.out⟩
        case measure => simp [intOf]
    · have HA := HBR.out.alloc HBR.out.size (.cells #[.pointer (some ⟨g, 3, none⟩), .int .u64 1024] 122)
      have HWN := HWR.out.alloc (.cells #[.pointer (some ⟨g, 3, none⟩), .int .u64 1024] 122)
      have c0 := HWN.cell 3
      replace HA := Lib.hid HA
      cases hf : h.aa with
      | true =>
        have HE := Lib.hid ((acc_1 HOK.out).1 hf)
        have c : ((wr.alloc (.cells #[.pointer (some ⟨g, 3, none⟩), .int .u64 1024] 122)).cell? ⟨g, 3, none⟩) = some (.bool true) := by rw [← hf]; exact c0
        clear hf HWN c0
        go_wp2_with fail
        go_roundw
        case rel => exact ⟨2, by omega, by rw [HE.out], rfl, HA.out⟩
        case measure => simp [intOf]
      | false =>
        have HE := Lib.hid ((acc_1 HOK.out).2 hf)
        have c : ((wr.alloc (.cells #[.pointer (some ⟨g, 3, none⟩), .int .u64 1024] 122)).cell? ⟨g, 3, none⟩) = some (.bool false) := by rw [← hf]; exact c0
        clear hf HWN c0
        go_wp2_with fail
        go_roundw
        case rel => exact ⟨2, by omega, by rw [HE.out], rfl, HA.out⟩
        case measure => simp [intOf]
    · have HA := HBR.out.alloc HBR.out.size (.cells #[.pointer (some ⟨g, 4, none⟩), .int .u64 512] 122)
      have HWN := HWR.out.alloc (.cells #[.pointer (some ⟨g, 4, none⟩), .int .u64 512] 122)
      have c0 := HWN.cell 4
      replace HA := Lib.hid HA
      cases hf : h.tc with
      | true =>
        have HE := Lib.hid ((acc_2 HOK.out).1 hf)
        have c : ((wr.alloc (.cells #[.pointer (some ⟨g, 4, none⟩), .int .u64 512] 122)).cell? ⟨g, 4, none⟩) = some (.bool true) := by rw [← hf]; exact c0
        clear hf HWN c0
        go_wp2_with fail
        go_roundw
        case rel => exact ⟨3, by omega, by rw [HE.out], rfl, HA.out⟩
        case measure => simp [intOf]
      | false =>
        have HE := Lib.hid ((acc_2 HOK.out).2 hf)
        have c : ((wr.alloc (.cells #[.pointer (some ⟨g, 4, none⟩), .int .u64 512] 122)).cell? ⟨g, 4, none⟩) = some (.bool false) := by rw [← hf]; exact c0
        clear hf HWN c0
        go_wp2_with fail
        go_roundw
        case rel => exact ⟨3, by omega, by rw [HE.out], rfl, HA.out⟩
        case measure => simp [intOf]
    · have HA := HBR.out.alloc HBR.out.size (.cells #[.pointer (some ⟨g, 5, none⟩), .int .u64 256] 122)
      have HWN := HWR.out.alloc (.cells #[.pointer (some ⟨g, 5, none⟩), .int .u64 256] 122)
      have c0 := HWN.cell 5
      replace HA := Lib.hid HA
      cases hf : h.rd with
      | true =>
        have HE := Lib.hid ((acc_3 HOK.out).1 hf)
        have c : ((wr.alloc (.cells #[.pointer (some ⟨g, 5, none⟩), .int .u64 256] 122)).cell? ⟨g, 5, none⟩) = some (.bool true) := by rw [← hf]; exact c0
        clear hf HWN c0
        go_wp2_with fail
        go_roundw
        case rel => exact ⟨4, by omega, by rw [HE.out], rfl, HA.out⟩
        case measure => simp [intOf]
      | false =>
        have HE := Lib.hid ((acc_3 HOK.out).2 hf)
        have c : ((wr.alloc (.cells #[.pointer (some ⟨g, 5, none⟩), .int .u64 256] 122)).cell? ⟨g, 5, none⟩) = some (.bool false) := by rw [← hf]; exact c0
        clear hf HWN c0
        go_wp2_with fail
        go_roundw
        case rel => exact ⟨4, by omega, by rw [HE.out], rfl, HA.out⟩
        case measure => simp [intOf]
    · have HA := HBR.out.alloc HBR.out.size (.cells #[.pointer (some ⟨g, 6, none⟩), .int .u64 128] 122)
      have HWN := HWR.out.alloc (.cells #[.pointer (some ⟨g, 6, none⟩), .int .u64 128] 122)
      have c0 := HWN.cell 6
      replace HA := Lib.hid HA
      cases hf : h.ra with
      | true =>
        have HE := Lib.hid ((acc_4 HOK.out).1 hf)
        have c : ((wr.alloc (.cells #[.pointer (some ⟨g, 6, none⟩), .int .u64 128] 122)).cell? ⟨g, 6, none⟩) = some (.bool true) := by rw [← hf]; exact c0
        clear hf HWN c0
        go_wp2_with fail
        go_roundw
        case rel => exact ⟨5, by omega, by rw [HE.out], rfl, HA.out⟩
        case measure => simp [intOf]
      | false =>
        have HE := Lib.hid ((acc_4 HOK.out).2 hf)
        have c : ((wr.alloc (.cells #[.pointer (some ⟨g, 6, none⟩), .int .u64 128] 122)).cell? ⟨g, 6, none⟩) = some (.bool false) := by rw [← hf]; exact c0
        clear hf HWN c0
        go_wp2_with fail
        go_roundw
        case rel => exact ⟨5, by omega, by rw [HE.out], rfl, HA.out⟩
        case measure => simp [intOf]
    · go_wp2_with fail
      go_ret
      exact ⟨by rw [← acc_end]; rfl, HB1.out.trans (HBR.out.mono HB1.out.size)⟩

/-! ### setBits -/
def hdIn (id n k : Nat) : Hd := ⟨id, decide (0 < k) && decide (n / 32768 % 2 = 1), (n / 2048 % 16 : Nat), decide (1 < k) && decide (n / 1024 % 2 = 1), decide (2 < k) && decide (n / 512 % 2 = 1), decide (3 < k) && decide (n / 256 % 2 = 1), decide (4 < k) && decide (n / 128 % 2 = 1), (n / 16 % 8 : Nat), (n % 16 : Nat)⟩
theorem hdIn_end (id n : Nat) : hdIn id n 5 = hdOf id n := by simp [hdIn, hdOf]
theorem and_u64 {a b c : Nat} (ha : a < 65536) (hb : b < 65536) (h : a &&& b = c) : bits .and .u64 (a : Int) (b : Int) = (c : Int) := by
  rw [u64_and_nat a b (by omega) (by omega), h]
theorem mask_bit (n j : Nat) (hn : n < 65536) (hj : 2 ^ j < 65536) : (bits .and .u64 (n : Int) ((2 ^ j : Nat) : Int) = 0) ↔ ¬ n / 2 ^ j % 2 = 1 := by
  rw [and_u64 hn hj (and_bit n j)]
  have := Nat.two_pow_pos j
  split
  · rename_i h; constructor
    · intro e; omega
    · intro e; exact absurd h e
  · rename_i h; simp [h]
theorem mask_b (n j : Nat) (hn : n < 65536) (hj : 2 ^ j < 65536) : (bits BinOp.and IntKind.u64 (n : Int) ((2 ^ j : Nat) : Int) != 0) = decide (n / 2 ^ j % 2 = 1) := by
  have h := mask_bit n j hn hj
  by_cases k : n / 2 ^ j % 2 = 1
  · rw [decide_eq_true k, bne_iff_ne]
    exact fun e => (h.1 e) k
  · rw [decide_eq_false k, h.2 k]
    rfl
theorem mask_lo (n d j : Nat) (hn : n < 65536) (hj : 2 ^ j ≤ 65536) : wrap64 (bits .and .u64 ((n : Int) / (d : Nat)) ((2 ^ j - 1 : Nat) : Int)) = ((n / d % 2 ^ j : Nat) : Int) := by
  have h1 : n / d ≤ n := Nat.div_le_self n d
  have h2 : n / d % 2 ^ j ≤ n / d := Nat.mod_le _ _
  rw [← Int.natCast_ediv, and_u64 (c := n / d % 2 ^ j) (by omega) (by omega) (Nat.and_two_pow_sub_one_eq_mod _ _)]
  unfold wrap64
  omega
theorem put_ms {w : World} {g i : Nat} {cs cs' : Array Value} (h : Whole w g msT cs) (u : Value) (he : cs.setIfInBounds i u = cs') : Whole (w.setCell ⟨g, i, none⟩ u) g msT cs' := by
  rw [← he]; exact h.put i u
theorem grown_set {w w1 : World} {g i : Nat} (h : w.grownBy w1 (some g)) (u : Value) : w.grownBy (w1.setCell ⟨g, i, none⟩ u) (some g) :=
  ⟨h.os, h.tape, h.output, by simpa [World.setCell] using h.size, fun k hk hne => (Below.heap_setCell _ _ _ _ (by simpa using hne)).trans (h.block k hk hne)⟩
theorem grown_below {w w1 w2 : World} {g : Nat} (h : w.grownBy w1 (some g)) (hb : Below w1.heap.size w1 w2) : w.grownBy w2 (some g) :=
  ⟨hb.os.trans h.os, hb.tape.trans h.tape, hb.output.trans h.output, Nat.le_trans h.size hb.size, fun k hk hne => (hb.block k (Nat.lt_of_lt_of_le hk h.size)).trans (h.block k hk hne)⟩
set_option maxHeartbeats 4000000 in
set_option maxRecDepth 20000 in
theorem setBits_any (id n g : Nat) (q a nn d : Value) (w : World) (hW : Whole w g msT (msA ⟨id, false, 0, false, false, false, false, 0, 0⟩ q a nn d)) (hn : n < 65536) :
    Calls Tryz.prog 64 #[.pointer (some ⟨g, 0, none⟩), .int .u64 (n : Nat)] w fun e w' => e = .returned (.tuple #[]) ∧ Whole w' g msT (msA (hdOf id n) q a nn d) ∧ w.grownBy w' (some g) := by
  have f0 := hW.frozen 2
  have f1 := hW.frozen 7
  have f2 := hW.frozen 8
  have m1 : wrap64 (bits .and .u64 ((n : Int) / 2048) 15) = ((n / 2048 % 16 : Nat) : Int) := mask_lo n 2048 4 hn (by omega)
  have m2 : wrap64 (bits .and .u64 ((n : Int) / 16) 7) = ((n / 16 % 8 : Nat) : Int) := mask_lo n 16 3 hn (by omega)
  have m3 : wrap64 (bits .and .u64 (n : Int) 15) = ((n % 16 : Nat) : Int) := by
    have := mask_lo n 1 4 hn (by omega)
    simpa using this
  have M1 := Lib.hid m1
  have M2 := Lib.hid m2
  have M3 := Lib.hid m3
  clear m1 m2 m3
  have HW := Lib.hid hW
  unfold msA at hW
  obtain ⟨_, _, c2, _, _, _, _, c7, c8, _, _, _, _⟩ := ms_facts (h := ⟨id, false, 0, false, false, false, false, 0, 0⟩) hW
  clear hW
  go_enter Tryz.func64, Tryz.ntmps64
  go_wp2_with fail
  rw [M1.out, M2.out, M3.out]
  have hW3 : Whole (((w.setCell ⟨g, 2, none⟩ (.int .i64 ((n / 2048 % 16 : Nat) : Int))).setCell ⟨g, 7, none⟩ (.int .i64 ((n / 16 % 8 : Nat) : Int))).setCell ⟨g, 8, none⟩ (.int .i64 ((n % 16 : Nat) : Int))) g msT (msA (hdIn id n 0) q a nn d) := by
    have := ((HW.out.put 2 (.int .i64 ((n / 2048 % 16 : Nat) : Int))).put 7 (.int .i64 ((n / 16 % 8 : Nat) : Int))).put 8 (.int .i64 ((n % 16 : Nat) : Int))
    simpa [msA, hdIn] using this
  have hG3 := grown_set (i := 8) (grown_set (i := 7) (grown_set (i := 2) (grow_refl w (some g)) (.int .i64 ((n / 2048 % 16 : Nat) : Int))) (.int .i64 ((n / 16 % 8 : Nat) : Int))) (.int .i64 ((n % 16 : Nat) : Int))
  generalize ((w.setCell ⟨g, 2, none⟩ (.int .i64 ((n / 2048 % 16 : Nat) : Int))).setCell ⟨g, 7, none⟩ (.int .i64 ((n / 16 % 8 : Nat) : Int))).setCell ⟨g, 8, none⟩ (.int .i64 ((n % 16 : Nat) : Int)) = W at hW3 hG3 ⊢
  refine (flagsOf_any g _).mono ?_
  rintro e w1 ⟨rfl, hB⟩
  have HW1 := Lib.hid (hW3.below hB hW3.lt)
  have HG1 := Lib.hid (grown_below hG3 hB)
  clear hB c2 c7 c8 f0 f1 f2 hW3 hG3
  go_wp2_with fail
  go_loopw [28] (fun i wr => ∃ k : Nat, k ≤ 5 ∧ i = .int .i64 (k : Nat) ∧ Whole wr g msT (msA (hdIn id n k) q a nn d) ∧ w.grownBy wr (some g)) (fun i _ => 5 - (intOf i).toNat)
  case atStart => exact ⟨0, by omega, rfl, HW1.out, HG1.out⟩
  case round =>
    obtain ⟨k, hk, rfl, hw, hg⟩ := hrel
    have HWR := Lib.hid hw
    have HGR := Lib.hid hg
    clear hw hg
    rcases (show k = 0 ∨ k = 1 ∨ k = 2 ∨ k = 3 ∨ k = 4 ∨ k = 5 by omega) with rfl | rfl | rfl | rfl | rfl | rfl
    · have HWN := HWR.out.alloc (.cells #[.pointer (some ⟨g, 1, none⟩), .int .u64 32768] 122)
      have c0 := HWN.cell 1
      have f0 := HWN.frozen 1
      replace HWN := Lib.hid HWN
      have E := Lib.hid (show (bits BinOp.and IntKind.u64 (n : Int) 32768 != 0) = decide (n / 32768 % 2 = 1) from mask_b n 15 hn (by omega))
      unfold msA at c0
      go_wp2_with fail
      go_roundw
      case rel =>
        refine ⟨1, by omega, rfl, ?_, grown_set (grown_below HGR.out ((Below.refl _ _).alloc (Nat.le_refl _) _)) _⟩
        rw [E.out]
        exact put_ms HWN.out _ (by simp [msA, hdIn])
      case measure => simp [intOf]
    · have HWN := HWR.out.alloc (.cells #[.pointer (some ⟨g, 3, none⟩), .int .u64 1024] 122)
      have c0 := HWN.cell 3
      have f0 := HWN.frozen 3
      replace HWN := Lib.hid HWN
      have E := Lib.hid (show (bits BinOp.and IntKind.u64 (n : Int) 1024 != 0) = decide (n / 1024 % 2 = 1) from mask_b n 10 hn (by omega))
      unfold msA at c0
      go_wp2_with fail
      go_roundw
      case rel =>
        refine ⟨2, by omega, rfl, ?_, grown_set (grown_below HGR.out ((Below.refl _ _).alloc (Nat.le_refl _) _)) _⟩
        rw [E.out]
        exact put_ms HWN.out _ (by simp [msA, hdIn])
      case measure => simp [intOf]
    · have HWN := HWR.out.alloc (.cells #[.pointer (some ⟨g, 4, none⟩), .int .u64 512] 122)
      have c0 := HWN.cell 4
      have f0 := HWN.frozen 4
      replace HWN := Lib.hid HWN
      have E := Lib.hid (show (bits BinOp.and IntKind.u64 (n : Int) 512 != 0) = decide (n / 512 % 2 = 1) from mask_b n 9 hn (by omega))
      unfold msA at c0
      go_wp2_with fail
      go_roundw
      case rel =>
        refine ⟨3, by omega, rfl, ?_, grown_set (grown_below HGR.out ((Below.refl _ _).alloc (Nat.le_refl _) _)) _⟩
        rw [E.out]
        exact put_ms HWN.out _ (by simp [msA, hdIn])
      case measure => simp [intOf]
    · have HWN := HWR.out.alloc (.cells #[.pointer (some ⟨g, 5, none⟩), .int .u64 256] 122)
      have c0 := HWN.cell 5
      have f0 := HWN.frozen 5
      replace HWN := Lib.hid HWN
      have E := Lib.hid (show (bits BinOp.and IntKind.u64 (n : Int) 256 != 0) = decide (n / 256 % 2 = 1) from mask_b n 8 hn (by omega))
      unfold msA at c0
      go_wp2_with fail
      go_roundw
      case rel =>
        refine ⟨4, by omega, rfl, ?_, grown_set (grown_below HGR.out ((Below.refl _ _).alloc (Nat.le_refl _) _)) _⟩
        rw [E.out]
        exact put_ms HWN.out _ (by simp [msA, hdIn])
      case measure => simp [intOf]
    · have HWN := HWR.out.alloc (.cells #[.pointer (some ⟨g, 6, none⟩), .int .u64 128] 122)
      have c0 := HWN.cell 6
      have f0 := HWN.frozen 6
      replace HWN := Lib.hid HWN
      have E := Lib.hid (show (bits BinOp.and IntKind.u64 (n : Int) 128 != 0) = decide (n / 128 % 2 = 1) from mask_b n 7 hn (by omega))
      unfold msA at c0
      go_wp2_with fail
      go_roundw
      case rel =>
        refine ⟨5, by omega, rfl, ?_, grown_set (grown_below HGR.out ((Below.refl _ _).alloc (Nat.le_refl _) _)) _⟩
        rw [E.out]
        exact put_ms HWN.out _ (by simp [msA, hdIn])
      case measure => simp [intOf]
    · have HE := Lib.hid (show msA (hdIn id n 5) q a nn d = msA (hdOf id n) q a nn d by rw [hdIn_end])
      go_wp2_with fail
      go_end0
      exact ⟨rfl, by rw [← HE.out]; exact HWR.out, HGR.out⟩
end Go.Proofs.YtokjmefleanjaaaGreat
