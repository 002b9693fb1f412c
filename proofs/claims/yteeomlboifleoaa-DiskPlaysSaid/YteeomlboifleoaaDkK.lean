/- DiskBreaks walked. No statement of the seat is proved here. -/
import Derived.Test.YteeomlboifleoaaDkJ
namespace Go.Proofs.Yteeomlboifleoaa
open Go.RowKit Go.Maps Go.Sort

theorem brk_short (L : List Bys) (n i k : Nat) (h : ∀ x ∈ L.take k, x.length ≤ 1000) (hi : i ≤ k) : (brkA L n i).length ≤ 1000 * i := by
  unfold brkA
  have h1 : ∀ l : List Bys, (∀ x ∈ l, x.length ≤ 1000) → l.flatten.length ≤ 1000 * l.length := by
    intro l
    induction l with
    | nil => intro _; simp
    | cons x r ih =>
      intro h
      have := ih fun y hy => h y (by simp [hy])
      have := h x (by simp)
      simp only [List.flatten_cons, List.length_append, List.length_cons]
      omega
  have h2 := h1 (L.take (min i n)) fun x hx => h x (List.take_subset_take_left L (by omega) hx)
  have h3 : (L.take (min i n)).length ≤ i := by simp [List.length_take]; omega
  omega
theorem u8_range {a : Int} (h : (Lit.int .u8 a).wf = true) : 0 ≤ a ∧ a < 256 := by
  have h' : IntKind.u8.min ≤ a ∧ a ≤ IntKind.u8.max := by simpa [Lit.wf] using h
  have e1 : IntKind.u8.min = 0 := by decide
  have e2 : IntKind.u8.max = 255 := by decide
  omega
def strB (l : Bys) : ByteArray := ⟨l.toArray⟩
theorem strB_add (l : Bys) (b : ByteArray) : strB l ++ b = strB (l ++ b.data.toList) := by
  apply ByteArray.ext
  simp [strB]
theorem strB_size (l : Bys) : (strB l).size = l.length := by simp [strB, ByteArray.size]
theorem texts_at {w : World} {B : Nat} {A : Option Addr} {n : Nat} {zs : List ByteArray} (h : Sees w B A n (texts zs)) {k : Nat} (hk : k < n) :
    ∃ b off z, A = some ⟨b, off, none⟩ ∧ b < B ∧ zs[k]? = some z ∧ w.cell? ⟨b, off + k, none⟩ = some (.string z) := by
  obtain ⟨b, off, e, hb, hc⟩ := h.addr (by omega)
  have hl : k < zs.length := by have := h.len; simp [texts] at this; omega
  exact ⟨b, off, zs[k], e, hb, List.getElem?_eq_getElem hl, hc k _ (by simp [texts, hl])⟩
set_option maxHeartbeats 1000000 in
theorem DiskBreaks_walk (A : Option Addr) (n c : Nat) (l : List ByteArray) (b : Int) (w : World) (hl : InTexts w A n l) (hb : (Lit.int .u8 b).wf = true) :
    Calls Try.prog 7 #[.slice A n c, .int .u8 b] w fun e w' => e = .returned (.bool true) ∧ Below w.heap.size w w' := by
  obtain ⟨nn, rfl⟩ : ∃ nn : Nat, b = nn := by
    have : 0 ≤ b := (u8_range hb).1
    exact ⟨b.toNat, by omega⟩
  have hnn : (nn : Int) ≤ 255 := by have := (u8_range hb).2; omega
  have hlen : l.length = n := by have := hl.len; simpa [texts] using this
  have HT := Lib.hid hl
  clear hb hl
  by_cases hbig : (20 : Int) < (n : Int)
  · go_enter Try.func7, Try.ntmps7
    go_wp2_with fail
    refine (awake_any w).mono ?_
    rintro e w1 ⟨rfl, hB1⟩
    have HB1 := Lib.hid hB1
    clear hB1
    go_wp2_with fail
    refine (awake_any w1).mono ?_
    rintro e w2 ⟨rfl, hB2⟩
    have HB2 := Lib.hid (HB1.out.trans (hB2.mono HB1.out.size))
    clear hB2
    go_wp2
    go_ret
    exact ⟨rfl, HB2.out⟩
  · have hsmall : (n : Int) ≤ 20 := by omega
    clear hbig
    obtain ⟨L, hL⟩ : ∃ L : List Bys, L = l.map fun s => s.data.toList := ⟨_, rfl⟩
    have HLL := Lib.hid hL
    clear hL
    go_enter Try.func7, Try.ntmps7
    go_wp2_with fail
    refine (awake_any w).mono ?_
    rintro e w1 ⟨rfl, hB1⟩
    have HB1 := Lib.hid hB1
    clear hB1
    go_wp2_with fail
    refine (live_New 100000 w1 (by decide)).mono ?_
    rintro e w2 ⟨d, rfl, hL2, hB2⟩
    have HL2 := Lib.hid hL2
    have HB2 := Lib.hid (HB1.out.trans (hB2.mono HB1.out.size))
    have HBB := Lib.hid HB1.out.size
    clear hL2 hB2
    go_wp2_with fail
    have hbr := live_Break HL2.out (nn : Nat) (by omega)
    rw [brk_start L nn] at hbr
    refine hbr.mono ?_
    rintro e w3 ⟨rfl, hL3, hK3⟩
    have HL3 := Lib.hid hL3
    have HB3 := Lib.hid (HB2.out.trans ((hK3.below HL2.out.base).mono HBB.out))
    clear hL3 hK3 hbr
    go_wp2_with fail
    go_loopw [7, 8] (fun s i wr => ∃ k : Nat, k ≤ n ∧ i = .int .i64 k ∧ s = .string (strB (brkA L nn k)) ∧ (∀ x ∈ L.take k, x.length ≤ 1000) ∧ Live w1.heap.size wr d (2 * k) (1000 * k) (brkS L nn k) ∧ Below w.heap.size w wr) (fun _ i _ => n - (intOf i).toNat)
    case atStart => exact ⟨0, Nat.zero_le _, rfl, by simp [brkA, strB], by simp, HL3.out, HB3.out⟩
    case round =>
      obtain ⟨k, hk, rfl, rfl, hsh, hLv, hB⟩ := hrel
      have HSh := Lib.hid hsh
      have HLv := Lib.hid hLv
      have HBw := Lib.hid hB
      have hA := brk_short L nn k k hsh (Nat.le_refl _)
      obtain ⟨all, hall⟩ : ∃ all, all = strB (brkA L nn k) := ⟨_, rfl⟩
      rw [← hall]
      have hAll := Lib.hid hall
      have hsz : (all.size : Int) ≤ 20000 := by rw [hall, strB_size]; omega
      have HA := Lib.hid hA
      clear hsh hLv hB hall hA
      by_cases hlt : k < n
      · obtain ⟨bb, off, z, rfl, hbb, hz, hc⟩ := texts_at HT.out hlt
        have hc1 : wr.cell? ⟨bb, off + k, none⟩ = some (.string z) := (HBw.out.cell hbb).trans hc
        have hlk : (k : Int) < (n : Int) := by omega
        have hz2 : L[k]? = some z.data.toList := by rw [HLL.out, List.getElem?_map, hz]; rfl
        have HZ := Lib.hid hz2
        clear hc hz hz2
        by_cases hlong : (1000 : Int) < (z.size : Int)
        · go_wp2
          go_ret
          exact ⟨rfl, HBw.out⟩
        · have hzs : (z.size : Int) ≤ 1000 := by omega
          have hst := brk_step L nn k z.data.toList HZ.out (by have := HA.out; rw [size_len]; omega)
          have HS1 := Lib.hid hst.1
          have HS2 := Lib.hid hst.2
          have hx : ∀ x ∈ L.take (k + 1), x.length ≤ 1000 := by
            intro x hx
            rw [List.take_add_one, HZ.out] at hx
            rcases List.mem_append.1 hx with hx | hx
            · exact HSh.out x hx
            · have : x = z.data.toList := by simpa using hx
              rw [this, size_len]; omega
          have HX := Lib.hid hx
          have hap := live_Append HLv.out (by omega) (by omega) ⟨#[120]⟩ z (by omega) (by decide)
          have hdn : (brkS L nn (k + 1)).down = decide (nn ≤ k + 1) := brk_down _ _ _
          clear hst hx hlong
          by_cases hn : nn ≤ k
          · have hni : (nn : Int) ≤ (k : Int) := by omega
            have hni1 : (nn : Int) ≤ (k : Int) + 1 := by omega
            have hd1 : (brkS L nn (k + 1)).down = true := by rw [hdn]; simp; omega
            have e5 : appendS (brkS L nn k) (⟨#[120]⟩ : ByteArray).data.toList z.data.toList = (brkS L nn (k + 1), 5) := by
              have := HS1.out
              rw [if_pos hn] at this
              exact this
            rw [e5] at hap
            have HAp := Lib.hid hap
            have hbk : Hid (brkA L nn (k + 1) = brkA L nn k) := Lib.hid (by have := HS2.out; rw [if_pos hn] at this; exact this)
            have HD1 := Lib.hid hd1
            clear hn hap hdn hd1 e5
            go_wp2_with fail
            refine Calls.mono HAp.out ?_
            rintro e w4 ⟨rfl, hL4, hK4⟩
            have hdw := live_Down hL4
            rw [HD1.out] at hdw
            have HL4 := Lib.hid hL4
            have HB4 := Lib.hid (HBw.out.trans ((hK4.below HLv.out.base).mono HBB.out))
            clear hL4 hK4 hc1
            go_wp2_with fail
            refine hdw.mono ?_
            rintro e w5 ⟨rfl, rfl⟩
            clear hdw
            go_wp2_with fail
            go_roundw
            case rel => exact ⟨k + 1, by omega, by go_num, by rw [hbk.out, ← hAll.out], HX.out, HL4.out.mono (by omega) (by omega), HB4.out⟩
            case measure => simp [intOf]; omega
          · have hni : (k : Int) < (nn : Int) := by omega
            obtain ⟨D, hD⟩ : ∃ D, D = decide ((nn : Int) ≤ (k : Int) + 1) := ⟨_, rfl⟩
            have hd1 : (brkS L nn (k + 1)).down = D := by rw [hdn, hD, decide_eq_decide]; omega
            have e5 : appendS (brkS L nn k) (⟨#[120]⟩ : ByteArray).data.toList z.data.toList = (brkS L nn (k + 1), 0) := by
              have := HS1.out
              rw [if_neg hn] at this
              exact this
            rw [e5] at hap
            have HAp := Lib.hid hap
            have hbk : Hid (brkA L nn (k + 1) = brkA L nn k ++ z.data.toList) := Lib.hid (by have := HS2.out; rw [if_neg hn] at this; exact this)
            have HD1 := Lib.hid hd1
            clear hn hap hdn hd1 e5
            go_wp2_with fail
            refine Calls.mono HAp.out ?_
            rintro e w4 ⟨rfl, hL4, hK4⟩
            have hdw := live_Down hL4
            rw [HD1.out] at hdw
            have HL4 := Lib.hid hL4
            have hBx := HBw.out.trans ((hK4.below HLv.out.base).mono HBB.out)
            have hc4 : w4.cell? ⟨bb, off + k, none⟩ = some (.string z) := ((hK4.below HLv.out.base).cell (p := ⟨bb, off + k, none⟩) (Nat.lt_of_lt_of_le hbb HBB.out)).trans hc1
            have HB4 := Lib.hid hBx
            clear hL4 hK4 hc1 hBx
            go_wp2_with fail
            refine hdw.mono ?_
            rintro e w5 ⟨rfl, rfl⟩
            clear hdw
            have hDD := hD.symm
            clear hD
            go_wp2_with fail
            go_roundw
            case rel => exact ⟨k + 1, by omega, by go_num, by rw [hbk.out, hAll.out, strB_add], HX.out, HL4.out.mono (by omega) (by omega), HB4.out⟩
            case measure => simp [intOf]; omega
      · obtain rfl : k = n := by omega
        have hu := live_Used HLv.out (by omega) (by omega)
        have e1 : used (brkS L nn k) = all.size := by rw [brk_used, hAll.out, strB_size]
        rw [e1] at hu
        go_wp2_with fail
        refine hu.mono ?_
        rintro e w4 ⟨rfl, hB4⟩
        have HL4 := Lib.hid (HLv.out.same hB4)
        have HB4 := Lib.hid (HBw.out.trans (hB4.mono HBw.out.size))
        clear hB4 hu e1
        go_wp2_with fail
        have hrs := live_Restart HL4.out (by omega) (by omega) ⟨#[]⟩
        obtain ⟨fs, hfs⟩ := brk_restart L nn k
        have e2 : restartS (brkS L nn k) (⟨#[]⟩ : ByteArray).data.toList = ⟨100000, fs, [], [], [], 0, false⟩ := hfs
        rw [e2] at hrs
        refine hrs.mono ?_
        rintro e w5 ⟨rfl, hL5, hK5⟩
        have HL5 := Lib.hid hL5
        have HB5 := Lib.hid (HB4.out.trans ((hK5.below HL4.out.base).mono HBB.out))
        clear hL5 hK5 hrs hfs e2
        go_wp2_with fail
        refine (live_Down HL5.out).mono ?_
        rintro e w6 ⟨rfl, rfl⟩
        go_wp2_with fail
        refine (live_Used HL5.out (by omega) (by omega)).mono ?_
        rintro e w6 ⟨rfl, hB6⟩
        have HL6 := Lib.hid (HL5.out.same hB6)
        have HB6 := Lib.hid (HB5.out.trans (hB6.mono HB5.out.size))
        have e3 : used ⟨100000, fs, [], [], [], 0, false⟩ = 0 := rfl
        rw [e3]
        clear hB6 e3
        go_wp2_with fail
        have hap := live_Append HL6.out (by omega) (by omega) ⟨#[120]⟩ ⟨#[]⟩ (by decide) (by decide)
        have e4 : (appendS ⟨100000, fs, [], [], [], 0, false⟩ (⟨#[120]⟩ : ByteArray).data.toList (⟨#[]⟩ : ByteArray).data.toList).2 = 0 := brk_last fs
        rw [e4] at hap
        refine hap.mono ?_
        rintro e w7 ⟨rfl, _, hK7⟩
        have HB7 := Lib.hid (HB6.out.trans ((hK7.below HL6.out.base).mono HBB.out))
        clear hK7 hap e4
        go_wp2
        go_ret
        exact ⟨rfl, HB7.out⟩
end Go.Proofs.Yteeomlboifleoaa
