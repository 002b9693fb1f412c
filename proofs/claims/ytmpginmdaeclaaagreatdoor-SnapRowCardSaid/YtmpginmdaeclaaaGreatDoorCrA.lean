/- Parts of the proofs of the statements of image. No statement of the seat is proved here. -/
import Derived.Test.YtmpginmdaeclaaaGreatDoorOcJ
import Derived.Lib.EndianBits
import Derived.Laws.BitsAllLaws
import Derived.Deep.WholeRow
import Derived.Deep.QuietTactic
import Derived.BigQuiet
import Derived.WalkSpells
import Derived.Laws.CopyOwn
import Derived.Test.YtmpginmdaeclaaaGreatDoorNaA
import Derived.Lib.ConvBytes
set_option maxHeartbeats 32000000
set_option maxRecDepth 20000
namespace Go.Proofs.YtmpginmdaeclaaaGreatDoor
def step (r : Nat) : Nat := if r % 2 = 1 then (r / 2) ^^^ 3988292384 else r / 2
def crcSteps : Nat -> Nat -> Nat
  | 0, r => r
  | k + 1, r => step (crcSteps k r)
def eight (r : Nat) : Nat := crcSteps 8 r
def fed (r : Nat) (l : List UInt8) : Nat := l.foldl (fun r c => eight (r ^^^ c.toNat)) r
def inv (x : Nat) : Nat := 4294967295 - x
def sumOf (l : List UInt8) : Nat := inv (fed 4294967295 l)
theorem xor_mid (a b p : Nat) : a ^^^ b ^^^ p = a ^^^ p ^^^ b := by rw [Nat.xor_assoc, Nat.xor_comm b, <-Nat.xor_assoc]
theorem xor_two (a b p : Nat) : a ^^^ b = a ^^^ p ^^^ (b ^^^ p) := by
  apply Nat.eq_of_testBit_eq
  intro i
  simp only [Nat.testBit_xor]
  cases a.testBit i <;> cases b.testBit i <;> cases p.testBit i <;> rfl
theorem step_xor (a b : Nat) : step (a ^^^ b) = step a ^^^ step b := by
  unfold step
  have h1 : (a ^^^ b) / 2 = a / 2 ^^^ b / 2 := Nat.xor_div_two
  have h2 : (a ^^^ b) % 2 = (a % 2) ^^^ (b % 2) := by
    have := Nat.xor_mod_two_pow (a := a) (b := b) (n := 1)
    simpa using this
  rw [h1, h2]
  rcases Nat.mod_two_eq_zero_or_one a with ha | ha <;> rcases Nat.mod_two_eq_zero_or_one b with hb | hb <;> rw [ha, hb] <;> simp
  · rw [Nat.xor_assoc]
  · exact xor_mid _ _ _
  · exact xor_two _ _ _
theorem steps_xor (k a b : Nat) : crcSteps k (a ^^^ b) = crcSteps k a ^^^ crcSteps k b := by
  induction k with
  | zero => rfl
  | succ k ih => simp only [crcSteps]; rw [ih, step_xor]
theorem eight_xor (a b : Nat) : eight (a ^^^ b) = eight a ^^^ eight b := steps_xor 8 a b
theorem xor_lt {a b : Nat} (ha : a < 4294967296) (hb : b < 4294967296) : a ^^^ b < 4294967296 := Nat.xor_lt_two_pow (n := 32) ha hb
theorem xor_byte {a b : Nat} (ha : a < 256) (hb : b < 256) : a ^^^ b < 256 := Nat.xor_lt_two_pow (n := 8) ha hb
theorem step_lt {r : Nat} (h : r < 4294967296) : step r < 4294967296 := by
  unfold step
  split
  · exact xor_lt (by omega) (by decide)
  · omega
theorem steps_lt {r : Nat} (k : Nat) (h : r < 4294967296) : crcSteps k r < 4294967296 := by
  induction k with
  | zero => exact h
  | succ k ih => exact step_lt ih
theorem eight_lt {r : Nat} (h : r < 4294967296) : eight r < 4294967296 := steps_lt 8 h
theorem low_high (k a y : Nat) (ha : a < 2 ^ k) : a ^^^ (2 ^ k * y) = a + 2 ^ k * y := by
  have h1 : (a ^^^ (2 ^ k * y)) / 2 ^ k = y := by
    rw [Nat.xor_div_two_pow, Nat.div_eq_of_lt ha, Nat.mul_div_cancel_left _ (Nat.two_pow_pos k)]
    simp
  have h2 : (a ^^^ (2 ^ k * y)) % 2 ^ k = a := by
    rw [Nat.xor_mod_two_pow, Nat.mod_eq_of_lt ha, Nat.mul_mod_right]
    simp
  have := Nat.div_add_mod (a ^^^ (2 ^ k * y)) (2 ^ k)
  rw [h1, h2] at this
  omega
theorem split8 (r : Nat) : r = (r % 256) ^^^ (256 * (r / 256)) := by
  have := low_high 8 (r % 256) (r / 256) (Nat.mod_lt _ (by decide))
  rw [show (2 : Nat) ^ 8 = 256 from rfl] at this
  rw [this]; omega
theorem step_double (y : Nat) : step (2 * y) = y := by unfold step; rw [if_neg (by omega)]; omega
theorem steps_succ (k r : Nat) : crcSteps (k + 1) r = crcSteps k (step r) := by
  induction k generalizing r with
  | zero => rfl
  | succ k ih => rw [show crcSteps (k + 1 + 1) r = step (crcSteps (k + 1) r) from rfl, ih]; rfl
theorem steps_shift (k y : Nat) : crcSteps k (2 ^ k * y) = y := by
  induction k generalizing y with
  | zero => simp [crcSteps]
  | succ k ih =>
    rw [steps_succ, show 2 ^ (k + 1) * y = 2 * (2 ^ k * y) by rw [Nat.pow_succ, Nat.mul_comm (2 ^ k) 2, Nat.mul_assoc], step_double, ih]
theorem eight_shift (y : Nat) : eight (256 * y) = y := steps_shift 8 y
theorem eight_split (r : Nat) : eight r = (r / 256) ^^^ eight (r % 256) := by
  have h : eight ((r % 256) ^^^ (256 * (r / 256))) = (r / 256) ^^^ eight (r % 256) := by rw [eight_xor, eight_shift, Nat.xor_comm]
  rwa [<-split8 r] at h
theorem byte_step (r c : Nat) (hc : c < 256) : (r / 256) ^^^ eight ((r % 256) ^^^ c) = eight (r ^^^ c) := by
  rw [eight_split (r ^^^ c)]
  have h1 : (r ^^^ c) / 256 = r / 256 := by
    have := Nat.xor_div_two_pow (a := r) (b := c) (n := 8)
    rw [show (2 : Nat) ^ 8 = 256 from rfl] at this
    rw [this, Nat.div_eq_of_lt hc]; simp
  have h2 : (r ^^^ c) % 256 = (r % 256) ^^^ c := by
    have := Nat.xor_mod_two_pow (a := r) (b := c) (n := 8)
    rw [show (2 : Nat) ^ 8 = 256 from rfl] at this
    rw [this, Nat.mod_eq_of_lt hc]
  rw [h1, h2]
theorem entry_join (k l : Nat) (hl : l < 2 ^ k) : eight (2 ^ k) ^^^ eight l = eight (2 ^ k + l) := by
  have := low_high k l 1 hl
  rw [Nat.mul_one] at this
  rw [<-eight_xor, Nat.xor_comm, this, Nat.add_comm]
theorem byte_lt (c : UInt8) : c.toNat < 4294967296 := Nat.lt_of_lt_of_le (UInt8.toNat_lt c) (by decide)
theorem fed_nil (r : Nat) : fed r [] = r := rfl
theorem fed_cons (r : Nat) (c : UInt8) (l : List UInt8) : fed r (c :: l) = fed (eight (r ^^^ c.toNat)) l := by unfold fed; rw [List.foldl_cons]
theorem fed_lt (l : List UInt8) : ∀ r, r < 4294967296 -> fed r l < 4294967296 := by
  induction l with
  | nil => intro r h; rw [fed_nil]; exact h
  | cons c l ih =>
    intro r h
    rw [fed_cons]
    exact ih (eight (r ^^^ c.toNat)) (eight_lt (xor_lt h (byte_lt c)))
theorem fed_append (r : Nat) (l m : List UInt8) : fed r (l ++ m) = fed (fed r l) m := List.foldl_append ..
theorem fed_snoc (r : Nat) (l : List UInt8) (c : UInt8) : fed r (l ++ [c]) = eight (fed r l ^^^ c.toNat) := by rw [fed_append, fed_cons, fed_nil]
theorem inv_xor {x : Nat} (h : x < 4294967296) : inv x = x ^^^ 4294967295 := by
  unfold inv
  apply Nat.eq_of_testBit_eq
  intro i
  rw [show 4294967295 - x = 2 ^ 32 - (x + 1) from by omega, Nat.testBit_two_pow_sub_succ (n := 32) h, Nat.testBit_xor, show (4294967295 : Nat) = 2 ^ 32 - 1 from rfl, Nat.testBit_two_pow_sub_one]
  by_cases hi : i < 32
  · simp [hi]
  · have : x.testBit i = false := Nat.testBit_lt_two_pow (Nat.lt_of_lt_of_le h (Nat.pow_le_pow_right (n := 2) (by decide) (show 32 <= i by omega)))
    simp [hi, this]
theorem inv_lt (x : Nat) : inv x < 4294967296 := by unfold inv; omega
theorem sumOf_lt (l : List UInt8) : sumOf l < 4294967296 := inv_lt _
end Go.Proofs.YtmpginmdaeclaaaGreatDoor
namespace Go.Proofs.YtmpginmdaeclaaaGreatDoor
open Go.RowKit
theorem and_one (x : Nat) (hx : x < 4294967296) : bits .and .u32 (x : Int) 1 = ((x % 2 : Nat) : Int) := by
  have h := u32_and_nat x 1 hx (by decide)
  rw [Nat.and_one_is_mod] at h
  exact h
theorem half_poly (x : Nat) (hx : x < 4294967296) : bits .xor .u32 ((x : Int) / 2) 3988292384 = ((x / 2 ^^^ 3988292384 : Nat) : Int) :=
  u32_xor_nat (x / 2) 3988292384 (by omega) (by decide)
theorem afterByte_any (r : Nat) (hr : r < 4294967296) (w : World) :
    Calls Tryz.prog 235 #[.int .u32 r] w fun e w' => e = .returned (.int .u32 (eight r : Nat)) /\ w = w' := by
  go_enter Tryz.func235, Tryz.ntmps235
  go_wp2
  go_loop [0, 4] (fun v i => ∃ k x : Nat, k <= 8 /\ x < 4294967296 /\ i = .int .i64 k /\ v = .int .u32 x /\ x = crcSteps k r) (fun _ i => 8 - (intOf i).toNat)
  case atStart => exact ⟨0, r, Nat.zero_le _, hr, rfl, rfl, rfl⟩
  case round =>
    obtain ⟨k, x, hk, hx, rfl, rfl, he⟩ := hrel
    replace he := Ha he
    by_cases hlt : k < 8
    · have hs := step_lt hx
      have hx' := and_one x hx
      by_cases hodd : x % 2 = 1
      · have hb : (bits BinOp.and IntKind.u32 (↑x) 1 == 1) = true := by rw [hx', hodd]; rfl
        have hp := Ha (half_poly x hx)
        replace hodd := Ha hodd
        clear hx'; go_wp2
        go_round
        case rel => exact ⟨k + 1, step x, by omega, hs, by go_num, by rw [hp.out]; unfold step; rw [if_pos hodd.out], by rw [he.out]; rfl⟩
        case measure => simp [intOf]; omega
      · have hb : (bits BinOp.and IntKind.u32 (↑x) 1 == 1) = false := by rw [hx']; simp; omega
        replace hodd := Ha hodd
        clear hx'; go_wp2
        go_round
        case rel => exact ⟨k + 1, step x, by omega, hs, by go_num, by unfold step; rw [if_neg hodd.out]; go_num, by rw [he.out]; rfl⟩
        case measure => simp [intOf]; omega
    · obtain rfl : k = 8 := by omega
      go_wp2
      go_ret
      exact ⟨ret_int (by rw [he.out]; rfl), rfl⟩
def entry (m j : Nat) : Value := .int .u32 ((if j < m then eight j else 0 : Nat) : Int)
def cellsTo (m : Nat) : Array Value := (Array.range 256).map (entry m)
theorem cellsTo_size (m : Nat) : (cellsTo m).size = 256 := by simp [cellsTo]
theorem cellsTo_get (m j : Nat) (h : j < 256) : (cellsTo m)[j]? = some (entry m j) := by
  unfold cellsTo
  rw [Array.getElem?_map, Array.getElem?_range]
  simp [h]
theorem cellsTo_put (m : Nat) (h : m < 256) : (cellsTo m).setIfInBounds m (.int .u32 (eight m : Nat)) = cellsTo (m + 1) := by
  apply Array.ext_getElem?
  intro j
  rw [Array.getElem?_setIfInBounds]
  by_cases hj : j < 256
  · rw [cellsTo_get _ j hj, cellsTo_get _ j hj, cellsTo_size]
    by_cases he : m = j
    · subst he
      simp only [h, entry]
      simp
    · simp only [he, if_false, entry]
      by_cases hlt : j < m
      · simp [hlt, show j < m + 1 by omega]
      · simp [hlt, show ¬ j < m + 1 by omega]
  · rw [if_neg (by omega)]
    have e1 : (cellsTo m)[j]? = none := by rw [Array.getElem?_eq_none_iff, cellsTo_size]; omega
    have e2 : (cellsTo (m + 1))[j]? = none := by rw [Array.getElem?_eq_none_iff, cellsTo_size]; omega
    rw [e1, e2]
theorem cellsTo_one (m : Nat) : (cellsTo m).all (·.oneCell') = true := by
  rw [Array.all_eq_true]
  intro i h
  have := cellsTo_get m i (by rw [cellsTo_size] at h; exact h)
  rw [Array.getElem?_eq_getElem h] at this
  injection this with this
  rw [this]; rfl
theorem ctable_info : (Tryz.prog.info? 223).map (fun i => (i.zero, i.size)) = some (some (.agg (cellsTo 1)), 256) := by kernel_rfl
theorem table_at {w : World} {g : Nat} {t : TypeId} (h : Whole w g t (cellsTo 256)) (j : Nat) (hj : j < 256) : w.cell? ⟨g, j, none⟩ = some (.int .u32 (eight j : Nat)) := by
  rw [h.cell, cellsTo_get _ j hj]
  simp [entry, hj]
end Go.Proofs.YtmpginmdaeclaaaGreatDoor
namespace Go.Proofs.YtmpginmdaeclaaaGreatDoor
open Go.RowKit
theorem fold_take (s : ByteArray) (k : Nat) (h : k < s.size) : s.data.toList.take (k + 1) = s.data.toList.take k ++ [s[k]] := by
  rw [List.take_succ_eq_append_getElem (by simpa using h)]; rfl
theorem byte_xor (x : Nat) (c : UInt8) : bits .xor .u8 ((x : Int) % 256) (c.toNat : Int) = (((x % 256) ^^^ c.toNat : Nat) : Int) :=
  u8_xor_nat (x % 256) c.toNat (by omega) c.toNat_lt
theorem high_xor (x y : Nat) (hx : x < 4294967296) (hy : y < 4294967296) : bits .xor .u32 ((x : Int) / 256) (y : Int) = ((x / 256 ^^^ y : Nat) : Int) :=
  u32_xor_nat (x / 256) y (by omega) hy
theorem feed_any (g r : Nat) (s : ByteArray) (t : TypeId) (w : World) (hg : Whole w g t (cellsTo 256)) (hr : r < 4294967296) (hs : s.size <= 1073741824) :
    Calls Tryz.prog 190 #[.pointer (some ⟨g, 0, none⟩), .int .u32 r, .string s] w fun e w' => e = .returned (.int .u32 (fed r s.data.toList : Nat)) /\ ∃ n, w' = w.drewN n := by
  go_enter Tryz.func190, Tryz.ntmps190
  go_wp2
  go_loopw [1, 10] (fun v i wr => ∃ k x : Nat, k <= s.size /\ x < 4294967296 /\ i = .int .i64 k /\ v = .int .u32 x /\ x = fed r (s.data.toList.take k) /\ ∃ n, wr = w.drewN n) (fun _ i _ => s.size - (intOf i).toNat)
  case atStart => exact ⟨0, r, Nat.zero_le _, hr, rfl, rfl, rfl, 0, rfl⟩
  case round =>
    obtain ⟨k, x, hk, hx, rfl, rfl, he, n, rfl⟩ := hrel
    replace he := Ha he
    by_cases hlt : k < s.size
    · have hq := xor_byte (Nat.mod_lt x (show 0 < 256 by decide)) s[k].toNat_lt
      have hc := table_at hg _ hq
      have hxor := byte_xor x s[k]
      have hl := eight_lt (Nat.lt_of_lt_of_le hq (show 256 <= 4294967296 by decide))
      obtain ⟨q, hqe⟩ : ∃ q, q = (x % 256) ^^^ s[k].toNat := ⟨_, rfl⟩
      rw [<-hqe] at hq hc hxor hl
      have hy := Ha (high_xor x (eight q) hx hl)
      replace hqe := Ha hqe
      have hi : (k : Int) < (s.size : Int) := by omega
      go_wp2_with fail
      go_quiet (fail)
      go_wp2_with fail
      go_roundw
      case rel =>
        refine ⟨k + 1, eight (x ^^^ s[k].toNat), by omega, eight_lt (xor_lt hx (byte_lt _)), by go_num, ?_, by rw [fold_take s k hlt, fed_snoc, he.out], _, rfl⟩
        rw [hy.out, hqe.out, byte_step x _ s[k].toNat_lt]
      case measure => simp [intOf]; omega
    · obtain rfl : k = s.size := by omega
      go_wp2_with fail
      go_ret
      exact ⟨ret_int (by rw [he.out, List.take_of_length_le (by simp)]), _, rfl⟩
structure Making (w0 w : World) (m : Nat) : Prop where
  out : Whole w w0.heap.size 223 (cellsTo 1)
  tab : Whole w (w0.heap.size + 1) 223 (cellsTo m)
  bel : Below w0.heap.size w0 w
theorem Making.put {w0 w : World} {m : Nat} (h : Making w0 w m) (hm : m < 256) : Making w0 (w.setCell ⟨w0.heap.size + 1, m, none⟩ (.int .u32 (eight m : Nat))) (m + 1) :=
  ⟨h.out.far (by simp) _, by rw [<-cellsTo_put m hm]; exact h.tab.put _ _, h.bel.setCell (by simp) _⟩
theorem Making.at {w0 w : World} {m j : Nat} (h : Making w0 w m) (hj : j < m) (hm : m <= 256) : w.cell? ⟨w0.heap.size + 1, j, none⟩ = some (.int .u32 (eight j : Nat)) := by
  rw [h.tab.cell, cellsTo_get _ j (by omega)]
  simp [entry, hj]
theorem Making.rest {w0 w : World} {m : Nat} (h : Making w0 w m) (hm : m < 256) : w.cell? ⟨w0.heap.size + 1, m, none⟩ = some (.int .u32 0) := by
  rw [h.tab.cell, cellsTo_get _ m hm]
  simp [entry]
theorem entry_xor (b e l : Nat) (k : Nat) (hb : b = 2 ^ k) (he : e = eight b) (hl : l < b) (hk : k < 8) : bits .xor .u32 (e : Int) (eight l : Nat) = ((eight (b + l) : Nat) : Int) := by
  subst hb he
  have h8 : 2 ^ k <= 2 ^ 7 := Nat.pow_le_pow_right (by decide) (by omega)
  rw [u32_xor_nat _ _ (eight_lt (by omega)) (eight_lt (by omega)), entry_join k l hl]
theorem newTable_any (w : World) :
    Calls Tryz.prog 189 #[] w fun e w' => e = .returned (.agg (cellsTo 256)) /\ Below w.heap.size w w' := by
  obtain ⟨hz, hi⟩ := zero_of_info ctable_info
  replace hi := Ha hi
  go_enter Tryz.func189, Tryz.ntmps189
  go_wp2_with fail
  have hst : Making w ((w.alloc (Obj.cells (cellsTo 1) 223)).alloc (Obj.cells (cellsTo 1) 223)) 1 := by
    refine ⟨(Whole.new w _ _).alloc _, ?_, ((Below.refl _ _).alloc (Nat.le_refl _) _).alloc (by simp) _⟩
    have h1 := Whole.new (w.alloc (Obj.cells (cellsTo 1) 223)) 223 (cellsTo 1)
    simp only [World.size_alloc] at h1
    exact h1
  generalize ((w.alloc (Obj.cells (cellsTo 1) 223)).alloc (Obj.cells (cellsTo 1) 223)) = w1 at hst ⊢
  clear hz
  go_loopw [2] (fun v wr => ∃ k b : Nat, k <= 8 /\ 1 <= b /\ b <= 256 /\ v = .int .i64 b /\ b = 2 ^ k /\ Making w wr b) (fun v _ => 256 - (intOf v).toNat)
  case atStart => exact ⟨0, 1, by omega, by omega, by omega, rfl, rfl, hst⟩
  case round =>
    obtain ⟨k, b, hk, hb1, hb2, rfl, hb, hst1⟩ := hrel
    replace hb := Ha hb
    by_cases hlt : b < 256
    · have hk8 : k < 8 := by
        rcases Nat.lt_or_ge k 8 with h | h
        · exact h
        · have h8 := Nat.pow_le_pow_right (n := 2) (by decide) h
          rw [<-hb.out] at h8
          omega
      have hb3 : b <= 128 := by
        have h8 := Nat.pow_le_pow_right (n := 2) (by decide) (show k <= 7 by omega)
        rw [<-hb.out] at h8
        exact h8
      have hconv : IntKind.u32.wrap (b : Int) = b := wraps_u32 _ (by omega) (by omega)
      go_wp2_with fail
      refine (afterByte_any b (by omega) _).mono ?_
      rintro e w2 ⟨rfl, rfl⟩; obtain ⟨en, hen⟩ : ∃ en, en = eight b := ⟨_, rfl⟩
      rw [<-hen]
      have hel : en < 4294967296 := by rw [hen]; exact eight_lt (by omega)
      replace hen := Ha hen
      clear hconv; go_wp2_with fail
      go_loopw [13] (fun v wr' => ∃ l : Nat, l <= b /\ v = .int .i64 l /\ Making w wr' (b + l)) (fun v _ => b - (intOf v).toNat)
      case atStart => exact ⟨0, by omega, rfl, hst1⟩
      case round =>
        obtain ⟨l, hl, rfl, hst2⟩ := hrel
        by_cases hll : l < b
        · have hc := hst2.at (show l < b + l by omega) (by omega)
          have hc2 := hst2.tab.frozen (b + l)
          have hc3 := hst2.rest (by omega)
          have hy := entry_xor b en l k hb.out hen.out hll hk8
          have hput := hst2.put (by omega)
          go_wp2_with fail
          go_roundw
          case rel => exact ⟨l + 1, by omega, by go_num, hput⟩
          case measure => simp [intOf]; omega
        · obtain rfl : l = b := by omega
          have hw2 : IntKind.i64.wrap ((l : Int) * 2) = ((l * 2 : Nat) : Int) := by rw [IntKind.wrap_i64]; omega
          have hdbl : Making w wr (l * 2) := by rw [Nat.mul_two]; exact hst2
          go_wp2_with fail
          go_roundw
          case rel => exact ⟨k + 1, l * 2, by omega, by omega, by omega, by go_num, by rw [Nat.pow_succ, <-hb.out], hdbl⟩
          case measure => simp [intOf]; omega
    · obtain rfl : b = 256 := by omega
      have hrow := setRow_heap wr w.heap.size _ (cellsTo 256) _ (0, 0) hst1.out
      have hbel := below_setRow hst1.bel (Nat.le_refl _) (cellsTo 256)
      have hi2 : (Tryz.prog.info? 223).map (·.size) = some (cellsTo 256).size := by rw [cellsTo_size]; exact hi.out
      replace hi2 := Ha hi2
      replace hrow := Ha hrow
      go_wp2_with (first
        | refine wpList_load_row rfl 223 (.tmp 1) rfl (w.heap.size + 1) rfl 223 (cellsTo 256) (0, 0) _ hst1.tab Tryz.underlying223 rfl hi2.out ?_
        | refine wpList_store_row rfl 223 (.tmp 0) (.tmp 26) rfl w.heap.size (cellsTo 256) rfl rfl 223 (cellsTo 1) hst1.out hi2.out (by rw [cellsTo_size, cellsTo_size]) (cellsTo_one _) ?_)
      refine bodyPost_ret (v := .agg (cellsTo 256)) ?_ rfl ⟨rfl, hbel⟩
      exact results_cell_row rfl _ _ w.heap.size 223 (cellsTo 256) (0, 0) _ rfl hrow.out Tryz.underlying223 rfl hi2.out
end Go.Proofs.YtmpginmdaeclaaaGreatDoor
namespace Go.Proofs.YtmpginmdaeclaaaGreatDoor
open Go.RowKit
theorem flip_inv (x : Nat) (hx : x < 4294967296) : bits BinOp.xor IntKind.u32 IntKind.u32.max (x : Int) = ((inv x : Nat) : Int) := by
  rw [show IntKind.u32.max = ((4294967295 : Nat) : Int) from by decide, u32_xor_nat _ _ (by decide) hx, inv_xor hx, Nat.xor_comm]
def flat (l : List ByteArray) : List UInt8 := l.flatMap fun s => s.data.toList
theorem flat_take (l : List ByteArray) (k : Nat) (h : k < l.length) : flat (l.take (k + 1)) = flat (l.take k) ++ (l.getD k ByteArray.empty).data.toList := by
  unfold flat
  rw [List.take_succ_eq_append_getElem h, List.flatMap_append]
  simp [List.getD, h]
theorem string_at {w : World} {B : Nat} {A : Option Addr} {n : Nat} {zs : List ByteArray} (h : Sees w B A n (texts zs)) {k : Nat} (hk : k < n) :
    ∃ b off, A = some ⟨b, off, none⟩ /\ b < B /\ w.cell? ⟨b, off + k, none⟩ = some (.string (zs.getD k ByteArray.empty)) := by
  obtain ⟨b, off, e, hb, hc⟩ := h.addr (by omega)
  have hl : k < zs.length := by have := h.len; simp [texts] at this; omega
  exact ⟨b, off, e, hb, hc k _ (by simp [texts, List.getD, hl])⟩
theorem Parts_any (A : Option Addr) (n c B : Nat) (zs : List ByteArray) (w : World) (h : Sees w B A n (texts zs)) (hn : n <= 1073741824) (hB : B <= w.heap.size) (hz : ∀ k, (zs.getD k ByteArray.empty).size <= 1073741824) :
    Calls Tryz.prog 147 #[.slice A n c] w fun e w' => e = .returned (.int .u32 (sumOf (flat zs) : Nat)) /\ Below w.heap.size w w' := by
  obtain ⟨hz0, hi⟩ := zero_of_info ctable_info
  have hi2 : (Tryz.prog.info? 223).map (·.size) = some (cellsTo 256).size := by rw [cellsTo_size]; exact hi
  replace hi := Ha hi
  replace hi2 := Ha hi2
  have hsg : IntKind.u32.signed = false := rfl
  have hzz := Ha hz
  clear hz
  go_enter Tryz.func147, Tryz.ntmps147
  go_wp2_with fail
  refine (newTable_any _).mono ?_
  rintro e w1 ⟨rfl, hB1⟩
  go_wp2_with (refine wpList_store_row rfl 223 (.tmp 3) (.tmp 7) rfl w1.heap.size (cellsTo 256) rfl rfl 223 (cellsTo 1) (Whole.new w1 _ _) hi2.out (by rw [cellsTo_size, cellsTo_size]) (cellsTo_one _) ?_)
  rw [World.setRow_alloc_new]
  have hg := Whole.new w1 223 (cellsTo 256)
  have hB2 := hB1.alloc hB1.size (.cells (cellsTo 256) 223)
  generalize w1.alloc (.cells (cellsTo 256) 223) = w2 at hg hB2 ⊢
  have h2 := h.below (hB2.mono hB)
  clear hz0
  go_loopw [4, 10] (fun r i wr => ∃ k y : Nat, k <= n /\ y < 4294967296 /\ i = .int .i64 k /\ r = .int .u32 y /\ y = fed 4294967295 (flat (zs.take k)) /\ ∃ m, wr = w2.drewN m) (fun _ i _ => n - (intOf i).toNat)
  case atStart => exact ⟨0, 4294967295, Nat.zero_le _, by decide, rfl, rfl, rfl, 0, rfl⟩
  case round =>
    obtain ⟨k, y, hk, hy, rfl, rfl, he, m, rfl⟩ := hrel
    replace he := Ha he
    by_cases hlt : k < n
    · obtain ⟨b, off, rfl, _, hc⟩ := string_at h2 hlt
      have hi : (k : Int) < (n : Int) := by omega
      have hkz : k < zs.length := by have := h2.len; simp [texts] at this; omega
      have hzk := hzz.out k
      have hft := Ha (flat_take zs k hkz)
      obtain ⟨s, hs⟩ : ∃ s, s = zs.getD k ByteArray.empty := ⟨_, rfl⟩
      rw [<-hs] at hzk hc
      replace hs := Ha hs
      go_wp2_with fail
      refine (feed_any _ y s _ _ (hg.drewN m) hy hzk).mono ?_
      rintro e w3 ⟨rfl, m2, rfl⟩; go_wp2_with fail
      go_roundw
      case rel => exact ⟨k + 1, _, by omega, fed_lt _ _ hy, by go_num, rfl, by rw [hft.out, fed_append, he.out, hs.out], _, rfl⟩
      case measure => simp [intOf]; omega
    · obtain rfl : k = n := by omega
      have hfl := flip_inv y hy
      go_wp2_with fail
      go_ret
      refine ⟨ret_int ?_, below_drewN hB2 m⟩
      have hl : zs.length <= k := by have := h.len; simp [texts] at this; omega
      rw [he.out, List.take_of_length_le hl]
      rfl
end Go.Proofs.YtmpginmdaeclaaaGreatDoor
namespace Go.Proofs.YtmpginmdaeclaaaGreatDoor
open Go.RowKit
end Go.Proofs.YtmpginmdaeclaaaGreatDoor
