/- awake; the laws NameHolds and NameOrders, walked. -/
import Derived.Test.YtfmpoibcchiakaaNamF
import Derived.Test.YtfmpoibcchiakaaNamL
import Derived.Test.YtfmpoibcchiakaaNamO
namespace Go.Proofs.Ytfmpoibcchiakaa
open Go.RowKit

def www : List UInt8 := [3, 119, 119, 119, 0]
theorem www_name : nameL www = some [[119, 119, 119]] := by
  have := nameL_enc (L := [[119, 119, 119]]) (fun x hx => by rw [List.mem_singleton] at hx; subst hx; exact ⟨by simp, by simp⟩) (by decide)
  exact this
theorem www_parent : parentN www = ([0], true) := by unfold parentN; rw [www_name]; rfl
set_option maxHeartbeats 1000000 in
theorem awake_any (w : World) : Calls Try.prog 8 #[] w fun e w' => e = .returned (.bool true) ∧ Below w.heap.size w w' := by
  have hp : parentN www = ([0], true) := www_parent
  have hr : (nameL www).isSome = true := by rw [www_name]; rfl
  obtain ⟨Z, hZ⟩ : ∃ Z, Z = mk [0] := ⟨_, rfl⟩
  have hz : (Z.toList == [0]) = true := by rw [hZ, mk_is]; rfl
  have HZ := Lib.hid hZ
  have HP := Lib.hid hp
  have HR := Lib.hid hr
  clear hp hr hZ
  go_enter Try.func8, Try.ntmps8
  go_wp2_with fail
  refine (Parent_any ⟨#[3, 119, 119, 119, 0]⟩ www _ rfl (by decide)).mono ?_
  rw [HP.out]
  simp only
  rw [← HZ.out]
  rintro e w1 ⟨rfl, hB1⟩
  go_wp2_with fail
  refine (Right_any ⟨#[3, 119, 119, 119, 0]⟩ www _ rfl (by decide)).mono ?_
  rw [HR.out]
  rintro e w2 ⟨rfl, hB2⟩
  go_wp2_with fail
  go_ret
  exact ⟨rfl, hB1.trans (hB2.mono hB1.size)⟩

/-! ### NameHolds -/
theorem holds_far (A B : ByteArray) (w : World) (h : 300 < A.size ∨ 300 < B.size) :
    Calls Try.prog 5 #[.string A, .string B] w fun e w' => e = .returned (.bool true) ∧ Below w.heap.size w w' := by
  by_cases h1 : 300 < A.size
  · have g1 : (300 : Int) < (A.size : Int) := by omega
    clear h
    go_enter Try.func5, Try.ntmps5
    go_wp2_with fail
    refine (awake_any _).mono ?_
    rintro e w1 ⟨rfl, hB1⟩
    go_wp2_with fail
    refine (awake_any _).mono ?_
    rintro e w2 ⟨rfl, hB2⟩
    go_wp2_with fail
    go_ret
    exact ⟨rfl, hB1.trans (hB2.mono hB1.size)⟩
  · have g1 : ¬ (300 : Int) < (A.size : Int) := by omega
    have g2 : (300 : Int) < (B.size : Int) := by omega
    clear h
    go_enter Try.func5, Try.ntmps5
    go_wp2_with fail
    refine (awake_any _).mono ?_
    rintro e w1 ⟨rfl, hB1⟩
    go_wp2_with fail
    refine (awake_any _).mono ?_
    rintro e w2 ⟨rfl, hB2⟩
    go_wp2_with fail
    go_ret
    exact ⟨rfl, hB1.trans (hB2.mono hB1.size)⟩
set_option maxHeartbeats 1000000 in
theorem holds_near (A B : ByteArray) (a b : List UInt8) (w : World) (HA : Hid (A = mk a)) (HB : Hid (B = mk b)) (h1 : ¬ 300 < A.size) (h2 : ¬ 300 < B.size) :
    Calls Try.prog 5 #[.string A, .string B] w fun e w' => e = .returned (.bool true) ∧ Below w.heap.size w w' := by
  have g1 : ¬ (300 : Int) < (A.size : Int) := by omega
  have g2 : ¬ (300 : Int) < (B.size : Int) := by omega
  have ha : a.length ≤ 1073741824 := by rw [HA.out, mk_size] at h1; omega
  have hb : b.length ≤ 1073741824 := by rw [HB.out, mk_size] at h2; omega
  go_enter Try.func5, Try.ntmps5
  go_wp2_with fail
  refine (awake_any _).mono ?_
  rintro e w1 ⟨rfl, hB1⟩
  go_wp2_with fail
  refine (Alike_any A B a b _ HA.out HB.out ha hb).mono ?_
  rintro e w2 ⟨rfl, hB2⟩
  have GB2 := hB1.trans (hB2.mono hB1.size)
  clear hB1 hB2
  go_wp2_with fail
  refine (RefAlike_any A B a b _ HA.out HB.out).mono ?_
  rintro e w3 ⟨rfl, hB3⟩
  have GB3 := GB2.trans (hB3.mono GB2.size)
  clear GB2 hB3
  generalize alikeN a b = u
  go_wp2_with fail
  refine (Compare_any A B a b _ HA.out HB.out ha hb).mono ?_
  rintro e w4 ⟨rfl, hB4⟩
  have GB4 := GB3.trans (hB4.mono GB3.size)
  clear GB3 hB4
  go_wp2_with fail
  refine (RefCompare_any A B a b _ HA.out HB.out).mono ?_
  rintro e w5 ⟨rfl, hB5⟩
  have GB5 := GB4.trans (hB5.mono GB4.size)
  clear GB4 hB5
  generalize cmpN a b = x
  go_wp2_with fail
  refine (Under_any A B a b _ HA.out HB.out ha hb).mono ?_
  rintro e w6 ⟨rfl, hB6⟩
  have GB6 := GB5.trans (hB6.mono GB5.size)
  clear GB5 hB6
  go_wp2_with fail
  refine (RefUnder_any A B a b _ HA.out HB.out).mono ?_
  rintro e w7 ⟨rfl, hB7⟩
  have GB7 := GB6.trans (hB7.mono GB6.size)
  clear GB6 hB7
  generalize underN a b = v
  go_wp2_with fail
  go_ret
  exact ⟨rfl, GB7⟩
theorem NameHolds_walk (A B : ByteArray) (w : World) (_ha : A.size ≤ maxLen) (_hb : B.size ≤ maxLen) :
    Calls Try.prog 5 #[.string A, .string B] w fun e w' => e = .returned (.bool true) ∧ Below w.heap.size w w' := by
  obtain ⟨a, hA⟩ := mk_of A
  obtain ⟨b, hB⟩ := mk_of B
  by_cases h1 : 300 < A.size
  · exact holds_far A B w (.inl h1)
  by_cases h2 : 300 < B.size
  · exact holds_far A B w (.inr h2)
  exact holds_near A B a b w hA hB h1 h2

/-! ### NameOrders -/
theorem cmpN_flip (a b : List UInt8) : cmpN b a = - cmpN a b := by
  unfold cmpN
  cases nameL a <;> cases nameL b <;> first | exact cmpL_flip _ _ | rfl
theorem cmpN_alike {a b : List UInt8} {L M : List (List UInt8)} (h : nameL a = some L) (k : nameL b = some M) : alikeN a b = decide (cmpN a b = 0) := by
  unfold alikeN cmpN
  rw [h, k]
  simp only [cmpL_zero, List.reverse_inj]
theorem cmpN_range (a b : List UInt8) : cmpN a b = -1 ∨ cmpN a b = 0 ∨ cmpN a b = 1 := by
  unfold cmpN
  cases nameL a <;> cases nameL b <;> first | exact cmpL_range _ _ | simp
/-- what the law asks of the three comparisons -/
theorem cmpN_three {a b c : List UInt8} {L M N : List (List UInt8)} (h : nameL a = some L) (k : nameL b = some M) (l : nameL c = some N) :
    (cmpN a b = 1) ∨ (cmpN a b = -1 ∧ cmpN b c = 1) ∨ (cmpN a b = 0 ∧ cmpN b c = 1) ∨ (cmpN a b = -1 ∧ cmpN b c = -1 ∧ cmpN a c = -1) ∨ (cmpN a b = -1 ∧ cmpN b c = 0 ∧ cmpN a c = -1) ∨ (cmpN a b = 0 ∧ cmpN b c = -1 ∧ cmpN a c = -1) ∨ (cmpN a b = 0 ∧ cmpN b c = 0 ∧ cmpN a c = 0) := by
  have ht : cmpN a b = -1 → cmpN b c = -1 → cmpN a c = -1 := by
    unfold cmpN; rw [h, k, l]; exact cmpL_trans
  have h0 : cmpN a b = 0 → cmpN a c = cmpN b c := by
    unfold cmpN; rw [h, k, l]
    intro e
    simp only at e ⊢
    rw [cmpL_eq e]
  have h1 : cmpN b c = 0 → cmpN a c = cmpN a b := by
    unfold cmpN; rw [h, k, l]
    intro e
    simp only at e ⊢
    rw [cmpL_eq e]
  rcases cmpN_range a b with e1 | e1 | e1 <;> rcases cmpN_range b c with e2 | e2 | e2
  · have := ht e1 e2; simp [e1, e2, this]
  · have := h1 e2; simp [e1, e2, this]
  · simp [e1, e2]
  · have := h0 e1; simp [e1, e2, this]
  · have := h0 e1; simp [e1, e2, this]
  · simp [e1, e2]
  · simp [e1]
  · simp [e1]
  · simp [e1]
theorem parent_facts {a x : List UInt8} {M : List (List UInt8)} (h : nameL a = some (x :: M)) :
    parentN a = (enc M, true) ∧ cmpN (enc M) a = -1 ∧ underN a (enc M) = true ∧ underN (enc M) a = false ∧ (enc M).length ≤ 255 := by
  obtain ⟨he, hg, hl⟩ := nameL_is h
  have hlen : (enc M).length ≤ 255 := by rw [he, enc_cons, List.length_append] at hl; omega
  have hm : nameL (enc M) = some M := nameL_enc hg.tail hlen
  refine ⟨by unfold parentN; rw [h], ?_, ?_, ?_, hlen⟩
  · unfold cmpN
    rw [h, hm]
    simp only [List.map_cons, List.reverse_cons]
    exact cmpL_prefix _ _
  · unfold underN
    rw [h, hm]
    simp
  · unfold underN
    rw [h, hm]
    simp only [List.map_cons, decide_eq_false_iff_not]
    intro e
    have := e.length_le
    simp at this
    omega

set_option maxHeartbeats 1000000 in
theorem orders_none (A B C : ByteArray) (a b c : List UInt8) (w : World) (HA : Hid (A = mk a)) (HB : Hid (B = mk b)) (HC : Hid (C = mk c)) (h : nameL a = none ∨ nameL b = none ∨ nameL c = none) :
    Calls Try.prog 6 #[.string A, .string B, .string C] w fun e w' => e = .returned (.bool true) ∧ Below w.heap.size w w' := by
  cases ha : (nameL a).isSome
  · clear h
    go_enter Try.func6, Try.ntmps6
    go_wp2_with fail
    refine (awake_any _).mono ?_
    rintro e w1 ⟨rfl, hB1⟩
    go_wp2_with fail
    refine (RefRight_any A a _ HA.out).mono ?_
    rw [ha]
    rintro e w2 ⟨rfl, hB2⟩
    have GB2 := hB1.trans (hB2.mono hB1.size)
    go_wp2_with fail
    refine (awake_any _).mono ?_
    rintro e w3 ⟨rfl, hB3⟩
    go_wp2_with fail
    go_ret
    exact ⟨rfl, GB2.trans (hB3.mono GB2.size)⟩
  cases hb : (nameL b).isSome
  · clear h
    go_enter Try.func6, Try.ntmps6
    go_wp2_with fail
    refine (awake_any _).mono ?_
    rintro e w1 ⟨rfl, hB1⟩
    go_wp2_with fail
    refine (RefRight_any A a _ HA.out).mono ?_
    rw [ha]
    rintro e w2 ⟨rfl, hB2⟩
    have GB2 := hB1.trans (hB2.mono hB1.size)
    go_wp2_with fail
    refine (RefRight_any B b _ HB.out).mono ?_
    rw [hb]
    rintro e w3 ⟨rfl, hB3⟩
    have GB3 := GB2.trans (hB3.mono GB2.size)
    go_wp2_with fail
    refine (awake_any _).mono ?_
    rintro e w4 ⟨rfl, hB4⟩
    go_wp2_with fail
    go_ret
    exact ⟨rfl, GB3.trans (hB4.mono GB3.size)⟩
  have hc : (nameL c).isSome = false := by
    rcases h with h | h | h
    · rw [h] at ha; cases ha
    · rw [h] at hb; cases hb
    · rw [h]; rfl
  clear h
  go_enter Try.func6, Try.ntmps6
  go_wp2_with fail
  refine (awake_any _).mono ?_
  rintro e w1 ⟨rfl, hB1⟩
  go_wp2_with fail
  refine (RefRight_any A a _ HA.out).mono ?_
  rw [ha]
  rintro e w2 ⟨rfl, hB2⟩
  have GB2 := hB1.trans (hB2.mono hB1.size)
  go_wp2_with fail
  refine (RefRight_any B b _ HB.out).mono ?_
  rw [hb]
  rintro e w3 ⟨rfl, hB3⟩
  have GB3 := GB2.trans (hB3.mono GB2.size)
  go_wp2_with fail
  refine (RefRight_any C c _ HC.out).mono ?_
  rw [hc]
  rintro e w4 ⟨rfl, hB4⟩
  have GB4 := GB3.trans (hB4.mono GB3.size)
  go_wp2_with fail
  refine (awake_any _).mono ?_
  rintro e w5 ⟨rfl, hB5⟩
  go_wp2_with fail
  go_ret
  exact ⟨rfl, GB4.trans (hB5.mono GB4.size)⟩

def Small (a : List UInt8) : Prop := a.length ≤ 255
theorem Small.big {a : List UInt8} (h : Small a) : a.length ≤ 1073741824 := by unfold Small at h; omega
set_option maxHeartbeats 8000000 in
theorem orders_names (A B C P : ByteArray) (a b c p : List UInt8) (x x2 y z : Int) (ok : Bool) (w : World) (HA : Hid (A = mk a)) (HB : Hid (B = mk b)) (HC : Hid (C = mk c)) (HP : Hid (P = mk p))
    (sa : Small a) (sb : Small b) (sc : Small c) (sp : Small p)
    (ha : (nameL a).isSome = true) (hb : (nameL b).isSome = true) (hc : (nameL c).isSome = true)
    (Hx : Hid (cmpN a b = x)) (Hx2 : Hid (cmpN b a = x2)) (Hy : Hid (cmpN b c = y)) (Hz : Hid (cmpN a c = z)) (Hal : Hid (alikeN a b = decide (x = 0)))
    (hcase : (x = 1 ∧ x2 = -1) ∨ (x = -1 ∧ x2 = 1 ∧ y = 1) ∨ (x = 0 ∧ x2 = 0 ∧ y = 1) ∨ (x = -1 ∧ x2 = 1 ∧ y = -1 ∧ z = -1) ∨ (x = -1 ∧ x2 = 1 ∧ y = 0 ∧ z = -1) ∨ (x = 0 ∧ x2 = 0 ∧ y = -1 ∧ z = -1) ∨ (x = 0 ∧ x2 = 0 ∧ y = 0 ∧ z = 0))
    (Hp : Hid (parentN a = (p, ok))) (Hpc : Hid (ok = true → cmpN p a = -1 ∧ underN a p = true ∧ underN p a = false)) :
    Calls Try.prog 6 #[.string A, .string B, .string C] w fun e w' => e = .returned (.bool true) ∧ Below w.heap.size w w' := by
  rcases hcase with ⟨rfl, rfl⟩ | ⟨rfl, rfl, rfl⟩ | ⟨rfl, rfl, rfl⟩ | ⟨rfl, rfl, rfl, rfl⟩ | ⟨rfl, rfl, rfl, rfl⟩ | ⟨rfl, rfl, rfl, rfl⟩ | ⟨rfl, rfl, rfl, rfl⟩
  all_goals cases ok
  all_goals
    go_enter Try.func6, Try.ntmps6
    go_wp2_with fail
    refine (awake_any _).mono ?_
    rintro e w1 ⟨rfl, hB1⟩
    go_wp2_with fail
    refine (RefRight_any A a _ HA.out).mono ?_
    rw [ha]
    rintro e w2 ⟨rfl, hB2⟩
    have GB2 := hB1.trans (hB2.mono hB1.size)
    clear hB1 hB2
    go_wp2_with fail
    refine (RefRight_any B b _ HB.out).mono ?_
    rw [hb]
    rintro e w3 ⟨rfl, hB3⟩
    have GB3 := GB2.trans (hB3.mono GB2.size)
    clear GB2 hB3
    go_wp2_with fail
    refine (RefRight_any C c _ HC.out).mono ?_
    rw [hc]
    rintro e w4 ⟨rfl, hB4⟩
    have GB4 := GB3.trans (hB4.mono GB3.size)
    clear GB3 hB4
    go_wp2_with fail
    refine (Compare_any A B a b _ HA.out HB.out sa.big sb.big).mono ?_
    rw [Hx.out]
    rintro e w5 ⟨rfl, hB5⟩
    have GB5 := GB4.trans (hB5.mono GB4.size)
    clear GB4 hB5
    go_wp2_with fail
    refine (Compare_any B C b c _ HB.out HC.out sb.big sc.big).mono ?_
    rw [Hy.out]
    rintro e w6 ⟨rfl, hB6⟩
    have GB6 := GB5.trans (hB6.mono GB5.size)
    clear GB5 hB6
    go_wp2_with fail
    refine (Compare_any A C a c _ HA.out HC.out sa.big sc.big).mono ?_
    rw [Hz.out]
    rintro e w7 ⟨rfl, hB7⟩
    have GB7 := GB6.trans (hB7.mono GB6.size)
    clear GB6 hB7
    go_wp2_with fail
    refine (Compare_any B A b a _ HB.out HA.out sb.big sa.big).mono ?_
    rw [Hx2.out]
    rintro e w8 ⟨rfl, hB8⟩
    have GB8 := GB7.trans (hB8.mono GB7.size)
    clear GB7 hB8
    go_wp2_with fail
    refine (Alike_any A B a b _ HA.out HB.out sa.big sb.big).mono ?_
    rw [Hal.out]
    rintro e w9 ⟨rfl, hB9⟩
    have GB9 := GB8.trans (hB9.mono GB8.size)
    clear GB8 hB9
    go_wp2_with fail
    refine (Parent_any A a _ HA.out sa.big).mono ?_
    rw [Hp.out]
    simp only
    rw [← HP.out]
    rintro e w10 ⟨rfl, hB10⟩
    have GB10 := GB9.trans (hB10.mono GB9.size)
    clear GB9 hB10
    go_wp2_with fail
  all_goals first
    | (go_ret; exact ⟨rfl, GB10⟩)
    | (refine (Compare_any P A p a _ HP.out HA.out sp.big sa.big).mono ?_
       rw [(Hpc.out (by simp)).1]
       rintro e w11 ⟨rfl, hB11⟩
       have GB11 := GB10.trans (hB11.mono GB10.size)
       clear GB10 hB11
       go_wp2_with fail
       refine (Under_any A P a p _ HA.out HP.out sa.big sp.big).mono ?_
       rw [(Hpc.out (by simp)).2.1]
       rintro e w12 ⟨rfl, hB12⟩
       have GB12 := GB11.trans (hB12.mono GB11.size)
       clear GB11 hB12
       go_wp2_with fail
       refine (Under_any P A p a _ HP.out HA.out sp.big sa.big).mono ?_
       rw [(Hpc.out (by simp)).2.2]
       rintro e w13 ⟨rfl, hB13⟩
       have GB13 := GB12.trans (hB13.mono GB12.size)
       go_wp2_with fail
       go_ret
       exact ⟨rfl, GB13⟩)
theorem NameOrders_walk (A B C : ByteArray) (w : World) (_ha : A.size ≤ maxLen) (_hb : B.size ≤ maxLen) (_hc : C.size ≤ maxLen) :
    Calls Try.prog 6 #[.string A, .string B, .string C] w fun e w' => e = .returned (.bool true) ∧ Below w.heap.size w w' := by
  obtain ⟨a, hA⟩ := mk_of A
  obtain ⟨b, hB⟩ := mk_of B
  obtain ⟨c, hC⟩ := mk_of C
  cases h : nameL a with
  | none => exact orders_none A B C a b c w hA hB hC (.inl h)
  | some L =>
    cases k : nameL b with
    | none => exact orders_none A B C a b c w hA hB hC (.inr (.inl k))
    | some M =>
      cases l : nameL c with
      | none => exact orders_none A B C a b c w hA hB hC (.inr (.inr l))
      | some N =>
        have h3 := cmpN_three h k l
        have hf := cmpN_flip a b
        have hal := cmpN_alike h k
        have ha : (nameL a).isSome = true := by rw [h]; rfl
        have hb : (nameL b).isSome = true := by rw [k]; rfl
        have hc : (nameL c).isSome = true := by rw [l]; rfl
        have sa := (nameL_is h).2.2
        have sb := (nameL_is k).2.2
        have sc := (nameL_is l).2.2
        obtain ⟨p, ok, hp, hpl, hpc⟩ : ∃ p ok, parentN a = (p, ok) ∧ p.length ≤ 255 ∧ (ok = true → cmpN p a = -1 ∧ underN a p = true ∧ underN p a = false) := by
          cases L with
          | nil => exact ⟨[], false, by unfold parentN; rw [h], Nat.zero_le _, fun e => by cases e⟩
          | cons x L => exact ⟨enc L, true, (parent_facts h).1, (parent_facts h).2.2.2.2, fun _ => ⟨(parent_facts h).2.1, (parent_facts h).2.2.1, (parent_facts h).2.2.2.1⟩⟩
        obtain ⟨x, hx⟩ : ∃ x, cmpN a b = x := ⟨_, rfl⟩
        obtain ⟨x2, hx2⟩ : ∃ x2, cmpN b a = x2 := ⟨_, rfl⟩
        obtain ⟨y, hy⟩ : ∃ y, cmpN b c = y := ⟨_, rfl⟩
        obtain ⟨z, hz⟩ : ∃ z, cmpN a c = z := ⟨_, rfl⟩
        rw [hx, hy, hz] at h3
        rw [hx, hx2] at hf
        rw [hx] at hal
        refine orders_names A B C (mk p) a b c p x x2 y z ok w hA hB hC (Lib.hid rfl) sa sb sc hpl ha hb hc hx hx2 hy hz hal ?_ hp hpc
        clear hx hx2 hy hz hal hp hpc
        rcases h3 with e | ⟨e, e2⟩ | ⟨e, e2⟩ | ⟨e, e2, e3⟩ | ⟨e, e2, e3⟩ | ⟨e, e2, e3⟩ | ⟨e, e2, e3⟩ <;> rw [e] at hf <;> try simp at hf
        · exact .inl ⟨e, hf⟩
        · exact .inr (.inl ⟨e, hf, e2⟩)
        · exact .inr (.inr (.inl ⟨e, hf, e2⟩))
        · exact .inr (.inr (.inr (.inl ⟨e, hf, e2, e3⟩)))
        · exact .inr (.inr (.inr (.inr (.inl ⟨e, hf, e2, e3⟩))))
        · exact .inr (.inr (.inr (.inr (.inr (.inl ⟨e, hf, e2, e3⟩)))))
        · exact .inr (.inr (.inr (.inr (.inr (.inr ⟨e, hf, e2, e3⟩)))))
end Go.Proofs.Ytfmpoibcchiakaa
