/- Parts of the proofs of the statements of image. No statement of the seat is proved here. -/
import Derived.Test.YtmpginmdaeclaaaGreatDoorRsX
import Derived.Test.YtmpginmdaeclaaaGreatDoorNaF
set_option maxHeartbeats 32000000
set_option maxRecDepth 20000
namespace Go.Proofs.YtmpginmdaeclaaaGreatDoor
open Go.Op
set_option linter.unusedVariables false
def nmX (x : Rrd) : List UInt8 := x.toRec.n
theorem OkX.nm {x : Rrd} (h : OkX x) : (nameL (nmX x)).isSome = true := by
  obtain ⟨⟨L, h1⟩, _⟩ := ok_parts h.1
  unfold nmX
  rw [h1]; rfl
theorem alike_key {a b : List UInt8} (ha : (nameL a).isSome = true) (hb : (nameL b).isSome = true) : alikeN a b = decide (keyN a = keyN b) := by
  unfold alikeN keyN
  cases h : nameL a with
  | none => rw [h] at ha; cases ha
  | some L =>
    cases k : nameL b with
    | none => rw [k] at hb; cases hb
    | some M => exact decide_eq_decide.2 List.reverse_inj.symm
theorem alike_no {a b : List UInt8} (hb : (nameL b).isSome = false) : alikeN a b = false := by
  unfold alikeN
  cases h : nameL a with
  | none => rfl
  | some L =>
    cases k : nameL b with
    | none => rfl
    | some M => rw [k] at hb; cases hb
theorem alike_cK {a b : List UInt8} (ha : (nameL a).isSome = true) (hb : (nameL b).isSome = true) : alikeN a b = decide (cK a b = 0) := by
  rw [alike_key ha hb, decide_eq_decide]
  exact (cmpL_zero _ _).symm
def KS (l : List Rrd) : Prop := l.Pairwise fun x y => cK (nmX x) (nmX y) ≠ 1
theorem SetL.keys {l : List Rrd} (h : SetL cX l) : KS l := by
  refine List.Pairwise.imp ?_ h
  intro a b e c
  unfold cX nmX orI at *
  rw [if_neg (by rw [if_neg (by omega)]; omega), if_neg (by omega)] at e
  omega
theorem KS.tail {x : Rrd} {l : List Rrd} (h : KS (x :: l)) : KS l := (List.pairwise_cons.1 h).2
def cntX (p : Rrd -> Bool) : List Rrd -> Nat
  | [] => 0
  | x :: l => if p x = true then cntX p l + 1 else 0
theorem cntX_le (p : Rrd -> Bool) : ∀ l, cntX p l <= l.length
  | [] => Nat.le_refl _
  | x :: l => by
    have := cntX_le p l
    unfold cntX
    split <;> simp <;> omega
theorem cntX_of (p : Rrd -> Bool) : ∀ (l : List Rrd) (i : Nat), i <= l.length -> (∀ t x, t < i -> l[t]? = some x -> p x = true) -> (∀ t x, i <= t -> l[t]? = some x -> p x = false) -> cntX p l = i
  | [], i, hi, _, _ => by simp at hi; subst hi; rfl
  | x :: l, 0, _, _, h2 => by
    have := h2 0 x (Nat.le_refl _) rfl
    simp [cntX, this]
  | x :: l, i + 1, hi, h1, h2 => by
    have g := h1 0 x (by omega) rfl
    have ih := cntX_of p l i (by simpa using hi) (fun t y ht hy => h1 (t + 1) y (by omega) (by simpa using hy)) (fun t y ht hy => h2 (t + 1) y (by omega) (by simpa using hy))
    rw [cntX, if_pos g, ih]
def Mon (p : Rrd -> Bool) (l : List Rrd) : Prop := l.Pairwise fun x y => p y = true -> p x = true
theorem Mon.at {p : Rrd -> Bool} {l : List Rrd} (h : Mon p l) {a b : Nat} {x y : Rrd} (hab : a <= b) (ha : l[a]? = some x) (hb : l[b]? = some y) (hy : p y = true) : p x = true := by
  rcases Nat.lt_or_ge a b with g | g
  · obtain ⟨la, rfl⟩ := List.getElem?_eq_some_iff.1 ha
    obtain ⟨lb, rfl⟩ := List.getElem?_eq_some_iff.1 hb
    exact List.pairwise_iff_getElem.1 h a b la lb g hy
  · obtain rfl : a = b := by omega
    rw [ha] at hb
    injection hb with hb
    rw [hb]; exact hy
def befN (n : List UInt8) (x : Rrd) : Bool := decide (cmpN (nmX x) n < 0)
def uptoN (n : List UInt8) (x : Rrd) : Bool := decide (orI (cmpN (nmX x) n) (-1) < 0)
theorem cmpN_no {a b : List UInt8} (hb : (nameL b).isSome = false) : cmpN a b = 0 := by
  unfold cmpN
  cases h : nameL a with
  | none => rfl
  | some L =>
    cases k : nameL b with
    | none => rfl
    | some M => rw [k] at hb; cases hb
theorem befN_mon {l : List Rrd} (n : List UInt8) (h : KS l) (ok : OkL l) : Mon (befN n) l := by
  unfold Mon
  refine List.Pairwise.imp_of_mem ?_ h
  intro x y hx hy e
  unfold befN
  rw [decide_eq_true_eq, decide_eq_true_eq]
  cases hn : (nameL n).isSome with
  | false => rw [cmpN_no hn]; intro c; exact absurd c (by decide)
  | true =>
    rw [cmpN_key (ok x hx).nm hn, cmpN_key (ok y hy).nm hn]
    intro c
    have r := cK_ord.range (nmX y) n
    have f := cK_ord.flip (nmX x) (nmX y)
    have := cK_ord.le_lt (x := nmX x) (y := nmX y) (z := n) (by omega) (by omega)
    omega
theorem uptoN_mon {l : List Rrd} (n : List UInt8) (h : KS l) (ok : OkL l) : Mon (uptoN n) l := by
  unfold Mon
  refine List.Pairwise.imp_of_mem ?_ h
  intro x y hx hy e
  unfold uptoN orI
  rw [decide_eq_true_eq, decide_eq_true_eq]
  cases hn : (nameL n).isSome with
  | false =>
    have e1 : cmpN (nmX x) n = 0 := cmpN_no hn
    rw [e1]; intro _; decide
  | true =>
    rw [cmpN_key (ok x hx).nm hn, cmpN_key (ok y hy).nm hn]
    intro c
    have r := cK_ord.range (nmX y) n
    have r2 := cK_ord.range (nmX x) n
    have f := cK_ord.flip (nmX x) (nmX y)
    have f2 := cK_ord.flip (nmX y) n
    have f3 := cK_ord.flip (nmX x) n
    have := cK_ord.le_trans (x := nmX x) (y := nmX y) (z := n) (by omega) (by split at c <;> omega)
    split <;> omega
def atX (n : List UInt8) (l : List Rrd) : List Rrd := l.filter fun x => alikeN (nmX x) n
def typX (t : Int) (l : List Rrd) : List Rrd := l.filter fun x => decide (x.t = t)
theorem at_rest {n : List UInt8} (hn : (nameL n).isSome = true) : ∀ {l : List Rrd}, KS l -> OkL l -> (∀ x ∈ l, befN n x = false) -> l.take (cntX (uptoN n) l) = atX n l
  | [], _, _, _ => rfl
  | x :: l, h, ok, hb => by
    have okx := ok x (by simp)
    have ih := at_rest hn h.tail (fun y hy => ok y (List.mem_cons_of_mem _ hy)) (fun y hy => hb y (List.mem_cons_of_mem _ hy))
    have b0 := hb x (by simp)
    have ha := alike_cK okx.nm hn
    have hc := cmpN_key okx.nm hn
    have r := cK_ord.range (nmX x) n
    unfold befN at b0
    rw [decide_eq_false_iff_not, hc] at b0
    by_cases c : cK (nmX x) n = 0
    · have e1 : uptoN n x = true := by unfold uptoN orI; rw [hc, if_pos c]; decide
      have e2 : alikeN (nmX x) n = true := by rw [ha, decide_eq_true c]
      unfold atX at ih ⊢
      rw [cntX, if_pos e1, List.take_succ_cons, ih, List.filter_cons, if_pos e2]
    · have e1 : ¬ uptoN n x = true := by unfold uptoN orI; rw [hc, if_neg c, decide_eq_true_eq]; omega
      rw [cntX, if_neg e1, List.take_zero]
      symm
      unfold atX; rw [List.filter_eq_nil_iff]
      intro y hy
      have e3 : cK (nmX x) (nmX y) ≠ 1 \/ y = x := by
        rcases List.mem_cons.1 hy with e | e
        · exact .inr e
        · exact .inl ((List.pairwise_cons.1 h).1 y e)
      rw [alike_cK (ok y hy).nm hn, decide_eq_true_eq]
      rcases e3 with e3 | rfl
      · intro e
        have f := cK_ord.flip (nmX x) n
        have := cK_ord.same' (nmX x) e
        omega
      · exact c
theorem at_is {n : List UInt8} (hn : (nameL n).isSome = true) : ∀ {l : List Rrd}, KS l -> OkL l -> (l.drop (cntX (befN n) l)).take (cntX (uptoN n) (l.drop (cntX (befN n) l))) = atX n l
  | [], _, _ => rfl
  | x :: l, h, ok => by
    have okx := ok x (by simp)
    have okl : OkL l := fun y hy => ok y (List.mem_cons_of_mem _ hy)
    by_cases c : befN n x = true
    · have ih := at_is hn h.tail okl
      rw [cntX, if_pos c, List.drop_succ_cons, ih]
      unfold befN at c
      rw [decide_eq_true_eq, cmpN_key okx.nm hn] at c
      unfold atX; rw [List.filter_cons, if_neg (by rw [alike_cK okx.nm hn, decide_eq_true_eq]; omega)]
    · rw [cntX, if_neg c, List.drop_zero]
      refine at_rest hn h ok ?_
      intro y hy
      cases e : befN n y with
      | false => rfl
      | true =>
        rcases List.mem_cons.1 hy with e2 | e2
        · rw [e2] at e; exact absurd e c
        · exact absurd ((List.pairwise_cons.1 (befN_mon n h ok)).1 y e2 e) c
theorem at_no {n : List UInt8} (hn : (nameL n).isSome = false) (l : List Rrd) : atX n l = [] := by
  unfold atX
  rw [List.filter_eq_nil_iff]
  intro y _
  rw [alike_no hn]; simp
theorem typX_mem {t : Int} {l : List Rrd} {x : Rrd} : x ∈ typX t l ↔ x ∈ l /\ x.t = t := by
  unfold typX
  rw [List.mem_filter, decide_eq_true_eq]
theorem atX_len (n : List UInt8) (l : List Rrd) : (atX n l).length <= l.length := List.length_filter_le _ _
def dataT (t : Int) : Bool := decide (1 <= t) && decide (t <= 65535) && !decide (t = 41) && !(decide (128 <= t) && decide (t <= 255))
def goodR (apex : List UInt8) (x : Rrd) : Bool := decide (x.c = 1) && (dataT x.t && underN (nmX x) apex)
def pairX (x y : Rrd) : Bool := (decide (x.t = 5) || decide (y.t = 5)) && alikeN (nmX x) (nmX y)
def aloneX : List Rrd -> Bool
  | x :: y :: l => !pairX x y && aloneX (y :: l)
  | _ => true
def isZ (apex : List UInt8) (l : List Rrd) : Bool :=
  l.all (goodR apex) && (decide ((typX 6 l).length = 1) && (decide ((typX 6 (atX apex l)).length = 1) && (decide (0 < (typX 2 (atX apex l)).length) && aloneX l)))
def refG (apex : List UInt8) (l : List Rrd) (x : Rrd) : Bool := goodR apex x && (!(decide (x.t = 6) && !alikeN (nmX x) apex) && !(decide (x.t = 5) && !decide ((atX (nmX x) l).length = 1)))
def refZ (apex : List UInt8) (l : List Rrd) : Bool := l.all (refG apex l) && (decide ((typX 6 l).length = 1) && decide (0 < (typX 2 (atX apex l)).length))
theorem alike_sym {x y : Rrd} (hx : OkX x) (hy : OkX y) : alikeN (nmX x) (nmX y) = alikeN (nmX y) (nmX x) := by
  rw [alike_key hx.nm hy.nm, alike_key hy.nm hx.nm, decide_eq_decide]
  exact ⟨Eq.symm, Eq.symm⟩
theorem alone_pair : ∀ {l : List Rrd}, KS l -> OkL l -> (aloneX l = true ↔ l.Pairwise fun x y => pairX x y = false)
  | [], _, _ => by simp [aloneX]
  | [x], _, _ => by simp [aloneX]
  | x :: y :: l, h, ok => by
    have okl : OkL (y :: l) := fun z hz => ok z (List.mem_cons_of_mem _ hz)
    have ih := alone_pair h.tail okl
    rw [aloneX, Bool.and_eq_true, ih, List.pairwise_cons (a := x) (l := y :: l), Bool.not_eq_true']
    refine ⟨fun ⟨h1, h2⟩ => ⟨?_, h2⟩, fun ⟨h1, h2⟩ => ⟨h1 y (by simp), h2⟩⟩
    intro z hz
    rcases List.mem_cons.1 hz with rfl | hz'
    · exact h1
    · have okx := ok x (by simp)
      have oky := ok y (by simp)
      have okz := ok z (List.mem_cons_of_mem _ hz)
      cases c : alikeN (nmX x) (nmX z) with
      | false => unfold pairX; rw [c, Bool.and_false]
      | true =>
        have k1 := (List.pairwise_cons.1 h).1 y (by simp)
        have k2 := (List.pairwise_cons.1 h.tail).1 z hz'
        have hyz : pairX y z = false := (List.pairwise_cons.1 h2).1 z hz'
        have c0 := c
        rw [alike_cK okx.nm okz.nm, decide_eq_true_eq] at c
        have f1 := cK_ord.flip (nmX x) (nmX y)
        have f2 := cK_ord.flip (nmX y) (nmX z)
        have s := cK_ord.same (nmX x) (nmX z) (nmX y) c
        have e1 : alikeN (nmX x) (nmX y) = true := by
          rw [alike_cK okx.nm oky.nm, decide_eq_true_eq]
          have r := cK_ord.range (nmX x) (nmX y)
          omega
        have e2 : alikeN (nmX y) (nmX z) = true := by
          rw [alike_key okx.nm oky.nm, decide_eq_true_eq] at e1
          rw [alike_key okx.nm okz.nm, decide_eq_true_eq] at c0
          rw [alike_key oky.nm okz.nm, decide_eq_true_eq, <-e1, c0]
        unfold pairX at h1 hyz ⊢
        rw [e1, Bool.and_true, Bool.or_eq_false_iff] at h1
        rw [e2, Bool.and_true, Bool.or_eq_false_iff] at hyz
        rw [h1.1, hyz.2]; rfl
theorem pair_at {l : List Rrd} (ok : OkL l) : (l.Pairwise fun x y => pairX x y = false) ↔ ∀ x ∈ l, x.t = 5 -> (atX (nmX x) l).length = 1 := by
  constructor
  · intro h x hx ht
    obtain ⟨A, B, rfl⟩ := List.append_of_mem hx
    have okx := ok x hx
    have hself : alikeN (nmX x) (nmX x) = true := by rw [alike_key okx.nm okx.nm, decide_eq_true_eq]
    have h1 : atX (nmX x) A = [] := by
      unfold atX; rw [List.filter_eq_nil_iff]
      intro y hy c
      have := (List.pairwise_append.1 h).2.2 y hy x (by simp)
      unfold pairX at this
      rw [c, ht] at this
      simp at this
    have h2 : atX (nmX x) B = [] := by
      unfold atX; rw [List.filter_eq_nil_iff]
      intro y hy c
      have := (List.pairwise_cons.1 (List.pairwise_append.1 h).2.1).1 y hy
      unfold pairX at this
      rw [alike_sym okx (ok y (by simp [hy])), c, ht] at this
      simp at this
    unfold atX at h1 h2 ⊢
    rw [List.filter_append, h1, List.filter_cons, if_pos hself, h2]
    rfl
  · intro h
    rw [List.pairwise_iff_forall_sublist]
    intro a b hs
    have ha : a ∈ l := hs.subset (by simp)
    have hb : b ∈ l := hs.subset (by simp)
    cases c : pairX a b with
    | false => rfl
    | true =>
      exfalso
      unfold pairX at c
      rw [Bool.and_eq_true, Bool.or_eq_true, decide_eq_true_eq, decide_eq_true_eq] at c
      obtain ⟨c1, c2⟩ := c
      have hsa : alikeN (nmX a) (nmX a) = true := by rw [alike_key (ok a ha).nm (ok a ha).nm, decide_eq_true_eq]
      have hsb : alikeN (nmX b) (nmX b) = true := by rw [alike_key (ok b hb).nm (ok b hb).nm, decide_eq_true_eq]
      have two : ∀ z, alikeN (nmX a) (nmX z) = true -> alikeN (nmX b) (nmX z) = true -> 2 <= (atX (nmX z) l).length := by
        intro z e1 e2
        have := (hs.filter fun x => alikeN (nmX x) (nmX z)).length_le
        rw [List.filter_cons, if_pos e1, List.filter_cons, if_pos e2] at this
        unfold atX
        simpa using this
      rcases c1 with c1 | c1
      · have := two a hsa (by rw [<-alike_sym (ok a ha) (ok b hb)]; exact c2)
        have := h a ha c1
        omega
      · have := two b c2 hsb
        have := h b hb c1
        omega
theorem typ_at (t : Int) (n : List UInt8) (l : List Rrd) : typX t (atX n l) = (typX t l).filter fun x => alikeN (nmX x) n := by
  unfold typX atX
  rw [List.filter_filter, List.filter_filter]
  congr 1
  funext x
  exact Bool.and_comm _ _
theorem isZ_ref {apex : List UInt8} {l : List Rrd} (h : KS l) (ok : OkL l) : isZ apex l = refZ apex l := by
  rw [Bool.eq_iff_iff]
  have key := (alone_pair h ok).trans (pair_at ok)
  unfold isZ refZ refG
  simp only [Bool.and_eq_true, List.all_eq_true, decide_eq_true_eq, key]
  constructor
  · rintro ⟨h1, h2, h3, h4, h5⟩
    refine ⟨fun x hx => ⟨h1 x hx, ?_, ?_⟩, h2, h4⟩
    · by_cases e : x.t = 6
      · rw [typ_at] at h3
        obtain ⟨s, hs⟩ := List.length_eq_one_iff.1 h2
        have hx6 : x ∈ typX 6 l := typX_mem.2 ⟨hx, e⟩
        rw [hs] at h3 hx6
        obtain rfl : x = s := by simpa using hx6
        by_cases c : alikeN (nmX x) apex = true
        · rw [c]; simp
        · rw [List.filter_cons, if_neg c] at h3; simp at h3
      · rw [decide_eq_false e]; rfl
    · by_cases e : x.t = 5
      · rw [h5 x hx e]; simp
      · rw [decide_eq_false e]; rfl
  · rintro ⟨h1, h2, h4⟩
    refine ⟨fun x hx => (h1 x hx).1, h2, ?_, h4, fun x hx e => ?_⟩
    · rw [typ_at]
      obtain ⟨s, hs⟩ := List.length_eq_one_iff.1 h2
      have hsm : s ∈ typX 6 l := by rw [hs]; simp
      obtain ⟨m1, m2⟩ := typX_mem.1 hsm
      have := (h1 s m1).2.1
      rw [m2] at this
      have c : alikeN (nmX s) apex = true := by simpa using this
      rw [hs, List.filter_cons, if_pos c]
      rfl
    · have := (h1 x hx).2.2
      rw [e] at this
      simpa using this
end Go.Proofs.YtmpginmdaeclaaaGreatDoor
namespace Go.Proofs.YtmpginmdaeclaaaGreatDoor
open Go.RowKit Go.Op
set_option linter.unusedVariables false
def SeekOut (p : Nat) (e : Ending) : Prop := ∃ b, e = .returned (.tuple #[.int .i64 (p : Nat), .bool b])
theorem Seek_any (fid : Nat) (hent : ∀ (args : Array Value) (w : World), (callFunc fid args).run Tryz.prog w = .ok (.enter fid args) w) (A : Option Addr) (n c : Nat) (xs : List Rrd) (N : ByteArray) (f : Rrd -> Int) (w : World)
    (hx : SeesR w w.heap.size A n xs) (hm : Mon (fun x => decide (f x < 0)) xs) (hn : n <= 1000000)
    (hf : ∀ (x : Rrd) (wr : World), x ∈ xs -> Calls Tryz.prog fid #[.agg #[.string x.s, .int .i64 x.t, .int .i64 x.c, .int .i64 x.l, .string x.d], .string N] wr fun e w' => e = .returned (.int .i64 (f x)) /\ Below wr.heap.size wr w') :
    Calls Tryz.prog 180 #[.slice A n c, .string N, .func (.func fid) #[] #[]] w fun e w' => SeekOut (cntX (fun x => decide (f x < 0)) xs) e /\ Below w.heap.size w w' := by
  have HX := Ha hx
  have HN := Ha hx.1
  have HM := Ha hm
  have HF := Ha hf
  have HENT := Ha hent
  clear hx hm hf hent
  go_enter Tryz.func180, Tryz.ntmps180
  go_wp2_with fail
  go_loopw [9, 10] (fun s9 s10 wr => ∃ lo hi : Nat, s9 = .int .i64 (lo : Nat) /\ s10 = .int .i64 (hi : Nat) /\ lo <= hi /\ hi <= n /\ ((∀ t x, t < lo -> xs[t]? = some x -> decide (f x < 0) = true) /\ (∀ t x, hi <= t -> xs[t]? = some x -> decide (f x < 0) = false)) /\ Below w.heap.size w wr) (fun s9 s10 _ => (intOf s10).toNat - (intOf s9).toNat)
  case atStart => exact ⟨0, n, rfl, rfl, Nat.zero_le _, Nat.le_refl _, ⟨fun t x ht => absurd ht (Nat.not_lt_zero _), fun t x ht hx => by have := (List.getElem?_eq_some_iff.1 hx).1; have := HN.out; omega⟩, Below.refl _ _⟩
  case round =>
    obtain ⟨lo, hi, rfl, rfl, hlh, hhn, hI, hB⟩ := hrel
    have HI := Ha hI
    have HB := Ha hB
    clear hI hB
    by_cases hlt : lo < hi
    · have g2 : (lo : Int) < (hi : Int) := by omega
      obtain ⟨m, hm⟩ : ∃ m : Nat, m = (lo + hi) / 2 := ⟨_, rfl⟩
      have hm1 : lo <= m := by omega
      have hm2 : m < hi := by omega
      obtain ⟨b, off, x, rfl, hb, hxk, ht⟩ := (HX.out.keep HB.out).at (show m < n by omega)
      obtain ⟨q0, q1, q2, q3, q4⟩ := ht
      rw [hm] at q0 q1 q2 q3 q4
      obtain ⟨z, hz⟩ : ∃ z, z = f x := ⟨_, rfl⟩
      have HC := Ha (HF.out x wr (List.mem_of_getElem? hxk))
      have HZ := Ha hz
      have HXK := Ha hxk
      clear hz hxk; go_wp2_with fail
      rw [HENT.out, Oper.upon_enter]
      refine HC.out.mono ?_
      rw [<-HZ.out]
      rintro e w1 ⟨rfl, hB1⟩; have HB1 := thB HB hB1
      clear hB1 q0 q1 q2 q3 q4
      by_cases hz1 : z < 0
      · have HJ := Ha (show (∀ t x, t < m + 1 -> xs[t]? = some x -> decide (f x < 0) = true) /\ (∀ t x, hi <= t -> xs[t]? = some x -> decide (f x < 0) = false) from
          ⟨fun t y ht hy => HM.out.at (show t <= m by omega) hy HXK.out (by rw [decide_eq_true_eq, <-HZ.out]; exact hz1), HI.out.2⟩)
        go_wp2_with fail
        go_roundw
        case rel => exact ⟨m + 1, hi, by rw [show ((lo : Int) + (hi : Int)) / 2 + 1 = ((m + 1 : Nat) : Int) by omega], rfl, by omega, hhn, HJ.out, HB1.out⟩
        case measure => simp [intOf]; omega
      · have HJ := Ha (show (∀ t x, t < lo -> xs[t]? = some x -> decide (f x < 0) = true) /\ (∀ t x, m <= t -> xs[t]? = some x -> decide (f x < 0) = false) from
          ⟨HI.out.1, fun t y ht hy => Bool.eq_false_iff.2 fun h => by have k := HM.out.at ht HXK.out hy h; rw [decide_eq_true_eq, <-HZ.out] at k; exact hz1 k⟩)
        go_wp2_with fail
        go_roundw
        case rel => exact ⟨lo, m, rfl, by rw [show ((lo : Int) + (hi : Int)) / 2 = ((m : Nat) : Int) by omega], by omega, by omega, HJ.out, HB1.out⟩
        case measure => simp [intOf]; omega
    · obtain rfl : hi = lo := by omega
      have HP := Ha (cntX_of (fun x => decide (f x < 0)) xs hi (by have := HN.out; omega) HI.out.1 HI.out.2)
      by_cases hln : hi < n
      · have g2 : (hi : Int) < (n : Int) := by omega
        have g3 : ¬ (hi : Int) < (hi : Int) := by omega
        have g0 : (0 : Int) <= (hi : Int) := by omega
        obtain ⟨b, off, x, rfl, hb, hxk, ht⟩ := (HX.out.keep HB.out).at hln
        obtain ⟨q0, q1, q2, q3, q4⟩ := ht
        obtain ⟨z, hz⟩ : ∃ z, z = f x := ⟨_, rfl⟩
        have HC := Ha (HF.out x wr (List.mem_of_getElem? hxk))
        have HZ := Ha hz
        clear hz hxk; go_wp2_with fail
        rw [HENT.out, Oper.upon_enter]
        refine HC.out.mono ?_
        rw [<-HZ.out]
        rintro e w1 ⟨rfl, hB1⟩; have HB1 := thB HB hB1
        clear hB1 q0 q1 q2 q3 q4; go_wp2_with fail
        go_ret2
        exact ⟨⟨(z == 0), by rw [HP.out]; rfl⟩, HB1.out⟩
      · have g2 : ¬ (hi : Int) < (n : Int) := by omega
        have g3 : ¬ (hi : Int) < (hi : Int) := by omega
        go_wp2_with fail
        go_ret2
        exact ⟨⟨false, by rw [HP.out]; rfl⟩, HB.out⟩
theorem sees2 (w : World) (ty : TypeId) (x y : Int) : Sees (w.alloc (.cells #[.int .i64 x, .int .i64 y] ty)) (w.heap.size + 1) (some ⟨w.heap.size, 0, none⟩) 2 (ints .i64 [x, y]) := sees_whole (Whole.new w ty #[.int .i64 x, .int .i64 y])
theorem Or2_any (A : Option Addr) (cA B : Nat) (x y : Int) (w : World) (h : Sees w B A 2 (ints .i64 [x, y])) :
    Calls Tryz.prog 174 #[.slice A 2 cA] w fun e w' => e = .returned (.int .i64 (orI x y)) /\ w = w' := by
  obtain ⟨b, off, rfl, _, hc⟩ := h.addr (by decide)
  have c0 : w.cell? ⟨b, off, none⟩ = some (.int .i64 x) := hc 0 _ rfl
  have c1 : w.cell? ⟨b, off + 1, none⟩ = some (.int .i64 y) := hc 1 _ rfl
  clear hc h
  by_cases hx : x = 0
  · subst hx
    have e0 : orI 0 y = y := by unfold orI; rw [if_pos rfl]
    rw [e0]
    clear e0
    by_cases hy : y = 0
    · subst hy
      go_enter Tryz.func174, Tryz.ntmps174
      go_wp2_with fail
      refine wp_loop_rounds 5 ?_
      rw [rounds_succ]
      go_wp2_with fail
      rw [rounds_succ]
      go_wp2_with fail
      rw [rounds_succ]
      go_wp2_with fail
      go_ret
      exact ⟨rfl, rfl⟩
    · have gy : (y == 0) = false := by rw [beq_eq_false_iff_ne]; exact hy
      go_enter Tryz.func174, Tryz.ntmps174
      go_wp2_with fail
      refine wp_loop_rounds 5 ?_
      rw [rounds_succ]
      go_wp2_with fail
      rw [rounds_succ]
      go_wp2_with fail
      go_ret
      exact ⟨rfl, rfl⟩
  · have gx : (x == 0) = false := by rw [beq_eq_false_iff_ne]; exact hx
    have e0 : orI x y = x := by unfold orI; rw [if_neg hx]
    rw [e0]
    clear e0; go_enter Tryz.func174, Tryz.ntmps174
    go_wp2_with fail
    refine wp_loop_rounds 5 ?_
    rw [rounds_succ]
    go_wp2_with fail
    go_ret
    exact ⟨rfl, rfl⟩
theorem AtA_any (x : Rrd) (N : ByteArray) (n : List UInt8) (w : World) (hx : OkX x) (hN : N = mk n) (hl : n.length <= 1000000) :
    Calls Tryz.prog 181 #[.agg #[.string x.s, .int .i64 x.t, .int .i64 x.c, .int .i64 x.l, .string x.d], .string N] w fun e w' => e = .returned (.int .i64 (cmpN (nmX x) n)) /\ Below w.heap.size w w' := by
  have HB0 := Ha (show Below w.heap.size w (w.alloc (.cells #[.string x.s, .int .i64 x.t, .int .i64 x.c, .int .i64 x.l, .string x.d] 46)) from (Below.refl _ _).alloc (Nat.le_refl _) _)
  obtain ⟨p0, p1, p2, p3, p4⟩ := box_five w x
  have HN := Ha hN
  have hxl : (nmX x).length <= 1073741824 := by have := hx.name; unfold nmX; omega
  clear hN hx
  obtain ⟨z, hz⟩ : ∃ z, z = cmpN (nmX x) n := ⟨_, rfl⟩
  have HZ := Ha hz
  rw [<-hz]
  clear hz
  go_enter Tryz.func181, Tryz.ntmps181
  go_wp2_with fail
  refine (Compare_any x.s N (nmX x) n _ (rrd_name x) HN.out hxl (by omega)).mono ?_
  rw [<-HZ.out]
  rintro e w1 ⟨rfl, hB⟩
  have HB := thB HB0 hB
  clear hB p0 p1 p2 p3 p4
  go_wp2_with fail
  go_ret
  exact ⟨rfl, HB.out⟩
theorem AtB_any (x : Rrd) (N : ByteArray) (n : List UInt8) (w : World) (hx : OkX x) (hN : N = mk n) (hl : n.length <= 1000000) :
    Calls Tryz.prog 182 #[.agg #[.string x.s, .int .i64 x.t, .int .i64 x.c, .int .i64 x.l, .string x.d], .string N] w fun e w' => e = .returned (.int .i64 (orI (cmpN (nmX x) n) (-1))) /\ Below w.heap.size w w' := by
  have HB0 := Ha (show Below w.heap.size w (w.alloc (.cells #[.string x.s, .int .i64 x.t, .int .i64 x.c, .int .i64 x.l, .string x.d] 46)) from (Below.refl _ _).alloc (Nat.le_refl _) _)
  obtain ⟨p0, p1, p2, p3, p4⟩ := box_five w x
  have HN := Ha hN
  have hxl : (nmX x).length <= 1073741824 := by have := hx.name; unfold nmX; omega
  clear hN hx
  obtain ⟨z, hz⟩ : ∃ z, z = cmpN (nmX x) n := ⟨_, rfl⟩
  have HZ := Ha hz
  rw [<-hz]
  clear hz
  go_enter Tryz.func182, Tryz.ntmps182
  go_wp2_with fail
  refine (Compare_any x.s N (nmX x) n _ (rrd_name x) HN.out hxl (by omega)).mono ?_
  rw [<-HZ.out]
  rintro e w1 ⟨rfl, hB⟩
  have HB := thB HB0 hB
  clear hB p0 p1 p2 p3 p4
  go_wp2_with fail
  refine (Or2_any _ 2 _ z (-1) _ (sees2 _ _ _ _)).mono ?_
  rintro e w2 ⟨rfl, rfl⟩
  go_wp2_with fail
  go_ret
  exact ⟨rfl, HB.out.alloc HB.out.size _⟩
theorem At_no (A : Option Addr) (n c : Nat) (N : ByteArray) (nn : List UInt8) (xs : List Rrd) (w : World) (hN : N = mk nn) (hl : nn.length <= 1000000) (hr : (nameL nn).isSome = false) :
    Calls Tryz.prog 130 #[.slice A n c, .string N] w fun e w' => ∃ v, e = .returned v /\ w'.ownsRow w.heap.size 46 5 v (atX nn xs).length (rcells (atX nn xs)) /\ Below w.heap.size w w' := by
  have HN := Ha hN
  have HR := Ha hr
  rw [at_no hr]
  clear hN hr
  go_enter Tryz.func130, Tryz.ntmps130
  go_wp2_with fail
  refine (Right_any N nn _ HN.out (by omega)).mono ?_
  rw [HR.out]
  rintro e w1 ⟨rfl, hB⟩
  have HB := Ha hB
  clear hB
  go_wp2_with fail
  go_ret
  exact ⟨_, rfl, own_nil _ _ _ _, HB.out⟩
theorem At_some (b off n c : Nat) (N : ByteArray) (nn : List UInt8) (xs : List Rrd) (w : World) (hN : N = mk nn) (hl : nn.length <= 1000000) (hr : (nameL nn).isSome = true)
    (hx : SeesR w w.heap.size (some ⟨b, off, none⟩) n xs) (hc : n <= c) (hok : OkL xs) (hk : KS xs) (hn : n <= 1000000) :
    Calls Tryz.prog 130 #[.slice (some ⟨b, off, none⟩) n c, .string N] w fun e w' => ∃ v, e = .returned v /\ w'.ownsRow w.heap.size 46 5 v (atX nn xs).length (rcells (atX nn xs)) /\ Below w.heap.size w w' := by
  obtain ⟨p, hp⟩ : ∃ p, p = cntX (befN nn) xs := ⟨_, rfl⟩
  obtain ⟨q, hq⟩ : ∃ q, q = cntX (uptoN nn) (xs.drop p) := ⟨_, rfl⟩
  have hpn : p <= n := by have := cntX_le (befN nn) xs; rw [hx.1] at this; omega
  have hqn : q <= n - p := by have := cntX_le (uptoN nn) (xs.drop p); rw [List.length_drop, hx.1] at this; omega
  have HAT := Ha (show (xs.drop p).take q = atX nn xs by rw [hq, hp]; exact at_is hr hk hok)
  have HP := Ha hp
  have HQ := Ha hq
  have HN := Ha hN
  have HR := Ha hr
  have HX := Ha hx
  have HOK := Ha hok
  have HK := Ha hk
  have HOKD := Ha (show OkL (xs.drop p) from fun x h => hok x (List.mem_of_mem_drop h))
  have HKD := Ha (show KS (xs.drop p) from List.Pairwise.sublist (List.drop_sublist p xs) hk)
  have g1 : (0 : Int) <= (p : Int) := by omega
  have g2 : (p : Int) <= (n : Int) := by omega
  have g3 : (n : Int) <= (c : Int) := by omega
  have g4 : (p : Int) <= (c : Int) := by omega
  have g5 : (0 : Int) <= (q : Int) := by omega
  clear hp hq hN hr hx hok hk
  go_enter Tryz.func130, Tryz.ntmps130
  go_wp2_with fail
  refine (Right_any N nn _ HN.out (by omega)).mono ?_
  rw [HR.out]
  rintro e w1 ⟨rfl, hB1⟩
  have HB1 := Ha hB1
  clear hB1
  go_wp2_with fail
  refine (Seek_any 181 (enters_of Tryz.func181 (by kernel_rfl) rfl) _ n c xs N (fun x => cmpN (nmX x) nn) _ ((HX.out.keep HB1.out).more HB1.out.size) (befN_mon nn HK.out HOK.out) hn (fun x wr hm => AtA_any x N nn wr (HOK.out x hm) HN.out hl)).mono ?_
  rw [show cntX (fun x => decide (cmpN (nmX x) nn < 0)) xs = p from HP.out.symm]
  rintro e w2 ⟨⟨b1, rfl⟩, hB2⟩
  have HB2 := thB HB1 hB2
  clear hB2
  go_wp2_with fail
  case inl hcc =>
    have eq0 : q = 0 := by omega
    have HEN := Ha (show n - p = 0 by omega)
    subst eq0; have HS := Ha (show SeesR w2 w2.heap.size (some ⟨b, off, none⟩) (n - p) (xs.drop p) from ((show SeesR w w.heap.size (some ⟨b, off, none⟩) (n - p) (xs.drop p) from seesR_none HEN.out (by rw [HX.out.1]; have := HEN.out; omega)).keep HB2.out).more HB2.out.size)
    refine (Seek_any 182 (enters_of Tryz.func182 (by kernel_rfl) rfl) _ (n - p) _ (xs.drop p) N (fun x => orI (cmpN (nmX x) nn) (-1)) _ HS.out (uptoN_mon nn HKD.out HOKD.out) (by omega) (fun x wr hm => AtB_any x N nn wr (HOKD.out x hm) HN.out hl)).mono ?_
    rw [show cntX (fun x => decide (orI (cmpN (nmX x) nn) (-1) < 0)) (xs.drop p) = 0 from HQ.out.symm]
    rintro e w3 ⟨⟨b2, rfl⟩, hB3⟩; have HB3 := thB HB2 hB3
    have HT := Ha ((HS.out.keep hB3).more hB3.size)
    clear hB3; go_wp2_with fail
    refine (RClone_any _ 0 _ ((xs.drop p).take 0) _ (HT.out.take (by omega)) (by omega)).mono ?_
    rw [HAT.out]
    rintro e w4 ⟨v, rfl, ho, hB4⟩; have HO4 := Ha (own_less ho HB3.out.size)
    have HB4 := thB HB3 hB4
    have HLQ := Ha (show (atX nn xs).length = 0 by rw [<-HAT.out, List.length_take, List.length_drop, HX.out.1]; omega)
    clear ho hB4; go_wp2_with fail
    go_ret
    exact ⟨v, rfl, by rw [HLQ.out]; exact HO4.out, HB4.out⟩
  case inr hcc =>
    have g6 : (q : Int) <= ((n - p : Nat) : Int) := by omega
    have g7 : ((n - p : Nat) : Int) <= ((c - p : Nat) : Int) := by omega
    have g8 : (q : Int) <= ((c - p : Nat) : Int) := by omega
    have g9 : n - p <= 1000000 := by omega
    have g10 : q <= 1073741824 := by omega
    have HS := Ha (show SeesR w2 w2.heap.size (some ⟨b, off + p * 5, none⟩) (n - p) (xs.drop p) from ((HX.out.drop hpn).keep HB2.out).more HB2.out.size)
    refine (Seek_any 182 (enters_of Tryz.func182 (by kernel_rfl) rfl) _ (n - p) _ (xs.drop p) N (fun x => orI (cmpN (nmX x) nn) (-1)) _ HS.out (uptoN_mon nn HKD.out HOKD.out) (by omega) (fun x wr hm => AtB_any x N nn wr (HOKD.out x hm) HN.out hl)).mono ?_
    rw [show cntX (fun x => decide (orI (cmpN (nmX x) nn) (-1) < 0)) (xs.drop p) = q from HQ.out.symm]
    rintro e w3 ⟨⟨b2, rfl⟩, hB3⟩; have HB3 := thB HB2 hB3
    have HT := Ha ((HS.out.keep hB3).more hB3.size)
    clear hB3; go_wp2_with fail
    refine (RClone_any _ q _ ((xs.drop p).take q) _ (HT.out.take (by omega)) (by omega)).mono ?_
    rw [HAT.out]
    rintro e w4 ⟨v, rfl, ho, hB4⟩; have HO4 := Ha (own_less ho HB3.out.size)
    have HB4 := thB HB3 hB4
    have HLQ := Ha (show (atX nn xs).length = q by rw [<-HAT.out, List.length_take, List.length_drop, HX.out.1]; omega)
    clear ho hB4; go_wp2_with fail
    go_ret
    exact ⟨v, rfl, by rw [HLQ.out]; exact HO4.out, HB4.out⟩
theorem At_nil (N : ByteArray) (nn : List UInt8) (w : World) (hN : N = mk nn) (hl : nn.length <= 1000000) (hr : (nameL nn).isSome = true) :
    Calls Tryz.prog 130 #[.slice none 0 0, .string N] w fun e w' => ∃ v, e = .returned v /\ w'.ownsRow w.heap.size 46 5 v (atX nn []).length (rcells (atX nn [])) /\ Below w.heap.size w w' := by
  have HN := Ha hN
  have HR := Ha hr
  have HS := Ha (fun (w : World) (A : Option Addr) => (show SeesR w w.heap.size A 0 [] from ⟨rfl, fun h => absurd h (by omega)⟩))
  have HM := Ha (fun p => (show Mon p [] from List.Pairwise.nil))
  clear hN hr
  go_enter Tryz.func130, Tryz.ntmps130
  go_wp2_with fail
  refine (Right_any N nn _ HN.out (by omega)).mono ?_
  rw [HR.out]
  rintro e w1 ⟨rfl, hB1⟩
  have HB1 := Ha hB1
  clear hB1
  go_wp2_with fail
  refine (Seek_any 181 (enters_of Tryz.func181 (by kernel_rfl) rfl) _ 0 0 [] N (fun x => cmpN (nmX x) nn) _ (HS.out _ _) (HM.out _) (by omega) (fun x wr hm => by cases hm)).mono ?_
  rw [show cntX (fun x => decide (cmpN (nmX x) nn < 0)) [] = 0 from rfl]
  rintro e w2 ⟨⟨b1, rfl⟩, hB2⟩
  have HB2 := thB HB1 hB2
  clear hB2
  go_wp2_with fail
  refine (Seek_any 182 (enters_of Tryz.func182 (by kernel_rfl) rfl) _ 0 0 [] N (fun x => orI (cmpN (nmX x) nn) (-1)) _ (HS.out _ _) (HM.out _) (by omega) (fun x wr hm => by cases hm)).mono ?_
  rw [show cntX (fun x => decide (orI (cmpN (nmX x) nn) (-1) < 0)) [] = 0 from rfl]
  rintro e w3 ⟨⟨b2, rfl⟩, hB3⟩
  have HB3 := thB HB2 hB3
  clear hB3
  go_wp2_with fail
  refine (RClone_any _ 0 _ [] _ (HS.out _ _) (by omega)).mono ?_
  rintro e w4 ⟨v, rfl, ho, hB4⟩
  have HO4 := Ha (own_less ho HB3.out.size)
  have HB4 := thB HB3 hB4
  clear ho hB4
  go_wp2_with fail
  go_ret
  exact ⟨v, rfl, HO4.out, HB4.out⟩
theorem At_zero (ad : Addr) (N : ByteArray) (nn : List UInt8) (w : World) (hN : N = mk nn) (hl : nn.length <= 1000000) (hr : (nameL nn).isSome = true) :
    Calls Tryz.prog 130 #[.slice (some ad) 0 0, .string N] w fun e w' => ∃ v, e = .returned v /\ w'.ownsRow w.heap.size 46 5 v (atX nn []).length (rcells (atX nn [])) /\ Below w.heap.size w w' := by
  have HN := Ha hN
  have HR := Ha hr
  have HS := Ha (fun (w : World) (A : Option Addr) => (show SeesR w w.heap.size A 0 [] from ⟨rfl, fun h => absurd h (by omega)⟩))
  have HM := Ha (fun p => (show Mon p [] from List.Pairwise.nil))
  clear hN hr
  go_enter Tryz.func130, Tryz.ntmps130
  go_wp2_with fail
  refine (Right_any N nn _ HN.out (by omega)).mono ?_
  rw [HR.out]
  rintro e w1 ⟨rfl, hB1⟩
  have HB1 := Ha hB1
  clear hB1
  go_wp2_with fail
  refine (Seek_any 181 (enters_of Tryz.func181 (by kernel_rfl) rfl) _ 0 0 [] N (fun x => cmpN (nmX x) nn) _ (HS.out _ _) (HM.out _) (by omega) (fun x wr hm => by cases hm)).mono ?_
  rw [show cntX (fun x => decide (cmpN (nmX x) nn < 0)) [] = 0 from rfl]
  rintro e w2 ⟨⟨b1, rfl⟩, hB2⟩
  have HB2 := thB HB1 hB2
  clear hB2
  go_wp2_with fail
  refine (Seek_any 182 (enters_of Tryz.func182 (by kernel_rfl) rfl) _ 0 0 [] N (fun x => orI (cmpN (nmX x) nn) (-1)) _ (HS.out _ _) (HM.out _) (by omega) (fun x wr hm => by cases hm)).mono ?_
  rw [show cntX (fun x => decide (orI (cmpN (nmX x) nn) (-1) < 0)) [] = 0 from rfl]
  rintro e w3 ⟨⟨b2, rfl⟩, hB3⟩
  have HB3 := thB HB2 hB3
  clear hB3
  go_wp2_with fail
  refine (RClone_any _ 0 _ [] _ (HS.out _ _) (by omega)).mono ?_
  rintro e w4 ⟨v, rfl, ho, hB4⟩
  have HO4 := Ha (own_less ho HB3.out.size)
  have HB4 := thB HB3 hB4
  clear ho hB4
  go_wp2_with fail
  go_ret
  exact ⟨v, rfl, HO4.out, HB4.out⟩
theorem At_any (A : Option Addr) (n c : Nat) (N : ByteArray) (nn : List UInt8) (xs : List Rrd) (w : World) (hN : N = mk nn) (hl : nn.length <= 1000000)
    (hx : SeesR w w.heap.size A n xs) (hcap : InCap A n c) (hok : OkL xs) (hk : KS xs) (hn : n <= 1000000) :
    Calls Tryz.prog 130 #[.slice A n c, .string N] w fun e w' => ∃ v, e = .returned v /\ w'.ownsRow w.heap.size 46 5 v (atX nn xs).length (rcells (atX nn xs)) /\ Below w.heap.size w w' := by
  cases hr : (nameL nn).isSome with
  | false => exact At_no A n c N nn xs w hN hl hr
  | true =>
    obtain ⟨h1, h2, h3, h4⟩ := hcap
    rcases A with _ | ad
    · have hc := h3 rfl
      subst hc; obtain rfl : n = 0 := by omega
      obtain rfl : xs = [] := List.eq_nil_of_length_eq_zero hx.1
      exact At_nil N nn w hN hl hr
    · rcases Nat.eq_zero_or_pos c with hc | hc
      · subst hc
        obtain rfl : n = 0 := by omega
        obtain rfl : xs = [] := List.eq_nil_of_length_eq_zero hx.1
        exact At_zero ad N nn w hN hl hr
      · have hsp := h4 ad rfl hc
        obtain ⟨b, off, spot⟩ := ad
        simp only at hsp
        subst hsp; exact At_some b off n c N nn xs w hN hl hr hx h1 hok hk hn
end Go.Proofs.YtmpginmdaeclaaaGreatDoor
namespace Go.Proofs.YtmpginmdaeclaaaGreatDoor
open Go.RowKit Go.Op
set_option linter.unusedVariables false
def typK (t : Int) (xs : List Rrd) (k : Nat) : Bool := match xs[k]? with | some x => decide (x.t = t) | none => false
theorem pickL_typ (t : Int) : ∀ xs : List Rrd, pickL (typK t xs) xs xs.length = typX t xs
  | [] => rfl
  | x :: xs => by
    have ih := pickL_typ t xs
    have e : (fun i => typK t (x :: xs) (i + 1)) = typK t xs := by funext i; rfl
    rw [List.length_cons, pickL_cons, e, ih]
    have e0 : typK t (x :: xs) 0 = decide (x.t = t) := rfl
    unfold typX; rw [List.filter_cons, e0]
    cases decide (x.t = t) <;> simp
theorem TypedK_any (b d n c : Nat) (A : Option Addr) (t : Int) (xs : List Rrd) (w : World) (hx : SeesR w w.heap.size A n xs) (hb : w.cell? ⟨b, 0, none⟩ = some (.slice A n c)) (hd : w.cell? ⟨d, 0, none⟩ = some (.int .i64 t)) (hn : n <= 1000000) (k : Nat) (hk : k < n) :
    Calls Tryz.prog 135 #[.int .i64 (k : Nat), .pointer (some ⟨b, 0, none⟩), .pointer (some ⟨d, 0, none⟩)] w fun e w' => e = .returned (.bool (typK t xs k)) /\ Below w.heap.size w w' := by
  have hbl : ∀ q : Later w, q.val.cell? ⟨b, 0, none⟩ = some (.slice A n c) := fun q => (q.below.cell (World.block_lt_of_cell? w _ hb)).trans hb
  have hdl : ∀ q : Later w, q.val.cell? ⟨d, 0, none⟩ = some (.int .i64 t) := fun q => (q.below.cell (World.block_lt_of_cell? w _ hd)).trans hd
  have g2 : (k : Int) < (n : Int) := by omega
  have g4 : (0 : Int) <= (k : Int) := by omega
  obtain ⟨g, off, x, rfl, hlt, hxk, ht⟩ := hx.at hk
  obtain ⟨d0, d1, d2, d3, d4⟩ := ht.later hlt
  have he : typK t xs k = (x.t == t) := by unfold typK; rw [hxk]; rfl
  rw [he]
  clear hx hb hd hxk ht he
  go_enter Tryz.func135, Tryz.ntmps135
  go_wp2_with fail
  refine region_later (by kernel_rfl) ?_
  repeat (go_big_quiet_step (fail))
  refine wpQuiet_nil ?_
  rintro _ ⟨q2, rfl⟩
  go_wp2_with fail
  go_ret
  exact ⟨rfl, q2.below⟩
theorem Typed_any (A : Option Addr) (n c : Nat) (xs : List Rrd) (t : Int) (w : World) (hx : SeesR w w.heap.size A n xs) (hn : n <= 1000000) :
    Calls Tryz.prog 78 #[.slice A n c, .int .i64 t] w fun e w' => ∃ v, e = .returned v /\ w'.ownsRow w.heap.size 46 5 v (typX t xs).length (rcells (typX t xs)) /\ Below w.heap.size w w' := by
  have hP := pickL_typ t xs
  rw [hx.1] at hP
  have HP := Ha hP
  obtain ⟨b, hb⟩ : ∃ b, b = w.heap.size := ⟨_, rfl⟩
  obtain ⟨W1, hW1⟩ : ∃ W1, W1 = w.alloc (.cells #[.slice A n c] 22) := ⟨_, rfl⟩
  obtain ⟨d, hd⟩ : ∃ d, d = b + 1 := ⟨_, rfl⟩
  have hds : W1.heap.size = d := by rw [hW1, hd, hb]; simp
  obtain ⟨W, hW⟩ : ∃ W, W = W1.alloc (.cells #[.int .i64 t] 3) := ⟨_, rfl⟩
  have hB1 : Below w.heap.size w W1 := by rw [hW1]; exact (Below.refl _ _).alloc (Nat.le_refl _) _
  have hB2 : Below W1.heap.size W1 W := by rw [hW]; exact (Below.refl _ _).alloc (Nat.le_refl _) _
  have HB := Ha (hB1.trans (hB2.mono hB1.size))
  have hc1 : W1.cell? ⟨b, 0, none⟩ = some (.slice A n c) := by rw [hW1, hb]; exact (Whole.new w _ _).cell1
  have HC1 := Ha (show W.cell? ⟨b, 0, none⟩ = some (.slice A n c) from (hB2.cell (World.block_lt_of_cell? W1 _ hc1)).trans hc1)
  have HC2 := Ha (show W.cell? ⟨d, 0, none⟩ = some (.int .i64 t) by rw [hW, <-hds]; exact (Whole.new W1 _ _).cell1)
  have HX := Ha ((hx.keep HB.out).more HB.out.size)
  have HW1 := Ha hW1
  have HW := Ha hW
  have HBB := Ha hb
  have HDD := Ha hd
  clear hx hP hb hd hds hW hW1 hB1 hB2 hc1
  go_enter Tryz.func78, Tryz.ntmps78
  go_wp2_with fail
  rw [<-HW1.out, <-HBB.out, <-HDD.out, <-HW.out]
  refine (pick2_any 135 _ _ (enters_of Tryz.func135 (by kernel_rfl) rfl) (typK t xs) A n c xs _ HX.out hn (fun k wr hk hB => TypedK_any b d n c A t xs wr ((HX.out.keep hB).more hB.size) ((hB.cell (World.block_lt_of_cell? W _ HC1.out)).trans HC1.out) ((hB.cell (World.block_lt_of_cell? W _ HC2.out)).trans HC2.out) hn k hk)).mono ?_
  rw [HP.out]
  rintro e w1 ⟨v, rfl, ho, hB⟩
  have HO := Ha (own_less ho HB.out.size)
  have HB1 := thB HB hB
  clear ho hB
  go_wp2_with fail
  go_ret
  exact ⟨v, rfl, HO.out, HB1.out⟩
def IxOut (b : Bool) (e : Ending) : Prop := ∃ r : Int, e = .returned (.int .i64 r) /\ (0 <= r ↔ b = true)
theorem IndexF_any (fid : Nat) (p : Value) (hent : ∀ (args : Array Value) (w : World), (callFunc fid args).run Tryz.prog w = .ok (.enter fid args) w) (A : Option Addr) (n c : Nat) (xs : List Rrd) (g : Rrd -> Bool) (w : World) (hx : SeesR w w.heap.size A n xs) (hn : n <= 1000000)
    (hf : ∀ (x : Rrd) (wr : World), x ∈ xs -> Below w.heap.size w wr -> Calls Tryz.prog fid #[.agg #[.string x.s, .int .i64 x.t, .int .i64 x.c, .int .i64 x.l, .string x.d], p] wr fun e w' => e = .returned (.bool (g x)) /\ Below wr.heap.size wr w') :
    Calls Tryz.prog 171 #[.slice A n c, .func (.func fid) #[] #[p]] w fun e w' => IxOut (xs.any g) e /\ Below w.heap.size w w' := by
  have HX := Ha hx
  have HN := Ha hx.1
  have HF := Ha hf
  have HENT := Ha hent
  clear hx hf hent
  go_enter Tryz.func171, Tryz.ntmps171
  go_wp2_with fail
  go_loopw [8] (fun i wr => ∃ k : Nat, k <= n /\ i = .int .i64 (k : Nat) /\ Upto (fun x => !g x) xs k /\ Below w.heap.size w wr) (fun i _ => n - (intOf i).toNat)
  case atStart => exact ⟨0, Nat.zero_le _, rfl, Upto.zero _ _, Below.refl _ _⟩
  case round =>
    obtain ⟨k, hk, rfl, hup, hB⟩ := hrel
    have HU := Ha hup
    have HB := Ha hB
    clear hup hB
    by_cases hkn : k < n
    · have g2 : (k : Int) < (n : Int) := by omega
      have g0 : (0 : Int) <= (k : Int) := by omega
      obtain ⟨b, off, x, rfl, hb, hxk, ht⟩ := (HX.out.keep HB.out).at hkn
      obtain ⟨x0, x1, x2, x3, x4⟩ := ht
      have HXK := Ha hxk
      have HMEM := Ha (List.mem_of_getElem? hxk)
      clear hxk; go_wp2_with fail
      rw [HENT.out, Oper.upon_enter]
      refine (HF.out x wr HMEM.out HB.out).mono ?_
      obtain ⟨z, hz⟩ : ∃ z, z = g x := ⟨_, rfl⟩
      have HZ := Ha hz
      rw [<-hz]
      rintro e w1 ⟨rfl, hB1⟩; have HB1 := thB HB hB1
      clear hB1 x0 x1 x2 x3 x4 hz
      cases z with
      | false =>
        have HU2 := Ha (HU.out.succ HXK.out (by rw [<-HZ.out]; rfl))
        go_wp2_with fail
        go_roundw
        case rel => exact ⟨k + 1, by omega, by go_num, HU2.out, HB1.out⟩
        case measure => simp [intOf]; omega
      | true =>
        go_wp2_with fail
        go_ret
        exact ⟨⟨_, rfl, ⟨fun _ => List.any_eq_true.2 ⟨x, HMEM.out, HZ.out.symm⟩, fun _ => by omega⟩⟩, HB1.out⟩
    · obtain rfl : k = n := by omega
      have g2 : ¬ ((k : Int) < (k : Int)) := by omega
      have HR := Ha (show xs.any g = false by
        have := HU.out
        rw [<-HN.out] at this
        have := this.all
        rw [List.all_eq_true] at this
        rw [List.any_eq_false]
        intro x hx
        have := this x hx
        simpa using this)
      go_wp2_with fail
      go_ret
      exact ⟨⟨_, rfl, ⟨fun h => absurd h (by decide), fun h => by rw [HR.out] at h; cases h⟩⟩, HB.out⟩
theorem ContF_any (fid : Nat) (p : Value) (hent : ∀ (args : Array Value) (w : World), (callFunc fid args).run Tryz.prog w = .ok (.enter fid args) w) (A : Option Addr) (n c : Nat) (xs : List Rrd) (g : Rrd -> Bool) (w : World) (hx : SeesR w w.heap.size A n xs) (hn : n <= 1000000)
    (hf : ∀ (x : Rrd) (wr : World), x ∈ xs -> Below w.heap.size w wr -> Calls Tryz.prog fid #[.agg #[.string x.s, .int .i64 x.t, .int .i64 x.c, .int .i64 x.l, .string x.d], p] wr fun e w' => e = .returned (.bool (g x)) /\ Below wr.heap.size wr w') :
    Calls Tryz.prog 119 #[.slice A n c, .func (.func fid) #[] #[p]] w fun e w' => e = .returned (.bool (xs.any g)) /\ Below w.heap.size w w' := by
  have HX := Ha hx
  have HF := Ha hf
  have HENT := Ha hent
  obtain ⟨z, hz⟩ : ∃ z, z = xs.any g := ⟨_, rfl⟩
  rw [<-hz]
  have HZ := Ha hz
  clear hx hf hent hz
  go_enter Tryz.func119, Tryz.ntmps119
  go_wp2_with fail
  refine (IndexF_any fid p HENT.out A n c xs g _ HX.out hn HF.out).mono ?_
  rw [<-HZ.out]
  rintro e w1 ⟨⟨r, rfl, hr⟩, hB⟩
  have HB := Ha hB
  clear hB
  have hzd : decide (0 <= r) = z := by
    cases z with
    | false => exact decide_eq_false (fun h => by have := hr.1 h; cases this)
    | true => exact decide_eq_true (hr.2 rfl)
  have HZD := Ha hzd
  clear hr hzd
  go_wp2_with fail
  go_ret
  exact ⟨by rw [<-HZD.out]; rfl, HB.out⟩
theorem AllK0_any (fid : Nat) (hent : ∀ (args : Array Value) (w : World), (callFunc fid args).run Tryz.prog w = .ok (.enter fid args) w) (g : Nat) (x : Rrd) (z : Bool) (w : World) (hc : w.cell? ⟨g, 0, none⟩ = some (.func (.func fid) #[] #[]))
    (hf : ∀ wr : World, Below w.heap.size w wr -> Calls Tryz.prog fid #[.agg #[.string x.s, .int .i64 x.t, .int .i64 x.c, .int .i64 x.l, .string x.d]] wr fun e w' => e = .returned (.bool z) /\ Below wr.heap.size wr w') :
    Calls Tryz.prog 120 #[.agg #[.string x.s, .int .i64 x.t, .int .i64 x.c, .int .i64 x.l, .string x.d], .pointer (some ⟨g, 0, none⟩)] w fun e w' => e = .returned (.bool (!z)) /\ Below w.heap.size w w' := by
  have hB0 : Below w.heap.size w (w.alloc (.cells #[.string x.s, .int .i64 x.t, .int .i64 x.c, .int .i64 x.l, .string x.d] 46)) := (Below.refl _ _).alloc (Nat.le_refl _) _
  have hc2 : (w.alloc (.cells #[.string x.s, .int .i64 x.t, .int .i64 x.c, .int .i64 x.l, .string x.d] 46)).cell? ⟨g, 0, none⟩ = some (.func (.func fid) #[] #[]) := (hB0.cell (World.block_lt_of_cell? w _ hc)).trans hc
  have HB0 := Ha hB0
  have HW := Ha (Whole.new w 46 #[.string x.s, .int .i64 x.t, .int .i64 x.c, .int .i64 x.l, .string x.d])
  obtain ⟨p0, p1, p2, p3, p4⟩ := box_five w x
  have HF := Ha hf
  have HENT := Ha hent
  clear hf hent hB0 hc
  go_enter Tryz.func120, Tryz.ntmps120
  go_wp2_with fail
  rw [HENT.out, Oper.upon_enter]
  refine (HF.out _ HB0.out).mono ?_
  rintro e w1 ⟨rfl, hB1⟩
  have HB1 := thB HB0 hB1
  clear hB1 p0 p1 p2 p3 p4 hc2
  go_wp2_with fail
  go_ret
  exact ⟨rfl, HB1.out⟩
theorem all0_any (fid : Nat) (hent : ∀ (args : Array Value) (w : World), (callFunc fid args).run Tryz.prog w = .ok (.enter fid args) w) (A : Option Addr) (n c : Nat) (xs : List Rrd) (g : Rrd -> Bool) (w : World) (hx : SeesR w w.heap.size A n xs) (hn : n <= 1000000)
    (hf : ∀ (x : Rrd) (wr : World), x ∈ xs -> Below w.heap.size w wr -> Calls Tryz.prog fid #[.agg #[.string x.s, .int .i64 x.t, .int .i64 x.c, .int .i64 x.l, .string x.d]] wr fun e w' => e = .returned (.bool (g x)) /\ Below wr.heap.size wr w') :
    Calls Tryz.prog 74 #[.slice A n c, .func (.func fid) #[] #[]] w fun e w' => e = .returned (.bool (xs.all g)) /\ Below w.heap.size w w' := by
  obtain ⟨b, hb⟩ : ∃ b, b = w.heap.size := ⟨_, rfl⟩
  obtain ⟨W, hW⟩ : ∃ W, W = w.alloc (.cells #[.func (.func fid) #[] #[]] 130) := ⟨_, rfl⟩
  have HB := Ha (show Below w.heap.size w W by rw [hW]; exact (Below.refl _ _).alloc (Nat.le_refl _) _)
  have HC := Ha (show W.cell? ⟨b, 0, none⟩ = some (.func (.func fid) #[] #[]) by rw [hW, hb]; exact (Whole.new w _ _).cell1)
  have HX := Ha ((hx.keep HB.out).more HB.out.size)
  have HF := Ha hf
  have HENT := Ha hent
  have HW := Ha hW
  have HBB := Ha hb
  obtain ⟨z, hz⟩ : ∃ z, z = xs.any fun x => !g x := ⟨_, rfl⟩
  rw [List.all_eq_not_any_not, <-hz]
  have HZ := Ha hz
  clear hx hf hent hW hb hz
  go_enter Tryz.func74, Tryz.ntmps74
  go_wp2_with fail
  rw [<-HW.out, <-HBB.out]
  refine (ContF_any 120 _ (enters_of Tryz.func120 (by kernel_rfl) rfl) A n c xs (fun x => !g x) _ HX.out hn (fun x wr hm hB => AllK0_any fid HENT.out b x (g x) wr ((hB.cell (World.block_lt_of_cell? W _ HC.out)).trans HC.out) (fun wr2 hB2 => HF.out x wr2 hm (HB.out.trans ((hB.trans (hB2.mono hB.size)).mono HB.out.size))))).mono ?_
  rw [<-HZ.out]
  rintro e w1 ⟨rfl, hB1⟩
  have HB1 := thB HB hB1
  clear hB1
  go_wp2_with fail
  go_ret
  exact ⟨rfl, HB1.out⟩
theorem AllK1_any (fid : Nat) (p : Value) (hent : ∀ (args : Array Value) (w : World), (callFunc fid args).run Tryz.prog w = .ok (.enter fid args) w) (g : Nat) (x : Rrd) (z : Bool) (w : World) (hc : w.cell? ⟨g, 0, none⟩ = some (.func (.func fid) #[] #[p]))
    (hf : ∀ wr : World, Below w.heap.size w wr -> Calls Tryz.prog fid #[.agg #[.string x.s, .int .i64 x.t, .int .i64 x.c, .int .i64 x.l, .string x.d], p] wr fun e w' => e = .returned (.bool z) /\ Below wr.heap.size wr w') :
    Calls Tryz.prog 120 #[.agg #[.string x.s, .int .i64 x.t, .int .i64 x.c, .int .i64 x.l, .string x.d], .pointer (some ⟨g, 0, none⟩)] w fun e w' => e = .returned (.bool (!z)) /\ Below w.heap.size w w' := by
  have hB0 : Below w.heap.size w (w.alloc (.cells #[.string x.s, .int .i64 x.t, .int .i64 x.c, .int .i64 x.l, .string x.d] 46)) := (Below.refl _ _).alloc (Nat.le_refl _) _
  have hc2 : (w.alloc (.cells #[.string x.s, .int .i64 x.t, .int .i64 x.c, .int .i64 x.l, .string x.d] 46)).cell? ⟨g, 0, none⟩ = some (.func (.func fid) #[] #[p]) := (hB0.cell (World.block_lt_of_cell? w _ hc)).trans hc
  have HB0 := Ha hB0
  have HW := Ha (Whole.new w 46 #[.string x.s, .int .i64 x.t, .int .i64 x.c, .int .i64 x.l, .string x.d])
  obtain ⟨p0, p1, p2, p3, p4⟩ := box_five w x
  have HF := Ha hf
  have HENT := Ha hent
  clear hf hent hB0 hc
  go_enter Tryz.func120, Tryz.ntmps120
  go_wp2_with fail
  rw [HENT.out, Oper.upon_enter]
  refine (HF.out _ HB0.out).mono ?_
  rintro e w1 ⟨rfl, hB1⟩
  have HB1 := thB HB0 hB1
  clear hB1 p0 p1 p2 p3 p4 hc2
  go_wp2_with fail
  go_ret
  exact ⟨rfl, HB1.out⟩
theorem all1_any (fid : Nat) (p : Value) (hent : ∀ (args : Array Value) (w : World), (callFunc fid args).run Tryz.prog w = .ok (.enter fid args) w) (A : Option Addr) (n c : Nat) (xs : List Rrd) (g : Rrd -> Bool) (w : World) (hx : SeesR w w.heap.size A n xs) (hn : n <= 1000000)
    (hf : ∀ (x : Rrd) (wr : World), x ∈ xs -> Below w.heap.size w wr -> Calls Tryz.prog fid #[.agg #[.string x.s, .int .i64 x.t, .int .i64 x.c, .int .i64 x.l, .string x.d], p] wr fun e w' => e = .returned (.bool (g x)) /\ Below wr.heap.size wr w') :
    Calls Tryz.prog 74 #[.slice A n c, .func (.func fid) #[] #[p]] w fun e w' => e = .returned (.bool (xs.all g)) /\ Below w.heap.size w w' := by
  obtain ⟨b, hb⟩ : ∃ b, b = w.heap.size := ⟨_, rfl⟩
  obtain ⟨W, hW⟩ : ∃ W, W = w.alloc (.cells #[.func (.func fid) #[] #[p]] 130) := ⟨_, rfl⟩
  have HB := Ha (show Below w.heap.size w W by rw [hW]; exact (Below.refl _ _).alloc (Nat.le_refl _) _)
  have HC := Ha (show W.cell? ⟨b, 0, none⟩ = some (.func (.func fid) #[] #[p]) by rw [hW, hb]; exact (Whole.new w _ _).cell1)
  have HX := Ha ((hx.keep HB.out).more HB.out.size)
  have HF := Ha hf
  have HENT := Ha hent
  have HW := Ha hW
  have HBB := Ha hb
  obtain ⟨z, hz⟩ : ∃ z, z = xs.any fun x => !g x := ⟨_, rfl⟩
  rw [List.all_eq_not_any_not, <-hz]
  have HZ := Ha hz
  clear hx hf hent hW hb hz
  go_enter Tryz.func74, Tryz.ntmps74
  go_wp2_with fail
  rw [<-HW.out, <-HBB.out]
  refine (ContF_any 120 _ (enters_of Tryz.func120 (by kernel_rfl) rfl) A n c xs (fun x => !g x) _ HX.out hn (fun x wr hm hB => AllK1_any fid p HENT.out b x (g x) wr ((hB.cell (World.block_lt_of_cell? W _ HC.out)).trans HC.out) (fun wr2 hB2 => HF.out x wr2 hm (HB.out.trans ((hB.trans (hB2.mono hB.size)).mono HB.out.size))))).mono ?_
  rw [<-HZ.out]
  rintro e w1 ⟨rfl, hB1⟩
  have HB1 := thB HB hB1
  clear hB1
  go_wp2_with fail
  go_ret
  exact ⟨rfl, HB1.out⟩
theorem DataType_any (t : Int) (w : World) : Calls Tryz.prog 132 #[.int .i64 t] w fun e w' => e = .returned (.bool (dataT t)) /\ w = w' := by
  by_cases h1 : 1 <= t
  · by_cases h2 : t <= 65535
    · by_cases h3 : t = 41
      · have e0 : dataT t = false := by unfold dataT; simp [h3]
        rw [e0]
        subst h3; go_enter Tryz.func132, Tryz.ntmps132
        go_wp2_with fail
        go_ret
        exact ⟨rfl, rfl⟩
      · have g3 : (t == 41) = false := by rw [beq_eq_false_iff_ne]; exact h3
        have g3n : (t != 41) = true := by simp [h3]
        by_cases h4 : 128 <= t
        · by_cases h5 : t <= 255
          · have e0 : dataT t = false := by unfold dataT; simp [h4, h5]
            rw [e0]
            clear e0; go_enter Tryz.func132, Tryz.ntmps132
            go_wp2_with fail
            go_ret
            exact ⟨rfl, rfl⟩
          · have e0 : dataT t = true := by unfold dataT; simp [h1, h2, h3, h5]
            rw [e0]
            clear e0; go_enter Tryz.func132, Tryz.ntmps132
            go_wp2_with fail
            go_ret
            exact ⟨rfl, rfl⟩
        · have e0 : dataT t = true := by unfold dataT; simp [h1, h2, h3, h4]
          rw [e0]
          clear e0; go_enter Tryz.func132, Tryz.ntmps132
          go_wp2_with fail
          go_ret
          exact ⟨rfl, rfl⟩
    · have e0 : dataT t = false := by unfold dataT; simp [h2]
      rw [e0]
      clear e0; go_enter Tryz.func132, Tryz.ntmps132
      go_wp2_with fail
      go_ret
      exact ⟨rfl, rfl⟩
  · have e0 : dataT t = false := by unfold dataT; simp [h1]
    rw [e0]
    clear e0; go_enter Tryz.func132, Tryz.ntmps132
    go_wp2_with fail
    go_ret
    exact ⟨rfl, rfl⟩
theorem RefDataType_any (t : Int) (w : World) : Calls Tryz.prog 140 #[.int .i64 t] w fun e w' => e = .returned (.bool (dataT t)) /\ w = w' := by
  by_cases h1 : t >= 1
  · by_cases h2 : t <= 65535
    · by_cases h3 : t = 41
      · have e0 : dataT t = false := by unfold dataT; simp [h3]
        rw [e0]
        subst h3; go_enter Tryz.func140, Tryz.ntmps140
        go_wp2_with fail
        go_ret
        exact ⟨rfl, rfl⟩
      · have g3 : (t == 41) = false := by rw [beq_eq_false_iff_ne]; exact h3
        have g3n : (t != 41) = true := by simp [h3]
        have h1' : 1 <= t := h1
        by_cases h4 : t < 128
        · have e0 : dataT t = true := by
            have : ¬ 128 <= t := by omega
            unfold dataT; simp [h1', h2, h3, this]
          rw [e0]
          clear e0 h1'; go_enter Tryz.func140, Tryz.ntmps140
          go_wp2_with fail
          go_ret
          exact ⟨rfl, rfl⟩
        · by_cases h5 : t > 255
          · have e0 : dataT t = true := by
              have : ¬ t <= 255 := by omega
              unfold dataT; simp [h1', h2, h3, this]
            rw [e0]
            clear e0 h1'; go_enter Tryz.func140, Tryz.ntmps140
            go_wp2_with fail
            go_ret
            exact ⟨rfl, rfl⟩
          · have e0 : dataT t = false := by
              have a : 128 <= t := by omega
              have b : t <= 255 := by omega
              unfold dataT; simp [a, b]
            rw [e0]
            clear e0 h1'; go_enter Tryz.func140, Tryz.ntmps140
            go_wp2_with fail
            go_ret
            exact ⟨rfl, rfl⟩
    · have e0 : dataT t = false := by unfold dataT; simp [h2]
      rw [e0]
      clear e0; go_enter Tryz.func140, Tryz.ntmps140
      go_wp2_with fail
      go_ret
      exact ⟨rfl, rfl⟩
  · have e0 : dataT t = false := by
      have : ¬ 1 <= t := h1
      unfold dataT; simp [this]
    rw [e0]
    clear e0; go_enter Tryz.func140, Tryz.ntmps140
    go_wp2_with fail
    go_ret
    exact ⟨rfl, rfl⟩
theorem Good_any (g : Nat) (N : ByteArray) (nn : List UInt8) (x : Rrd) (w : World) (hN : N = mk nn) (hl : nn.length <= 1000000) (hx : OkX x) (hc : w.cell? ⟨g, 0, none⟩ = some (.string N)) :
    Calls Tryz.prog 131 #[.agg #[.string x.s, .int .i64 x.t, .int .i64 x.c, .int .i64 x.l, .string x.d], .pointer (some ⟨g, 0, none⟩)] w fun e w' => e = .returned (.bool (goodR nn x)) /\ Below w.heap.size w w' := by
  have hB0 : Below w.heap.size w (w.alloc (.cells #[.string x.s, .int .i64 x.t, .int .i64 x.c, .int .i64 x.l, .string x.d] 46)) := (Below.refl _ _).alloc (Nat.le_refl _) _
  have hc2 : (w.alloc (.cells #[.string x.s, .int .i64 x.t, .int .i64 x.c, .int .i64 x.l, .string x.d] 46)).cell? ⟨g, 0, none⟩ = some (.string N) := (hB0.cell (World.block_lt_of_cell? w _ hc)).trans hc
  have HB0 := Ha hB0
  obtain ⟨p0, p1, p2, p3, p4⟩ := box_five w x
  have HN := Ha hN
  have hxl : (nmX x).length <= 1073741824 := by have := hx.name; unfold nmX; omega
  obtain ⟨z, hz⟩ : ∃ z, z = dataT x.t := ⟨_, rfl⟩
  have HZ := Ha hz
  obtain ⟨u, hu⟩ : ∃ u, u = underN (nmX x) nn := ⟨_, rfl⟩
  have HU := Ha hu
  have hg : goodR nn x = (decide (x.c = 1) && (z && u)) := by rw [hz, hu]; rfl
  rw [hg]
  clear hN hx hB0 hc hz hu hg
  by_cases h1 : x.c = 1
  · have g1 : (x.c == 1) = true := by rw [beq_iff_eq]; exact h1
    rw [decide_eq_true h1]
    clear h1; go_enter Tryz.func131, Tryz.ntmps131
    go_wp2_with fail
    refine (DataType_any x.t _).mono ?_
    rw [<-HZ.out]
    rintro e w1 ⟨rfl, rfl⟩
    cases z with
    | false =>
      go_wp2_with fail
      go_ret
      exact ⟨rfl, HB0.out⟩
    | true =>
      go_wp2_with fail
      refine (Under_any x.s N (nmX x) nn _ (rrd_name x) HN.out hxl (by omega)).mono ?_
      rw [<-HU.out]
      rintro e w2 ⟨rfl, hB2⟩; have HB2 := thB HB0 hB2
      clear hB2 p0 p1 p2 p3 p4 hc2
      cases u with
      | false =>
        go_wp2_with fail
        go_ret
        exact ⟨rfl, HB2.out⟩
      | true =>
        go_wp2_with fail
        go_ret
        exact ⟨rfl, HB2.out⟩
  · have g1 : (x.c == 1) = false := by rw [beq_eq_false_iff_ne]; exact h1
    rw [decide_eq_false h1]
    clear h1; go_enter Tryz.func131, Tryz.ntmps131
    go_wp2_with fail
    go_ret
    exact ⟨rfl, HB0.out⟩
def aloneK (xs : List Rrd) (k : Nat) : Prop := ∀ i x y, i + 1 < k -> xs[i]? = some x -> xs[i + 1]? = some y -> pairX x y = false
theorem alone_at : ∀ xs : List Rrd, aloneX xs = true ↔ aloneK xs xs.length
  | [] => ⟨fun _ i x y h => absurd h (by simp), fun _ => rfl⟩
  | [x] => ⟨fun _ i x y h => absurd h (by simp), fun _ => rfl⟩
  | x :: y :: l => by
    have ih := alone_at (y :: l)
    rw [aloneX, Bool.and_eq_true, ih, Bool.not_eq_true']
    constructor
    · rintro ⟨h1, h2⟩ i a b hi ha hb
      cases i with
      | zero => simp at ha hb; rw [<-ha, <-hb]; exact h1
      | succ i => exact h2 i a b (by simpa using hi) (by simpa using ha) (by simpa using hb)
    · intro h
      refine ⟨h 0 x y (by simp) rfl rfl, fun i a b hi ha hb => h (i + 1) a b (by simpa using hi) (by simpa using ha) (by simpa using hb)⟩
theorem aloneK_step {xs : List Rrd} {k : Nat} {x y : Rrd} (h : aloneK xs (k + 1)) (hx : xs[k]? = some x) (hy : xs[k + 1]? = some y) (hp : pairX x y = false) : aloneK xs (k + 1 + 1) := by
  intro i a b hi ha hb
  by_cases e : i = k
  · subst e
    rw [hx] at ha; rw [hy] at hb
    injection ha with ha; injection hb with hb
    rw [<-ha, <-hb]; exact hp
  · exact h i a b (by omega) ha hb
theorem alone_not {xs : List Rrd} {k : Nat} {x y : Rrd} (hx : xs[k]? = some x) (hy : xs[k + 1]? = some y) (hp : pairX x y = true) : aloneX xs = false := by
  cases e : aloneX xs with
  | false => rfl
  | true =>
    have := (alone_at xs).1 e k x y (List.getElem?_eq_some_iff.1 hy).1 hx hy
    rw [hp] at this; cases this
theorem two_recs (w : World) (x y : Rrd) : Five ((w.alloc (.cells #[.string x.s, .int .i64 x.t, .int .i64 x.c, .int .i64 x.l, .string x.d] 46)).alloc (.cells #[.string y.s, .int .i64 y.t, .int .i64 y.c, .int .i64 y.l, .string y.d] 46)).drew w.heap.size 0 x /\ Five ((w.alloc (.cells #[.string x.s, .int .i64 x.t, .int .i64 x.c, .int .i64 x.l, .string x.d] 46)).alloc (.cells #[.string y.s, .int .i64 y.t, .int .i64 y.c, .int .i64 y.l, .string y.d] 46)).drew (w.heap.size + 1) 0 y /\ Below w.heap.size w ((w.alloc (.cells #[.string x.s, .int .i64 x.t, .int .i64 x.c, .int .i64 x.l, .string x.d] 46)).alloc (.cells #[.string y.s, .int .i64 y.t, .int .i64 y.c, .int .i64 y.l, .string y.d] 46)).drew := by
  have hB : Below (w.alloc (.cells #[.string x.s, .int .i64 x.t, .int .i64 x.c, .int .i64 x.l, .string x.d] 46)).heap.size (w.alloc (.cells #[.string x.s, .int .i64 x.t, .int .i64 x.c, .int .i64 x.l, .string x.d] 46)) ((w.alloc (.cells #[.string x.s, .int .i64 x.t, .int .i64 x.c, .int .i64 x.l, .string x.d] 46)).alloc (.cells #[.string y.s, .int .i64 y.t, .int .i64 y.c, .int .i64 y.l, .string y.d] 46)).drew := ((Below.refl _ _).alloc (Nat.le_refl _) _).drew
  refine ⟨(box_five w x).keep hB (by simp), ?_, (((Below.refl _ _).alloc (Nat.le_refl _) _).alloc (by simp) _).drew⟩
  have h := box_five (w.alloc (.cells #[.string x.s, .int .i64 x.t, .int .i64 x.c, .int .i64 x.l, .string x.d] 46)) y
  rw [show (w.alloc (.cells #[.string x.s, .int .i64 x.t, .int .i64 x.c, .int .i64 x.l, .string x.d] 46)).heap.size = w.heap.size + 1 by simp] at h
  exact h
theorem aliases_any (A : Option Addr) (n c : Nat) (xs : List Rrd) (w : World) (hx : SeesR w w.heap.size A n xs) (hok : OkL xs) (hn : n <= 1000000) :
    Calls Tryz.prog 134 #[.slice A n c] w fun e w' => e = .returned (.bool (aloneX xs)) /\ Below w.heap.size w w' := by
  have HX := Ha hx
  have HN := Ha hx.1
  have HOK := Ha hok
  clear hx hok
  go_enter Tryz.func134, Tryz.ntmps134
  go_wp2_with fail
  go_loopw [3] (fun i wr => ∃ j : Nat, 1 <= j /\ j <= n + 1 /\ i = .int .i64 (j : Nat) /\ aloneK xs j /\ Below w.heap.size w wr) (fun i _ => n - (intOf i).toNat)
  case atStart => exact ⟨1, Nat.le_refl _, by omega, rfl, fun i x y h => absurd h (by omega), Below.refl _ _⟩
  case round =>
    obtain ⟨j, hj1, hjn, rfl, hal, hB⟩ := hrel
    have HA := Ha hal
    have HB := Ha hB
    clear hal hB
    by_cases hjlt : j < n
    · obtain ⟨k, rfl⟩ : ∃ k, j = k + 1 := ⟨j - 1, by omega⟩
      obtain ⟨q, hq⟩ : ∃ q, q = k + 1 := ⟨_, rfl⟩
      rw [<-hq] at hjlt
      have g2 : (q : Int) < (n : Int) := by omega
      have g3 : (k : Int) < (n : Int) := by omega
      have g4 : (0 : Int) <= (k : Int) := by omega
      have g5 : (0 : Int) <= (q : Int) := by omega
      have z1 : (q : Int) - 1 = (k : Int) := by omega
      obtain ⟨b, off, x, rfl, hb, hxk, hfx⟩ := (HX.out.keep HB.out).at (show k < n by omega)
      obtain ⟨b', off', y, hA', hb', hyk, hfy⟩ := (HX.out.keep HB.out).at hjlt
      obtain ⟨rfl, rfl⟩ := (by simpa using hA' : b = b' /\ off = off')
      obtain ⟨x0, x1, x2, x3, x4⟩ := hfx
      obtain ⟨y0, y1, y2, y3, y4⟩ := hfy
      have HXK := Ha hxk
      have HYK := Ha (show xs[k + 1]? = some y by rw [<-hq]; exact hyk)
      have hblt : b < wr.heap.size := Nat.lt_of_lt_of_le hb HB.out.size
      have hxl : (nmX x).length <= 1073741824 := by have := (HOK.out.at hxk).name; unfold nmX; omega
      have hyl : (nmX y).length <= 1073741824 := by have := (HOK.out.at hyk).name; unfold nmX; omega
      have HSTEP := Ha (show pairX x y = false -> aloneK xs (q + 1) from fun h => by have := HA.out; rw [hq]; exact aloneK_step this HXK.out HYK.out h)
      have HNOT := Ha (show pairX x y = true -> aloneX xs = false from fun h => alone_not HXK.out HYK.out h)
      rw [<-hq] at HA ⊢
      have HQ := Ha hq
      have HT1 := Ha (two_recs wr x y)
      have HT2 := Ha (two_recs wr y x)
      clear hxk hyk hA' hq
      by_cases hx5 : x.t = 5
      · have gx : (x.t == 5) = true := by rw [beq_iff_eq]; exact hx5
        have HPT := Ha (show pairX x y = alikeN (nmX x) (nmX y) by unfold pairX; rw [decide_eq_true hx5]; rfl)
        clear hx5; go_wp2_with fail
        go_region
        all_goals (
          obtain ⟨⟨p0, p1, p2, p3, p4⟩, ⟨q0, q1, q2, q3, q4⟩, hb1⟩ := HT1.out
          obtain ⟨⟨r0, r1, r2, r3, r4⟩, ⟨s0, s1, s2, s3, s4⟩, hb2⟩ := HT2.out
          clear x0 x1 x2 x3 x4 y0 y1 y2 y3 y4; go_wp2_with fail
          refine (Alike_any x.s y.s (nmX x) (nmX y) _ (rrd_name x) (rrd_name y) hxl hyl).mono ?_
          rw [<-HPT.out]
          obtain ⟨z, hz⟩ : ∃ z, z = pairX x y := ⟨_, rfl⟩
          rw [<-hz]
          have HZ := Ha hz
          rintro e w1 ⟨rfl, hB1⟩; have HB1 := Ha (HB.out.trans ((show Below wr.heap.size wr w1 by first | exact hb1.trans (hB1.mono hb1.size) | exact hb2.trans (hB1.mono hb2.size)).mono HB.out.size))
          clear hB1 hz p0 p1 p2 p3 p4 q0 q1 q2 q3 q4 r0 r1 r2 r3 r4 s0 s1 s2 s3 s4 hb1 hb2
          cases z with
          | true =>
            have HR := Ha (HNOT.out HZ.out.symm)
            go_wp2_with fail
            go_ret
            exact ⟨by rw [HR.out]; rfl, HB1.out⟩
          | false =>
            have HS := Ha (HSTEP.out HZ.out.symm)
            go_wp2_with fail
            go_roundw
            case rel => exact ⟨q + 1, by omega, by omega, by go_num, HS.out, HB1.out⟩
            case measure => simp [intOf]; omega)
      · have gx : (x.t == 5) = false := by rw [beq_eq_false_iff_ne]; exact hx5
        by_cases hy5 : y.t = 5
        · have gy : (y.t == 5) = true := by rw [beq_iff_eq]; exact hy5
          have HPT := Ha (show pairX x y = alikeN (nmX x) (nmX y) by unfold pairX; rw [decide_eq_true hy5, Bool.or_true]; rfl)
          clear hx5 hy5; go_wp2_with fail
          go_region
          all_goals (
            obtain ⟨⟨p0, p1, p2, p3, p4⟩, ⟨q0, q1, q2, q3, q4⟩, hb1⟩ := HT1.out
            obtain ⟨⟨r0, r1, r2, r3, r4⟩, ⟨s0, s1, s2, s3, s4⟩, hb2⟩ := HT2.out
            clear x0 x1 x2 x3 x4 y0 y1 y2 y3 y4; go_wp2_with fail
            refine (Alike_any x.s y.s (nmX x) (nmX y) _ (rrd_name x) (rrd_name y) hxl hyl).mono ?_
            rw [<-HPT.out]
            obtain ⟨z, hz⟩ : ∃ z, z = pairX x y := ⟨_, rfl⟩
            rw [<-hz]
            have HZ := Ha hz
            rintro e w1 ⟨rfl, hB1⟩; have HB1 := Ha (HB.out.trans ((show Below wr.heap.size wr w1 by first | exact hb1.trans (hB1.mono hb1.size) | exact hb2.trans (hB1.mono hb2.size)).mono HB.out.size))
            clear hB1 hz p0 p1 p2 p3 p4 q0 q1 q2 q3 q4 r0 r1 r2 r3 r4 s0 s1 s2 s3 s4 hb1 hb2
            cases z with
            | true =>
              have HR := Ha (HNOT.out HZ.out.symm)
              go_wp2_with fail
              go_ret
              exact ⟨by rw [HR.out]; rfl, HB1.out⟩
            | false =>
              have HS := Ha (HSTEP.out HZ.out.symm)
              go_wp2_with fail
              go_roundw
              case rel => exact ⟨q + 1, by omega, by omega, by go_num, HS.out, HB1.out⟩
              case measure => simp [intOf]; omega)
        · have gy : (y.t == 5) = false := by rw [beq_eq_false_iff_ne]; exact hy5
          have HS := Ha (HSTEP.out (by unfold pairX; rw [decide_eq_false hx5, decide_eq_false hy5]; rfl))
          clear hx5 hy5; go_wp2_with fail
          go_region
          all_goals (
            obtain ⟨⟨p0, p1, p2, p3, p4⟩, ⟨q0, q1, q2, q3, q4⟩, hb1⟩ := HT1.out
            obtain ⟨⟨r0, r1, r2, r3, r4⟩, ⟨s0, s1, s2, s3, s4⟩, hb2⟩ := HT2.out
            have HB1 := thB HB hb1
            have HB2 := thB HB hb2
            clear x0 x1 x2 x3 x4 y0 y1 y2 y3 y4 hb1 hb2; go_wp2_with fail
            go_roundw
            case rel => exact ⟨q + 1, by omega, by omega, by go_num, HS.out, (by first | exact HB1.out | exact HB2.out)⟩
            case measure => simp [intOf]; omega)
    · have g2 : ¬ (j : Int) < (n : Int) := by omega
      have HR := Ha (show aloneX xs = true from (alone_at xs).2 (fun i x y h => HA.out i x y (by have := HN.out; omega)))
      go_wp2_with fail
      go_ret
      exact ⟨by rw [HR.out]; rfl, HB.out⟩
end Go.Proofs.YtmpginmdaeclaaaGreatDoor
