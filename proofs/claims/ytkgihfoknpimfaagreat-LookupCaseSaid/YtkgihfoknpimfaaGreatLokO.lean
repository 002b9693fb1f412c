/- Names that are alike are asked alike. No statement of the seat is proved here. -/
import Derived.Test.YtkgihfoknpimfaaGreatLokR
import Derived.Test.YtkgihfoknpimfaaGreatLokV
namespace Go.Proofs.YtkgihfoknpimfaaGreat
open Go.Op
set_option linter.unusedVariables false

theorem alike_labs {a b : List UInt8} (h : alikeN a b = true) : nameL a = some (labsZ a) ∧ nameL b = some (labsZ b) ∧ (labsZ a).map lowS = (labsZ b).map lowS := by
  obtain ⟨h1, h2, _⟩ := alike_is h
  have e1 := name_labs h1
  have e2 := name_labs h2
  refine ⟨e1, e2, ?_⟩
  unfold alikeN at h
  rw [e1, e2] at h
  exact of_decide_eq_true h
theorem alike_of {a b : List UInt8} {L M : List (List UInt8)} (ha : nameL a = some L) (hb : nameL b = some M) (h : L.map lowS = M.map lowS) : alikeN a b = true := by
  unfold alikeN; rw [ha, hb]; exact decide_eq_true h
theorem alike_self {a : List UInt8} (h : (nameL a).isSome = true) : alikeN a a = true := alike_of (name_labs h) (name_labs h) rfl
theorem alike_from {a b : List UInt8} (h : alikeN a b = true) (x : List UInt8) : alikeN a x = alikeN b x := by
  obtain ⟨h1, h2, h3⟩ := alike_labs h
  unfold alikeN
  rw [h1, h2]
  cases nameL x with
  | none => rfl
  | some M => show decide _ = decide _; rw [h3]
theorem under_alike {a b : List UInt8} (h : alikeN a b = true) (x : List UInt8) : underN a x = underN b x := by
  obtain ⟨h1, h2, h3⟩ := alike_labs h
  unfold underN
  rw [h1, h2]
  cases nameL x with
  | none => rfl
  | some M => show decide _ = decide _; rw [h3]
theorem under_to {a b : List UInt8} (h : alikeN a b = true) (x : List UInt8) : underN x a = underN x b := by
  obtain ⟨h1, h2, h3⟩ := alike_labs h
  unfold underN
  rw [h1, h2]
  cases nameL x with
  | none => rfl
  | some M => show decide _ = decide _; rw [h3]
theorem up_alike2 {a b : List UInt8} (h : alikeN a b = true) (i : Nat) : alikeN (upZ a i) (upZ b i) = true := by
  obtain ⟨h1, h2, h3⟩ := alike_labs h
  exact alike_of (nameL_drop h1 i) (nameL_drop h2 i) (by rw [List.map_drop, List.map_drop, h3])
theorem dep_alike2 {a b : List UInt8} (h : alikeN a b = true) (nn : List UInt8) : depZ nn a = depZ nn b := by
  obtain ⟨_, _, h3⟩ := alike_labs h
  have := congrArg List.length h3
  simp only [List.length_map] at this
  unfold depZ
  rw [this]
theorem known_alike {nn : List UInt8} {D : List Rrd} (gz : GoodZ nn D) {a b : List UInt8} (h : alikeN a b = true) : knownZ D a = knownZ D b := by
  rw [known_ref gz, known_ref gz, at_alike h, show (fun x => underN (nmX x) a) = (fun x => underN (nmX x) b) from funext fun x => under_to h (nmX x)]
theorem set_alike {a b : List UInt8} (h : alikeN a b = true) (D : List Rrd) (t : Int) : setZ D t a = setZ D t b := by unfold setZ; rw [at_alike h]
def OptA : Option (List UInt8) → Option (List UInt8) → Prop
  | none, none => True
  | some c, some d => alikeN c d = true
  | _, _ => False
theorem cutF_alike {D : List Rrd} {a b : List UInt8} (h : alikeN a b = true) : ∀ (k i : Nat), OptA (cutF D a k i) (cutF D b k i)
  | 0, _ => trivial
  | k + 1, i => by
    have ih := cutF_alike (D := D) h k (i + 1)
    rw [cutF, cutF]
    cases ha : cutF D a k (i + 1) with
    | some c =>
      cases hb : cutF D b k (i + 1) with
      | some d => rw [ha, hb] at ih; exact ih
      | none => rw [ha, hb] at ih; exact ih.elim
    | none =>
      cases hb : cutF D b k (i + 1) with
      | some d => rw [ha, hb] at ih; exact ih.elim
      | none =>
        show OptA (if (setZ D 2 (upZ a i)).isEmpty = true then none else some (upZ a i)) (if (setZ D 2 (upZ b i)).isEmpty = true then none else some (upZ b i))
        rw [set_alike (up_alike2 h i)]
        split
        · trivial
        · exact up_alike2 h i
theorem clsF_alike {nn : List UInt8} {D : List Rrd} (gz : GoodZ nn D) {a b : List UInt8} (h : alikeN a b = true) : ∀ (k i : Nat), OptA (clsF D a k i) (clsF D b k i)
  | 0, _ => trivial
  | k + 1, i => by
    have ih := clsF_alike gz h k (i + 1)
    rw [clsF, clsF, known_alike gz (up_alike2 h (i + 1))]
    split
    · exact up_alike2 h (i + 1)
    · exact ih
theorem cutZ_alike {nn : List UInt8} {D : List Rrd} {a b : List UInt8} (h : alikeN a b = true) : OptA (cutZ D nn a) (cutZ D nn b) := by
  unfold cutZ
  rw [under_alike h, dep_alike2 h]
  split
  · exact cutF_alike h _ _
  · trivial
theorem clsZ_alike {nn : List UInt8} {D : List Rrd} (gz : GoodZ nn D) {a b : List UInt8} (h : alikeN a b = true) : OptA (clsZ D nn a) (clsZ D nn b) := by
  unfold clsZ
  rw [under_alike h, dep_alike2 h]
  split
  · exact clsF_alike gz h _ _
  · trivial
theorem star_alike {nn : List UInt8} {D : List Rrd} (gz : GoodZ nn D) {a b : List UInt8} (h : alikeN a b = true) (hu : underN a nn = true) (hk : knownZ D a = false) : alikeN (starZ D nn a) (starZ D nn b) = true := by
  obtain ⟨c, hc, _, _, _, hs, _⟩ := star_is gz hu hk
  obtain ⟨d, hd, _, _, _, hs', _⟩ := star_is gz (by rw [← under_alike h]; exact hu) (by rw [← known_alike gz h]; exact hk)
  have ho := clsZ_alike (nn := nn) gz h
  rw [hc, hd] at ho
  refine alike_of hs hs' ?_
  rw [List.map_cons, List.map_cons, (alike_labs ho).2.2]
theorem nm_ren (n : List UInt8) (x : Rrd) : nmX (renZ n x) = n := by
  have h : mk (nmX (renZ n x)) = mk n := (rrd_name (renZ n x)).symm
  exact mk_inj h
/-- two records that a law may not tell apart -/
def SimX (x y : Rrd) : Prop := alikeN (nmX x) (nmX y) = true ∧ x.t = y.t ∧ x.c = y.c ∧ x.l = y.l ∧ x.d = y.d ∧ x.toRec.d.length ≤ 65535
def SimL : List Rrd → List Rrd → Prop
  | [], [] => True
  | x :: l, y :: m => SimX x y ∧ SimL l m
  | _, _ => False
theorem sim_refl : ∀ {l : List Rrd}, (∀ x ∈ l, SimX x x) → SimL l l
  | [], _ => trivial
  | x :: l, h => ⟨h x (by simp), sim_refl fun y hy => h y (by simp [hy])⟩
theorem sim_map {f g : Rrd → Rrd} : ∀ {l : List Rrd}, (∀ x ∈ l, SimX (f x) (g x)) → SimL (l.map f) (l.map g)
  | [], _ => trivial
  | x :: l, h => ⟨h x (by simp), sim_map fun y hy => h y (by simp [hy])⟩
theorem sim_app : ∀ {l m l' m' : List Rrd}, SimL l m → SimL l' m' → SimL (l ++ l') (m ++ m')
  | [], [], _, _, _, h => h
  | _ :: _, _ :: _, _, _, h, h' => ⟨h.1, sim_app h.2 h'⟩
  | [], _ :: _, _, _, h, _ => h.elim
  | _ :: _, [], _, _, h, _ => h.elim
theorem sim_len : ∀ {l m : List Rrd}, SimL l m → l.length = m.length
  | [], [], _ => rfl
  | _ :: _, _ :: _, h => by rw [List.length_cons, List.length_cons, sim_len h.2]
  | [], _ :: _, h => h.elim
  | _ :: _, [], h => h.elim
theorem sim_typ (t : Int) : ∀ {l m : List Rrd}, SimL l m → SimL (typX t l) (typX t m)
  | [], [], _ => trivial
  | x :: l, y :: m, h => by
    have ih : SimL (typX t l) (typX t m) := sim_typ t h.2
    unfold typX at ih ⊢
    rw [List.filter_cons, List.filter_cons, ← h.1.2.1]
    split
    · exact ⟨h.1, ih⟩
    · exact ih
  | [], _ :: _, h => h.elim
  | _ :: _, [], h => h.elim
theorem sim_at : ∀ {l m : List Rrd} {k : Nat} {x y : Rrd}, SimL l m → l[k]? = some x → m[k]? = some y → SimX x y
  | [], _, _, _, _, _, hx, _ => by simp at hx
  | _ :: _, [], _, _, _, h, _, _ => h.elim
  | a :: l, b :: m, 0, x, y, h, hx, hy => by simp at hx hy; subst hx; subst hy; exact h.1
  | a :: l, b :: m, k + 1, x, y, h, hx, hy => sim_at h.2 (by simpa using hx) (by simpa using hy)
theorem sim_data {x y : Rrd} (h : SimX x y) : x.toRec.d = y.toRec.d := by
  have e : mk x.toRec.d = mk y.toRec.d := by rw [← rrd_data x, ← rrd_data y, h.2.2.2.2.1]
  exact mk_inj e
theorem sim_alias : ∀ {l m : List Rrd}, SimL l m → aliasZ l = aliasZ m
  | [], [], _ => rfl
  | _ :: _, _ :: _, h => sim_data h.1
  | [], _ :: _, h => h.elim
  | _ :: _, [], h => h.elim
theorem sim_one {x y : Rrd} (h : SimX x y) : oneR x.toRec y.toRec = true := by
  unfold oneR
  rw [show x.toRec.t = y.toRec.t from h.2.1, show x.toRec.c = y.toRec.c from h.2.2.1, show alikeN x.toRec.n y.toRec.n = true from h.1, sim_data h]
  simp
theorem sim_self {D : List Rrd} (ok : OkL D) {n : List UInt8} {x : Rrd} (hx : x ∈ atX n D) : SimX x x := by
  obtain ⟨h1, h2⟩ := atX_mem.1 hx
  exact ⟨alike_self (alike_is h2).1, rfl, rfl, rfl, rfl, by have := (ok x h1).data; omega⟩
theorem fnd_sim {nn : List UInt8} {D : List Rrd} (gz : GoodZ nn D) {a b : List UInt8} (h : alikeN a b = true) : SimL (fndZ D nn a).1 (fndZ D nn b).1 ∧ (fndZ D nn a).2 = (fndZ D nn b).2 := by
  cases hu : underN a nn with
  | false => rw [fnd_no hu, fnd_no (by rw [← under_alike h]; exact hu)]; exact ⟨trivial, rfl⟩
  | true =>
    cases hk : knownZ D a with
    | true =>
      rw [fnd_known hu hk, fnd_known (by rw [← under_alike h]; exact hu) (by rw [← known_alike gz h]; exact hk), at_alike h]
      exact ⟨sim_refl fun x hx => sim_self gz.ok hx, rfl⟩
    | false =>
      rw [fnd_wild hu hk, fnd_wild (by rw [← under_alike h]; exact hu) (by rw [← known_alike gz h]; exact hk), at_alike (star_alike gz h hu hk)]
      refine ⟨sim_map fun x hx => ⟨by rw [nm_ren, nm_ren]; exact h, rfl, rfl, rfl, rfl, ?_⟩, rfl⟩
      have := (gz.ok x (atX_mem.1 hx).1).data
      show x.toRec.d.length ≤ 65535
      omega
structure SimA (a b : Ans) : Prop where
  rc : a.rc = b.rc
  aa : a.aa = b.aa
  an : SimL a.an b.an
  ns : a.ns = b.ns
  ad : a.ad = b.ad
def SameQ (p q : List (List UInt8)) : Prop := p.length = q.length ∧ ∀ to, (p.any fun m => alikeN m to) = (q.any fun m => alikeN m to)
theorem sameQ_snoc {p q : List (List UInt8)} {n m : List UInt8} (h : SameQ p q) (ha : alikeN n m = true) : SameQ (p ++ [n]) (q ++ [m]) := by
  refine ⟨by rw [List.length_append, List.length_append, h.1]; rfl, fun to => ?_⟩
  rw [List.any_append, List.any_append, h.2 to]
  simp only [List.any_cons, List.any_nil, Bool.or_false]
  rw [alike_from ha to]
theorem follow_same {nn to : List UInt8} {p q : List (List UInt8)} (h : SameQ p q) : followZ nn p to = followZ nn q to := by
  unfold followZ; rw [h.1, h.2 to]
theorem host_alike {D : List Rrd} {c d : List UInt8} (h : alikeN c d = true) : hostZ D c = hostZ D d := by
  funext r; unfold hostZ; rw [under_to h]
theorem refer_sim {D : List Rrd} {c d : List UInt8} (h : alikeN c d = true) {a b : Ans} (ha : SimA a b) : SimA (referZ D c a) (referZ D d b) := by
  unfold referZ
  exact ⟨ha.rc, by show decide _ = decide _; rw [sim_len ha.an], ha.an, set_alike h D 2, by show (setZ D 2 c).flatMap (hostZ D c) = (setZ D 2 d).flatMap (hostZ D d); rw [set_alike h, host_alike h]⟩
theorem step_sim {nn : List UInt8} {D : List Rrd} (gz : GoodZ nn D) (t : Int) {a b : Ans} {p q : List (List UInt8)} {n m : List UInt8} (h : alikeN n m = true) (ha : SimA a b) (hq : SameQ p q) :
    SimA (stepZ D nn t a p n).1 (stepZ D nn t b q m).1 ∧ (stepZ D nn t a p n).2 = (stepZ D nn t b q m).2 := by
  have hc := cutZ_alike (nn := nn) (D := D) h
  obtain ⟨hs, h2⟩ := fnd_sim gz h
  unfold stepZ
  cases e : cutZ D nn n with
  | some c =>
    cases e' : cutZ D nn m with
    | some d => rw [e, e'] at hc; exact ⟨refer_sim hc ha, rfl⟩
    | none => rw [e, e'] at hc; exact hc.elim
  | none =>
    cases e' : cutZ D nn m with
    | some d => rw [e, e'] at hc; exact hc.elim
    | none =>
      simp only []
      rw [h2, sim_len (sim_typ 5 hs), sim_len (sim_typ t hs), sim_alias (sim_typ 5 hs), follow_same (sameQ_snoc hq h)]
      split
      · split
        · exact ⟨⟨ha.rc, rfl, sim_app ha.an hs, ha.ns, ha.ad⟩, rfl⟩
        · split
          · exact ⟨⟨ha.rc, rfl, sim_app ha.an (sim_typ 5 hs), ha.ns, ha.ad⟩, rfl⟩
          · exact ⟨⟨ha.rc, rfl, sim_app ha.an (sim_typ t hs), by show (if _ then _ else a.ns) = (if _ then _ else b.ns); rw [ha.ns], ha.ad⟩, rfl⟩
      · exact ⟨⟨rfl, rfl, ha.an, rfl, ha.ad⟩, rfl⟩
theorem step_goes {nn : List UInt8} {D : List Rrd} {t : Int} {a : Ans} {p : List (List UInt8)} {n : List UInt8} (h : (stepZ D nn t a p n).2.2 = true) : (nameL (stepZ D nn t a p n).2.1).isSome = true := by
  unfold stepZ at h ⊢
  cases e : cutZ D nn n with
  | some c => rw [e] at h; cases h
  | none =>
    rw [e] at h
    simp only [] at h ⊢
    split at h
    · rename_i g1
      rw [if_pos g1]
      split at h
      · cases h
      · rename_i g2
        rw [if_neg g2]
        split at h
        · rename_i g3
          rw [if_pos g3]
          unfold followZ at h
          rw [Bool.and_eq_true] at h
          rw [(dep_of h.1).name]; rfl
        · cases h
    · cases h
theorem askF_sim {nn : List UInt8} {D : List Rrd} (gz : GoodZ nn D) (t : Int) : ∀ (f : Nat) {a b : Ans} {p q : List (List UInt8)} {n m : List UInt8}, alikeN n m = true → SimA a b → SameQ p q → SimA (askF D nn t f a p n) (askF D nn t f b q m)
  | 0, _, _, _, _, _, _, _, ha, _ => ha
  | f + 1, a, b, p, q, n, m, h, ha, hq => by
    obtain ⟨h1, h2⟩ := step_sim gz t h ha hq
    rw [askF, askF]
    by_cases e : (stepZ D nn t a p n).2.2 = true
    · have hv := step_goes e
      rw [if_pos e, if_pos (by rw [← h2]; exact e)]
      exact askF_sim gz t f (by rw [← h2]; exact alike_self hv) h1 (sameQ_snoc hq h)
    · rw [if_neg e, if_neg (by rw [← h2]; exact e)]
      exact h1
theorem ask_sim {nn : List UInt8} {D : List Rrd} (gz : GoodZ nn D) (t : Int) {n m : List UInt8} (h : alikeN n m = true) : SimA (askZ D nn n t) (askZ D nn m t) := by
  have h0 : SimA ansO ansO := ⟨rfl, rfl, trivial, rfl, rfl⟩
  unfold askZ
  rw [under_alike h]
  split
  · exact askF_sim gz t 8 h h0 ⟨rfl, fun _ => rfl⟩
  · exact ⟨rfl, rfl, trivial, rfl, rfl⟩
theorem fold_like {n : List UInt8} (h : (nameL n).isSome = true) : alikeN n (foldL n) = true := by
  have e := name_labs h
  obtain ⟨_, _, h3⟩ := foldL_some e
  exact alike_of e h3 (by rw [List.map_map]; exact List.map_congr_left fun x _ => by simp [lowS_lowS])
end Go.Proofs.YtkgihfoknpimfaaGreat
