/- Parts of the proofs of the statements of image. No statement of the seat is proved here. -/
import Derived.Test.YtmpginmdaeclaaaGreatDoorNaE
import Derived.Deep.RegionWith
set_option maxHeartbeats 32000000
set_option maxRecDepth 20000
namespace Go.Proofs.YtmpginmdaeclaaaGreatDoor
open Go.RowKit Go.Shelf
attribute [local go_sem] Oper.semAt_some
def UnderMid (A B FA FB : ByteArray) (w : World) (e : Exit) (a : Act) (W : World) : Prop :=
  match e with
  | .normal => a = { tmps := #[.string FA, .string B, undef, .pointer (some ⟨w.heap.size, 0, none⟩), .pointer (some ⟨w.heap.size + 1, 0, none⟩), undef, undef, .string A, .string FA, .string B, .string FB, undef, undef, undef, undef, undef, undef, undef, undef, undef, undef, undef, undef, undef, undef, undef, undef], defers := [] } /\
      Boxed W w.heap.size 9 (.string FB) /\ Boxed W (w.heap.size + 1) 4 (.bool false) /\ Below w.heap.size w W
  | _ => False
theorem boxed_below {W W' : World} {B : Nat} {t : TypeId} {v : Value} (h : Boxed W B t v) (hb : Below W.heap.size W W') : Boxed W' B t v := (hb.block B h.lt).trans h
def foldB (X : ByteArray) : ByteArray := mk (foldL X.data.toList)
theorem Fold_B (X : ByteArray) (w : World) (hX : X.size <= 1073741824) :
    Calls Tryz.prog 183 #[.string X] w fun e w' => e = .returned (.string (foldB X)) /\ Below w.heap.size w w' :=
  Fold_any X X.data.toList w (mk_toList X).symm (by simpa using hX)
theorem foldB_mk {X : ByteArray} {x : List UInt8} (h : X = mk x) : foldB X = mk (foldL x) := by rw [h]; unfold foldB; simp [mk]
def Miss (z : List UInt8) (ps : List Pair) : Prop := ∀ p ∈ ps, p.2 ≠ z
theorem Miss.nil (z : List UInt8) : Miss z [] := fun p hp => by cases hp
theorem Miss.snoc {z : List UInt8} {ps : List Pair} {x : Pair} (h : Miss z ps) (hx : x.2 ≠ z) : Miss z (ps ++ [x]) := by
  intro p hp
  rcases List.mem_append.1 hp with h' | h'
  · exact h p h'
  · rw [List.mem_singleton] at h'; subst h'; exact hx
def Hit (z : List UInt8) (ps : List Pair) : Prop := ∃ qs x, ps = qs ++ [x] /\ x.2 = z
theorem Hit.mem {z : List UInt8} {ps qs : List Pair} (h : Hit z ps) (hp : ps <+: qs) : ∃ p ∈ qs, p.2 = z := by
  obtain ⟨q, x, rfl, hx⟩ := h
  exact ⟨x, hp.subset (by simp), hx⟩
theorem under_iff {L M : List (List UInt8)} (gL : Good L) (gM : Good M) : M <:+ L ↔ (∃ p ∈ prs L, p.2 = enc M) \/ enc L = enc M := by
  have gd : ∀ k, Good (L.drop k) := fun k x hx => gL x (List.mem_of_mem_drop hx)
  constructor
  · intro h
    rw [List.suffix_iff_eq_drop] at h
    generalize L.length - M.length = k at h
    cases k with
    | zero => right; rw [h]; rfl
    | succ k =>
      by_cases hk : k < L.length
      · left; rw [prs_snd]; exact ⟨k, hk, by rw [<-h]⟩
      · have : M = [] := by rw [h]; exact List.drop_of_length_le (by omega)
        cases hl : L with
        | nil => right; rw [this]
        | cons x L' =>
          left; rw [<-hl, prs_snd]
          exact ⟨L.length - 1, by rw [hl]; simp, by rw [this, show L.length - 1 + 1 = L.length by rw [hl]; simp, List.drop_length]⟩
  · rintro (h | h)
    · rw [prs_snd] at h
      obtain ⟨k, _, e⟩ := h
      rw [<-enc_inj (gd _) gM e]
      exact List.drop_suffix _ _
    · rw [enc_inj gL gM h]
      exact List.suffix_refl _
def UnderRest (FA FB : ByteArray) (u : Bool) : Prop :=
  (u = false /\ (FA.toList.isEmpty = true \/ (FA.toList.isEmpty = false /\ FB.toList.isEmpty = true))) \/
  (FA.toList.isEmpty = false /\ FB.toList.isEmpty = false /\ ∃ x z : List UInt8, FA = mk x /\ FB = mk z /\ x.length <= 255 /\ (u = true ↔ (∃ p ∈ pairs x, p.2 = z) \/ x = z))
theorem under_rest (a b : List UInt8) : UnderRest (mk (foldL a)) (mk (foldL b)) (underN a b) := by
  cases h : nameL a with
  | none => exact .inl ⟨by unfold underN; rw [h], .inl (mk_fold_empty h)⟩
  | some L =>
    cases k : nameL b with
    | none => exact .inl ⟨by unfold underN; rw [h, k], .inr ⟨mk_fold_not h, mk_fold_empty k⟩⟩
    | some M =>
      refine .inr ⟨mk_fold_not h, mk_fold_not k, foldL a, foldL b, rfl, rfl, ?_, ?_⟩
      · rw [(foldL_some h).1, lowS_len]; exact (nameL_is h).2.2
      · have gL := (nameL_is h).2.1.low
        have gM := (nameL_is k).2.1.low
        unfold underN; rw [h, k, (foldL_some h).2.1, (foldL_some k).2.1, pairs_enc gL]
        simp only [decide_eq_true_eq]
        exact under_iff gL gM
theorem Under_walk (A B FA FB : ByteArray) (u : Bool) (w : World) (HFA : Hid (FA = foldB A)) (HFB : Hid (FB = foldB B)) (ha : A.size <= 1073741824) (hb : B.size <= 1073741824) (HU : Hid (UnderRest FA FB u)) :
    Calls Tryz.prog 133 #[.string A, .string B] w fun e w' => e = .returned (.bool u) /\ Below w.heap.size w w' := by
  refine (callsIn_wide (n := 3)).1 ?_
  refine callsIn_of_wp_marks Tryz.func133 rfl trivial ?_ rfl
  simp only [Tryz.ntmps133, List.size_toArray, List.length_cons, List.length_nil, Nat.reduceAdd, Nat.reduceSub, Array.replicate_succ, Array.replicate_zero, List.push_toArray, List.append_toArray, List.nil_append, List.cons_append]
  gi_wp2
  have bZ := Boxed.new w 9 (.string B)
  have bO := Boxed.new (w.alloc (.cells #[.string B] 9)) 4 (.bool false)
  rw [World.size_alloc] at bO
  have hB0 : Below w.heap.size w ((w.alloc (.cells #[.string B] 9)).alloc (.cells #[.bool false] 4)) := ((Below.refl _ w).alloc (Nat.le_refl _) _).alloc (by simp) _
  have bZ1 := bZ.alloc (.cells #[.bool false] 4)
  clear bZ
  generalize (w.alloc (.cells #[.string B] 9)).alloc (.cells #[.bool false] 4) = W0 at *
  refine wpIn_wide.2 (Code.wp_mono (Q := UnderMid A B FA FB w) ?_ ?_)
  · intro e a' W hh
    cases e with
    | normal =>
      obtain ⟨rfl, b1, b2, hB⟩ := hh
      have c1 := b1.cell
      have c2 := b2.cell
      have f2 := b2.frozen
      clear bO hB0 bZ1 HFA HFB ha hb
      rcases HU.out with ⟨rfl, hE | ⟨hE1, hE2⟩⟩ | ⟨hE1, hE2, x, z, hx, hz, hlen, hu⟩
      · have b3 := (b2.set (.bool false)).cell
        clear HU
        gi_wp2
        exact ⟨.bool false, by simp [results, Tryz.f133, go_sem, b3], rfl, hB.setCell (p := ⟨w.heap.size + 1, 0, none⟩) (by simp) _⟩
      · have b3 := (b2.set (.bool false)).cell
        clear HU
        gi_wp2
        exact ⟨.bool false, by simp [results, Tryz.f133, go_sem, b3], rfl, hB.setCell (p := ⟨w.heap.size + 1, 0, none⟩) (by simp) _⟩
      · have HX := Ha hx
        have HZ := Ha hz
        have HUU := Ha hu
        have bN := Boxed.new W 9 (.string FA)
        have hsz := hB.size
        have b1' := b1.alloc (.cells #[.string FA] 9)
        have b2' := b2.alloc (.cells #[.string FA] 9)
        have hB' := hB.alloc hB.size (.cells #[.string FA] 9)
        have hl1 := b1.lt
        have hl2 := b2.lt
        clear hx hz hu HU
        gi_wp2_with (refine ⟨trivial, ?_⟩; gi_at_call 118; refine (each_in _ FA _).mono ?_; rintro e w' ⟨rfl, rfl⟩); clear c1 c2 f2 b1 b2 hB; refine wpIn_rangeFunc_ownF rfl (by omega) (gf := 170) (lb := #[.pointer (some ⟨W.heap.size, 0, none⟩)]) rfl trivial (enters_of Tryz.func170 (by kernel_rfl) rfl)
          (each_stops _ W.heap.size x (by omega) (by omega) _ (by simp) (by rw [<-HX.out]; exact bN.cell)) (fun _ _ => trivial) (fun _ _ _ _ _ _ _ _ => trivial) (Below.refl _ _) (fun _ => rfl)
          (fun pre W' => (Miss z pre /\ Boxed W' w.heap.size 9 (.string FB) /\ Boxed W' (w.heap.size + 1) 4 (.bool false)) /\ Below w.heap.size w W')
          (fun c pre W' => (c = .ret /\ Hit z pre /\ Boxed W' (w.heap.size + 1) 4 (.bool true)) /\ Below w.heap.size w W')
          (OwnFrom.and (Own.from (fun s A B row hs hg hr => ⟨hs.1, boxed_own _ _ (fun _ : Unit => _) () A B row hs.2.1 hg hr, boxed_own _ _ (fun _ : Unit => _) () A B row hs.2.2 hg hr⟩) _) (ownFrom_below (Nat.le_refl _) (by simp; omega)))
          (fun c => OwnFrom.and (Own.from (fun s A B row hs hg hr => ⟨hs.1, hs.2.1, boxed_own _ _ (fun _ : Unit => _) () A B row hs.2.2 hg hr⟩) _) (ownFrom_below (Nat.le_refl _) (by simp; omega)))
          ⟨⟨Miss.nil z, b1', b2'⟩, hB'⟩
          ?a1 ?assign ?body ?done ?stop
        case assign =>
          intro l x W K hK
          gi_wp2
          exact hK
        case body =>
          rintro l pre x W' ⟨⟨hp, h1, h2⟩, hB⟩ _; have hc := h1.cell
          have hc2 := h2.cell
          have hf2 := h2.frozen
          have heq : ((mk x.2).toList == FB.toList) = (x.2 == z) := by rw [HZ.out, mk_beq]
          by_cases hx : x.2 = z
          · have hq : ((mk x.2).toList == FB.toList) = true := by rw [heq]; simpa using hx
            have HXZ := Ha hx
            clear heq hx
            gi_wp2
            exact ⟨KeepsOthers.setCell _ _ _, ⟨rfl, ⟨pre, x, rfl, HXZ.out⟩, h2.set _⟩, hB.setCell (p := ⟨w.heap.size + 1, 0, none⟩) (by simp) _⟩
          · have hq : ((mk x.2).toList == FB.toList) = false := by rw [heq, beq_eq_false_iff_ne]; exact hx
            have HXZ := Ha hx
            clear heq hx
            gi_wp2
            exact ⟨KeepsOthers.refl _, trivial, ⟨hp.snoc HXZ.out, h1, h2⟩, hB⟩
        case done =>
          rintro D ys W' hD rfl ⟨⟨hp, h1, h2⟩, hB⟩ hK; have hc := h1.cell
          have hc2 := h2.cell
          have hf2 := h2.frozen
          have hres : (FA.toList == FB.toList) = u := by
            rw [HX.out, HZ.out, mk_beq]
            have hu := HUU.out
            by_cases e : x = z
            · rw [hu.2 (.inr e)]; simpa using e
            · cases u with
              | false => simpa using e
              | true =>
                rcases hu.1 rfl with ⟨p, hp', e'⟩ | e'
                · exact absurd e' (hp p hp')
                · exact absurd e' e
          gi_wp2
          have hK' := (KeepsOthers.setCell W' ⟨w.heap.size + 1, 0, none⟩ (.bool u)).same D _ hK rfl
          refine ⟨by simp, .inl ⟨_, _, rfl, run_takeDeferred hK', ?_⟩⟩
          have hc5 := cell_kept (World.cell?_setCell_same' W' ⟨w.heap.size + 1, 0, none⟩ (.bool u) (by rw [hc2]; rfl)) (grownBy_putObj' _ D (.deferred none)) (fun r e => by cases e; exact ⟨_, hK', rfl⟩)
          refine ⟨.bool u, ?_, rfl, (hB.setCell (p := ⟨w.heap.size + 1, 0, none⟩) (by simp) _).trans (belowK_b (w := w) (Nat.le_refl _) _ D _ _ (by simp at hD; omega) hK' rfl rfl)⟩
          simp [results, Tryz.f133, go_sem, hc5]
        case stop =>
          rintro D c pre W' hD hpre ⟨⟨rfl, hL, h2⟩, hB⟩ hK; have hc := h2.cell
          have hu : u = true := HUU.out.2 (.inl (hL.mem hpre))
          gi_wp2
          refine ⟨by simp, .inl ⟨_, _, rfl, run_takeDeferred hK, ?_⟩⟩
          have hc5 := cell_kept hc (grownBy_putObj' _ D (.deferred none)) (fun r e => by cases e; exact ⟨_, hK, rfl⟩)
          refine ⟨.bool true, ?_, by rw [hu], hB.trans (belowK_b (w := w) (Nat.le_refl _) W' D _ _ (by simp at hD; omega) hK rfl rfl)⟩
          simp [results, Tryz.f133, go_sem, hc5]
    | _ => exact hh.elim
  · have bZ2 : Boxed W0.drew w.heap.size 9 (.string B) := bZ1
    have bO2 : Boxed W0.drew (w.heap.size + 1) 4 (.bool false) := bO
    have hB2 : Below w.heap.size w W0.drew := hB0.drew
    have cZ := bZ2.cell
    have hmx : Tryz.prog.follows .mixedOrders = true := by kernel_rfl
    clear bZ1 bO hB0 HU; go_region_with (go_at_call 183; (refine (Fold_B _ _ (by assumption)).mono ?_; rintro e w1 ⟨rfl, hB1⟩; have bZ2 := boxed_below bZ2 hB1; have bO2 := boxed_below bO2 hB1; have hB2 := hB2.trans (hB1.mono hB2.size); have cZ := bZ2.cell; have fZ := bZ2.frozen))
    all_goals exact ⟨by rw [HFA.out, HFB.out], by rw [HFB.out]; exact bZ2.set _, bO2.other (by omega) _, hB2.setCell (p := ⟨w.heap.size, 0, none⟩) (Nat.le_refl _) _⟩
theorem Under_any (A B : ByteArray) (a b : List UInt8) (w : World) (hA : A = mk a) (hB : B = mk b) (ha : a.length <= 1073741824) (hb : b.length <= 1073741824) :
    Calls Tryz.prog 133 #[.string A, .string B] w fun e w' => e = .returned (.bool (underN a b)) /\ Below w.heap.size w w' :=
  Under_walk A B (mk (foldL a)) (mk (foldL b)) (underN a b) w (foldB_mk hA).symm (foldB_mk hB).symm (by rw [hA, mk_size]; exact ha) (by rw [hB, mk_size]; exact hb) (under_rest a b)
end Go.Proofs.YtmpginmdaeclaaaGreatDoor
