/- Parts of the proofs of the statements of image. No statement of the seat is proved here. -/
import Derived.Test.YtmpginmdaeclaaaGreatSnpN
import Derived.Test.YtmpginmdaeclaaaGreatSnpA
import Derived.Test.YtmpginmdaeclaaaGreatImE
import Derived.Test.YtmpginmdaeclaaaGreatRrJ
set_option maxHeartbeats 32000000
set_option maxRecDepth 20000
namespace Go.Proofs.YtmpginmdaeclaaaGreat
def oneI (q : Int) (F : Bys) : St := ⟨q, [(F, F.length)], [(imgN, 0)], [(imgN, 0)], [], 0, false⟩
theorem st_ext {S T : St} (h1 : S.quota = T.quota) (h2 : S.files = T.files) (h3 : S.names = T.names) (h4 : S.safe = T.safe) (h5 : S.pend = T.pend) (h6 : S.left = T.left) (h7 : S.down = T.down) : S = T := by
  cases S; cases T; simp only at h1 h2 h3 h4 h5 h6 h7; subst h1 h2 h3 h4 h5 h6 h7; rfl
theorem save_new (q : Int) (F : Bys) (h : (F.length : Int) <= q) : saveS (St.new q) F = (oneI q F, 0) := by
  obtain ⟨S', e, f1, n1, s1, p1, d1, q1, _, l1, _⟩ := save_ok (S := St.new q) (m := 0) F rfl (.inl rfl) (Re.new q) rfl (by show _ + ((0 : Nat) : Int) <= q; omega)
  rw [e]
  have hn : savN (St.new q) = [(imgN, 0)] := rfl
  rw [hn] at n1
  exact congrArg (·, (0 : Int)) (st_ext q1 f1 n1 (s1.trans n1) p1 (l1 rfl) d1)
theorem one_read (q : Int) (F : Bys) : readS (oneI q F) imgN = (F, 0) := read_is isN_img rfl (i := 0) rfl
def c1K : Chg := ⟨[], itmN, some 1⟩
def c2K : Chg := ⟨itmN, imgN, some 1⟩
def Kpt (F1 F2 : Bys) (r : St × Int) : Prop := (r.2 = 0 \/ r.2 = 5) /\ ∀ ch, ∃ F, readS (restartS r.1 ch) imgN = (F, 0) /\ (F = F1 /\ r.2 ≠ 0 \/ F = F2)
theorem kpt_any {F1 F2 : Bys} {S : St} {e : Int} {s : Nat} (he : e = 0 \/ e = 5) (hf : S.files = [(F1, F1.length), (F2, s)]) (h : ∀ n, n <= S.pend.length -> (findN (runs (S.pend.take n) S.safe) imgN = some 0 /\ e ≠ 0) \/ (findN (runs (S.pend.take n) S.safe) imgN = some 1 /\ s = F2.length)) : Kpt F1 F2 (S, e) := by
  refine ⟨he, fun ch => ?_⟩
  obtain ⟨d1, _, _, _, _, l1, ⟨n, hn, e1⟩, hfu, _⟩ := restart_is S ch
  have a0 : fileAt S 0 = (F1, F1.length) := by unfold fileAt; rw [hf]; rfl
  have a1 : fileAt S 1 = (F2, s) := by unfold fileAt; rw [hf]; rfl
  have hl : S.files.length = 2 := by rw [hf]; rfl
  rcases h n hn with ⟨h1, h2⟩ | ⟨h1, h2⟩
  · refine ⟨F1, ?_, .inl ⟨rfl, h2⟩⟩
    rw [read_is isN_img d1 (i := 0) (by rw [e1]; exact h1), hfu 0 (by rw [a0]) (by omega), a0]
  · refine ⟨F2, ?_, .inr rfl⟩
    rw [read_is isN_img d1 (i := 1) (by rw [e1]; exact h1), hfu 1 (by rw [a1]; exact h2) (by omega), a1]
theorem le_two {P : Nat -> Prop} (h0 : P 0) (h1 : P 1) (h2 : P 2) (n : Nat) (hn : n <= 2) : P n := by
  match n, hn with
  | 0, _ => exact h0
  | 1, _ => exact h1
  | 2, _ => exact h2
theorem le_one {P : Nat -> Prop} (h0 : P 0) (h1 : P 1) (n : Nat) (hn : n <= 1) : P n := by
  match n, hn with
  | 0, _ => exact h0
  | 1, _ => exact h1
def cnt2 (m : Nat) (S : St) : St := { S with left := m - 1, down := decide (m - 1 = 0) }
theorem append_K (q : Int) (F1 F2 : Bys) (m : Nat) (hm : 0 < m) (hq : (F1.length : Int) + F2.length <= q) :
    appendS { oneI q F1 with left := m } itmN F2 = (⟨q, [(F1, F1.length), (F2, 0)], [(imgN, 0), (itmN, 1)], [(imgN, 0)], [c1K], m - 1, decide (m - 1 = 0)⟩, 0) := by
  have hu : used { oneI q F1 with left := m } = F1.length := by simp [used, oneI, lenOf]
  unfold appendS
  rw [if_neg (by simp [oneI]), if_pos isN_itm, if_neg (by rw [hu]; show ¬ ((F2.length : Int) > q - _); omega)]
  have hf : findN ({ oneI q F1 with left := m } : St).names itmN = none := rfl
  rw [hf]
  simp only
  unfold count
  rw [if_neg (by show ¬ m = 0; omega)]
  rfl
theorem sync_K (q : Int) (F1 F2 : Bys) (m : Nat) (hm : 0 < m) :
    syncS ⟨q, [(F1, F1.length), (F2, 0)], [(imgN, 0), (itmN, 1)], [(imgN, 0)], [c1K], m, false⟩ itmN = (⟨q, [(F1, F1.length), (F2, F2.length)], [(imgN, 0), (itmN, 1)], [(imgN, 0)], [c1K], m - 1, decide (m - 1 = 0)⟩, 0) := by
  unfold syncS
  have e : openS ⟨q, [(F1, F1.length), (F2, 0)], [(imgN, 0), (itmN, 1)], [(imgN, 0)], [c1K], m, false⟩ itmN (isN itmN) = (1, 0) := by rw [isN_itm]; rfl
  rw [e, if_pos rfl]
  unfold count
  rw [if_neg (by show ¬ m = 0; omega)]
  rfl
theorem rename_K (q : Int) (F1 F2 : Bys) (m : Nat) (hm : 0 < m) :
    renameS ⟨q, [(F1, F1.length), (F2, F2.length)], [(imgN, 0), (itmN, 1)], [(imgN, 0)], [c1K], m, false⟩ itmN imgN = (⟨q, [(F1, F1.length), (F2, F2.length)], [(imgN, 1)], [(imgN, 0)], [c1K, c2K], m - 1, decide (m - 1 = 0)⟩, 0) := by
  unfold renameS
  have e : openS ⟨q, [(F1, F1.length), (F2, F2.length)], [(imgN, 0), (itmN, 1)], [(imgN, 0)], [c1K], m, false⟩ itmN (isN itmN && isN imgN) = (1, 0) := by rw [isN_itm, isN_img]; rfl
  rw [e, if_pos rfl]
  unfold count
  rw [if_neg (by show ¬ m = 0; omega)]
  rfl
theorem syncDir_K (q : Int) (F1 F2 : Bys) (m : Nat) (hm : 0 < m) :
    syncDirS ⟨q, [(F1, F1.length), (F2, F2.length)], [(imgN, 1)], [(imgN, 0)], [c1K, c2K], m, false⟩ = (⟨q, [(F1, F1.length), (F2, F2.length)], [(imgN, 1)], [(imgN, 1)], [], m - 1, decide (m - 1 = 0)⟩, 0) := by
  unfold syncDirS
  rw [if_neg (by simp)]
  unfold count
  rw [if_neg (by show ¬ m = 0; omega)]
  rfl
theorem keeps_break (q : Int) (F1 F2 : Bys) (m : Nat) (hm : 1 <= m) (hq : (F1.length : Int) + F2.length <= q) : Kpt F1 F2 (saveS { oneI q F1 with left := m } F2) := by
  have hd := disc_no (S := { oneI q F1 with left := m }) rfl rfl
  have ha := append_K q F1 F2 m (by omega) hq
  have key : ∀ S e, runL (saveL F2) { oneI q F1 with left := m } = (S, e) -> e ≠ 4 -> Kpt F1 F2 (S, e) -> Kpt F1 F2 (saveS { oneI q F1 with left := m } F2) := by
    intro S e h h4 hk
    unfold saveS; rw [h, if_neg h4]
    exact hk
  by_cases m1 : m = 1
  · subst m1
    refine key ⟨q, [(F1, F1.length), (F2, 0)], [(imgN, 0), (itmN, 1)], [(imgN, 0)], [c1K], 0, true⟩ 5 ?_ (by decide) (kpt_any (.inr rfl) rfl (le_one (.inl ⟨rfl, by decide⟩) (.inl ⟨rfl, by decide⟩)))
    unfold saveL; rw [runL_cons, hd, if_pos rfl, runL_cons, ha, if_pos rfl, runL_cons]
    rfl
  rw [show decide (m - 1 = 0) = false by rw [decide_eq_false_iff_not]; omega] at ha
  have hs := sync_K q F1 F2 (m - 1) (by omega)
  by_cases m2 : m = 2
  · subst m2
    refine key ⟨q, [(F1, F1.length), (F2, F2.length)], [(imgN, 0), (itmN, 1)], [(imgN, 0)], [c1K], 0, true⟩ 5 ?_ (by decide) (kpt_any (.inr rfl) rfl (le_one (.inl ⟨rfl, by decide⟩) (.inl ⟨rfl, by decide⟩)))
    unfold saveL; rw [runL_cons, hd, if_pos rfl, runL_cons, ha, if_pos rfl, runL_cons, hs, if_pos rfl, runL_cons]
    rfl
  rw [show decide (m - 1 - 1 = 0) = false by rw [decide_eq_false_iff_not]; omega] at hs
  have hr := rename_K q F1 F2 (m - 1 - 1) (by omega)
  by_cases m3 : m = 3
  · subst m3
    refine key ⟨q, [(F1, F1.length), (F2, F2.length)], [(imgN, 1)], [(imgN, 0)], [c1K, c2K], 0, true⟩ 5 ?_ (by decide) (kpt_any (.inr rfl) rfl (le_two (.inl ⟨rfl, by decide⟩) (.inl ⟨rfl, by decide⟩) (.inr ⟨rfl, rfl⟩)))
    unfold saveL; rw [runL_cons, hd, if_pos rfl, runL_cons, ha, if_pos rfl, runL_cons, hs, if_pos rfl, runL_cons, hr, if_pos rfl, runL_cons]
    rfl
  rw [show decide (m - 1 - 1 - 1 = 0) = false by rw [decide_eq_false_iff_not]; omega] at hr
  have hy := syncDir_K q F1 F2 (m - 1 - 1 - 1) (by omega)
  refine key _ 0 ?_ (by decide) (kpt_any (S := ⟨q, [(F1, F1.length), (F2, F2.length)], [(imgN, 1)], [(imgN, 1)], [], m - 1 - 1 - 1 - 1, decide (m - 1 - 1 - 1 - 1 = 0)⟩) (.inl rfl) rfl (fun n hn => ?_))
  · unfold saveL
    rw [runL_cons, hd, if_pos rfl, runL_cons, ha, if_pos rfl, runL_cons, hs, if_pos rfl, runL_cons, hr, if_pos rfl, runL_cons, hy, if_pos rfl]
    rfl
  · obtain rfl : n = 0 := Nat.le_zero.1 hn
    exact .inr ⟨rfl, rfl⟩
end Go.Proofs.YtmpginmdaeclaaaGreat
set_option maxHeartbeats 32000000
set_option maxRecDepth 20000
namespace Go.Proofs.YtmpginmdaeclaaaGreat
open Go.RowKit Go.Maps Go.Sort
set_option maxRecDepth 20000
structure Zn (nn : List UInt8) (D : List Rrd) : Prop where
  name : (nameL nn).isSome = true
  ok : OkL D
  set : SetL cX D
  isz : isZ nn D = true
  len : D.length <= 30
  small : ∀ x ∈ D, x.s.size <= 600 /\ x.d.size <= 2000
theorem zn_of {nn : List UInt8} {xs : List Rrd} (hf : fewL xs = true) (hc : codeZ nn xs = 0) : Zn nn (ofC xs) := by
  obtain ⟨h30, hlow⟩ := fewL_is hf
  obtain ⟨hname, hall, hisz⟩ := codeZ_zero hc
  exact ⟨hname, (hlow.ok hall).ofC, ofC_set xs, hisz, Nat.le_trans (ofC_len xs) h30, fun x hx => few_small hf x (ofC_mem xs x hx)⟩
theorem Zn.okr {nn : List UInt8} {D : List Rrd} (h : Zn nn D) : ∀ x ∈ D, okR x.toRec = true := fun x hx => (h.ok x hx).1
theorem Zn.size {nn : List UInt8} {D : List Rrd} (h : Zn nn D) (g : Nat) : 10 <= (imgB g nn D).length /\ (imgB g nn D).length <= 68400 := by
  have h1 := imgB_len (g := g) (nn := nn) h.okr fun x hx => (h.small x hx).2
  have h2 := name_short h.name
  have h3 := h.len
  omega
theorem Zn.short {nn : List UInt8} {D : List Rrd} (h : Zn nn D) : nn.length < 65536 := by have := name_short h.name; omega
theorem zn_ofI {nn : List UInt8} {D : List Rrd} (h : Zn nn D) {g : Nat} (hg : g < 18446744073709551616) : ofI (mk (imgB g nn D)) = some (g, mk nn, D.map Rrd.toRec) := ofI_img hg h.short h.okr
theorem first_img {g : Nat} {nn : List UInt8} {D : List Rrd} (h : Zn nn D) : firstL (frameL (imgB g nn D)) = (imgB g nn D, 8 + (imgB g nn D).length, 0) := by
  have := first_frame (imgB g nn D) [] (by have := (h.size g).2; omega)
  rwa [List.append_nil] at this
theorem out_img {nn : List UInt8} {D : List Rrd} (h : Zn nn D) {g : Nat} (hg : g < 18446744073709551616) {e : Ending} {w' : World} (ho : LoadOut (frameL (imgB g nn D)) 0 e w') : ∃ v, e = .returned (.tuple #[.int .u64 (g : Nat), v, .int .i64 0]) /\ ZoneAt w' w'.heap.size (mk nn) D v := by
  unfold LoadOut at ho
  rw [if_pos rfl, first_img h, if_pos ⟨rfl, by rw [frameL_len]⟩] at ho
  unfold OfOut at ho
  rw [show (imgB g nn D, 8 + (imgB g nn D).length, (0 : Int)).1 = imgB g nn D from rfl, zn_ofI h hg] at ho
  obtain ⟨n2, hn2, ho⟩ := ho
  obtain rfl : n2 = nn := by have := congrArg (fun b : ByteArray => b.data.toList) hn2; simpa [mk] using this.symm
  rw [back_recs, codeZ_again h.name h.ok h.set h.isz, ofC_self' h.set] at ho
  rcases ho with ⟨c, _⟩ | ⟨c, _⟩ | ⟨_, v, e1, e2⟩
  · cases c
  · cases c
  · exact ⟨v, e1, e2⟩
theorem of_img {nn : List UInt8} {D : List Rrd} (h : Zn nn D) {g : Nat} (hg : g < 18446744073709551616) : (∀ g' N l, ofI (mk (imgB g nn D)) = some (g', N, l) -> LowL (l.map ofRec)) /\ ∀ W, Calls Tryz.prog 49 #[.string (mk (imgB g nn D))] W fun e w' => OfOut (mk (imgB g nn D)) e w' /\ Below W.heap.size W w' := by
  have hlo : ∀ g' N l, ofI (mk (imgB g nn D)) = some (g', N, l) -> LowL (l.map ofRec) /\ l.length <= 60000 := by
    intro g' N l e
    rw [zn_ofI h hg] at e
    cases e
    rw [back_recs]
    exact ⟨h.ok.low, by have := h.len; simp; omega⟩
  exact ⟨fun g' N l e => (hlo g' N l e).1, fun W => IOf_low _ W (by rw [mk_size]; have := (h.size g).2; omega) hlo⟩
theorem Load_img [Inhabited OwnP] {B d k M : Nat} {w : World} {S : St} (h : Live B w d k M S) {nn : List UInt8} {D : List Rrd} (hz : Zn nn D) {g : Nat} (hg : g < 18446744073709551616) (hr : readS S imgN = (frameL (imgB g nn D), 0)) :
    Calls Tryz.prog 18 #[dptr d] w fun e w' => (∃ v, e = .returned (.tuple #[.int .u64 (g : Nat), v, .int .i64 0]) /\ ZoneAt w' w'.heap.size (mk nn) D v) /\ Below w.heap.size w w' := by
  refine (Load_any h _ _ hr (by rw [frameL_len]; have := (hz.size g).2; omega) (fun _ _ _ => by rw [first_img hz]; exact of_img hz hg)).mono ?_
  rintro e w' ⟨ho, hB⟩
  exact ⟨out_img hz hg ho, hB⟩
theorem Save_zn [Inhabited OwnP] {B d k M : Nat} {w : World} {S : St} (h : Live B w d k M S) (hk : k <= 30000) (hM : M <= 300000000) {g : Nat} {nn : List UInt8} {D : List Rrd} {z : Value} (hz : ZoneAt w B (mk nn) D z) (hg : g < 18446744073709551616) (h2 : Zn nn D) :
    Calls Tryz.prog 13 #[dptr d, .int .u64 (g : Nat), z] w fun e w' => e = .returned (.int .i64 (saveS S (frameL (imgB g nn D))).2) /\ Live B w' d (k + 12) (M + 400000) (saveS S (frameL (imgB g nn D))).1 /\ Kept B w w' := by
  have hs := (h2.size g).2
  refine (Save_any h hk hM g (mk nn) nn D z hz rfl hg (by have := name_short h2.name; omega) (by have := h2.len; omega) h2.ok (by omega)).mono ?_
  rintro e w' ⟨e1, hL, hK⟩
  exact ⟨e1, hL.mono (Nat.le_refl _) (by omega), hK⟩
instance noOwn : Inhabited OwnP := ⟨⟨fun _ => False⟩⟩
theorem Kept.below {B : Nat} {w w' : World} (h : Kept B w w') (hB : B <= w.heap.size) : Below B w w' := h.belowH (Nat.le_refl _) hB fun _ h => h.elim
theorem zn_le : Zn [1, 97, 0] leL where
  name := by rw [name_a]; rfl
  ok := ok_leL
  set := by rw [<-ofC_leL]; exact ofC_set _
  isz := by have := isZ_leL; rwa [ofC_leL] at this
  len := by decide
  small := by intro x hx; rcases List.mem_cons.1 hx with rfl | hx
              · decide
              · rcases List.mem_cons.1 hx with rfl | hx
                · decide
                · cases hx
theorem le_len : (imgB 5 [1, 97, 0] leL).length <= 900 := by decide +kernel
theorem sawake_any (w : World) : Calls Tryz.prog 6 #[] w fun e w' => e = .returned (.bool true) /\ Below w.heap.size w w' := by
  have hsv := save_new 1000 (frameL (imgB 5 [1, 97, 0] leL)) (by rw [frameL_len]; have := le_len; omega)
  have HSV := Ha hsv
  have HNA := Ha (show (⟨#[1, 97, 0]⟩ : ByteArray) = mk [1, 97, 0] from rfl)
  clear hsv
  go_enter Tryz.func6, Tryz.ntmps6
  go_wp2_with fail
  refine (Least_any _).mono ?_
  rintro e w1 ⟨⟨A, c, rfl, hs⟩, hB⟩
  have HB1 := Ha hB
  have HS1 := Ha hs
  clear hB hs
  go_wp2_with fail
  refine (New_yes A 2 c ⟨#[1, 97, 0]⟩ [1, 97, 0] leL _ rfl (by decide) HS1.out (by decide) low_leL (by rw [name_a]; rfl) ok_leL isZ_leL).mono ?_
  rintro e w2 ⟨⟨v, rfl, hz⟩, hB⟩
  have HB2 := thB HB1 hB
  rw [ofC_leL] at hz
  have HZ := Ha hz
  obtain ⟨A2, c2', s2, rfl, hs2, hcap2, hsoa2⟩ := hz
  obtain ⟨W2, hW2⟩ : ∃ W2, W2 = w2.alloc (.cells #[.string ⟨#[1, 97, 0]⟩, .slice A2 leL.length c2', .string s2.s, .int .i64 s2.t, .int .i64 s2.c, .int .i64 s2.l, .string s2.d] zoT) := ⟨_, rfl⟩
  obtain ⟨g2, hg2⟩ : ∃ g2, g2 = w2.heap.size := ⟨_, rfl⟩
  have hw0 : Whole W2 g2 zoT #[.string ⟨#[1, 97, 0]⟩, .slice A2 leL.length c2', .string s2.s, .int .i64 s2.t, .int .i64 s2.c, .int .i64 s2.l, .string s2.d] := by rw [hW2, hg2]; exact Whole.new w2 zoT _
  have hB0 : Below w2.heap.size w2 W2 := by rw [hW2]; exact (Below.refl _ _).alloc (Nat.le_refl _) _
  have HZ3 := Ha (HZ.out.later hB0)
  have HW3 := Ha hw0
  have HB3 := thB HB2 hB0
  have HWW := Ha hW2
  have HGG := Ha hg2
  clear hw0 hB0 hs2 hcap2 hsoa2 hW2 hg2
  go_wp2_with fail
  rw [<-HWW.out, <-HGG.out]
  have hdn := live_New 1000 W2 (by decide)
  refine hdn.mono ?_
  rintro e w3 ⟨d, rfl, hL3, hB4⟩
  have HL3 := Ha hL3
  have HB4 := thB HB3 hB4
  have HZ4 := Ha (HZ3.out.keep hB4)
  have HW4 := Ha (HW3.out.below hB4 HW3.out.lt)
  obtain ⟨c0, c1, c2, c3, c4, c5, c6⟩ := zo_facts HW4.out
  clear hL3 hB4 hdn
  go_wp2_with fail
  have hsave := Save_zn HL3.out (by omega) (by omega) (g := 5) (nn := [1, 97, 0]) (D := leL) (by rw [<-HNA.out]; exact HZ4.out) (by decide) zn_le
  refine Calls.mono hsave ?_
  rw [HSV.out]
  rintro e w4 ⟨rfl, hL4, hK4⟩
  have HL4 := Ha hL4
  have HB5 := Ha (HB4.out.trans ((hK4.below HL3.out.base).mono HB3.out.size))
  clear hL4 hK4 hsave c0 c1 c2 c3 c4 c5 c6
  go_wp2_with fail
  refine (Load_img HL4.out zn_le (g := 5) (by decide) (one_read _ _)).mono ?_
  rintro e w5 ⟨⟨v, rfl, hz5⟩, hB5⟩
  have HZ5 := Ha hz5
  have HB6 := thB HB5 hB5
  obtain ⟨A5, k5, s5, rfl, _, _, _⟩ := hz5
  clear hB5
  obtain ⟨W5, hW5⟩ : ∃ W5, W5 = w5.alloc (.cells #[.string (mk [1, 97, 0]), .slice A5 leL.length k5, .string s5.s, .int .i64 s5.t, .int .i64 s5.c, .int .i64 s5.l, .string s5.d] zoT) := ⟨_, rfl⟩
  have hw5 : Whole W5 w5.heap.size zoT #[.string (mk [1, 97, 0]), .slice A5 leL.length k5, .string s5.s, .int .i64 s5.t, .int .i64 s5.c, .int .i64 s5.l, .string s5.d] := by rw [hW5]; exact Whole.new w5 zoT _
  have hB7 : Below w5.heap.size w5 W5 := by rw [hW5]; exact (Below.refl _ _).alloc (Nat.le_refl _) _
  have HZ7 := Ha (HZ5.out.later hB7)
  have HB7 := thB HB6 hB7
  have HW5 := Ha hW5
  obtain ⟨c0, c1, c2, c3, c4, c5, c6⟩ := zo_facts hw5
  clear hw5 hB7 hW5
  go_wp2_with fail
  rw [<-HW5.out]
  go_wp2_with fail
  refine (All_any _ leL _ _ HZ7.out (by decide)).mono ?_
  rintro e w8 ⟨u, rfl, ho, hB8⟩
  obtain ⟨A8, c8, rfl, _⟩ := own_sees ho
  have HB8 := thB HB7 hB8
  clear hB8 ho
  go_wp2_with fail
  go_ret
  exact ⟨rfl, HB8.out⟩
end Go.Proofs.YtmpginmdaeclaaaGreat
