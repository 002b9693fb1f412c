/- Parts of the proofs of the statements of image. No statement of the seat is proved here. -/
import Derived.Test.YtmpginmdaeclaaaGreatDoorSnpN
import Derived.Test.YtmpginmdaeclaaaGreatDoorSnpD
import Derived.Test.YtmpginmdaeclaaaGreatDoorImE
import Derived.Test.YtmpginmdaeclaaaGreatDoorRrJ
set_option maxHeartbeats 32000000
set_option maxRecDepth 20000
namespace Go.Proofs.YtmpginmdaeclaaaGreatDoor
def oneI (q : Int) (F : Bys) : St := ⟨q, [(F, F.length)], [(imgN, 0)], [(imgN, 0)], [], 0, false⟩
theorem st_ext {S T : St} (h1 : S.quota = T.quota) (h2 : S.files = T.files) (h3 : S.names = T.names) (h4 : S.safe = T.safe) (h5 : S.pend = T.pend) (h6 : S.left = T.left) (h7 : S.down = T.down) : S = T := by
  cases S; cases T; simp only at h1 h2 h3 h4 h5 h6 h7; subst h1 h2 h3 h4 h5 h6 h7; rfl
theorem save_new (q : Int) (F : Bys) (h : (F.length : Int) <= q) : saveS (St.new q) F = (oneI q F, 0) := by
  obtain ⟨S', e, f1, n1, s1, p1, d1, q1, _, l1, _⟩ := save_ok (S := St.new q) (m := 0) F rfl (.inl rfl) (Re.new q) rfl (by show _ + ((0 : Nat) : Int) <= q; omega)
  rw [e]
  have hn : savN (St.new q) = [(imgN, 0)] := rfl
  rw [hn] at n1
  exact congrArg (·, (0 : Int)) (st_ext q1 f1 n1 (s1.trans n1) p1 (l1 rfl) d1)
theorem one_read (q : Int) (F : Bys) : readS (oneI q F) imgN = (F, 0) := read_is isN_img rfl (i := 0) rfl
theorem le_one {P : Nat -> Prop} (h0 : P 0) (h1 : P 1) (n : Nat) (hn : n <= 1) : P n := by
  match n, hn with
  | 0, _ => exact h0
  | 1, _ => exact h1
def cnt2 (m : Nat) (S : St) : St := { S with left := m - 1, down := decide (m - 1 = 0) }
def junkN : Bys := [106, 117, 110, 107]
def jnk (b : Bool) (j : Nat) : Nms := if b then [(junkN, j)] else []
structure RowS (S : St) (o : Option Bys) (t : Nat) : Prop where
  quota : S.quota = 1048576
  down : S.down = false
  left : S.left = 0
  pend : S.pend = []
  safe : S.safe = S.names
  has : match o with
    | none => S.names = []
    | some F => ∃ i b j, S.names = (imgN, i) :: jnk b j /\ i < S.files.length /\ fileAt S i = (F, F.length) /\ (b = true -> j < S.files.length /\ i ≠ j /\ (fileAt S j).1.length <= t)
theorem row_new : RowS (St.new 1048576) none 0 := ⟨rfl, rfl, rfl, rfl, rfl, rfl⟩
theorem row_used {S : St} {o : Option Bys} {t : Nat} (h : RowS S o t) : used S <= (o.getD []).length + t := by
  cases o with
  | none => have := h.has; unfold used; rw [this]; simp
  | some F =>
    obtain ⟨i, b, j, e, _, f, g⟩ := h.has
    unfold used; rw [e]
    have f1 : lenOf S i = F.length := by show (fileAt S i).1.length = _; rw [f]
    cases b with
    | false => simp [jnk, f1]
    | true =>
      obtain ⟨_, _, g3⟩ := g rfl
      have g4 : lenOf S j <= t := g3
      simp [jnk, f1]
      omega
theorem row_no {S : St} {o : Option Bys} {t : Nat} (h : RowS S o t) : findN S.names itmN = none := by
  cases o with
  | none => have := h.has; rw [this]; rfl
  | some F =>
    obtain ⟨i, b, j, e, _⟩ := h.has
    rw [e]
    cases b <;> rfl
theorem row_step {S : St} {o : Option Bys} {t : Nat} (h : RowS S o t) (F ch : Bys) (h1 : (o.getD []).length <= 100000) (h2 : F.length <= 100000) (ht : t <= 1000) :
    ∃ S1, saveS S F = (S1, 0) /\ RowS (restartS (appendS S1 junkN [120]).1 ch) (some F) (t + 1) := by
  have hu := row_used h
  obtain ⟨S1, e1, f1, n1, s1, p1, d1, q1, _, l1, _⟩ := save_ok (m := 0) F h.down (.inl h.left) (show S.names = runs S.pend S.safe by rw [h.pend, h.safe]; rfl) (row_no h) (by rw [h.quota]; omega)
  refine ⟨S1, e1, ?_⟩
  have l1 := l1 h.left
  have hn : ∃ b j, S1.names = (imgN, S.files.length) :: jnk b j /\ (b = true -> j < S.files.length /\ (fileAt S j).1.length <= t) := by
    rw [n1]
    unfold savN; generalize hN : S.files.length = n
    cases o with
    | none => 
      rw [h.has]
      exact ⟨false, 0, rfl, fun h => by cases h⟩
    | some F0 =>
      obtain ⟨i, b, j, e, _, _, g⟩ := h.has
      rw [e, <-hN]
      refine ⟨b, j, ?_, fun hb => ⟨(g hb).1, (g hb).2.2⟩⟩
      cases b <;> rfl
  obtain ⟨b, j, n2, g2⟩ := hn
  have hf0 : fileAt S1 S.files.length = (F, F.length) := by unfold fileAt; rw [f1]; simp [List.getD]
  have hfo : ∀ k, k < S.files.length -> fileAt S1 k = fileAt S k := fun k hk => by unfold fileAt; rw [f1]; simp [List.getD, List.getElem?_append_left hk]
  have hlen : S1.files.length = S.files.length + 1 := by rw [f1]; simp
  have hus : used S1 <= F.length + t := by
    unfold used; rw [n2]
    have f1 : lenOf S1 S.files.length = F.length := by show (fileAt S1 _).1.length = _; rw [hf0]
    cases b with
    | false => simp [jnk, f1]
    | true =>
      obtain ⟨g3, g4⟩ := g2 rfl
      have g5 : lenOf S1 j <= t := by show (fileAt S1 j).1.length <= t; rw [hfo j g3]; exact g4
      simp [jnk, f1]
      omega
  obtain ⟨r1, r2, r3, r4, r5, r6, ⟨n, hn, r7⟩, r8, r9⟩ := restart_is (appendS S1 junkN [120]).1 ch
  have hap : appendS S1 junkN [120] = match findN S1.names junkN with | some i => (count (addB S1 i [120]), 0) | none => (count (addB (chg (addF S1) ⟨[], junkN, some S1.files.length⟩) S1.files.length [120]), 0) := by
    unfold appendS; rw [if_neg (by rw [d1]; decide), if_pos (by decide), if_neg (by rw [q1, h.quota]; simp; omega)]
    rfl
  have hcount : ∀ T : St, T.left = 0 -> count T = T := fun T hT => by unfold count; rw [if_pos hT]
  cases b with
  | true =>
    obtain ⟨g3, g4⟩ := g2 rfl
    have e : findN S1.names junkN = some j := by rw [n2]; rfl
    rw [e] at hap
    simp only at hap
    rw [hcount _ (by show S1.left = 0; exact l1)] at hap
    rw [hap] at r1 r2 r3 r4 r5 r6 r7 r8 r9 hn ⊢
    have hj : j < S1.files.length := by omega
    have hne : j ≠ S.files.length := by omega
    have a1 : fileAt (addB S1 j [120]) S.files.length = (F, F.length) := by unfold addB; rw [fileAt_oth hne, hf0]
    have a2 : (fileAt (addB S1 j [120]) j).1.length <= t + 1 := by
      unfold addB; rw [fileAt_put hj]
      simp only [List.length_append, List.length_cons, List.length_nil]
      rw [hfo j g3]; omega
    have a3 : (addB S1 j [120]).files.length = S.files.length + 1 := by rw [<-hlen]; simp [addB, setF]
    refine ⟨by rw [r4]; show S1.quota = _; rw [q1, h.quota], r1, r2, r3, r5, S.files.length, true, j, ?_, by rw [r6, a3]; omega, ?_, fun _ => ⟨by rw [r6, a3]; omega, by omega, Nat.le_trans (r9 j) a2⟩⟩
    · rw [r7, show (addB S1 j [120]).pend = [] from p1, List.take_nil]
      show S1.safe = _
      rw [s1, n2]
    · rw [r8 _ (by rw [a1]) (by rw [a3]; omega), a1]
  | false =>
    have e : findN S1.names junkN = none := by rw [n2]; rfl
    rw [e] at hap
    simp only at hap
    rw [hcount _ (by show S1.left = 0; exact l1)] at hap
    rw [hap] at r1 r2 r3 r4 r5 r6 r7 r8 r9 hn ⊢
    generalize hT : addB (chg (addF S1) ⟨[], junkN, some S1.files.length⟩) S1.files.length [120] = T at *
    have t1 : T.files = S1.files ++ [([120], 0)] := by rw [<-hT]; simp [addB, chg, addF, setF, fileAt, List.getD]
    have t2 : T.pend = [⟨[], junkN, some S1.files.length⟩] := by rw [<-hT]; show S1.pend ++ _ = _; rw [p1]; rfl
    have t3 : T.safe = (imgN, S.files.length) :: jnk false 0 := by rw [<-hT]; show S1.safe = _; rw [s1, n2]; rfl
    have t4 : T.quota = 1048576 := by rw [<-hT]; show S1.quota = _; rw [q1, h.quota]
    have t5 : T.files.length = S.files.length + 2 := by rw [t1, List.length_append, hlen]; rfl
    have a1 : fileAt T S.files.length = (F, F.length) := by
      rw [<-hf0]; unfold fileAt; rw [t1]; simp [List.getD, List.getElem?_append_left (show S.files.length < S1.files.length by omega)]
    have a2 : (fileAt T S1.files.length).1.length <= t + 1 := by
      unfold fileAt; rw [t1]; simp [List.getD]
    rw [t2] at hn r7
    rw [t3] at r7
    show RowS (restartS T ch) (some F) (t + 1)
    have r6 : (restartS T ch).files.length = T.files.length := r6
    have hcase : ∃ b, (restartS T ch).names = (imgN, S.files.length) :: jnk b S1.files.length := by
      rw [r7]
      exact le_one (P := fun n => ∃ b, runs (List.take n [⟨[], junkN, some S1.files.length⟩]) ((imgN, S.files.length) :: jnk false 0) = (imgN, S.files.length) :: jnk b S1.files.length) ⟨false, rfl⟩ ⟨true, rfl⟩ n hn
    obtain ⟨b, hb⟩ := hcase
    exact ⟨r4.trans t4, r1, r2, r3, r5, S.files.length, b, S1.files.length, hb, by omega, by rw [r8 _ (by rw [a1]) (show S.files.length < T.files.length by omega), a1], fun _ => ⟨by omega, by omega, Nat.le_trans (r9 _) a2⟩⟩
theorem row_read {S : St} {F : Bys} {t : Nat} (h : RowS S (some F) t) : readS S imgN = (F, 0) := by
  obtain ⟨i, b, j, e, _, f, _⟩ := h.has
  rw [read_is isN_img h.down (i := i) (by rw [e]; cases b <;> rfl), f]
def leftN (o : Option Bys) : List Bys := match o with | none => [] | some _ => [imgN]
theorem row_sweep {S : St} {o : Option Bys} {t : Nat} (h : RowS S o t) (lg : Bys) (h1 : lg ≠ junkN) : (sweepS S lg).2 = 0 /\ (sweepS S lg).1.down = false /\ (sweepS S lg).1.names.map (·.1) = leftN o := by
  unfold sweepS
  rw [if_neg (by rw [h.down]; decide)]
  have g1 : (junkN != lg) = true := by rw [bne_iff_ne]; exact fun e => h1 e.symm
  cases o with
  | none =>
    have e := h.has
    rw [if_pos (by rw [e]; rfl)]
    exact ⟨rfl, h.down, by rw [e]; rfl⟩
  | some F =>
    obtain ⟨i, b, j, e, _⟩ := h.has
    cases b with
    | false => 
      rw [if_pos (by rw [e]; rfl)]
      exact ⟨rfl, h.down, by rw [e]; rfl⟩
    | true =>
      have el : sweepL lg (S.names.map (·.1)) = [fun S => removeS S junkN] := by
        rw [e]
        show List.map _ (List.filter (fun n => n != imgN && n != lg) [imgN, junkN]) = _
        rw [List.filter_cons_of_neg (by simp), List.filter_cons_of_pos (by rw [g1]; rfl)]
        rfl
      rw [el, if_neg (by simp)]
      have hj : findN S.names junkN = some j := by rw [e]; rfl
      have er : removeS S junkN = (chg S ⟨junkN, [], none⟩, 0) := by
        unfold removeS; rw [show isN junkN = true by decide, open_is h.down hj, if_pos rfl]
        have : count (chg S ⟨junkN, [], none⟩) = chg S ⟨junkN, [], none⟩ := by unfold count; rw [if_pos (by exact h.left)]
        rw [this]
      have es : syncDirS (chg S ⟨junkN, [], none⟩) = (settle (chg S ⟨junkN, [], none⟩) (chg S ⟨junkN, [], none⟩).pend.length, 0) := by
        unfold syncDirS; rw [if_neg (by show ¬ S.down = true; rw [h.down]; decide)]
        have : ∀ n, count (settle (chg S ⟨junkN, [], none⟩) n) = settle (chg S ⟨junkN, [], none⟩) n := fun n => by unfold count; rw [if_pos (by exact h.left)]
        rw [this]
      show (runL [fun S => removeS S junkN, syncDirS] S).2 = 0 /\ (runL [fun S => removeS S junkN, syncDirS] S).1.down = false /\ (runL [fun S => removeS S junkN, syncDirS] S).1.names.map (·.1) = [imgN]
      rw [runL_cons, er, if_pos rfl, runL_cons, es, if_pos rfl]
      refine ⟨rfl, h.down, ?_⟩
      show (delN S.names junkN).map (·.1) = _
      rw [e]
      rfl
end Go.Proofs.YtmpginmdaeclaaaGreatDoor
set_option maxHeartbeats 32000000
set_option maxRecDepth 20000
namespace Go.Proofs.YtmpginmdaeclaaaGreatDoor
open Go.RowKit Go.Maps Go.Sort
set_option maxRecDepth 20000
structure Zn (nn : List UInt8) (D : List Rrd) : Prop where
  name : (nameL nn).isSome = true
  ok : OkL D
  set : SetL cX D
  isz : isZ nn D = true
  len : D.length <= 30
  small : ∀ x ∈ D, x.s.size <= 600 /\ x.d.size <= 2000
theorem zn_of {nn : List UInt8} {xs : List Rrd} (hf : fewL xs = true) (hc : codeZ nn xs = 0) : Zn nn (ofC xs) := by
  obtain ⟨h30, hlow⟩ := fewL_is hf
  obtain ⟨hname, hall, hisz⟩ := codeZ_zero hc
  exact ⟨hname, (hlow.ok hall).ofC, ofC_set xs, hisz, Nat.le_trans (ofC_len xs) h30, fun x hx => few_small hf x (ofC_mem xs x hx)⟩
theorem Zn.okr {nn : List UInt8} {D : List Rrd} (h : Zn nn D) : ∀ x ∈ D, okR x.toRec = true := fun x hx => (h.ok x hx).1
theorem Zn.size {nn : List UInt8} {D : List Rrd} (h : Zn nn D) (g : Nat) : 10 <= (imgB g nn D).length /\ (imgB g nn D).length <= 68400 := by
  have h1 := imgB_len (g := g) (nn := nn) h.okr fun x hx => (h.small x hx).2
  have h2 := name_short h.name
  have h3 := h.len
  omega
theorem Zn.short {nn : List UInt8} {D : List Rrd} (h : Zn nn D) : nn.length < 65536 := by have := name_short h.name; omega
theorem zn_ofI {nn : List UInt8} {D : List Rrd} (h : Zn nn D) {g : Nat} (hg : g < 18446744073709551616) : ofI (mk (imgB g nn D)) = some (g, mk nn, D.map Rrd.toRec) := ofI_img hg h.short h.okr
theorem first_img {g : Nat} {nn : List UInt8} {D : List Rrd} (h : Zn nn D) : firstL (frameL (imgB g nn D)) = (imgB g nn D, 8 + (imgB g nn D).length, 0) := by
  have := first_frame (imgB g nn D) [] (by have := (h.size g).2; omega)
  rwa [List.append_nil] at this
theorem out_img {nn : List UInt8} {D : List Rrd} (h : Zn nn D) {g : Nat} (hg : g < 18446744073709551616) {e : Ending} {w' : World} (ho : LoadOut (frameL (imgB g nn D)) 0 e w') : ∃ v, e = .returned (.tuple #[.int .u64 (g : Nat), v, .int .i64 0]) /\ ZoneAt w' w'.heap.size (mk nn) D v := by
  unfold LoadOut at ho
  rw [if_pos rfl, first_img h, if_pos ⟨rfl, by rw [frameL_len]⟩] at ho
  unfold OfOut at ho
  rw [show (imgB g nn D, 8 + (imgB g nn D).length, (0 : Int)).1 = imgB g nn D from rfl, zn_ofI h hg] at ho
  obtain ⟨n2, hn2, ho⟩ := ho
  obtain rfl : n2 = nn := by have := congrArg (fun b : ByteArray => b.data.toList) hn2; simpa [mk] using this.symm
  rw [back_recs, codeZ_again h.name h.ok h.set h.isz, ofC_self' h.set] at ho
  rcases ho with ⟨c, _⟩ | ⟨c, _⟩ | ⟨_, v, e1, e2⟩
  · cases c
  · cases c
  · exact ⟨v, e1, e2⟩
theorem of_img {nn : List UInt8} {D : List Rrd} (h : Zn nn D) {g : Nat} (hg : g < 18446744073709551616) : (∀ g' N l, ofI (mk (imgB g nn D)) = some (g', N, l) -> LowL (l.map ofRec)) /\ ∀ W, Calls Tryz.prog 66 #[.string (mk (imgB g nn D))] W fun e w' => OfOut (mk (imgB g nn D)) e w' /\ Below W.heap.size W w' := by
  have hlo : ∀ g' N l, ofI (mk (imgB g nn D)) = some (g', N, l) -> LowL (l.map ofRec) /\ l.length <= 60000 := by
    intro g' N l e
    rw [zn_ofI h hg] at e
    cases e
    rw [back_recs]
    exact ⟨h.ok.low, by have := h.len; simp; omega⟩
  exact ⟨fun g' N l e => (hlo g' N l e).1, fun W => IOf_low _ W (by rw [mk_size]; have := (h.size g).2; omega) hlo⟩
theorem Load_img {B d k M : Nat} {w : World} {S : St} (h : Live B w d k M S) {nn : List UInt8} {D : List Rrd} (hz : Zn nn D) {g : Nat} (hg : g < 18446744073709551616) (hr : readS S imgN = (frameL (imgB g nn D), 0)) :
    Calls Tryz.prog 21 #[dptr d] w fun e w' => (∃ v, e = .returned (.tuple #[.int .u64 (g : Nat), v, .int .i64 0]) /\ ZoneAt w' w'.heap.size (mk nn) D v) /\ Below w.heap.size w w' := by
  refine (Load_any h _ _ hr (by rw [frameL_len]; have := (hz.size g).2; omega) (fun _ _ _ => by rw [first_img hz]; exact of_img hz hg)).mono ?_
  rintro e w' ⟨ho, hB⟩
  exact ⟨out_img hz hg ho, hB⟩
theorem Save_zn {B d k M : Nat} {w : World} {S : St} (h : Live B w d k M S) (hk : k <= 30000) (hM : M <= 300000000) {g : Nat} {nn : List UInt8} {D : List Rrd} {z : Value} (hz : ZoneAt w B (mk nn) D z) (hg : g < 18446744073709551616) (h2 : Zn nn D) :
    Calls Tryz.prog 11 #[dptr d, .int .u64 (g : Nat), z] w fun e w' => e = .returned (.int .i64 (saveS S (frameL (imgB g nn D))).2) /\ Live B w' d (k + 12) (M + 400000) (saveS S (frameL (imgB g nn D))).1 /\ Kept B w w' := by
  have hs := (h2.size g).2
  refine (Save_any h hk hM g (mk nn) nn D z hz rfl hg (by have := name_short h2.name; omega) (by have := h2.len; omega) h2.ok (by omega)).mono ?_
  rintro e w' ⟨e1, hL, hK⟩
  exact ⟨e1, hL.mono (Nat.le_refl _) (by omega), hK⟩
theorem zn_le : Zn [1, 97, 0] leL where
  name := by rw [name_a]; rfl
  ok := ok_leL
  set := by rw [<-ofC_leL]; exact ofC_set _
  isz := by have := isZ_leL; rwa [ofC_leL] at this
  len := by decide
  small := by intro x hx; rcases List.mem_cons.1 hx with rfl | hx
              · decide
              · rcases List.mem_cons.1 hx with rfl | hx
                · decide
                · cases hx
theorem le_len : (imgB 5 [1, 97, 0] leL).length <= 900 := by decide +kernel
theorem sawake_any (w : World) : Calls Tryz.prog 5 #[] w fun e w' => e = .returned (.bool true) /\ Below w.heap.size w w' := by
  have hsv := save_new 1000 (frameL (imgB 5 [1, 97, 0] leL)) (by rw [frameL_len]; have := le_len; omega)
  have HSV := Ha hsv
  have HNA := Ha (show (⟨#[1, 97, 0]⟩ : ByteArray) = mk [1, 97, 0] from rfl)
  clear hsv
  go_enter Tryz.func5, Tryz.ntmps5
  go_wp2_with fail
  refine (Least_any _).mono ?_
  rintro e w1 ⟨⟨A, c, rfl, hs⟩, hB⟩
  have HB1 := Ha hB
  have HS1 := Ha hs
  clear hB hs
  go_wp2_with fail
  refine (New_yes A 2 c ⟨#[1, 97, 0]⟩ [1, 97, 0] leL _ rfl (by decide) HS1.out (by decide) low_leL (by rw [name_a]; rfl) ok_leL isZ_leL).mono ?_
  rintro e w2 ⟨⟨v, rfl, hz⟩, hB⟩
  have HB2 := thB HB1 hB
  rw [ofC_leL] at hz
  have HZ := Ha hz
  obtain ⟨A2, c2', s2, rfl, hs2, hcap2, hsoa2⟩ := hz
  obtain ⟨W2, hW2⟩ : ∃ W2, W2 = w2.alloc (.cells #[.string ⟨#[1, 97, 0]⟩, .slice A2 leL.length c2', .string s2.s, .int .i64 s2.t, .int .i64 s2.c, .int .i64 s2.l, .string s2.d] zoT) := ⟨_, rfl⟩
  obtain ⟨g2, hg2⟩ : ∃ g2, g2 = w2.heap.size := ⟨_, rfl⟩
  have hw0 : Whole W2 g2 zoT #[.string ⟨#[1, 97, 0]⟩, .slice A2 leL.length c2', .string s2.s, .int .i64 s2.t, .int .i64 s2.c, .int .i64 s2.l, .string s2.d] := by rw [hW2, hg2]; exact Whole.new w2 zoT _
  have hB0 : Below w2.heap.size w2 W2 := by rw [hW2]; exact (Below.refl _ _).alloc (Nat.le_refl _) _
  have HZ3 := Ha (HZ.out.later hB0)
  have HW3 := Ha hw0
  have HB3 := thB HB2 hB0
  have HWW := Ha hW2
  have HGG := Ha hg2
  clear hw0 hB0 hs2 hcap2 hsoa2 hW2 hg2
  go_wp2_with fail
  rw [<-HWW.out, <-HGG.out]
  have hdn := live_New 1000 W2 (by decide)
  refine hdn.mono ?_
  rintro e w3 ⟨d, rfl, hL3, hB4⟩
  have HL3 := Ha hL3
  have HB4 := thB HB3 hB4
  have HZ4 := Ha (HZ3.out.keep hB4)
  have HW4 := Ha (HW3.out.below hB4 HW3.out.lt)
  obtain ⟨c0, c1, c2, c3, c4, c5, c6⟩ := zo_facts HW4.out
  clear hL3 hB4 hdn
  go_wp2_with fail
  have hsave := Save_zn HL3.out (by omega) (by omega) (g := 5) (nn := [1, 97, 0]) (D := leL) (by rw [<-HNA.out]; exact HZ4.out) (by decide) zn_le
  refine Calls.mono hsave ?_
  rw [HSV.out]
  rintro e w4 ⟨rfl, hL4, hK4⟩
  have HL4 := Ha hL4
  have HB5 := Ha (HB4.out.trans ((hK4.below HL3.out.base).mono HB3.out.size))
  clear hL4 hK4 hsave c0 c1 c2 c3 c4 c5 c6
  go_wp2_with fail
  refine (Load_img HL4.out zn_le (g := 5) (by decide) (one_read _ _)).mono ?_
  rintro e w5 ⟨⟨v, rfl, hz5⟩, hB5⟩
  have HZ5 := Ha hz5
  have HB6 := thB HB5 hB5
  obtain ⟨A5, k5, s5, rfl, _, _, _⟩ := hz5
  clear hB5
  obtain ⟨W5, hW5⟩ : ∃ W5, W5 = w5.alloc (.cells #[.string (mk [1, 97, 0]), .slice A5 leL.length k5, .string s5.s, .int .i64 s5.t, .int .i64 s5.c, .int .i64 s5.l, .string s5.d] zoT) := ⟨_, rfl⟩
  have hw5 : Whole W5 w5.heap.size zoT #[.string (mk [1, 97, 0]), .slice A5 leL.length k5, .string s5.s, .int .i64 s5.t, .int .i64 s5.c, .int .i64 s5.l, .string s5.d] := by rw [hW5]; exact Whole.new w5 zoT _
  have hB7 : Below w5.heap.size w5 W5 := by rw [hW5]; exact (Below.refl _ _).alloc (Nat.le_refl _) _
  have HZ7 := Ha (HZ5.out.later hB7)
  have HB7 := thB HB6 hB7
  have HW5 := Ha hW5
  obtain ⟨c0, c1, c2, c3, c4, c5, c6⟩ := zo_facts hw5
  clear hw5 hB7 hW5
  go_wp2_with fail
  rw [<-HW5.out]
  go_wp2_with fail
  refine (All_any _ leL _ _ HZ7.out (by decide)).mono ?_
  rintro e w8 ⟨u, rfl, ho, hB8⟩
  obtain ⟨A8, c8, rfl, _⟩ := own_sees ho
  have HB8 := thB HB7 hB8
  clear hB8 ho
  go_wp2_with fail
  go_ret
  exact ⟨rfl, HB8.out⟩
end Go.Proofs.YtmpginmdaeclaaaGreatDoor
