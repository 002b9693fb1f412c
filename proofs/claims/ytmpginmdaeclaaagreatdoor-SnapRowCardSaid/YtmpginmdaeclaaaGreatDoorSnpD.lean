/- Parts of the proofs of the statements of image. No statement of the seat is proved here. -/
import Derived.Test.YtmpginmdaeclaaaGreatDoorSnpB
import Derived.Test.YtmpginmdaeclaaaGreatDoorImE
import Derived.Test.YtmpginmdaeclaaaGreatDoorFrA
import Derived.Test.YtmpginmdaeclaaaGreatDoorImC
set_option maxHeartbeats 32000000
set_option maxRecDepth 20000
namespace Go.Proofs.YtmpginmdaeclaaaGreatDoor
open Go.RowKit Go.Maps Go.Sort
def LoadOut (b : Bys) (c : Int) (e : Ending) (w' : World) : Prop :=
  if c = 0 then (if (firstL b).2.2 = 0 /\ (firstL b).2.1 = b.length then OfOut (mk (firstL b).1) e w' else e = .returned (.tuple #[.int .u64 0, .agg zeroZ, .int .i64 7]))
  else e = .returned (.tuple #[.int .u64 0, .agg zeroZ, .int .i64 c])
theorem of_shape {S : ByteArray} {e : Ending} {w' : World} (h : OfOut S e w') : ∃ (g : Nat) (a0 : ByteArray) (A : Option Addr) (n k : Nat) (a2 : ByteArray) (a3 a4 a5 : Int) (a6 : ByteArray) (c : Int), e = .returned (.tuple #[.int .u64 (g : Nat), .agg #[.string a0, .slice A n k, .string a2, .int .i64 a3, .int .i64 a4, .int .i64 a5, .string a6], .int .i64 c]) := by
  unfold OfOut at h
  split at h
  · exact ⟨0, _, _, _, _, _, _, _, _, _, 2, h⟩
  · obtain ⟨nn, _, h⟩ := h
    rcases h with ⟨_, h⟩ | ⟨_, h⟩ | ⟨_, v, h, A, c, s, rfl, _⟩
    · exact ⟨0, _, _, _, _, _, _, _, _, _, 2, h⟩
    · exact ⟨0, _, _, _, _, _, _, _, _, _, 9, h⟩
    · exact ⟨_, _, _, _, _, _, _, _, _, _, 0, h⟩
theorem of_store {S : ByteArray} {w : World} {r : Nat} {g a0 a1 a2 a3 a4 a5 a6 c : Value} (h : OfOut S (.returned (.tuple #[g, .agg #[a0, a1, a2, a3, a4, a5, a6], c])) w) (hlo : ∀ g N l, ofI S = some (g, N, l) -> LowL (l.map ofRec)) (hw : Whole w r zoT zeroZ) :
    OfOut S (.returned (.tuple #[g, .agg #[a0, a1, a2, a3, a4, a5, a6], c])) (((((((w.setCell ⟨r, 0, none⟩ a0).setCell ⟨r, 1, none⟩ a1).setCell ⟨r, 2, none⟩ a2).setCell ⟨r, 3, none⟩ a3).setCell ⟨r, 4, none⟩ a4).setCell ⟨r, 5, none⟩ a5).setCell ⟨r, 6, none⟩ a6) := by
  unfold OfOut at h ⊢
  split at h
  · exact h
  · rename_i e1
    obtain ⟨nn, h1, h⟩ := h
    refine ⟨nn, h1, ?_⟩
    rcases h with h | h | ⟨h, v, h2, h3⟩
    · exact .inl h
    · exact .inr (.inl h)
    · exact .inr (.inr ⟨h, v, h2, zone_far h3 hw ((hlo _ _ _ e1).ok (codeZ_zero h).2.1).ofC (sev_grown _ _ _ _ _ _ _ _ _)⟩)
def retN (c : Int) : Ending := .returned (.tuple #[.int .u64 0, .agg #[.string ⟨#[]⟩, .slice none 0 0, .string ⟨#[]⟩, .int .i64 0, .int .i64 0, .int .i64 0, .string ⟨#[]⟩], .int .i64 c])
theorem Load_any {B d k M : Nat} {w : World} {S : St} (h : Live B w d k M S) (b : Bys) (c : Int) (hrd : readS S imgN = (b, c)) (hb : b.length <= 100000000)
    (hof : c = 0 -> (firstL b).2.2 = 0 -> (firstL b).2.1 = b.length -> (∀ g N l, ofI (mk (firstL b).1) = some (g, N, l) -> LowL (l.map ofRec)) /\ ∀ W, Calls Tryz.prog 66 #[.string (mk (firstL b).1)] W fun e w' => OfOut (mk (firstL b).1) e w' /\ Below W.heap.size W w') :
    Calls Tryz.prog 21 #[dptr d] w fun e w' => LoadOut b c e w' /\ Below w.heap.size w w' := by
  obtain ⟨Bv, hBv⟩ : ∃ Bv, Bv = mk b := ⟨_, rfl⟩
  have hsz : Bv.size = b.length := by rw [hBv, mk_size]
  have hw0 := Whole.new w zoT zeroZ
  have hB0 : Below w.heap.size w (w.alloc (.cells zeroZ zoT)) := (Below.refl _ _).alloc (Nat.le_refl _) _
  have hread := live_Read (h.same hB0) ⟨#[105, 109, 97, 103, 101]⟩
  rw [show (⟨#[105, 109, 97, 103, 101]⟩ : ByteArray).data.toList = imgN from rfl, hrd, show (⟨(b, c).1.toArray⟩ : ByteArray) = Bv from hBv.symm] at hread
  unfold zeroZ at hw0 hB0 hread
  have HW0 := Ha hw0
  have HB0 := Ha hB0
  have HR := Ha hread
  have HOF := Ha hof
  have HBV := Ha hBv
  have HSZ := Ha hsz
  clear hw0 hB0 hread hof h hrd hBv hsz
  by_cases hc : c = 0
  · subst hc
    have HFI := Ha (fun W => First_any b W (by omega))
    rw [<-HBV.out] at HFI
    obtain ⟨x, hx⟩ : ∃ x, x = (firstL b).1 := ⟨_, rfl⟩
    obtain ⟨q, hq⟩ : ∃ q, q = (firstL b).2.1 := ⟨_, rfl⟩
    obtain ⟨ec, hec⟩ : ∃ ec, ec = (firstL b).2.2 := ⟨_, rfl⟩
    have hf : ∀ W e w', FirstSays b W e w' -> e = .returned (.tuple #[.string (mk x), .int .i64 (q : Nat), .int .i64 ec]) /\ Below W.heap.size W w' := by
      intro W e w' h; rw [hx, hq, hec]; exact h
    have HF := Ha hf
    obtain ⟨XV, hXV⟩ : ∃ XV, XV = mk x := ⟨_, rfl⟩
    rw [<-hXV] at HF
    by_cases hok : ec = 0 /\ q = b.length
    · obtain ⟨hk, hq2⟩ := hok
      have HO := Ha (HOF.out rfl (hec.symm.trans hk) (hq.symm.trans hq2))
      rw [<-hx, <-hXV] at HO
      have HLO := Ha (fun e w' (h : OfOut XV e w') => show LoadOut b 0 e w' by unfold LoadOut; rw [if_pos rfl, if_pos ⟨hec.symm.trans hk, hq.symm.trans hq2⟩, <-hx, <-hXV]; exact h)
      have hqs : (q : Int) = (Bv.size : Int) := by rw [HSZ.out]; omega
      rw [hqs] at HF
      subst hk; clear hf hec hq hx hq2 hXV hqs; go_enter Tryz.func21, Tryz.ntmps21
      go_wp2_with fail
      refine HR.out.mono ?_
      rintro e w1 ⟨rfl, hB1⟩; have HB1 := thB HB0 hB1
      have HW1 := Ha (HW0.out.below hB1 HW0.out.lt)
      clear hB1; go_wp2_with fail
      refine (HFI.out _).mono ?_
      intro e w2 hfs
      obtain ⟨rfl, hB2⟩ := HF.out _ _ _ hfs
      have HB2 := thB HB1 hB2
      have HW2 := Ha (HW1.out.below hB2 HW1.out.lt)
      clear hB2 hfs; go_wp2_with fail
      refine (HO.out.2 _).mono ?_
      rintro e w3 ⟨ho, hB3⟩; obtain ⟨g, a0, Ar, n, kk, a2, a3, a4, a5, a6, cc, rfl⟩ := of_shape ho
      have HB3 := thB HB2 hB3
      have HW3 := Ha (HW2.out.below hB3 HW2.out.lt)
      have HST := Ha (of_store ho HO.out.1 (show Whole w3 w.heap.size zoT zeroZ from HW3.out))
      clear ho hB3; obtain ⟨f0, f1, f2, f3, f4, f5, f6⟩ := zo_frozen HW3.out
      obtain ⟨k0, k1, k2, k3, k4, k5, k6⟩ := zo_facts HW3.out
      have HP := Ha (sevZ_put HW3.out (.string a0) (.slice Ar n kk) (.string a2) (.int .i64 a3) (.int .i64 a4) (.int .i64 a5) (.string a6))
      have HBP := Ha (sevZ_below HB3.out (Nat.le_refl _) (.string a0) (.slice Ar n kk) (.string a2) (.int .i64 a3) (.int .i64 a4) (.int .i64 a5) (.string a6))
      go_wp2_with fail
      refine retI rfl rfl rfl rfl rfl HP.out ?_
      exact ⟨HLO.out _ _ HST.out, HBP.out⟩
    · have HLO := Ha (fun w' => show LoadOut b 0 (retN 7) w' by unfold LoadOut; rw [if_pos rfl, if_neg (by rw [<-hec, <-hq]; exact hok)]; rfl)
      by_cases hk : ec = 0
      · have hqs : ((q : Int) != (Bv.size : Int)) = true := by rw [bne_iff_ne, HSZ.out]; intro e; exact hok ⟨hk, by omega⟩
        subst hk; clear hf hec hq hx hok hXV; go_enter Tryz.func21, Tryz.ntmps21
        go_wp2_with fail
        refine HR.out.mono ?_
        rintro e w1 ⟨rfl, hB1⟩; have HB1 := thB HB0 hB1
        have HW1 := Ha (HW0.out.below hB1 HW0.out.lt)
        clear hB1; go_wp2_with fail
        refine (HFI.out _).mono ?_
        intro e w2 hfs
        obtain ⟨rfl, hB2⟩ := HF.out _ _ _ hfs
        have HB2 := thB HB1 hB2
        have HW2 := Ha (HW1.out.below hB2 HW1.out.lt)
        clear hB2 hfs; obtain ⟨f0, f1, f2, f3, f4, f5, f6⟩ := zo_frozen HW2.out
        obtain ⟨k0, k1, k2, k3, k4, k5, k6⟩ := zo_facts HW2.out
        go_wp2_with fail
        refine retI rfl rfl rfl rfl rfl (sevZ_put HW2.out _ _ _ _ _ _ _) ?_
        exact ⟨HLO.out _, sevZ_below HB2.out (Nat.le_refl _) _ _ _ _ _ _ _⟩
      · have g1 : (ec != 0) = true := by rw [bne_iff_ne]; exact hk
        clear hf hec hq hx hok hk hXV; go_enter Tryz.func21, Tryz.ntmps21
        go_wp2_with fail
        refine HR.out.mono ?_
        rintro e w1 ⟨rfl, hB1⟩; have HB1 := thB HB0 hB1
        have HW1 := Ha (HW0.out.below hB1 HW0.out.lt)
        clear hB1; go_wp2_with fail
        refine (HFI.out _).mono ?_
        intro e w2 hfs
        obtain ⟨rfl, hB2⟩ := HF.out _ _ _ hfs
        have HB2 := thB HB1 hB2
        have HW2 := Ha (HW1.out.below hB2 HW1.out.lt)
        clear hB2 hfs; obtain ⟨f0, f1, f2, f3, f4, f5, f6⟩ := zo_frozen HW2.out
        obtain ⟨k0, k1, k2, k3, k4, k5, k6⟩ := zo_facts HW2.out
        go_wp2_with fail
        refine retI rfl rfl rfl rfl rfl (sevZ_put HW2.out _ _ _ _ _ _ _) ?_
        exact ⟨HLO.out _, sevZ_below HB2.out (Nat.le_refl _) _ _ _ _ _ _ _⟩
  · have HLO := Ha (fun w' => show LoadOut b c (retN c) w' by unfold LoadOut; rw [if_neg hc]; rfl)
    have g1 : (c != 0) = true := by rw [bne_iff_ne]; exact hc
    clear hc; go_enter Tryz.func21, Tryz.ntmps21
    go_wp2_with fail
    refine HR.out.mono ?_
    rintro e w1 ⟨rfl, hB1⟩; have HB1 := thB HB0 hB1
    have HW1 := Ha (HW0.out.below hB1 HW0.out.lt)
    clear hB1; obtain ⟨f0, f1, f2, f3, f4, f5, f6⟩ := zo_frozen HW1.out
    obtain ⟨k0, k1, k2, k3, k4, k5, k6⟩ := zo_facts HW1.out
    go_wp2_with fail
    refine retI rfl rfl rfl rfl rfl (sevZ_put HW1.out _ _ _ _ _ _ _) ?_
    exact ⟨HLO.out _, sevZ_below HB1.out (Nat.le_refl _) _ _ _ _ _ _ _⟩
end Go.Proofs.YtmpginmdaeclaaaGreatDoor
set_option maxHeartbeats 32000000
set_option maxRecDepth 20000
namespace Go.Proofs.YtmpginmdaeclaaaGreatDoor
open Go.RowKit Go.Maps Go.Sort
set_option maxRecDepth 20000
theorem mk_list (x : List UInt8) : (mk x).data.toList = x := by simp [mk]
theorem Save_any {B d k M : Nat} {w : World} {S : St} (h : Live B w d k M S) (hk : k <= 30000) (hM : M <= 300000000) (g : Nat) (N : ByteArray) (nn : List UInt8) (D : List Rrd) (z : Value) (hz : ZoneAt w B N D z) (hN : N = mk nn) (hg : g < 18446744073709551616) (hn : nn.length <= 60000) (hD : D.length <= 100) (hok : OkL D) (hl : (imgB g nn D).length <= 5000000) :
    Calls Tryz.prog 11 #[dptr d, .int .u64 (g : Nat), z] w fun e w' => e = .returned (.int .i64 (saveS S (frameL (imgB g nn D))).2) /\ Live B w' d (k + 12) (M + 5 * (8 + (imgB g nn D).length)) (saveS S (frameL (imgB g nn D))).1 /\ Kept B w w' := by
  obtain ⟨x, hx⟩ : ∃ x, x = imgB g nn D := ⟨_, rfl⟩
  have hz0 := hz.more h.base
  have HZ := Ha hz0
  have HBY := Ha (fun (W : World) (hb : Below w.heap.size w W) => IBytes_any g N nn D z W ((hz0.keep hb).more hb.size) hN hg hn hD hok)
  rw [<-hx] at HBY hl
  have HFR := Ha (fun W => Frame_any x W (by omega))
  have hfs : (mk (frameL x)).size = 8 + x.length := by rw [mk_size, frameL_len]
  have HRE := Ha (fun (W : World) (hb : Below w.heap.size w W) => replace_any (h.same hb) hk hM (mk (frameL x)) (by rw [hfs]; omega))
  rw [mk_list, hfs] at HRE
  rw [<-hx]
  obtain ⟨FR, hFR⟩ : ∃ FR, FR = mk (frameL x) := ⟨_, rfl⟩
  rw [<-hFR] at HFR HRE
  obtain ⟨IM, hIM⟩ : ∃ IM, IM = mk x := ⟨_, rfl⟩
  rw [<-hIM] at HFR HBY
  have HH := Ha h
  obtain ⟨A, c, s, rfl, _, _, _⟩ := hz
  obtain ⟨W0, hW0⟩ : ∃ W0, W0 = w.alloc (.cells #[.string N, .slice A D.length c, .string s.s, .int .i64 s.t, .int .i64 s.c, .int .i64 s.l, .string s.d] zoT) := ⟨_, rfl⟩
  have hB0 : Below w.heap.size w W0 := by rw [hW0]; exact (Below.refl _ _).alloc (Nat.le_refl _) _
  have hX0 : Whole W0 w.heap.size zoT #[.string N, .slice A D.length c, .string s.s, .int .i64 s.t, .int .i64 s.c, .int .i64 s.l, .string s.d] := by rw [hW0]; exact Whole.new w zoT _
  obtain ⟨d0, d1, d2, d3, d4, d5, d6⟩ := zo_facts hX0
  have HB0 := Ha hB0
  have HW0 := Ha hW0
  obtain ⟨m, hm⟩ : ∃ m, m = D.length := ⟨_, rfl⟩
  rw [<-hm] at d1 HW0 HBY ⊢
  clear h hz0 hx hN hok hFR hIM hX0 hB0 hfs hW0 hm
  go_enter Tryz.func11, Tryz.ntmps11
  go_wp2_with fail
  rw [<-HW0.out]
  go_wp2_with fail
  refine (HBY.out _ HB0.out).mono ?_
  rintro e w1 ⟨rfl, hB1⟩
  have HB1 := thB HB0 hB1
  clear hB1 d0 d1 d2 d3 d4 d5 d6
  go_wp2_with fail
  refine (HFR.out _).mono ?_
  rintro e w2 ⟨rfl, hB2⟩
  have HB2 := thB HB1 hB2
  clear hB2
  go_wp2_with fail
  refine (HRE.out _ HB2.out).mono ?_
  rintro e w3 ⟨rfl, hL, hK⟩
  have HL := Ha hL
  have HK := Ha ((Kept.of_below (B := B) HB2.out).trans hK)
  clear hL hK
  go_wp2_with fail
  go_ret
  exact ⟨rfl, HL.out, HK.out⟩
end Go.Proofs.YtmpginmdaeclaaaGreatDoor
