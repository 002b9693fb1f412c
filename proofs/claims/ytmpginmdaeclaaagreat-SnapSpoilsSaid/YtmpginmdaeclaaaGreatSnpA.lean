/- Parts of the proofs of the statements of image. No statement of the seat is proved here. -/
import Derived.Test.YtmpginmdaeclaaaGreatSnpM
import Derived.Test.YtmpginmdaeclaaaGreatImE
import Derived.Test.YtmpginmdaeclaaaGreatFrA
import Derived.StillTailTactics
set_option maxHeartbeats 32000000
set_option maxRecDepth 20000
namespace Go.Proofs.YtmpginmdaeclaaaGreat
open Go.RowKit Go.Maps Go.Sort
def LoadOut (b : Bys) (c : Int) (e : Ending) (w' : World) : Prop :=
  if c = 0 then (if (firstL b).2.2 = 0 /\ (firstL b).2.1 = b.length then OfOut (mk (firstL b).1) e w' else e = .returned (.tuple #[.int .u64 0, .agg zeroZ, .int .i64 7]))
  else e = .returned (.tuple #[.int .u64 0, .agg zeroZ, .int .i64 c])
theorem of_shape {S : ByteArray} {e : Ending} {w' : World} (h : OfOut S e w') : ∃ (g : Nat) (a0 : ByteArray) (A : Option Addr) (n k : Nat) (a2 : ByteArray) (a3 a4 a5 : Int) (a6 : ByteArray) (c : Int), e = .returned (.tuple #[.int .u64 (g : Nat), .agg #[.string a0, .slice A n k, .string a2, .int .i64 a3, .int .i64 a4, .int .i64 a5, .string a6], .int .i64 c]) := by
  unfold OfOut at h
  split at h
  · exact ⟨0, _, _, _, _, _, _, _, _, _, 2, h⟩
  · obtain ⟨nn, _, h⟩ := h
    rcases h with ⟨_, h⟩ | ⟨_, h⟩ | ⟨_, v, h, A, c, s, rfl, _⟩
    · exact ⟨0, _, _, _, _, _, _, _, _, _, 2, h⟩
    · exact ⟨0, _, _, _, _, _, _, _, _, _, 9, h⟩
    · exact ⟨_, _, _, _, _, _, _, _, _, _, 0, h⟩
theorem of_store {S : ByteArray} {w : World} {r : Nat} {g a0 a1 a2 a3 a4 a5 a6 c : Value} (h : OfOut S (.returned (.tuple #[g, .agg #[a0, a1, a2, a3, a4, a5, a6], c])) w) (hlo : ∀ g N l, ofI S = some (g, N, l) -> LowL (l.map ofRec)) (hw : Whole w r zoT zeroZ) :
    OfOut S (.returned (.tuple #[g, .agg #[a0, a1, a2, a3, a4, a5, a6], c])) (((((((w.setCell ⟨r, 0, none⟩ a0).setCell ⟨r, 1, none⟩ a1).setCell ⟨r, 2, none⟩ a2).setCell ⟨r, 3, none⟩ a3).setCell ⟨r, 4, none⟩ a4).setCell ⟨r, 5, none⟩ a5).setCell ⟨r, 6, none⟩ a6) := by
  unfold OfOut at h ⊢
  split at h
  · exact h
  · rename_i e1
    obtain ⟨nn, h1, h⟩ := h
    refine ⟨nn, h1, ?_⟩
    rcases h with h | h | ⟨h, v, h2, h3⟩
    · exact .inl h
    · exact .inr (.inl h)
    · exact .inr (.inr ⟨h, v, h2, zone_far h3 hw ((hlo _ _ _ e1).ok (codeZ_zero h).2.1).ofC (sev_grown _ _ _ _ _ _ _ _ _)⟩)
def retN (c : Int) : Ending := .returned (.tuple #[.int .u64 0, .agg #[.string ⟨#[]⟩, .slice none 0 0, .string ⟨#[]⟩, .int .i64 0, .int .i64 0, .int .i64 0, .string ⟨#[]⟩], .int .i64 c])
theorem Load_any [Inhabited OwnP] {B d k M : Nat} {w : World} {S : St} (h : Live B w d k M S) (b : Bys) (c : Int) (hrd : readS S imgN = (b, c)) (hb : b.length <= 100000000)
    (hof : c = 0 -> (firstL b).2.2 = 0 -> (firstL b).2.1 = b.length -> (∀ g N l, ofI (mk (firstL b).1) = some (g, N, l) -> LowL (l.map ofRec)) /\ ∀ W, Calls Tryz.prog 49 #[.string (mk (firstL b).1)] W fun e w' => OfOut (mk (firstL b).1) e w' /\ Below W.heap.size W w') :
    Calls Tryz.prog 18 #[dptr d] w fun e w' => LoadOut b c e w' /\ Below w.heap.size w w' := by
  obtain ⟨Bv, hBv⟩ : ∃ Bv, Bv = mk b := ⟨_, rfl⟩
  have hsz : Bv.size = b.length := by rw [hBv, mk_size]
  have hw0 := Whole.new w zoT zeroZ
  have hB0 : Below w.heap.size w (w.alloc (.cells zeroZ zoT)) := (Below.refl _ _).alloc (Nat.le_refl _) _
  have hread := live_Read (h.same hB0) ⟨#[105, 109, 97, 103, 101]⟩
  rw [show (⟨#[105, 109, 97, 103, 101]⟩ : ByteArray).data.toList = imgN from rfl, hrd, show (⟨(b, c).1.toArray⟩ : ByteArray) = Bv from hBv.symm] at hread
  unfold zeroZ at hw0 hB0 hread
  have HW0 := Ha hw0
  have HB0 := Ha hB0
  have HR := Ha hread
  have HOF := Ha hof
  have HBV := Ha hBv
  have HSZ := Ha hsz
  clear hw0 hB0 hread hof h hrd hBv hsz
  by_cases hc : c = 0
  · subst hc
    have HFI := Ha (fun W => First_any b W (by omega))
    rw [<-HBV.out] at HFI
    obtain ⟨x, hx⟩ : ∃ x, x = (firstL b).1 := ⟨_, rfl⟩
    obtain ⟨q, hq⟩ : ∃ q, q = (firstL b).2.1 := ⟨_, rfl⟩
    obtain ⟨ec, hec⟩ : ∃ ec, ec = (firstL b).2.2 := ⟨_, rfl⟩
    have hf : ∀ W e w', FirstSays b W e w' -> e = .returned (.tuple #[.string (mk x), .int .i64 (q : Nat), .int .i64 ec]) /\ Below W.heap.size W w' := by
      intro W e w' h; rw [hx, hq, hec]; exact h
    have HF := Ha hf
    obtain ⟨XV, hXV⟩ : ∃ XV, XV = mk x := ⟨_, rfl⟩
    rw [<-hXV] at HF
    by_cases hok : ec = 0 /\ q = b.length
    · obtain ⟨hk, hq2⟩ := hok
      have HO := Ha (HOF.out rfl (hec.symm.trans hk) (hq.symm.trans hq2))
      rw [<-hx, <-hXV] at HO
      have HLO := Ha (fun e w' (h : OfOut XV e w') => show LoadOut b 0 e w' by unfold LoadOut; rw [if_pos rfl, if_pos ⟨hec.symm.trans hk, hq.symm.trans hq2⟩, <-hx, <-hXV]; exact h)
      have hqs : (q : Int) = (Bv.size : Int) := by rw [HSZ.out]; omega
      rw [hqs] at HF
      subst hk; clear hf hec hq hx hq2 hXV hqs; go_enter Tryz.func18, Tryz.ntmps18
      go_wp2_with fail
      refine HR.out.mono ?_
      rintro e w1 ⟨rfl, hB1⟩; have HB1 := thB HB0 hB1
      have HW1 := Ha (HW0.out.below hB1 HW0.out.lt)
      clear hB1; go_wp2_with fail
      refine (HFI.out _).mono ?_
      intro e w2 hfs
      obtain ⟨rfl, hB2⟩ := HF.out _ _ _ hfs
      have HB2 := thB HB1 hB2
      have HW2 := Ha (HW1.out.below hB2 HW1.out.lt)
      clear hB2 hfs; go_wp2_with fail
      refine (HO.out.2 _).mono ?_
      rintro e w3 ⟨ho, hB3⟩; obtain ⟨g, a0, Ar, n, kk, a2, a3, a4, a5, a6, cc, rfl⟩ := of_shape ho
      have HB3 := thB HB2 hB3
      have HW3 := Ha (HW2.out.below hB3 HW2.out.lt)
      have HST := Ha (of_store ho HO.out.1 (show Whole w3 w.heap.size zoT zeroZ from HW3.out))
      clear ho hB3; obtain ⟨f0, f1, f2, f3, f4, f5, f6⟩ := zo_frozen HW3.out
      obtain ⟨k0, k1, k2, k3, k4, k5, k6⟩ := zo_facts HW3.out
      have HP := Ha (sevZ_put HW3.out (.string a0) (.slice Ar n kk) (.string a2) (.int .i64 a3) (.int .i64 a4) (.int .i64 a5) (.string a6))
      have HBP := Ha (sevZ_below HB3.out (Nat.le_refl _) (.string a0) (.slice Ar n kk) (.string a2) (.int .i64 a3) (.int .i64 a4) (.int .i64 a5) (.string a6))
      go_wp2_with fail
      refine retI rfl rfl rfl rfl rfl HP.out ?_
      exact ⟨HLO.out _ _ HST.out, HBP.out⟩
    · have HLO := Ha (fun w' => show LoadOut b 0 (retN 7) w' by unfold LoadOut; rw [if_pos rfl, if_neg (by rw [<-hec, <-hq]; exact hok)]; rfl)
      by_cases hk : ec = 0
      · have hqs : ((q : Int) != (Bv.size : Int)) = true := by rw [bne_iff_ne, HSZ.out]; intro e; exact hok ⟨hk, by omega⟩
        subst hk; clear hf hec hq hx hok hXV; go_enter Tryz.func18, Tryz.ntmps18
        go_wp2_with fail
        refine HR.out.mono ?_
        rintro e w1 ⟨rfl, hB1⟩; have HB1 := thB HB0 hB1
        have HW1 := Ha (HW0.out.below hB1 HW0.out.lt)
        clear hB1; go_wp2_with fail
        refine (HFI.out _).mono ?_
        intro e w2 hfs
        obtain ⟨rfl, hB2⟩ := HF.out _ _ _ hfs
        have HB2 := thB HB1 hB2
        have HW2 := Ha (HW1.out.below hB2 HW1.out.lt)
        clear hB2 hfs; obtain ⟨f0, f1, f2, f3, f4, f5, f6⟩ := zo_frozen HW2.out
        obtain ⟨k0, k1, k2, k3, k4, k5, k6⟩ := zo_facts HW2.out
        go_wp2_with fail
        refine retI rfl rfl rfl rfl rfl (sevZ_put HW2.out _ _ _ _ _ _ _) ?_
        exact ⟨HLO.out _, sevZ_below HB2.out (Nat.le_refl _) _ _ _ _ _ _ _⟩
      · have g1 : (ec != 0) = true := by rw [bne_iff_ne]; exact hk
        clear hf hec hq hx hok hk hXV; go_enter Tryz.func18, Tryz.ntmps18
        go_wp2_with fail
        refine HR.out.mono ?_
        rintro e w1 ⟨rfl, hB1⟩; have HB1 := thB HB0 hB1
        have HW1 := Ha (HW0.out.below hB1 HW0.out.lt)
        clear hB1; go_wp2_with fail
        refine (HFI.out _).mono ?_
        intro e w2 hfs
        obtain ⟨rfl, hB2⟩ := HF.out _ _ _ hfs
        have HB2 := thB HB1 hB2
        have HW2 := Ha (HW1.out.below hB2 HW1.out.lt)
        clear hB2 hfs; obtain ⟨f0, f1, f2, f3, f4, f5, f6⟩ := zo_frozen HW2.out
        obtain ⟨k0, k1, k2, k3, k4, k5, k6⟩ := zo_facts HW2.out
        go_wp2_with fail
        refine retI rfl rfl rfl rfl rfl (sevZ_put HW2.out _ _ _ _ _ _ _) ?_
        exact ⟨HLO.out _, sevZ_below HB2.out (Nat.le_refl _) _ _ _ _ _ _ _⟩
  · have HLO := Ha (fun w' => show LoadOut b c (retN c) w' by unfold LoadOut; rw [if_neg hc]; rfl)
    have g1 : (c != 0) = true := by rw [bne_iff_ne]; exact hc
    clear hc; go_enter Tryz.func18, Tryz.ntmps18
    go_wp2_with fail
    refine HR.out.mono ?_
    rintro e w1 ⟨rfl, hB1⟩; have HB1 := thB HB0 hB1
    have HW1 := Ha (HW0.out.below hB1 HW0.out.lt)
    clear hB1; obtain ⟨f0, f1, f2, f3, f4, f5, f6⟩ := zo_frozen HW1.out
    obtain ⟨k0, k1, k2, k3, k4, k5, k6⟩ := zo_facts HW1.out
    go_wp2_with fail
    refine retI rfl rfl rfl rfl rfl (sevZ_put HW1.out _ _ _ _ _ _ _) ?_
    exact ⟨HLO.out _, sevZ_below HB1.out (Nat.le_refl _) _ _ _ _ _ _ _⟩
end Go.Proofs.YtmpginmdaeclaaaGreat
set_option maxHeartbeats 32000000
set_option maxRecDepth 20000
namespace Go.Proofs.YtmpginmdaeclaaaGreat
open Go.RowKit Go.Maps Go.Sort
set_option maxRecDepth 20000
structure Stq where
  fid : Nat
  fst : Array Value
  cap : Array Value
  f : St -> St × Int
def Stq.v (s : Stq) : Value := .func (.func s.fid) s.fst s.cap
structure Stp [Inhabited OwnP] (B d m : Nat) (w0 : World) (s : Stq) : Prop where
  enter : ∀ (args : Array Value) (w : World), (callFunc s.fid args).run Tryz.prog w = .ok (.enter s.fid args) w
  call : ∀ k M S w, Kept B w0 w -> Live B w d k M S -> k <= 40000 -> M <= 400000000 -> Calls Tryz.prog s.fid (s.fst ++ s.cap) w fun e w' => e = .returned (.int .i64 (s.f S).2) /\ Live B w' d (k + 2) (M + m) (s.f S).1 /\ Kept B w w'
theorem carryOut_any [Inhabited OwnP] {B d k M m g n c : Nat} {w : World} {S : St} (vs : List Stq) (hn : vs.length = n) (hn9 : n <= 10000) (h : Live B w d k M S) (hk : k + 2 * n <= 40000) (hM : M + n * m <= 400000000) (hs : ∀ s ∈ vs, Stp B d m w s)
    (hrow : ∀ w', Kept B w w' -> ∀ i s, vs[i]? = some s -> w'.cell? ⟨g, i, none⟩ = some s.v) :
    Calls Tryz.prog 91 #[.slice (some ⟨g, 0, none⟩) n c] w fun e w' => e = .returned (.int .i64 (runL (vs.map (·.f)) S).2) /\ Live B w' d (k + 2 * n) (M + n * m) (runL (vs.map (·.f)) S).1 /\ Kept B w w' := by
  have HN := Ha hn
  have HS := Ha hs
  have HR := Ha hrow
  have HH := Ha h
  have HM := Ha hM
  clear hn hs hrow h hM
  go_enter Tryz.func91, Tryz.ntmps91
  go_wp2_with fail
  go_loopw [8] (fun i wr => ∃ (j : Nat) (T : St), j <= n /\ i = .int .i64 j /\ runL ((vs.take j).map (·.f)) S = (T, 0) /\ Live B wr d (k + 2 * j) (M + j * m) T /\ Kept B w wr) (fun i _ => n - (intOf i).toNat)
  case atStart => exact ⟨0, S, Nat.zero_le _, rfl, rfl, by simpa using HH.out, Kept.refl _ _⟩
  case round =>
    obtain ⟨j, T, hj, rfl, hT, hL, hK⟩ := hrel
    have HT := Ha hT
    have HL := Ha hL
    have HK := Ha hK
    clear hT hL hK
    by_cases hlt : j < n
    · obtain ⟨s, hsj⟩ : ∃ s, vs[j]? = some s := ⟨_, List.getElem?_eq_getElem (by have := HN.out; omega)⟩
      have hc := HR.out wr HK.out j s hsj
      unfold Stq.v at hc
      have hmem : s ∈ vs := List.mem_of_getElem? hsj
      have hmj : M + j * m <= 400000000 := by
        have h1 : j * m <= n * m := Nat.mul_le_mul_right m (by omega)
        have := HM.out; omega
      have hcall := (HS.out s hmem).call (k + 2 * j) (M + j * m) T wr HK.out HL.out (by omega) hmj
      have hent := (HS.out s hmem).enter
      have htk : (vs.take (j + 1)).map (·.f) = (vs.take j).map (·.f) ++ [s.f] := by
        rw [List.take_add_one, hsj]; simp
      have HRUN := Ha (show runL ((vs.take (j + 1)).map (·.f)) S = s.f T by rw [htk]; exact runL_snoc HT.out)
      have HCALL := Ha hcall
      have HENT := Ha hent
      have HDR := Ha (show vs.map (·.f) = (vs.take (j + 1)).map (·.f) ++ (vs.drop (j + 1)).map (·.f) by rw [<-List.map_append, List.take_append_drop])
      clear hcall hent htk hmj hsj hmem; have hgj : (j : Int) < (n : Int) := by omega
      go_wp2_with fail
      rw [HENT.out, Oper.upon_enter]
      refine Calls.mono (by simpa using HCALL.out) ?_
      rintro e w1 ⟨rfl, hL1, hK1⟩; have HL1 := Ha hL1
      have HK1 := Ha (HK.out.trans hK1)
      clear hL1 hK1 hc; obtain ⟨T1, c1, hT1⟩ : ∃ T1 c1, s.f T = (T1, c1) := ⟨_, _, rfl⟩
      have HE := Ha hT1
      rw [hT1]
      by_cases h0 : c1 = 0
      · subst h0
        clear hT1; go_wp2_with fail
        go_roundw
        case rel => exact ⟨j + 1, T1, by omega, by go_num, HRUN.out.trans HE.out, by have := HL1.out; rw [HE.out] at this; exact this.mono (by omega) (by rw [Nat.succ_mul]; omega), HK1.out⟩
        case measure => simp [intOf]; omega
      · have g0 : (c1 != 0) = true := by rw [bne_iff_ne]; exact h0
        have HZ := Ha (show runL (vs.map (·.f)) S = (T1, c1) by rw [HDR.out]; exact runL_stop (HRUN.out.trans HE.out) h0)
        clear hT1 h0; go_wp2_with fail
        go_ret
        rw [HZ.out]
        refine ⟨rfl, ?_, HK1.out⟩
        have := HL1.out
        rw [HE.out] at this
        refine this.mono (by omega) ?_
        have h1 : (j + 1) * m <= n * m := Nat.mul_le_mul_right m (by omega)
        rw [Nat.succ_mul] at h1
        omega
    · obtain rfl : j = n := by omega
      have HZ := Ha (show runL (vs.map (·.f)) S = (T, 0) by have := HT.out; rwa [List.take_of_length_le (by have := HN.out; omega)] at this)
      have hgj : ¬ (j : Int) < (j : Int) := by omega
      go_wp2_with fail
      go_ret
      rw [HZ.out]
      exact ⟨rfl, HL.out, HK.out⟩
theorem discard_any [Inhabited OwnP] {B d k M : Nat} {w : World} {S : St} (h : Live B w d k M S) (hk : k <= 50000) :
    Calls Tryz.prog 93 #[dptr d] w fun e w' => e = .returned (.int .i64 (discS S).2) /\ Live B w' d (k + 2) M (discS S).1 /\ Kept B w w' := by
  obtain ⟨T, c, e⟩ : ∃ T c, removeS S (⟨#[105, 109, 97, 103, 101, 45, 116, 109, 112]⟩ : ByteArray).data.toList = (T, c) := ⟨_, _, rfl⟩
  have h1 := live_Remove h hk ⟨#[105, 109, 97, 103, 101, 45, 116, 109, 112]⟩
  rw [e] at h1
  have hd : discS S = (T, if c = 6 then 0 else c) := by
    unfold discS; rw [show removeS S itmN = (T, c) from e]
  have H1 := Ha h1
  have HD := Ha hd
  clear h1 hd e h
  by_cases h6 : c = 6
  · subst h6
    go_enter Tryz.func93, Tryz.ntmps93
    go_wp2_with fail
    refine H1.out.mono ?_
    rintro e w1 ⟨rfl, hL, hK⟩; have HL := Ha hL
    have HK := Ha hK
    clear hL hK; go_wp2_with fail
    go_ret
    rw [HD.out]
    exact ⟨rfl, HL.out, HK.out⟩
  · have g6 : (c != 6) = true := by rw [bne_iff_ne]; exact h6
    have HD2 := Ha (show discS S = (T, c) by rw [HD.out, if_neg h6])
    clear h6; go_enter Tryz.func93, Tryz.ntmps93
    go_wp2_with fail
    refine H1.out.mono ?_
    rintro e w1 ⟨rfl, hL, hK⟩; have HL := Ha hL
    have HK := Ha hK
    clear hL hK; go_wp2_with fail
    go_ret
    rw [HD2.out]
    exact ⟨rfl, HL.out, HK.out⟩
end Go.Proofs.YtmpginmdaeclaaaGreat
