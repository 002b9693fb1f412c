/- Parts of the proofs of the statements of image. No statement of the seat is proved here. -/
import Derived.Test.YtmpginmdaeclaaaGreatDoorPaC
import Derived.Test.YtmpginmdaeclaaaGreatDoorNaI
import Derived.Test.YtmpginmdaeclaaaGreatDoorNaE
import Derived.Deep.AppendSrc
set_option maxHeartbeats 32000000
set_option maxRecDepth 20000
namespace Go.Proofs.YtmpginmdaeclaaaGreatDoor
open Go.RowKit
def beh : Option Nat -> Int
  | none => -1
  | some k => (k : Int)
theorem labs_snoc (L : List (List UInt8)) (x : List UInt8) : labs (L ++ [x]) = labs L ++ lab x := by rw [labs_append]; simp [labs]
theorem Good.snoc {L : List (List UInt8)} {x : List UInt8} (h : Good L) (h1 : x ≠ []) (h2 : x.length <= 63) : Good (L ++ [x]) := by
  intro y hy
  rcases List.mem_append.1 hy with hy | hy
  · exact h y hy
  · rw [List.mem_singleton] at hy; subst hy; exact ⟨h1, h2⟩
theorem nameL_long {L : List (List UInt8)} (h : 255 < (enc L).length) : nameL (enc L) = none := by unfold nameL; rw [if_pos h]
theorem enc_len (L : List (List UInt8)) : (enc L).length = (labs L).length + 1 := by unfold enc; simp
section
variable {M : List UInt8} {L : List (List UInt8)} {s p d d2 : Nat} {nx : Option Nat}
theorem rq_zero (hp : p < M.length) (hd : d = M[p].toNat) (h0 : d = 0) :
    readR M (labs L) s p nx = if (enc L).length <= 255 then some (enc L, nx.getD (p + 1)) else none := by
  by_cases hl : (enc L).length <= 255
  · rw [if_pos hl, rd_zero (by have := enc_len L; omega) (drop_cons hp) (by omega)]; rfl
  · rw [if_neg hl, rd_full (by have := enc_len L; omega)]
theorem rq_ptr1 (hp : p < M.length) (hd : d = M[p].toNat) (h : 192 <= d) (hl : M.length <= p + 1) : readR M (labs L) s p nx = none := by
  have h1 := drop_cons hp
  have h2 : M.drop (p + 1) = [] := List.drop_eq_nil_of_le (by omega)
  rw [h2] at h1
  exact rd_ptr1 h1 (by omega)
theorem rq_fore (hp : p + 1 < M.length) (hd : d = (M[p]'(by omega)).toNat) (hd2 : d2 = M[p + 1].toNat) (h : 192 <= d) (ht : s <= (d - 192) * 256 + d2) : readR M (labs L) s p nx = none := by
  have h1 := drop_cons (show p < M.length by omega)
  rw [drop_cons hp] at h1
  exact rd_fore h1 (by omega) (by rw [<-hd, <-hd2]; exact ht)
theorem rq_ptr (hp : p + 1 < M.length) (hd : d = (M[p]'(by omega)).toNat) (hd2 : d2 = M[p + 1].toNat) (h : 192 <= d) (ht : (d - 192) * 256 + d2 < s) :
    readR M (labs L) s p nx = readR M (labs L) ((d - 192) * 256 + d2) ((d - 192) * 256 + d2) (some (nx.getD (p + 2))) := by
  by_cases hl : (labs L).length < 255
  · have h1 := drop_cons (show p < M.length by omega)
    rw [drop_cons hp] at h1
    rw [rd_ptr hl h1 (by omega) (by rw [<-hd, <-hd2]; exact ht), <-hd, <-hd2]
  · rw [rd_full (by omega), rd_full (by omega)]
theorem rq_bad (hp : p < M.length) (hd : d = M[p].toNat) (h0 : d ≠ 0) (h1 : d < 192) (h : ¬ (d < 64 /\ p + 1 + d <= M.length)) : readR M (labs L) s p nx = none :=
  rd_bad (drop_cons hp) (by rw [<-hd]; exact h0) (by omega) (by rw [List.length_drop, <-hd]; omega)
theorem rq_lab (hp : p < M.length) (hd : d = M[p].toNat) (_h0 : d ≠ 0) (h1 : d < 64) (h : p + 1 + d <= M.length) :
    readR M (labs L) s p nx = readR M (labs (L ++ [(M.drop (p + 1)).take d])) s (p + 1 + d) nx /\ (M.take (p + 1 + d)).drop p = lab ((M.drop (p + 1)).take d) /\ ((M.drop (p + 1)).take d).length = d := by
  have hlen : ((M.drop (p + 1)).take d).length = d := by simp; omega
  have hlab : lab ((M.drop (p + 1)).take d) = M[p] :: (M.drop (p + 1)).take d := by
    unfold lab; rw [hlen, hd]; simp
  refine ⟨?_, ?_, hlen⟩
  · rw [labs_snoc, hlab]
    by_cases hl : (labs L).length < 255
    · rw [rd_lab hl (drop_cons hp) (by omega) (by omega) (by simp; omega), <-hd]
    · rw [rd_full (by omega), rd_full (by simp; omega)]
  · rw [hlab, List.drop_take, show p + 1 + d - p = d + 1 by omega, drop_cons hp, List.take_succ_cons]
end
def RefRd (M : List UInt8) (R : Option (List UInt8 × Nat)) (w : World) (nV beV stV atV : Value) (wr : World) : Prop :=
  ∃ L s p nx, nV = .string (mk (labs L)) /\ Good L /\ beV = .int .i64 (beh nx) /\ stV = .int .i64 ((s : Nat) : Int) /\ atV = .int .i64 ((p : Nat) : Int) /\ R = readR M (labs L) s p nx /\ p <= M.length /\ s <= M.length /\
    (labs L).length <= 363 /\ Below w.heap.size w wr
def sizeV : Value -> Nat
  | .string s => s.size
  | _ => 0
theorem RefRead_in (S : ByteArray) (M : List UInt8) (p0 : Nat) (w : World) (hS : S = mk M) (hM : M.length <= 1000000) (hp : p0 <= M.length) :
    Calls Tryz.prog 216 #[.string S, .int .i64 (p0 : Nat)] w fun e w' => e = .returned (readV (readR M [] p0 p0 none)) /\ Below w.heap.size w w' := by
  obtain ⟨R, hR⟩ : ∃ R, R = readR M [] p0 p0 none := ⟨_, rfl⟩
  rw [<-hR]
  have hSz : S.size = M.length := by rw [hS, mk_size]
  have g2 : decide ((p0 : Int) < 0) = false := by rw [decide_eq_false_iff_not]; omega
  have g3 : decide (S.size < p0) = false := by rw [decide_eq_false_iff_not]; omega
  have HS := Ha hS
  have HR := Ha hR
  have HSZ := Ha hSz
  clear hS hR hSz
  go_enter Tryz.func216, Tryz.ntmps216
  go_wp2_with fail
  go_loopw [1, 7, 8, 9] (fun at' nV beV stV wr => RefRd M R w nV beV stV at' wr) (fun _ nV _ stV _ => (intOf stV).toNat + (300 - sizeV nV))
  case atStart => exact ⟨[], p0, p0, none, rfl, fun _ h => (by cases h), rfl, rfl, rfl, HR.out, hp, hp, by simp [labs], Below.refl _ _⟩
  case round =>
    obtain ⟨L, s, p, nx, rfl, hg, rfl, rfl, rfl, hR, hpM, hsM, hL363, hB⟩ := hrel
    obtain ⟨N, hN⟩ : ∃ N, N = mk (labs L) := ⟨_, rfl⟩
    rw [<-hN]
    have hNz : N.size = (labs L).length := by rw [hN, mk_size]
    have HN := Ha hN
    have HNZ := Ha hNz
    have HG := Ha hg
    have HB := Ha hB
    have HRR := Ha hR
    have hN363 : N.size <= 363 := by omega
    clear hN hNz hg hB hR
    by_cases hlt : p < S.size
    · have hpM' : p < M.length := by have := HSZ.out; omega
      by_cases h300 : N.size < 300
      · have h300I : (N.size : Int) < 300 := by omega
        have hltI : (p : Int) < (S.size : Int) := by omega
        obtain ⟨d, hd⟩ : ∃ d, d = M[p].toNat := ⟨_, rfl⟩
        have hc : (S[p]'hlt).toNat = d := by rw [mk_get HS.out hlt hpM', hd]
        have hd255 : d <= 255 := by have := M[p].toNat_lt; omega
        have HD := Ha hd
        clear hd
        by_cases h0 : d = 0
        · have hz := rq_zero (L := L) (s := s) (nx := nx) hpM' HD.out h0
          subst h0; have HZ := Ha (HRR.out.trans hz)
          have hn2 : N ++ ⟨#[0]⟩ = mk (enc L) := by
            rw [HN.out, show (⟨#[0]⟩ : ByteArray) = mk [0] from rfl, mk_append]; rfl
          have hn2z : (mk (enc L)).size = N.size + 1 := by rw [mk_size, enc_len, HNZ.out]
          have HN2 := Ha hn2
          clear hz hn2
          cases nx with
          | none =>
            have hbe : beh none = -1 := rfl
            by_cases hl : (enc L).length <= 255
            · rw [if_pos hl] at HZ
              have hok : (nameL (enc L)).isSome = true := by rw [nameL_enc HG.out hl]; rfl
              go_wp2_with fail
              rw [HN2.out]
              refine (RefRight_any (mk (enc L)) (enc L) _ rfl).mono ?_
              rw [hok]
              rintro e w1 ⟨rfl, hB1⟩; go_wp2_with fail
              go_ret3
              exact ⟨by rw [HZ.out]; rfl, HB.out.trans (hB1.mono HB.out.size)⟩
            · rw [if_neg hl] at HZ
              have hok : (nameL (enc L)).isSome = false := by rw [nameL_long (by omega)]; rfl
              go_wp2_with fail
              rw [HN2.out]
              refine (RefRight_any (mk (enc L)) (enc L) _ rfl).mono ?_
              rw [hok]
              rintro e w1 ⟨rfl, hB1⟩; go_wp2_with fail
              go_ret3
              exact ⟨by rw [HZ.out]; rfl, HB.out.trans (hB1.mono HB.out.size)⟩
          | some k =>
            have hbe : (0 : Int) <= beh (some k) := by simp [beh]
            by_cases hl : (enc L).length <= 255
            · rw [if_pos hl] at HZ
              have hok : (nameL (enc L)).isSome = true := by rw [nameL_enc HG.out hl]; rfl
              go_wp2_with fail
              rw [HN2.out]
              refine (RefRight_any (mk (enc L)) (enc L) _ rfl).mono ?_
              rw [hok]
              rintro e w1 ⟨rfl, hB1⟩; go_wp2_with fail
              go_ret3
              exact ⟨by rw [HZ.out]; rfl, HB.out.trans (hB1.mono HB.out.size)⟩
            · rw [if_neg hl] at HZ
              have hok : (nameL (enc L)).isSome = false := by rw [nameL_long (by omega)]; rfl
              go_wp2_with fail
              rw [HN2.out]
              refine (RefRight_any (mk (enc L)) (enc L) _ rfl).mono ?_
              rw [hok]
              rintro e w1 ⟨rfl, hB1⟩; go_wp2_with fail
              go_ret3
              exact ⟨by rw [HZ.out]; rfl, HB.out.trans (hB1.mono HB.out.size)⟩
        · have h0I : ((d : Int) == 0) = false := by rw [beq_eq_false_iff_ne]; omega
          have h0p : (0 : Int) < (d : Int) := by omega
          by_cases h192 : 192 <= d
          · have g192 : (192 : Int) <= (d : Int) := by omega
            by_cases hp1 : p + 1 < S.size
            · have hp1I : (p : Int) + 1 < (S.size : Int) := by omega
              have hp1M : p + 1 < M.length := by have := HSZ.out; omega
              obtain ⟨d2, hd2⟩ : ∃ d2, d2 = M[p + 1].toNat := ⟨_, rfl⟩
              have hc2 : (S[p + 1]'hp1).toNat = d2 := by rw [mk_get HS.out hp1 hp1M, hd2]
              have hd2255 : d2 <= 255 := by have := M[p + 1].toNat_lt; omega
              have HD2 := Ha hd2
              clear hd2
              by_cases hts : (d - 192) * 256 + d2 < s
              · have gts : ((d : Int) - 192) * 256 + (d2 : Int) < (s : Int) := by omega
                cases nx with
                | none =>
                  have hbe : beh none = -1 := rfl
                  go_wp2_with fail
                  go_roundw
                  case rel =>
                    exact ⟨L, (d - 192) * 256 + d2, (d - 192) * 256 + d2, some (p + 2), by rw [HN.out], HG.out, rfl, by congr 1; omega, by congr 1; omega, HRR.out.trans (rq_ptr hp1M HD.out HD2.out h192 hts), by omega, by omega, hL363, HB.out⟩
                  case measure => simp only [intOf, sizeV]; omega
                | some k =>
                  have hbe : (0 : Int) <= beh (some k) := by simp [beh]
                  go_wp2_with fail
                  go_roundw
                  case rel =>
                    exact ⟨L, (d - 192) * 256 + d2, (d - 192) * 256 + d2, some k, by rw [HN.out], HG.out, rfl, by congr 1; omega, by congr 1; omega, HRR.out.trans (rq_ptr hp1M HD.out HD2.out h192 hts), by omega, by omega, hL363, HB.out⟩
                  case measure => simp only [intOf, sizeV]; omega
              · have gts : (s : Int) <= ((d : Int) - 192) * 256 + (d2 : Int) := by omega
                have HE := Ha (HRR.out.trans (rq_fore (L := L) (s := s) (nx := nx) hp1M HD.out HD2.out h192 (by omega)))
                go_wp2_with fail
                go_ret3
                exact ⟨by rw [HE.out]; rfl, HB.out⟩
            · have hp1I : (S.size : Int) <= (p : Int) + 1 := by omega
              have HE := Ha (HRR.out.trans (rq_ptr1 (L := L) (s := s) (nx := nx) hpM' HD.out h192 (by have := HSZ.out; omega)))
              go_wp2_with fail
              go_ret3
              exact ⟨by rw [HE.out]; rfl, HB.out⟩
          · have g192 : decide ((192 : Int) <= (d : Int)) = false := by rw [decide_eq_false_iff_not]; omega
            by_cases h64 : d < 64
            · have g64 : (d : Int) < 64 := by omega
              by_cases hfar : p + 1 + d <= S.size
              · have gfar : (p : Int) + 1 + (d : Int) <= (S.size : Int) := by omega
                obtain ⟨e1, e2, e3⟩ := rq_lab (L := L) (s := s) (nx := nx) hpM' HD.out h0 h64 (by have := HSZ.out; omega)
                have hx : (M.drop (p + 1)).take d ≠ [] := by intro e; rw [e] at e3; simp at e3; omega
                have hn2 : N ++ S.extract p (p + 1 + d) = mk (labs (L ++ [(M.drop (p + 1)).take d])) := by
                  rw [HN.out, HS.out, mk_extract, e2, mk_append, labs_snoc]
                have hl2 : (labs (L ++ [(M.drop (p + 1)).take d])).length = N.size + (d + 1) := by
                  rw [labs_snoc, List.length_append, lab_len, e3, HNZ.out]
                have hn2z : (N ++ S.extract p (p + 1 + d)).size = N.size + (d + 1) := by rw [hn2, mk_size, hl2]
                have HX := Ha hx
                have HN2 := Ha hn2
                have HN2Z := Ha hn2z
                have HL2 := Ha hl2
                have HE1 := Ha (HRR.out.trans e1)
                have HE3 := Ha e3
                clear hx hn2 hn2z hl2 e1 e2 e3; go_wp2_with fail
                go_roundw
                case rel =>
                  exact ⟨L ++ [(M.drop (p + 1)).take d], s, p + 1 + d, nx, by rw [HN2.out], HG.out.snoc HX.out (by have := HE3.out; omega), rfl, rfl, by congr 1; omega, HE1.out, by have := HSZ.out; omega, hsM, by have := HL2.out; omega, HB.out⟩
                case measure => simp only [intOf, sizeV, HN2Z.out]; omega
              · have gfar : (S.size : Int) < (p : Int) + 1 + (d : Int) := by omega
                have HE := Ha (HRR.out.trans (rq_bad (L := L) (s := s) (nx := nx) hpM' HD.out h0 (by omega) (by have := HSZ.out; omega)))
                go_wp2_with fail
                go_ret3
                exact ⟨by rw [HE.out]; rfl, HB.out⟩
            · have g64 : (64 : Int) <= (d : Int) := by omega
              have HE := Ha (HRR.out.trans (rq_bad (L := L) (s := s) (nx := nx) hpM' HD.out h0 (by omega) (by omega)))
              go_wp2_with fail
              go_ret3
              exact ⟨by rw [HE.out]; rfl, HB.out⟩
      · have h300I : decide ((N.size : Int) < 300) = false := by rw [decide_eq_false_iff_not]; omega
        have hltI : (p : Int) < (S.size : Int) := by omega
        have HE := Ha (HRR.out.trans (rd_full (m := M) (s := s) (p := p) (nx := nx) (by have := HNZ.out; omega)))
        go_wp2_with fail
        go_ret3
        exact ⟨by rw [HE.out]; rfl, HB.out⟩
    · have hltI : decide ((p : Int) < (S.size : Int)) = false := by rw [decide_eq_false_iff_not]; omega
      have HE := Ha (HRR.out.trans (rd_end (m := M) (s := s) (p := p) (nx := nx) (n := labs L) (List.drop_eq_nil_of_le (by have := HSZ.out; omega))))
      go_wp2_with fail
      go_ret3
      exact ⟨by rw [HE.out]; rfl, HB.out⟩
end Go.Proofs.YtmpginmdaeclaaaGreatDoor
set_option maxHeartbeats 32000000
set_option maxRecDepth 20000
namespace Go.Proofs.YtmpginmdaeclaaaGreatDoor
open Go.RowKit
set_option maxRecDepth 20000
theorem labs_take {L : List (List UInt8)} {k : Nat} (h : k < L.length) : labs (L.take (k + 1)) = labs (L.take k) ++ lab L[k] := by
  rw [List.take_succ_eq_append_getElem h, labs_append]; simp [labs]
end Go.Proofs.YtmpginmdaeclaaaGreatDoor
set_option maxHeartbeats 32000000
set_option maxRecDepth 20000
namespace Go.Proofs.YtmpginmdaeclaaaGreatDoor
open Go.RowKit
set_option maxRecDepth 20000
theorem labs_bound (L : List (List UInt8)) (h : ∀ x ∈ L, x.length <= 63) : (labs L).length <= 64 * L.length := by
  induction L with
  | nil => simp [labs]
  | cons x L ih =>
    have h1 := h x (by simp)
    have h2 := ih fun y hy => h y (List.mem_cons_of_mem _ hy)
    simp only [labs, List.length_append, lab_len, List.length_cons]
    omega
theorem byte_str (q g cap : Nat) (W : World) (hq : q < 256) (hc : W.cell? ⟨g, 0, none⟩ = some (.int .u8 (q : Nat))) :
    (convert 115 9 (.slice (some ⟨g, 0, none⟩) 1 cap)).run Tryz.prog W = .ok (.string ⟨#[UInt8.ofNat q]⟩) W := by
  refine run_convert_bytes_back W _ _ 5 ⟨g, 0, none⟩ cap [UInt8.ofNat q] Tryz.underlying115 Tryz.underlying5 Tryz.underlying9 (fun j hj => ?_)
  have hj0 : j = 0 := by simpa using hj
  subst hj0
  rw [show (⟨g, 0, none⟩ : Addr).add 0 = ⟨g, 0, none⟩ from rfl, hc]
  simp only [List.getElem_cons_zero, UInt8.toNat_ofNat']
  rw [Nat.mod_eq_of_lt (by omega)]
def OfRef (L : List (List UInt8)) (k : Nat) (S : ByteArray) : Prop := S = mk (labs (L.take k)) /\ (∀ x ∈ L.take k, x.length <= 63)
theorem OfRef.start (L : List (List UInt8)) : OfRef L 0 ⟨#[]⟩ := ⟨rfl, by simp⟩
theorem OfRef.size {L : List (List UInt8)} {k : Nat} {S : ByteArray} (h : OfRef L k S) : S.size <= 64 * k := by
  rw [h.1, mk_size]
  have := labs_bound _ h.2
  have h2 : (L.take k).length <= k := by simp; omega
  omega
theorem OfRef.step {L : List (List UInt8)} {k : Nat} {S : ByteArray} (h : OfRef L k S) (hk : k < L.length) (hx : L[k].length <= 63) : OfRef L (k + 1) (S ++ (⟨#[UInt8.ofNat L[k].length]⟩ ++ mk L[k])) := by
  refine ⟨?_, fun x hm => ?_⟩
  · rw [h.1]
    show mk _ ++ (mk [UInt8.ofNat L[k].length] ++ mk L[k]) = _
    rw [mk_append, mk_append, labs_take hk]
    rfl
  · rw [List.take_succ_eq_append_getElem hk, List.mem_append, List.mem_singleton] at hm
    rcases hm with hm | hm
    · exact h.2 x hm
    · subst hm; exact hx
end Go.Proofs.YtmpginmdaeclaaaGreatDoor
