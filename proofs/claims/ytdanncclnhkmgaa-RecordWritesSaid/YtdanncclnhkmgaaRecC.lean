/- One, Compare of the program. No statement of the seat is proved here. -/
import Derived.Test.YtdanncclnhkmgaaRecB
namespace Go.Proofs.Ytdanncclnhkmgaa
open Go.RowKit

theorem two_new (w : World) (a b : Array Value) (ta tb : TypeId) :
    Whole ((w.alloc (.cells a ta)).alloc (.cells b tb)) w.heap.size ta a ∧ Whole ((w.alloc (.cells a ta)).alloc (.cells b tb)) (w.heap.size + 1) tb b ∧ Below w.heap.size w ((w.alloc (.cells a ta)).alloc (.cells b tb)) := by
  have h0 := Whole.new w ta a
  have h1 := Whole.new (w.alloc (.cells a ta)) tb b
  simp only [World.size_alloc] at h1
  exact ⟨h0.alloc _, h1, ((Below.refl _ _).alloc (Nat.le_refl _) _).alloc (by simp) _⟩
theorem said_beq (x y : List UInt8) : ((mk x).toList == (mk y).toList) = (x == y) := mk_beq x y

set_option maxHeartbeats 2000000 in
set_option maxRecDepth 20000 in
theorem One_any (N D N' D' : ByteArray) (a b : Rec) (w : World) (hN : N = mk a.n) (hD : D = mk a.d) (hN' : N' = mk b.n) (hD' : D' = mk b.d) (hn : a.n.length ≤ 1073741824) (hn' : b.n.length ≤ 1073741824) (hd : a.d.length ≤ 65535) (hd' : b.d.length ≤ 65535) :
    Calls Try.prog 13 #[.agg (rrA N D a.t a.c a.l), .agg (rrA N' D' b.t b.c b.l)] w fun e w' => e = .returned (.bool (oneR a b)) ∧ Below w.heap.size w w' := by
  obtain ⟨n, t, c, l, d⟩ := a
  obtain ⟨n', t', c', l', d'⟩ := b
  simp only at hN hD hn hd hN' hD' hn' hd' ⊢
  have hok : oneR ⟨n, t, c, l, d⟩ ⟨n', t', c', l', d'⟩ = (t == t' && (c == c' && (alikeN n n' && saidR t d == saidR t' d'))) := rfl
  have HN := Lib.hid hN
  have HD := Lib.hid hD
  have HN' := Lib.hid hN'
  have HD' := Lib.hid hD'
  obtain ⟨W, hW⟩ : ∃ W, W = (w.alloc (.cells #[.string N, .int .i64 t, .int .i64 c, .int .i64 l, .string D] 23)).alloc (.cells #[.string N', .int .i64 t', .int .i64 c', .int .i64 l', .string D'] 23) := ⟨_, rfl⟩
  obtain ⟨h, hh⟩ : ∃ h, h = w.heap.size + 1 := ⟨_, rfl⟩
  obtain ⟨g, hg⟩ : ∃ g, g = w.heap.size := ⟨_, rfl⟩
  obtain ⟨hW0, hW1, hB0⟩ := two_new w (rrA N D t c l) (rrA N' D' t' c' l') rrT rrT
  unfold rrA at hW0 hW1 hB0
  rw [← hW, ← hh] at hW1
  rw [← hW, ← hg] at hW0
  rw [← hW] at hB0
  have HB0 := Lib.hid hB0
  have HWW := Lib.hid hW
  have HG := Lib.hid hg
  have HH := Lib.hid hh
  obtain ⟨d0, d1, d2, d3, d4⟩ := rr_later hW0
  obtain ⟨e0, e1, e2, e3, e4⟩ := rr_later hW1
  obtain ⟨SA, hSA⟩ : ∃ SA, SA = mk (saidR t d) := ⟨_, rfl⟩
  obtain ⟨SB, hSB⟩ : ∃ SB, SB = mk (saidR t' d') := ⟨_, rfl⟩
  have hse : (SA.toList == SB.toList) = (saidR t d == saidR t' d') := by rw [hSA, hSB]; exact said_beq _ _
  have HLA := Lib.hid (show ∀ q : Later W, Calls Try.prog 11 #[.agg #[.string N, .int .i64 t, .int .i64 c, .int .i64 l, .string D]] q.val fun e w'' => e = .returned (.string SA) ∧ ∃ q' : Later W, w'' = q'.val from
    fun q => later_call (by rw [hSA]; exact Said_any N D t c l d _ hD hd))
  have HLB := Lib.hid (show ∀ q : Later W, Calls Try.prog 11 #[.agg #[.string N', .int .i64 t', .int .i64 c', .int .i64 l', .string D']] q.val fun e w'' => e = .returned (.string SB) ∧ ∃ q' : Later W, w'' = q'.val from
    fun q => later_call (by rw [hSB]; exact Said_any N' D' t' c' l' d' _ hD' hd'))
  clear hN hD hN' hD' hW0 hW1 hB0 hW hg hh hSA hSB
  unfold rrA
  cases h1 : (t == t') with
  | false =>
    have HO := Lib.hid (show oneR ⟨n, t, c, l, d⟩ ⟨n', t', c', l', d'⟩ = false by rw [hok, h1]; rfl)
    clear hok
    go_enter Try.func13, Try.ntmps13
    go_wp2_with fail
    rw [← HWW.out, ← HH.out, ← HG.out]
    refine region_later (by kernel_rfl) ?_
    repeat (go_big_quiet_step (fail))
    refine wpQuiet_nil ?_
    rintro _ ⟨q2, rfl⟩
    go_wp2_with fail
    go_ret
    exact ⟨by rw [HO.out]; rfl, HB0.out.trans (q2.below.mono HB0.out.size)⟩
  | true =>
    cases h2 : (c == c') with
    | false =>
      have HO := Lib.hid (show oneR ⟨n, t, c, l, d⟩ ⟨n', t', c', l', d'⟩ = false by rw [hok, h1, h2]; rfl)
      clear hok
      go_enter Try.func13, Try.ntmps13
      go_wp2_with fail
      rw [← HWW.out, ← HH.out, ← HG.out]
      refine region_later (by kernel_rfl) ?_
      repeat (go_big_quiet_step (fail))
      refine wpQuiet_nil ?_
      rintro _ ⟨q2, rfl⟩
      go_wp2_with fail
      go_ret
      exact ⟨by rw [HO.out]; rfl, HB0.out.trans (q2.below.mono HB0.out.size)⟩
    | true =>
      cases h3 : alikeN n n' with
      | false =>
        have HO := Lib.hid (show oneR ⟨n, t, c, l, d⟩ ⟨n', t', c', l', d'⟩ = false by rw [hok, h1, h2, h3]; rfl)
        have H3 := Lib.hid h3
        clear hok h3
        go_enter Try.func13, Try.ntmps13
        go_wp2_with fail
        rw [← HWW.out, ← HH.out, ← HG.out]
        refine region_later (by kernel_rfl) ?_
        repeat (go_big_quiet_step ((go_at_call 34; refine later_call (v := .bool false) ?_; rw [← H3.out]; exact Alike_any N N' n n' _ HN.out HN'.out hn hn')))
        refine wpQuiet_nil ?_
        rintro _ ⟨q2, rfl⟩
        go_wp2_with fail
        go_ret
        exact ⟨by rw [HO.out]; rfl, HB0.out.trans (q2.below.mono HB0.out.size)⟩
      | true =>
        have HO := Lib.hid (show oneR ⟨n, t, c, l, d⟩ ⟨n', t', c', l', d'⟩ = (saidR t d == saidR t' d') by rw [hok, h1, h2, h3]; rfl)
        have H3 := Lib.hid h3
        clear hok h3
        go_enter Try.func13, Try.ntmps13
        go_wp2_with fail
        rw [← HWW.out, ← HH.out, ← HG.out]
        refine region_later (by kernel_rfl) ?_
        repeat (go_big_quiet_step ((first
          | (go_at_call 34; refine later_call (v := .bool true) ?_; rw [← H3.out]; exact Alike_any N N' n n' _ HN.out HN'.out hn hn')
          | (go_at_call 11; with_reducible exact HLA.out _)
          | (go_at_call 11; with_reducible exact HLB.out _))))
        refine wpQuiet_nil ?_
        rintro _ ⟨q2, rfl⟩
        go_wp2_with fail
        go_ret
        exact ⟨by rw [HO.out]; rfl, HB0.out.trans (q2.below.mono HB0.out.size)⟩
end Go.Proofs.Ytdanncclnhkmgaa
