/- MessageAgain. No statement of the seat is proved here. -/
import Derived.Test.YtokjmefleanjaaaGreatMesR
import Derived.Test.YtokjmefleanjaaaGreatMesE
import Derived.Test.YtokjmefleanjaaaGreatMesG
namespace Go.Proofs.YtokjmefleanjaaaGreat
open Go.RowKit Go.Op

theorem q2d_back (l : List Que) : (l.map q2d).map Qrd.toQue = l := by
  induction l with
  | nil => rfl
  | cons q l ih => simp only [List.map_cons, ih]; rfl
theorem r2d_back (l : List Rec) : (l.map r2d).map Rrd.toRec = l := by
  induction l with
  | nil => rfl
  | cons q l ih => simp only [List.map_cons, ih]; rfl
theorem toMes_of {x : Mrd} {m : Mes} (e1 : x.lq = m.q.map q2d) (e2 : x.la = m.an.map r2d) (e3 : x.ln = m.ns.map r2d) (e4 : x.ld = m.ad.map r2d) : x.toMes m.h = m := by
  unfold Mrd.toMes
  rw [e1, e2, e3, e4, q2d_back, r2d_back, r2d_back, r2d_back]
theorem small_of {x : Mrd} {m : Mes} (hok : okM m = true) (e1 : x.lq = m.q.map q2d) (e2 : x.la = m.an.map r2d) (e3 : x.ln = m.ns.map r2d) (e4 : x.ld = m.ad.map r2d) : SmallM x := by
  obtain ⟨_, ha, hn, hd, hq⟩ := okM_is hok
  have R : ∀ l : List Rec, okSec okR l = true → SmallR (l.map r2d) := fun l hl y hy => by
    obtain ⟨r, hr, rfl⟩ := List.mem_map.1 hy
    have hr' := (okSec_is.1 hl).2 r hr
    obtain ⟨_, _, _, _, h5⟩ := ok_parts hr'
    exact ⟨by show (mk r.n).size ≤ _; rw [mk_size]; exact name_room hr', by show (mk r.d).size ≤ _; rw [mk_size]; exact (right_is h5).1⟩
  refine ⟨?_, by rw [e2]; exact R _ ha, by rw [e3]; exact R _ hn, by rw [e4]; exact R _ hd⟩
  rw [e1]
  intro y hy
  obtain ⟨q, hq', rfl⟩ := List.mem_map.1 hy
  obtain ⟨⟨L, hL⟩, _⟩ := okQ_is ((okSec_is.1 hq).2 q hq')
  obtain ⟨he, _, hl⟩ := nameL_is hL
  show (mk q.n).size ≤ _
  rw [mk_size]; omega
theorem counts_of {x : Mrd} {m : Mes} {w : World} {B : Nat} (hok : okM m = true) (hs : SeesM w B x) (e1 : x.lq = m.q.map q2d) (e2 : x.la = m.an.map r2d) (e3 : x.ln = m.ns.map r2d) (e4 : x.ld = m.ad.map r2d) : x.qn ≤ 65535 ∧ x.an ≤ 65535 ∧ x.nn ≤ 65535 ∧ x.dn ≤ 65535 := by
  obtain ⟨_, ha, hn, hd, hq⟩ := okM_is hok
  refine ⟨?_, ?_, ?_, ?_⟩
  · rw [← hs.q.1, e1, List.length_map]; exact (okSec_is.1 hq).1
  · rw [← hs.a.1, e2, List.length_map]; exact (okSec_is.1 ha).1
  · rw [← hs.n.1, e3, List.length_map]; exact (okSec_is.1 hn).1
  · rw [← hs.d.1, e4, List.length_map]; exact (okSec_is.1 hd).1

end Go.Proofs.YtokjmefleanjaaaGreat
