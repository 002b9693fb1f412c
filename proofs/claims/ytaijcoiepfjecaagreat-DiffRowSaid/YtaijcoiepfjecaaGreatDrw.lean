/- No step of the machine takes a draw back: the count of draws never falls. So a callee of which it is known what it leaves of the heap leaves that world after some draws, with some blocks behind it. No statement of the seat is proved here. -/
import Derived.StepT
import Derived.Calls
import Derived.Lib.QuietBelow
namespace Go.Proofs.YtaijcoiepfjecaaGreat
open Go Go.RowKit

def resW {α : Type} : Result α → World
  | .ok _ w => w
  | .halt _ w => w
theorem ask_up {α : Type} : ∀ (a : Ask α) (w : World), w.drawn ≤ (w.ask a).2.drawn
  | .done a, w => Nat.le_refl _
  | .ask what range k, w => by
    unfold World.ask
    simp only
    split
    · exact ask_up (k 0) w
    · exact Nat.le_trans (Nat.le_succ _) (ask_up _ { w with drawn := w.drawn + 1 })
theorem sys_up (w : World) (c : Sys) : w.drawn ≤ (w.sys c).2.drawn := by
  have h := ask_up (Kernel.perform c w.os) w
  unfold World.sys
  split
  · exact Nat.le_refl _
  · rename_i heq
    rw [heq] at h
    exact h
theorem view_up {p : Program} {w w' : World} {b : Addr} {u : TypeId} {k : Addr} {v : Value} {at_ : Bool} {l : List Addr} (h : w.viewStore p b u k v at_ = .ok (w', l)) : w'.drawn = w.drawn := by
  unfold World.viewStore at h
  simp only [bind, Except.bind, pure, Except.pure] at h
  repeat' (split at h)
  all_goals first | (cases h; done) | (injection h with h; injection h with h _; rw [← h]) | skip
theorem far_up {p : Program} {w w' : World} {a : Addr} {v : Value} {b : Bool} {l : List Addr} (h : w.farStore p a v b = .ok (w', l)) : w'.drawn = w.drawn := by
  unfold World.farStore at h
  split at h
  · split at h
    · rename_i heq
      injection h with h
      rw [h] at heq
      exact view_up heq
    · cases h
  · cases h
theorem freeze_up (w : World) (a : Addr) (n : Nat) : (w.freeze a n).drawn = w.drawn := by
  unfold World.freeze
  split <;> rfl
theorem run_up {α : Type} (p : Program) (s : Sem α) : ∀ w : World, w.drawn ≤ (resW (s.run p w)).drawn := by
  induction s with
  | pure a => intro w; exact Nat.le_refl _
  | load m a k ih =>
    intro w
    simp only [Sem.run]
    split
    · exact ih _ w
    · split
      · exact ih _ w
      · exact Nat.le_refl _
  | store m a v k ih =>
    intro w
    have h : w.drawn ≤ (resW (match w.cell? a with
      | some _ => if w.frozen? a then (Result.halt (.unsupported (.unsafePointer "a write to bytes that a string shares")) w : Result α) else k.run p (w.setCell a v)
      | none => match w.farStore p a v (m == .atomic) with
        | .ok (w, _) => k.run p w
        | .error h => .halt h w)).drawn := by
      split
      · split
        · exact Nat.le_refl _
        · exact Nat.le_trans (Nat.le_of_eq (by simp)) (ih _)
      · split
        · rename_i w' l heq
          exact Nat.le_trans (Nat.le_of_eq (far_up heq).symm) (ih _)
        · exact Nat.le_refl _
    cases v <;> first | exact Nat.le_refl _ | exact h
  | new o k ih => intro w; exact ih _ { w with heap := w.heap.push o }
  | shape r k ih => intro w; exact ih _ w
  | freeze a n k ih => intro w; exact Nat.le_trans (Nat.le_of_eq (freeze_up w a n).symm) (ih _)
  | frozen a k ih => intro w; exact ih _ w
  | getObj r k ih =>
    intro w
    simp only [Sem.run]
    split
    · exact Nat.le_refl _
    · exact ih _ w
    · exact Nat.le_refl _
  | setObj r o k ih =>
    intro w
    simp only [Sem.run]
    split
    · exact Nat.le_refl _
    · exact ih { w with heap := w.heap.setIfInBounds r o }
    · exact Nat.le_refl _
  | choose q k ih =>
    intro w
    simp only [Sem.run]
    split
    · exact ih _ w
    · exact Nat.le_trans (Nat.le_succ _) (ih _ { w with drawn := w.drawn + 1 })
  | sys c k ih => intro w; exact Nat.le_trans (sys_up w c) (ih _ _)
  | program k ih => intro w; exact ih _ w
  | mark m k ih => intro w; exact ih w
  | halt h => intro w; exact Nat.le_refl _
theorem run_ok {α : Type} {p : Program} {s : Sem α} {w w' : World} {a : α} (h : s.run p w = .ok a w') : w.drawn ≤ w'.drawn := by
  have := run_up p s w
  rw [h] at this
  exact this
theorem run_halt {α : Type} {p : Program} {s : Sem α} {w w' : World} {a : Halt} (h : s.run p w = .halt a w') : w.drawn ≤ w'.drawn := by
  have := run_up p s w
  rw [h] at this
  exact this

/-! ### a goroutine's step -/
def gW : GStep → World
  | .go _ w _ => w
  | .comm _ _ _ _ w _ => w
  | .spawn _ _ w _ => w
  | .count _ w _ => w
  | .timer _ _ w _ => w
  | .alone _ _ w _ => w
  | .newcoro _ _ _ w _ => w
  | .coroswitch _ _ _ w _ => w
  | .collect _ w _ => w
  | .watch _ w _ => w
  | .ended _ w _ => w
theorem up_ite {c : Prop} [Decidable c] {a b : GStep} {u : Nat} (ha : u ≤ (gW a).drawn) (hb : u ≤ (gW b).drawn) : u ≤ (gW (if c then a else b)).drawn := by
  split <;> assumption
theorem up_elim {β : Type} {o : Option β} {a : GStep} {f : β → GStep} {u : Nat} (ha : u ≤ (gW a).drawn) (hf : ∀ x, u ≤ (gW (f x)).drawn) : u ≤ (gW (o.elim a f)).drawn := by
  cases o with
  | none => exact ha
  | some x => exact hf x
theorem gW_after (es : Array Event) (s : GStep) : gW (GStep.after es s) = gW s := by cases s <;> rfl
theorem doReturn_up (p : Program) (main : Bool) (fr : Frame) (cs : List Frame) (dy : Option Dying) (v : Value) (w : World) : w.drawn ≤ (gW (doReturn p main fr cs dy v w)).drawn := by
  unfold doReturn
  repeat' split
  all_goals exact Nat.le_refl _
theorem endWith_up (w : World) (fd : Nat) (text : ByteArray) (o : Outcome) : w.drawn ≤ (gW (endWith w fd text o)).drawn := by
  have h := sys_up w (.write fd text)
  unfold endWith
  simp only
  split
  · rename_i heq
    rw [heq] at h
    split <;> exact h
  · rename_i heq
    rw [heq] at h
    exact h
  · rename_i heq
    rw [heq] at h
    exact h
theorem endThrow_up (fr : Frame) (m : String) (w : World) : w.drawn ≤ (gW (endThrow fr m w)).drawn := Nat.le_refl _
theorem endThrow_go {fr : Frame} {m : String} {w w' : World} {g : Goroutine} {es : Array Event} (h : endThrow fr m w = .go g w' es) : w.drawn ≤ w'.drawn := by
  have k := endThrow_up fr m w
  rw [h] at k
  exact k
theorem endWith_is (w : World) (fd : Nat) (text : ByteArray) (o : Outcome) : ∃ o' w' es, endWith w fd text o = .ended o' w' es := by
  unfold endWith
  simp only
  split
  · split <;> exact ⟨_, _, _, rfl⟩
  · exact ⟨_, _, _, rfl⟩
  · exact ⟨_, _, _, rfl⟩
theorem endWith_ended {w w' : World} {fd : Nat} {text : ByteArray} {o o' : Outcome} {es : Array Event} (h : endWith w fd text o = .ended o' w' es) : w.drawn ≤ w'.drawn := by
  have k := endWith_up w fd text o
  rw [h] at k
  exact k
theorem endPrinting_up (p : Program) (fr : Frame) (v : Value) (w : World) : w.drawn ≤ (gW (endPrinting p fr v w)).drawn := by
  unfold endPrinting
  simp only
  split
  · exact endThrow_up _ _ _
  · exact Nat.le_refl _
theorem endFatal_up (p : Program) (fr : Frame) (cs : List Frame) (dy : Option Dying) (m : String) (w : World) : w.drawn ≤ (gW (endFatal p fr cs dy m w)).drawn := by
  unfold endFatal
  simp only
  split
  · rename_i heq; exact run_ok heq
  · rename_i heq; exact run_halt heq
  · rename_i heq; exact run_halt heq
theorem writeOn_up (p : Program) (fr : Frame) (d : Dying) (f : Fatal) (w : World) : w.drawn ≤ (gW (writeOn p fr d f w)).drawn := by
  unfold writeOn
  simp only [Sem.runT_eq]
  split
  · exact Nat.le_refl _
  · split
    all_goals (rename_i heq; injection heq with heq _; first | exact run_ok heq | exact run_halt heq)
theorem die_up (p : Program) (fr : Frame) (d : Dying) (w : World) : w.drawn ≤ (gW (die p fr d w)).drawn := by
  unfold die
  simp only [Sem.runT_eq]
  split
  · exact writeOn_up _ _ _ _ _
  · split
    · split
      · exact Nat.le_refl _
      · exact endWith_up _ _ _ _
    · split
      · exact Nat.le_refl _
      · split
        · rename_i heq; exact run_ok heq
        · rename_i heq; exact run_halt heq
      · rw [gW_after]
        split
        · rename_i heq; exact run_ok heq
        · rename_i heq; exact run_ok heq
        · rename_i heq; exact run_halt heq
        · rename_i heq; exact Nat.le_trans (run_halt heq) (endPrinting_up _ _ _ _)
        · exact Nat.le_refl _
      · exact Nat.le_refl _
theorem callDeferred_up (p : Program) (fr : Frame) (cs : List Frame) (dy : Option Dying) (d : Deferred) (w : World) : w.drawn ≤ (gW (callDeferred p fr cs dy d w)).drawn := by
  unfold callDeferred
  simp only [Sem.runT_eq]
  refine up_ite (Nat.le_refl _) ?_
  · rw [gW_after]
    split
    all_goals first
      | (rename_i heq; exact run_ok heq)
      | (rename_i heq; exact run_halt heq)
      | (rename_i heq; exact Nat.le_trans (run_halt heq) (endFatal_up _ _ _ _ _ _))
      | (rename_i heq; split <;> exact run_ok heq)
theorem unwind_up (p : Program) (main : Bool) (fr : Frame) (cs : List Frame) (dy : Option Dying) (w : World) : w.drawn ≤ (gW (unwind p main fr cs dy w)).drawn := by
  unfold unwind
  simp only [Sem.runT_eq]
  split
  · rw [gW_after]
    split
    · rename_i heq; exact run_ok heq
    · rename_i heq; exact run_halt heq
  · exact callDeferred_up _ _ _ _ _ _
  · split
    · exact Nat.le_refl _
    · split
      · exact Nat.le_refl _
      · split
        · exact Nat.le_refl _
        · split
          · split
            · exact Nat.le_refl _
            · split
              · rename_i heq; exact run_ok heq
              · rename_i heq; exact run_halt heq
              · rename_i heq; exact run_halt heq
          · split
            · exact endPrinting_up _ _ _ _
            · exact Nat.le_refl _
    · split
      · exact doReturn_up _ _ _ _ _ _ _
      · rw [gW_after]
        split
        · rename_i heq; exact Nat.le_trans (run_ok heq) (doReturn_up _ _ _ _ _ _ _)
        · rename_i heq; exact run_halt heq
        · rename_i heq; exact run_halt heq
theorem early_up (p : Program) (fr : Frame) (cs : List Frame) (dy : Option Dying) (g : Nat) (w : World) : w.drawn ≤ (gW (early p fr cs dy g w)).drawn := by
  unfold early
  simp only
  repeat' split
  all_goals first
    | exact Nat.le_refl _
    | (have h := run_ok ‹Sem.run p (choose (Question.early g)) w = Result.ok _ _›; exact h)
    | (have h := run_halt ‹Sem.run p (choose (Question.early g)) w = Result.halt _ _›; exact h)
theorem apply_up (p : Program) (fr : Frame) (cs : List Frame) (dy : Option Dying) (s : Sem Next) (w : World) (listen : Bool) : w.drawn ≤ (gW (stepG.apply p listen fr cs dy s w)).drawn := by
  cases listen
  all_goals (
    unfold stepG.apply
    simp only [Sem.runT_eq, if_true, Bool.false_eq_true, if_false]
    rw [gW_after]
    split
    all_goals first
      | (rename_i heq; exact run_ok heq)
      | (rename_i heq; exact run_halt heq)
      | (rename_i heq; exact Nat.le_trans (run_halt heq) (endFatal_up _ _ _ _ _ _))
      | (rename_i heq; exact Nat.le_trans (run_halt heq) (early_up _ _ _ _ _ _))
      | (rename_i heq; have h := run_ok heq; clear heq; split <;> first | exact h | (split <;> exact h)))
theorem oper_up (p : Program) (fr : Frame) (cs : List Frame) (dy : Option Dying) (w : World) (listen : Bool) : w.drawn ≤ (gW (stepG.oper p listen fr cs dy w)).drawn := by
  unfold stepG.oper
  split
  · exact Nat.le_refl _
  · split <;> exact apply_up _ _ _ _ _ _ _
theorem exec_up (p : Program) (main : Bool) (fr : Frame) (cs : List Frame) (dy : Option Dying) (w : World) (listen : Bool) : w.drawn ≤ (gW (stepG.exec p main listen fr cs dy w)).drawn := by
  unfold stepG.exec
  simp only [Sem.runT_eq]
  repeat' split
  all_goals first
    | exact Nat.le_refl _
    | exact apply_up _ _ _ _ _ _ _
    | exact oper_up _ _ _ _ _ _
    | (rename_i heq; rw [gW_after]; exact Nat.le_trans (run_ok heq) (doReturn_up _ _ _ _ _ _ _))
    | (rename_i heq; rw [gW_after]; exact Nat.le_trans (run_ok heq) (apply_up _ _ _ _ _ _ _))
    | (rename_i heq; rw [gW_after]; exact run_halt heq)
    | (rename_i heq; rw [gW_after]; exact run_ok heq)
    | (rename_i heq; exact run_ok heq)
    | (rename_i heq; exact run_halt heq)
    | exact up_elim (Nat.le_refl _) fun _ => Nat.le_refl _
    | (rename_i heq; refine up_elim ?_ fun _ => Nat.le_refl _; rw [gW_after]; first | exact Nat.le_trans (run_ok heq) (doReturn_up _ _ _ _ _ _ _) | exact run_halt heq)
    | exact up_elim (Nat.le_refl _) fun _ => apply_up _ _ _ _ _ _ _
theorem stepG_up (p : Program) (main : Bool) (g : Goroutine) (w : World) (listen : Bool) : w.drawn ≤ (gW (stepG p main g w listen)).drawn := by
  unfold stepG
  simp only
  split
  · exact die_up _ _ _ _
  · exact exec_up _ _ _ _ _ _ _
  · exact unwind_up _ _ _ _ _ _

/-! ### the machine's step -/
def sW : Stepped → World
  | .next m => m.world
  | .ended _ w => w
theorem waitingAt_up {rest : Rest} {cases_ : Array CommCase} {w w' : World} (h : waitingAt rest cases_ w = some w') : w'.drawn = w.drawn := by
  unfold waitingAt at h
  split at h
  · split at h
    · injection h with h; rw [← h]
    · cases h
  · injection h with h; rw [h]
theorem comm_up (p : Program) (rest : Rest) (gs : Array Goroutine) (i : Nat) (g : Goroutine) (cs : Array CommCase) (b : Bool) (sh : CommShape) (w : World) : w.drawn ≤ (sW (communicate p rest gs i g cs b sh w).1).drawn := by
  unfold communicate
  simp only
  split
  · exact Nat.le_refl _
  · split
    · split
      · split
        · rename_i heq; exact Nat.le_of_eq (waitingAt_up heq).symm
        · exact Nat.le_refl _
      · exact Nat.le_refl _
    · split
      · rename_i heq; exact run_halt heq
      · rename_i heq
        have h := run_ok heq
        clear heq
        repeat' split
        all_goals first
          | exact h
          | (rename_i heq; exact Nat.le_trans h (run_halt heq))
          | (have k := run_ok ‹Sem.run p (choose (Question.extern "which waiting goroutine is the partner" _)) _ = Result.ok _ _›; exact Nat.le_trans h k)
          | (have k := run_halt ‹Sem.run p (choose (Question.extern "which waiting goroutine is the partner" _)) _ = Result.halt _ _›; exact Nat.le_trans h k)
theorem look_up (p : Program) (gs : Array Goroutine) (rest : Rest) (w : World) : w.drawn ≤ (sW (look p gs rest w)).drawn := by
  unfold look
  simp only
  split
  · split
    · exact Nat.le_refl _
    · split
      · exact Nat.le_refl _
      · split
        · rename_i heq; have k := run_ok heq; exact k
        · rename_i heq; have k := run_halt heq; exact k
        · rename_i heq; have k := run_halt heq; exact k
  · exact Nat.le_refl _
theorem drain_up (w : World) (c : Nat) : (drain w c).2.drawn = w.drawn := by
  unfold drain
  split <;> rfl
theorem retime_up (m : Machine) (k : Nat) (t : Timer) (a b : Nat) : (retime m k t a b).2.world.drawn = m.world.drawn := by
  unfold retime
  simp only
  split
  · exact drain_up _ _
  · rfl
theorem opened_up {m m' : Machine} {v : Addr} (h : timerOp.opened m v = some m') : m'.world.drawn = m.world.drawn := by
  unfold timerOp.opened at h
  split at h
  · split at h
    · injection h with h; rw [← h]
    · cases h
  · injection h with h; rw [h]
theorem named_up {m0 m m' : Machine} {a : Addr} {f : Nat → Timer → Value × Machine} {v : Value} (h : timerOp.named m a f = .ok (v, m')) (hf : ∀ k t, (f k t).2.world.drawn = m0.world.drawn) : m'.world.drawn = m0.world.drawn := by
  unfold timerOp.named at h
  split at h
  · injection h with h
    have e := congrArg (fun x : Value × Machine => x.2) h
    simp only at e
    rw [← e]
    exact hf _ _
  · cases h
theorem timer_up {m m' : Machine} {op : TimerOp} {v : Value} (h : timerOp m op = .ok (v, m')) : m'.world.drawn = m.world.drawn := by
  unfold timerOp at h
  split at h
  · split at h
    · injection h with h; injection h with _ h; rw [← h]; rfl
    · split at h
      · split at h
        · cases h
        · injection h with h; injection h with _ h; rw [← h]
      · cases h
  · exact named_up h fun k t => retime_up _ _ _ _ _
  · split at h
    · rename_i heq
      exact named_up h fun k t => (retime_up _ _ _ _ _).trans (opened_up heq)
    · cases h
  · injection h with h; injection h with _ h; rw [← h]; rfl
theorem serve_up (p : Program) (m : Machine) (k : Nat) : m.world.drawn ≤ (sW (serve p m k)).drawn := by
  unfold serve
  simp only
  repeat' split
  all_goals exact Nat.le_refl _
theorem runT_up (p : Program) (m : Machine) (i : Nat) (listen : Bool) : m.world.drawn ≤ (sW (runT p m i listen).1).drawn := by
  have h := fun g => stepG_up p (i == 0) g m.world listen
  unfold runT
  simp only
  generalize (m.gs.swapAt! i { (default : Goroutine) with status := .finished }) = gg
  obtain ⟨g, gs⟩ := gg
  have hg := h g
  clear h
  simp only at hg ⊢
  generalize stepG p (i == 0) g m.world listen = s at hg ⊢
  cases s with
  | ended o w es => exact hg
  | comm g cs b sh w es => exact Nat.le_trans hg (comm_up _ _ _ _ _ _ _ _ _)
  | go g w es => exact hg
  | spawn g c w es => exact hg
  | count g w es => simp only; split <;> exact hg
  | alone g on w es => exact hg
  | collect g w es => exact Nat.le_trans hg (look_up _ _ _ _)
  | watch g w es => exact hg
  | newcoro g c d w es => exact hg
  | coroswitch g c ex w es =>
    simp only
    split
    · exact hg
    · split
      · rename_i heq
        exact Nat.le_trans hg (endThrow_go heq)
      · exact hg
    · exact hg
  | timer g op w es =>
    simp only
    split
    · rename_i heq
      exact Nat.le_trans hg (Nat.le_of_eq (timer_up heq).symm)
    · split
      · rename_i heq
        exact Nat.le_trans hg (endThrow_go heq)
      · exact hg
    · exact hg
    · exact hg
def mW : Move → World
  | .goroutine m _ => m.world
  | .machine s _ => sW s
theorem pick_up (p : Program) (m : Machine) (rs : List Nat) : m.world.drawn ≤ (mW (match (choose (.sched rs.length)).run p m.world with
      | .halt _ w => .machine (.ended (.stuck "sched" "") w)
      | .ok k world =>
        if rs.length ≤ 1 then .goroutine { m with world } (rs.getD k 0) else
        match (choose (.extern "sched.slice" 65536)).run p world with
        | .halt _ w => .machine (.ended (.stuck "sched.slice" "") w)
        | .ok n world => .goroutine { m with world, rest := { m.rest with slice := if n = 0 then none else some (rs.getD k 0, n) } } (rs.getD k 0))).drawn := by
  split
  · rename_i heq; have k := run_halt heq; exact k
  · rename_i heq
    have k := run_ok heq
    split
    · exact k
    · split
      · rename_i heq2; have k2 := run_halt heq2; exact Nat.le_trans k k2
      · rename_i heq2; have k2 := run_ok heq2; exact Nat.le_trans k k2
theorem askOn_up (p : Program) (m : Machine) : m.world.drawn ≤ (mW (askOn p m)).drawn := by
  unfold askOn
  simp only
  split
  · rename_i heq; have k := run_halt heq; exact k
  · rename_i k0 w0 heq
    have h0 := run_ok heq
    clear heq
    split
    · exact Nat.le_trans h0 (serve_up p { m with world := w0 } _)
    · split
      · split
        · exact h0
        · split
          · exact h0
          · split
            · rename_i heq
              exact Nat.le_trans h0 (endWith_ended heq)
            · rename_i hne
              obtain ⟨o', w', es, he⟩ := endWith_is w0 2 _ _
              exact absurd he (hne o' w' es)
      · split
        · exact Nat.le_trans h0 (pick_up p { m with world := w0 } _)
        · split
          · rename_i heq; have k := run_halt heq; exact Nat.le_trans h0 k
          · rename_i heq; have k := run_ok heq; exact Nat.le_trans (Nat.le_trans h0 k) (pick_up p { m with world := _ } _)
          · rename_i heq; have k := run_ok heq; exact Nat.le_trans h0 k
          · rename_i heq; have k := run_ok heq; exact Nat.le_trans (Nat.le_trans h0 k) (pick_up p (Machine.advanceTo { m with world := _ } _) _)
theorem ask_up' (p : Program) (m : Machine) : m.world.drawn ≤ (mW (ask p m)).drawn := by
  unfold ask
  split
  · split
    · rename_i heq; exact run_halt heq
    · rename_i heq
      have h := Nat.le_trans (run_ok heq) (look_up p m.gs m.rest _)
      split
      · rename_i heq2
        rw [heq2] at h
        exact Nat.le_trans h (askOn_up _ _)
      · exact h
    · rename_i heq
      exact Nat.le_trans (run_ok heq) (askOn_up p { m with world := _ })
  · exact askOn_up _ _
theorem move_up (p : Program) (m : Machine) : m.world.drawn ≤ (mW (move p m)).drawn := by
  have ha : ∀ r, m.world.drawn ≤ (mW (ask p { m with rest := r })).drawn := fun r => ask_up' p { m with rest := r }
  unfold move
  repeat' split
  all_goals first
    | exact Nat.le_refl _
    | exact ask_up' p m
    | exact ha _
theorem step_up {p : Program} {m m' : Machine} (h : step p m = .next m') : m.world.drawn ≤ m'.world.drawn := by
  have h1 := move_up p m
  unfold step stepT at h
  split at h
  · rename_i m1 i1 heq
    rw [heq] at h1
    have h2 := runT_up p m1 i1 true
    rw [h] at h2
    exact Nat.le_trans h1 h2
  · rename_i heq
    rw [heq] at h1
    simp only at h
    subst h
    exact h1
theorem runN_up {p : Program} : ∀ (n : Nat) {m m' : Machine}, runN p n m = .next m' → m.world.drawn ≤ m'.world.drawn
  | 0, m, m', h => by injection h with h; rw [h]; exact Nat.le_refl _
  | n + 1, m, m', h => by
    unfold runN at h
    split at h
    · rename_i heq; exact Nat.le_trans (step_up heq) (runN_up n h)
    · rename_i hne
      exact absurd h (hne m')
theorem Steps.up {p : Program} {m m' : Machine} (h : Steps p m m') : m.world.drawn ≤ m'.world.drawn := by
  obtain ⟨n, h⟩ := h
  exact runN_up n h
/-- what a callee leaves, and that it took no draw back -/
theorem Calls.up {P : Program} {f : FuncId} {args : Array Value} {w : World} {v : Value} {R : Ending → World → Prop} (h : Calls P f args w fun e w' => e = .returned v ∧ R e w') :
    Calls P f args w fun e w' => e = .returned v ∧ R e w' ∧ w.drawn ≤ w'.drawn := by
  intro cs
  obtain ⟨e, w', fr, ⟨he, hr⟩, hc, hf, hl⟩ := h cs
  subst he
  exact ⟨_, w', fr, ⟨rfl, hr, Steps.up hc⟩, hc, hf, hl⟩
theorem Calls.grows {P : Program} {f : FuncId} {args : Array Value} {w : World} {v : Value} (h : Calls P f args w fun e w' => e = .returned v ∧ Below w.heap.size w w') :
    Calls P f args w fun e w' => e = .returned v ∧ ∃ q os, w' = Go.Sort.grow (w.drewN q) os := by
  refine (Calls.up (R := fun _ w' => Below w.heap.size w w') h).mono ?_
  rintro e w' ⟨he, hb, hd⟩
  refine ⟨he, w'.drawn - w.drawn, ?_⟩
  obtain ⟨⟨d, os⟩, hp⟩ := regrown_of_below hb
  refine ⟨os, ?_⟩
  have hdd : w'.drawn = d := by rw [hp]; rfl
  rw [hp] at hd ⊢
  have e : (Go.Sort.grow (redrawn w d) os).drawn = d := rfl
  rw [e] at hd ⊢
  have e2 : w.drewN (d - w.drawn) = redrawn w d := by
    unfold World.drewN redrawn
    rw [show w.drawn + (d - w.drawn) = d by omega]
  rw [e2]
end Go.Proofs.YtaijcoiepfjecaaGreat
