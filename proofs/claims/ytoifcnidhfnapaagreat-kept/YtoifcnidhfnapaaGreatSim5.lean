import Derived.Test.YtoifcnidhfnapaaGreatSim4
set_option linter.unusedVariables false
set_option linter.unusedSimpArgs false
namespace Go.Proofs.YtoifcnidhfnapaaGreat.Sim
open Go

variable {P : Program} {tn : Tn} {V1 V2 : Value}

theorem eval_clean {fr fr' : Frame} {T : List Nat} (h : FR P tn V1 V2 fr fr' T) {x : Operand} (hx : opdClean T x = true) : fr'.eval x = fr.eval x := by
  cases x with
  | tmp t => simp [opdClean] at hx; simp only [Frame.eval]; exact (h.tm.clean hx).symm
  | const v => rfl
  | global i => rfl
  | func f => rfl

theorem follows_dead {fr fr' : Frame} {frs frs' cs : List Frame} {w w1 : World} {m1 : Machine} {g : Goroutine} (hs : step P (lone fr (frs ++ [Last]) w) = .next m1)
    (h1 : (stepG P true { frame := fr, callers := frs ++ [Last], status := .running, dying := none } w).bare = .go g w1)
    (hg : (g.status = .blocked ∨ g.status = .waiting) ∨ ∃ d f, g.status = .running ∧ g.dying = some d ∧ d.calling = false ∧ d.fatal = some f) : Follows P tn V1 V2 cs (lone fr' (frs' ++ cs) w) m1 := by
  have := step_go (s := .go g w1) hs h1 g w1 rfl
  exact .inr (.inr ⟨g, w1, this, hg⟩)

/-- An operation that stops. -/
theorem step_halt {g : FuncId} (hP : Fine P tn V1 V2 g) {fr fr' : Frame} {frs frs' cs : List Frame} {w w1 : World} {m1 : Machine} {T : List Nat} {s s' : Sem Next} {x : Halt} (hF : FR P tn V1 V2 fr fr' T) (hS : SR P tn V1 V2 frs frs')
    (e1 : stepG P true { frame := fr, callers := frs ++ [Last], status := .running, dying := none } w = stepG.apply P true fr (frs ++ [Last]) none s w)
    (e2 : stepG P true { frame := fr', callers := frs' ++ cs, status := .running, dying := none } w = stepG.apply P true fr' (frs' ++ cs) none s' w)
    (h1 : s.run P w = .halt x w1) (h2 : s'.run P w = .halt x w1)
    (hs : step P (lone fr (frs ++ [Last]) w) = .next m1) : Follows P tn V1 V2 cs (lone fr' (frs' ++ cs) w) m1 := by
  cases x with
  | panic v => exact follows_go hs (by rw [e1]; simp [stepG.apply, h1]; try exact ⟨rfl, rfl⟩) (by rw [e2]; simp [stepG.apply, h2]; try exact ⟨rfl, rfl⟩) (raise_rel hF _) hS
  | goexit => exact follows_go hs (by rw [e1]; simp [stepG.apply, h1]; try exact ⟨rfl, rfl⟩) (by rw [e2]; simp [stepG.apply, h2]; try exact ⟨rfl, rfl⟩) (raise_rel hF _) hS
  | blocked => exact follows_dead hs (by rw [e1]; simp [stepG.apply, h1]; try exact ⟨rfl, rfl⟩) (.inl (.inl rfl))
  | waiting => exact follows_dead hs (by rw [e1]; simp [stepG.apply, h1]; try exact ⟨rfl, rfl⟩) (.inl (.inr rfl))
  | exit c => exact (step_end hs _ _ (by rw [e1]; simp [stepG.apply, h1]; try exact ⟨rfl, rfl⟩)).elim
  | throw m => exact follows_dead hs (by rw [e1]; simp [stepG.apply, h1, endThrow, dieOf]; try exact ⟨rfl, rfl⟩) (.inr ⟨_, _, rfl, rfl, rfl, rfl⟩)
  | stuck m => exact (step_end hs _ _ (by rw [e1]; simp [stepG.apply, h1]; try exact ⟨rfl, rfl⟩)).elim
  | unsupported u =>
    cases u with
    | initOrder i => exact (step_end hs _ _ (by rw [e1]; simp [stepG.apply, h1, early, hP.follows, hP.steps]; try exact ⟨rfl, rfl⟩)).elim
    | _ => exact (step_end hs _ _ (by rw [e1]; simp [stepG.apply, h1]; try exact ⟨rfl, rfl⟩)).elim
  | fatal m =>
    have hb : (stepG P true { frame := fr, callers := frs ++ [Last], status := .running, dying := none } w).bare = (endFatal P fr (frs ++ [Last]) none m w1).bare := by rw [e1]; simp [stepG.apply, h1]
    unfold endFatal at hb
    dsimp only at hb
    split at hb
    · exact follows_dead hs (hb.trans (by simp [dieOf]; try exact ⟨rfl, rfl⟩)) (.inr ⟨_, _, rfl, rfl, rfl, rfl⟩)
    · exact (step_end hs _ _ hb).elim
    · exact (step_end hs _ _ hb).elim

end Go.Proofs.YtoifcnidhfnapaaGreat.Sim
