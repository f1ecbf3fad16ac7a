import Derived.Test.YtoifcnidhfnapaaGreatSim2
set_option linter.unusedVariables false
set_option linter.unusedSimpArgs false
namespace Go.Proofs.YtoifcnidhfnapaaGreat.Sim
open Go

variable {P : Program} {tn : Tn} {V1 V2 : Value}

theorem writeOn_dead (fr : Frame) (d : Dying) (f : Fatal) (w : World) (hc : d.calling = false) (g : Goroutine) (w' : World)
    (h : (writeOn P fr d f w).bare = .go g w') : g.status = .blocked ∨ ∃ d f, g.status = .running ∧ g.dying = some d ∧ d.calling = false ∧ d.fatal = some f := by
  unfold writeOn at h
  cases hp : f.pieces with
  | nil => simp [hp] at h
  | cons piece rest =>
    simp only [hp] at h
    split at h
    · simp at h; obtain ⟨rfl, _⟩ := h; exact .inr ⟨_, _, rfl, rfl, hc, rfl⟩
    · simp at h; obtain ⟨rfl, _⟩ := h; exact .inl rfl
    · simp at h
    · simp at h

theorem dead_step {m m' : Machine} (h : Dead m) (hs : step P m = .next m') : Dead m' := by
  obtain ⟨⟨fr, cs, st, dy, off⟩, w, rfl, h⟩ := h
  dsimp only at h
  rcases h with (rfl | rfl) | ⟨d, f, rfl, rfl, hc, hf⟩
  · exfalso
    simp [step, stepT, move, ask, askOn, runnable_eq, due, ahead, Goroutine.canRun, List.range_succ, choose, pure, Sem.run, Question.forced] at hs
    generalize endWith w 2 _ _ = q at hs
    cases q <;> simp at hs
  · simp [step, stepT, move, ask, askOn, runnable_eq, due, ahead, Goroutine.canRun, List.range_succ, choose, pure, Sem.run, Question.forced] at hs
    exact ⟨⟨fr, cs, .waiting, dy, off⟩, w, hs.symm, .inl (.inr rfl)⟩
  · have hG : stepG P true { frame := fr, callers := cs, status := .running, dying := some d, offers := off } w = writeOn P fr d f w := by
      obtain ⟨todo, texts, calling, pending, re, hand, fatal⟩ := d
      dsimp only at hc hf
      subst hc hf
      simp [stepG, die]
    rw [show ({ world := w, gs := #[{ frame := fr, callers := cs, status := .running, dying := some d, offers := off }], rest := { timers := #[], alone := none, slice := none } } : Machine) = loneD fr cs d off w from rfl] at hs
    rw [step, stepT, move_loneD] at hs
    generalize hx : writeOn P fr d f w = s at hG
    have hb := writeOn_dead (P := P) fr d f w hc
    rw [hx] at hb
    cases s with
    | go g w2 es =>
      simp [runT, loneD, Array.swapAt!, hG] at hs
      refine ⟨g, w2, hs.symm, ?_⟩
      rcases hb g w2 rfl with h | h
      · exact .inl (.inl h)
      · exact .inr h
    | ended o w2 es => simp [runT, loneD, Array.swapAt!, hG] at hs
    | _ =>
      exfalso
      have : (writeOn P fr d f w).bare = _ := congrArg GStep.bare hx
      unfold writeOn at this
      cases hp : f.pieces with
      | nil => simp [hp] at this
      | cons piece rest => simp only [hp] at this; split at this <;> simp at this

theorem dead_runN {n : Nat} {m m' : Machine} (h : Dead m) (hs : runN P n m = .next m') : Dead m' := by
  induction n generalizing m with
  | zero => simp [runN] at hs; exact hs ▸ h
  | succ n ih =>
    simp only [runN] at hs
    cases hx : step P m with
    | next m2 => rw [hx] at hs; exact ih (dead_step h hx) hs
    | ended o w => rw [hx] at hs; simp at hs

end Go.Proofs.YtoifcnidhfnapaaGreat.Sim
