import Derived.Test.YtkmhjkgbcipbmaaGreatSim3
import Derived.Laws.Sem
set_option linter.unusedVariables false
set_option linter.unusedSimpArgs false
namespace Go.Proofs.YtkmhjkgbcipbmaaGreat.Sim
open Go

variable {P : Program} {tn : Tn} {V1 V2 : Value}

/-- What the whole program must be. -/
structure Fine (P : Program) (tn : Tn) (V1 V2 : Value) (g : FuncId) : Prop where
  fns : ∀ f T, tn.lookup f = some T → fnOK P tn (f, T) = true
  steps : ∀ i, P.stepOf i = none
  follows : P.follows .staticDataAhead = true
  cmp : tn.lookup g = some []
  n1 : NoBool V1
  n2 : NoBool V2
  one : ∀ (x y : Value) (w : World), ((do let d ← Deferred.ofValue V1 #[x, y]; invoke d.target d.args) : Sem Next).run P w = .ok (.enter g #[x, y]) w
  two : ∀ (x y : Value) (w : World), ((do let d ← Deferred.ofValue V2 #[x, y]; invoke d.target d.args) : Sem Next).run P w = .ok (.enter g #[x, y]) w

theorem mapM_same {α β : Type} (l : Array α) (f g : α → Sem β) (h : ∀ x ∈ l, f x = g x) : l.mapM f = l.mapM g := by
  rw [Array.mapM_eq_mapM_toList, Array.mapM_eq_mapM_toList]
  congr 1
  have h' : ∀ x ∈ l.toList, f x = g x := fun x hx => h x (by simpa using hx)
  generalize l.toList = k at h'
  induction k with
  | nil => rfl
  | cons y k ih => simp only [List.mapM_cons]; rw [h' y (by simp), ih (fun x hx => h' x (by simp [hx]))]

theorem step_go {fr : Frame} {cs : List Frame} {w : World} {m1 : Machine} {s : GStep} (hs : step P (lone fr cs w) = .next m1)
    (hb : (stepG P true { frame := fr, callers := cs, status := .running, dying := none } w).bare = s.bare) (g : Goroutine) (w1 : World) (hg : s.bare = .go g w1) :
    m1 = { world := w1, gs := #[g], rest := { timers := #[], alone := none, slice := none } } := by
  rw [hg] at hb
  generalize hx : stepG P true { frame := fr, callers := cs, status := .running, dying := none } w = q at hb
  cases q <;> simp at hb
  obtain ⟨rfl, rfl⟩ := hb
  rw [step, stepT, move_lone] at hs
  simp [runT, lone, Array.swapAt!, hx] at hs
  exact hs.symm

theorem step_end {fr : Frame} {cs : List Frame} {w : World} {m1 : Machine} (hs : step P (lone fr cs w) = .next m1) (o : Outcome) (w1 : World)
    (hb : (stepG P true { frame := fr, callers := cs, status := .running, dying := none } w).bare = .ended o w1) : False := by
  rw [step_lone_ended hb] at hs
  cases hs

/-- Both go on to frames that belong together. -/
theorem follows_go {fr fr' fr1 fr1' : Frame} {frs frs' frs1 frs1' cs : List Frame} {w w1 : World} {m1 : Machine} {T1 : List Nat} (hs : step P (lone fr (frs ++ [Last]) w) = .next m1)
    (h1 : (stepG P true { frame := fr, callers := frs ++ [Last], status := .running, dying := none } w).bare = .go { frame := fr1, callers := frs1 ++ [Last], status := .running, dying := none } w1)
    (h2 : (stepG P true { frame := fr', callers := frs' ++ cs, status := .running, dying := none } w).bare = .go { frame := fr1', callers := frs1' ++ cs, status := .running, dying := none } w1)
    (hF : FR P tn V1 V2 fr1 fr1' T1) (hS : SR P tn V1 V2 frs1 frs1') : Follows P tn V1 V2 cs (lone fr' (frs' ++ cs) w) m1 := by
  have e1 := step_lone_go h1
  rw [e1] at hs
  cases hs
  exact .inl ⟨fr1, frs1, fr1', frs1', w1, T1, rfl, step_lone_go h2, hF, hS⟩

/-- A frame that returns. -/
theorem step_ret {g : FuncId} (hP : Fine P tn V1 V2 g) {fr fr' : Frame} {frs frs' cs : List Frame} {w : World} {m1 : Machine} {T : List Nat} (hF : FR P tn V1 V2 fr fr' T) (hS : SR P tn V1 V2 frs frs') (hm : fr.mode = .returning)
    (hs : step P (lone fr (frs ++ [Last]) w) = .next m1) : Follows P tn V1 V2 cs (lone fr' (frs' ++ cs) w) m1 := by
  have hfn := hP.fns _ _ hF.look
  unfold fnOK at hfn
  dsimp only at hfn
  cases hf : P.funcs[fr.fn]? with
  | none => rw [hf] at hfn; simp at hfn
  | some fn =>
    rw [hf] at hfn
    simp only [Bool.and_eq_true] at hfn
    have hres : results fn fr'.tmps = results fn fr.tmps := by
      unfold results
      congr 1
      refine mapM_same _ _ _ (fun x hx => ?_)
      have hx := Array.all_eq_true_iff_forall_mem.1 hfn.1.2 x hx
      cases x with
      | tmp t => simp [resOK] at hx; dsimp only; rw [hF.tm.clean hx]
      | cell t ty => simp [resOK] at hx; dsimp only; rw [hF.tm.clean hx]
    have hm' : fr'.mode = .returning := hF.mode.trans hm
    have hf' : P.funcs[fr'.fn]? = some fn := by rw [hF.fn]; exact hf
    cases hr : (results fn fr.tmps).run P w with
    | halt x w1 =>
      exfalso
      cases x <;> exact step_end hs _ w1 (by simp [stepG, hm, unwind, hF.d, hf, hr]; rfl)
    | ok v w1 =>
      rcases SR.inv hS with ⟨rfl, rfl⟩ | ⟨c, c', T', l, l', rfl, rfl, hc, hw, hl⟩
      · skip
        have e1 : step P (lone fr ([] ++ [Last]) w) = .next (lone (Last.finish v) [] w1) := step_lone_go (by simp [stepG, hm, unwind, hF.d, hf, hr, doReturn, hF.kind])
        rw [e1] at hs
        cases hs
        exact .inr (.inl ⟨_, _, [], rfl, rfl, rfl⟩)
      · skip
        refine follows_go (fr1 := c.finish v) (fr1' := c'.finish v) (frs1 := l) (frs1' := l') (w1 := w1) (T1 := T') hs ?_ ?_ ?_ hl
        · simp [stepG, hm, unwind, hF.d, hf, hr, doReturn, hF.kind]
        · simp [stepG, hm', unwind, hF.d', hf', hres, hr, doReturn, hF.kind']
        · refine finish_rel hc (fun ops i rest k d ht hd => ?_)
          obtain ⟨_, ops2, i2, rest2, k2, ht2, hd2⟩ := hw
          rw [ht] at ht2
          cases ht2
          exact VR.of_clean (hd2 d hd)

/-- A frame that panics. -/
theorem step_pan {g : FuncId} (hP : Fine P tn V1 V2 g) {fr fr' : Frame} {frs frs' cs : List Frame} {w : World} {m1 : Machine} {T : List Nat} {chain : List PanicEntry} (hF : FR P tn V1 V2 fr fr' T) (hS : SR P tn V1 V2 frs frs') (hm : fr.mode = .panicking chain)
    (hs : step P (lone fr (frs ++ [Last]) w) = .next m1) : Follows P tn V1 V2 cs (lone fr' (frs' ++ cs) w) m1 := by
  have hfn := hP.fns _ _ hF.look
  unfold fnOK at hfn
  dsimp only at hfn
  cases hf : P.funcs[fr.fn]? with
  | none => rw [hf] at hfn; simp at hfn
  | some fn =>
    have hm' : fr'.mode = .panicking chain := hF.mode.trans hm
    have hf' : P.funcs[fr'.fn]? = some fn := by rw [hF.fn]; exact hf
    rcases SR.inv hS with ⟨rfl, rfl⟩ | ⟨c, c', T', l, l', rfl, rfl, hc, hw, hl⟩
    · skip
      have e1 : step P (lone fr ([] ++ [Last]) w) = .next (lone (Last.raise chain) [] w) := step_lone_go (by simp [stepG, hm, unwind, hF.d, hf, Frame.catches])
      rw [e1] at hs
      cases hs
      exact .inr (.inl ⟨_, _, chain ++ [], rfl, rfl, rfl⟩)
    · skip
      refine follows_go (fr1 := c.raise chain) (fr1' := c'.raise chain) (frs1 := l) (frs1' := l') (w1 := w) (T1 := T') hs ?_ ?_ (raise_rel hc chain) hl
      · simp [stepG, hm, unwind, hF.d, hf, Frame.catches]
      · simp [stepG, hm', unwind, hF.d', hf', Frame.catches]

end Go.Proofs.YtkmhjkgbcipbmaaGreat.Sim
