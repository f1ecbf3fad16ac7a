import Derived.Test.YtkmhjkgbcipbmaaGreatSim1
import Derived.DyingRun
set_option linter.unusedVariables false
set_option linter.unusedSimpArgs false
namespace Go.Proofs.YtkmhjkgbcipbmaaGreat.Sim
open Go

variable {P : Program} {tn : Tn} {V1 V2 : Value}

/-- Two frames of one function: the same but for the turned slots. -/
structure FR (P : Program) (tn : Tn) (V1 V2 : Value) (fr fr' : Frame) (T : List Nat) : Prop where
  fn : fr'.fn = fr.fn
  look : tn.lookup fr.fn = some T
  tm : TRel V1 V2 T fr.tmps fr'.tmps
  todo : fr'.todo = fr.todo
  ok : ∀ x ∈ fr.todo, itemOK tn T x = true
  d : fr.defers = []
  d' : fr'.defers = []
  mode : fr'.mode = fr.mode
  kind : fr.kind = .normal
  kind' : fr'.kind = .normal
  rnd : fr.roundOf = none
  rnd' : fr'.roundOf = none

/-- A frame that waits for a call: what the call gives goes into a slot that is not turned. -/
def Waits (fr : Frame) (T : List Nat) : Prop := fr.mode = .run ∧ ∃ ops i rest k, fr.todo = .inRegion ops (i :: rest) :: k ∧ ∀ d, (ops[i]?).bind (·.dst) = some d → d ∉ T

def SR (P : Program) (tn : Tn) (V1 V2 : Value) : List Frame → List Frame → Prop
  | [], [] => True
  | fr :: l, fr' :: l' => (∃ T, FR P tn V1 V2 fr fr' T ∧ Waits fr T) ∧ SR P tn V1 V2 l l'
  | [], _ :: _ => False
  | _ :: _, [] => False
theorem SR.nil {P : Program} {tn : Tn} {V1 V2 : Value} : SR P tn V1 V2 [] [] := trivial
theorem SR.cons {P : Program} {tn : Tn} {V1 V2 : Value} {fr fr' : Frame} {T : List Nat} {l l' : List Frame} (h1 : FR P tn V1 V2 fr fr' T) (h2 : Waits fr T) (h3 : SR P tn V1 V2 l l') : SR P tn V1 V2 (fr :: l) (fr' :: l') := ⟨⟨T, h1, h2⟩, h3⟩
theorem SR.inv {P : Program} {tn : Tn} {V1 V2 : Value} {fs fs' : List Frame} (h : SR P tn V1 V2 fs fs') : (fs = [] ∧ fs' = []) ∨ ∃ fr fr' T l l', fs = fr :: l ∧ fs' = fr' :: l' ∧ FR P tn V1 V2 fr fr' T ∧ Waits fr T ∧ SR P tn V1 V2 l l' := by
  cases fs with
  | nil =>
    cases fs' with
    | nil => exact .inl ⟨rfl, rfl⟩
    | cons _ _ => exact h.elim
  | cons fr l =>
    cases fs' with
    | nil => exact h.elim
    | cons fr' l' =>
      obtain ⟨⟨T, h1, h2⟩, h3⟩ := h
      exact .inr ⟨fr, fr', T, l, l', rfl, rfl, h1, h2, h3⟩

/-- The last caller: whatever comes back to it, the run ends. -/
def Last : Frame := { fn := 0, tmps := #[], todo := [], defers := [{ target := .nil, args := #[] }], mode := .panicking [], kind := .normal, roundOf := none }

def Gone (m : Machine) : Prop := ∃ fr w chain, m = lone fr [] w ∧ fr.mode = .panicking chain ∧ fr.defers = [{ target := .nil, args := #[] }]

theorem gone_step {m m' : Machine} (h : Gone m) : step P m ≠ .next m' := by
  obtain ⟨fr, w, chain, rfl, hm, hd⟩ := h
  intro hs
  have : ∃ o, step P (lone fr [] w) = .ended o w := by
    exact ⟨.unsupported (.noEntry "machine/Return: a deferred call of a nil function value, made while the frame is unwinding") (({ fr with defers := [] } : Frame).pos P), step_lone_ended (by simp [stepG, hm, unwind, hd, callDeferred])⟩
  obtain ⟨o, ho⟩ := this
  rw [ho] at hs
  cases hs

/-- A machine that comes to nothing: it sleeps, or it tells why it dies. -/
def Dead (m : Machine) : Prop := ∃ g w, m = { world := w, gs := #[g], rest := { timers := #[], alone := none, slice := none } } ∧
  ((g.status = .blocked ∨ g.status = .waiting) ∨ ∃ d f, g.status = .running ∧ g.dying = some d ∧ d.calling = false ∧ d.fatal = some f)

theorem dead_not_lone {m : Machine} (h : Dead m) (fr : Frame) (cs : List Frame) (w : World) : m ≠ lone fr cs w := by
  obtain ⟨g, w2, rfl, h⟩ := h
  intro e
  simp [lone] at e
  obtain ⟨_, rfl⟩ := e
  rcases h with (h | h) | ⟨d, f, _, h, _⟩ <;> simp at h

theorem finish_rel {fr fr' : Frame} {T : List Nat} (h : FR P tn V1 V2 fr fr' T) {v v' : Value} (hv : ∀ ops i rest k d, fr.todo = .inRegion ops (i :: rest) :: k → (ops[i]?).bind (·.dst) = some d → VR V1 V2 T d v v') :
    FR P tn V1 V2 (fr.finish v) (fr'.finish v') T := by
  obtain ⟨f, tm, todo, df, md, kd, rd⟩ := fr
  obtain ⟨f', tm', todo', df', md', kd', rd'⟩ := fr'
  obtain ⟨h1, h2, h3, h4, h5, h6, h7, h8, h9, h10, h11, h12⟩ := h
  dsimp only at *
  subst h4
  cases todo' with
  | nil => exact ⟨h1, h2, h3, rfl, h5, h6, h7, h8, h9, h10, h11, h12⟩
  | cons x k =>
    cases x with
    | inRegion ops l =>
      cases l with
      | nil => exact ⟨h1, h2, h3, rfl, h5, h6, h7, h8, h9, h10, h11, h12⟩
      | cons i rest =>
        simp only [Frame.finish]
        refine ⟨h1, h2, ?_, rfl, ?_, h6, h7, h8, h9, h10, h11, h12⟩
        · dsimp only
          cases hd : (ops[i]?).bind (·.dst) with
          | none => exact h3
          | some d => exact h3.set (hv ops i rest k d rfl hd)
        · intro x hx
          dsimp only at hx
          rcases List.mem_cons.1 hx with rfl | hx
          · have := h5 _ (List.mem_cons_self ..)
            simpa [itemOK] using this
          · exact h5 _ (List.mem_cons_of_mem _ hx)
    | _ => first
      | exact ⟨h1, h2, h3, rfl, h5, h6, h7, h8, h9, h10, h11, h12⟩
      | (have := h5 _ (List.mem_cons_self ..); simp [itemOK] at this)

theorem raise_rel {fr fr' : Frame} {T : List Nat} (h : FR P tn V1 V2 fr fr' T) (vs : List PanicEntry) : FR P tn V1 V2 (fr.raise vs) (fr'.raise vs) T := by
  obtain ⟨f, tm, todo, df, md, kd, rd⟩ := fr
  obtain ⟨f', tm', todo', df', md', kd', rd'⟩ := fr'
  obtain ⟨h1, h2, h3, h4, h5, h6, h7, h8, h9, h10, h11, h12⟩ := h
  dsimp only at *
  subst h8
  unfold Frame.raise
  cases md' <;> exact ⟨h1, h2, h3, h4, h5, h6, h7, rfl, h9, h10, h11, h12⟩

theorem todo_rel {fr fr' : Frame} {T : List Nat} (h : FR P tn V1 V2 fr fr' T) (k : List Item) (hk : ∀ x ∈ k, itemOK tn T x = true) : FR P tn V1 V2 { fr with todo := k } { fr' with todo := k } T :=
  ⟨h.fn, h.look, h.tm, rfl, hk, h.d, h.d', h.mode, h.kind, h.kind', h.rnd, h.rnd'⟩

theorem ret_rel {fr fr' : Frame} {T : List Nat} (h : FR P tn V1 V2 fr fr' T) : FR P tn V1 V2 { fr with mode := .returning } { fr' with mode := .returning } T :=
  ⟨h.fn, h.look, h.tm, h.todo, h.ok, h.d, h.d', rfl, h.kind, h.kind', h.rnd, h.rnd'⟩

theorem exitTo_mem {id : Nat} {k k' : List Item} (h : exitTo id k = some k') : ∀ x ∈ k', x ∈ k := by
  induction k with
  | nil => simp [exitTo] at h
  | cons y k ih =>
    cases y with
    | inBlock id' =>
      simp only [exitTo] at h
      split at h
      · cases h; exact fun x hx => List.mem_cons_of_mem _ hx
      · exact fun x hx => List.mem_cons_of_mem _ (ih h x hx)
    | _ => exact fun x hx => List.mem_cons_of_mem _ (ih (by simpa [exitTo] using h) x hx)

/-- What a step of the one is in the other. -/
def Follows (P : Program) (tn : Tn) (V1 V2 : Value) (cs : List Frame) (m' : Machine) (m1 : Machine) : Prop :=
  (∃ fr frs fr' frs' w T, m1 = lone fr (frs ++ [Last]) w ∧ step P m' = .next (lone fr' (frs' ++ cs) w) ∧ FR P tn V1 V2 fr fr' T ∧ SR P tn V1 V2 frs frs') ∨ Gone m1 ∨ Dead m1

end Go.Proofs.YtkmhjkgbcipbmaaGreat.Sim
