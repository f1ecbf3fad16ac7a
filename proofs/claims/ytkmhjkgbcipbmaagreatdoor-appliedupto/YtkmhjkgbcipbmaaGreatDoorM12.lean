import Derived.Calls
import Derived.Shelf.Abstract
import Derived.DyingRun
import Derived.Laws.Sem
set_option linter.unusedVariables false
set_option linter.unusedSimpArgs false

namespace Go.Proofs.YtkmhjkgbcipbmaaGreatDoor.Sim
open Go

/-- Which slots of a function hold the value that is turned; the functions that may be entered. -/
abbrev Tn := List (Nat × List Nat)

def opdClean (T : List Nat) : Operand → Bool
  | .tmp t => !T.contains t
  | _ => true

def dstClean (T : List Nat) (o : Oper) : Bool :=
  match o.dst with
  | some d => !T.contains d
  | none => true

def argsOK (T T' : List Nat) (args : Array Operand) : Bool :=
  (List.range args.size).all fun j => match args[j]? with
    | some x => (opdClean T x) == !(T'.contains j)
    | none => true

def opOK (tn : Tn) (T : List Nat) (o : Oper) : Bool :=
  match o.op with
  | .move x | .assign x => if opdClean T x then dstClean T o else !(dstClean T o)
  | .call c => dstClean T o && (match c.callee with
      | .builtin .len => c.args.all (opdClean T)
      | .value (.func f) => match tn.lookup f with
        | some T' => argsOK T T' c.args
        | none => false
      | .value (.tmp t) => T.contains t && c.args.all (opdClean T) && c.args.size == 2
      | _ => false)
  | .pick .. | .alloc .. | .box .. | .load .. | .store .. | .nilCheck .. | .binOp .. | .unOp .. | .convert .. | .extract .. | .index .. | .indexAddr .. | .slice .. | .field .. | .fieldAddr .. => dstClean T o && o.op.operands.all (opdClean T)
  | _ => false

def codeOK (tn : Tn) (T : List Nat) : Code → Bool
  | .skip | .ret | .exit _ | .label _ => true
  | .region _ ops _ => ops.all (opOK tn T)
  | .seq a b => codeOK tn T a && codeOK tn T b
  | .cond c a b => opdClean T c && codeOK tn T a && codeOK tn T b
  | .block _ b => codeOK tn T b
  | .loop b => codeOK tn T b
  | _ => false

def resOK (T : List Nat) : ResultVar → Bool
  | .tmp t => !T.contains t
  | .cell a _ => !T.contains a

def fnOK (P : Program) (tn : Tn) (x : Nat × List Nat) : Bool :=
  match P.funcs[x.1]? with
  | some fn => fn.name != "runtime.NumGoroutine" && fn.results.all (resOK x.2) && (match fn.body with
      | some c => codeOK tn x.2 c
      | none => false)
  | none => false

def itemOK (tn : Tn) (T : List Nat) : Item → Bool
  | .code c => codeOK tn T c
  | .inBlock _ => true
  | .inLoop c => codeOK tn T c
  | .inRegion ops _ => ops.all (opOK tn T)
  | _ => false

section
variable (V1 V2 : Value)

def VR (T : List Nat) (i : Nat) (x y : Value) : Prop := (i ∉ T → x = y) ∧ (i ∈ T → (x = undef ∧ y = undef) ∨ (x = V1 ∧ y = V2))

structure TRel (T : List Nat) (a b : Array Value) : Prop where
  size : a.size = b.size
  each : ∀ i, VR V1 V2 T i (a.getD i undef) (b.getD i undef)
end

variable {V1 V2 : Value} {T : List Nat} {a b : Array Value}

theorem getD_set (a : Array Value) (d i : Nat) (v : Value) : (a.setIfInBounds d v).getD i undef = if d = i ∧ d < a.size then v else a.getD i undef := by
  simp only [Array.getD_eq_getD_getElem?, Array.getElem?_setIfInBounds]
  by_cases h : d = i
  · subst h
    by_cases h2 : d < a.size
    · simp [h2]
    · simp [h2]
  · simp [h]

theorem TRel.set (h : TRel V1 V2 T a b) {d : Nat} {v v' : Value} (hv : VR V1 V2 T d v v') : TRel V1 V2 T (a.setIfInBounds d v) (b.setIfInBounds d v') := by
  refine ⟨by simp [h.size], fun i => ?_⟩
  rw [getD_set, getD_set, ← h.size]
  by_cases e : d = i ∧ d < a.size
  · rw [if_pos e, if_pos e, ← e.1]; exact hv
  · rw [if_neg e, if_neg e]; exact h.each i

theorem VR.refl_undef (V1 V2 : Value) (T : List Nat) (i : Nat) : VR V1 V2 T i undef undef := ⟨fun _ => rfl, fun _ => .inl ⟨rfl, rfl⟩⟩
theorem VR.of_clean {i : Nat} {v : Value} (h : i ∉ T) : VR V1 V2 T i v v := ⟨fun _ => rfl, fun hi => absurd hi h⟩

theorem TRel.clean (h : TRel V1 V2 T a b) {i : Nat} (hi : i ∉ T) : a.getD i undef = b.getD i undef := (h.each i).1 hi

theorem TRel.opt (h : TRel V1 V2 T a b) {i : Nat} (hi : i ∉ T) : a[i]? = b[i]? := by
  have h1 := h.clean hi
  have h2 := h.size
  by_cases hl : i < a.size
  · have hl' : i < b.size := by omega
    simp only [Array.getD_eq_getD_getElem?, Array.getElem?_eq_getElem hl, Array.getElem?_eq_getElem hl', Option.getD_some] at h1
    rw [Array.getElem?_eq_getElem hl, Array.getElem?_eq_getElem hl', h1]
  · rw [Array.getElem?_eq_none (by omega), Array.getElem?_eq_none (by omega)]

/-- No one of the two is a truth value. -/
def NoBool (V : Value) : Prop := ∀ b, V ≠ .bool b

theorem TRel.yielded (h : TRel V1 V2 T a b) (n1 : NoBool V1) (n2 : NoBool V2) (ops : Array Oper) : yielded ops a = yielded ops b := by
  funext j
  unfold Go.yielded
  cases hd : (ops[j]?).bind (·.dst) with
  | none => rfl
  | some d =>
    simp only [Option.bind_some]
    by_cases hi : d ∈ T
    · have key : ∀ (x : Array Value) (V : Value), NoBool V → (x.getD d undef = undef ∨ x.getD d undef = V) → (match x[d]? with | some (.bool b) => some b | _ => none) = (none : Option Bool) := by
        intro x V hV hx
        cases hg : x[d]? with
        | none => rfl
        | some v =>
          have hv : x.getD d undef = v := by simp [Array.getD_eq_getD_getElem?, hg]
          rw [hv] at hx
          rcases hx with rfl | rfl
          · rfl
          · cases v <;> first | rfl | exact absurd rfl (hV _)
      rcases (h.each d).2 hi with ⟨h1, h2⟩ | ⟨h1, h2⟩
      · exact (key a V1 n1 (.inl h1)).trans (key b V2 n2 (.inl h2)).symm
      · exact (key a V1 n1 (.inr h1)).trans (key b V2 n2 (.inr h2)).symm
    · rw [h.opt hi]

theorem map_congr {ρ ρ' : Operand → Value} (xs : Array Operand) (h : ∀ x ∈ xs, ρ x = ρ' x) : xs.map ρ = xs.map ρ' := Array.map_congr_left h

/-- What an operation does hangs on its operands alone. -/
theorem execOp_congr {ρ ρ' : Operand → Value} (tn : Tn) (T : List Nat) (o : Oper) (hok : opOK tn T o = true) (h : ∀ x ∈ o.op.operands, ρ x = ρ' x) (hc : ∀ c, o.op ≠ .call c) : execOp ρ o = execOp ρ' o := by
  obtain ⟨dst, op, ty, pos, af, gd⟩ := o
  cases op <;> simp only [opOK, Bool.false_eq_true] at hok <;> (try exact absurd rfl (hc _))
  case pick c x y =>
    simp only [execOp]
    rw [h c (by simp [Op.operands]), h x (by simp [Op.operands]), h y (by simp [Op.operands])]
  case slice t x l hi m =>
    simp only [execOp]
    have hl : ∀ (z : Option Operand), (∀ y ∈ z.toArray, ρ y = ρ' y) → z.map ρ = z.map ρ' := by
      intro z hz
      cases z with
      | none => rfl
      | some y => simp; exact hz y (by simp)
    rw [h x (by simp [Op.operands]), hl l (fun y hy => h y (by simp only [Op.operands, Array.mem_append]; exact .inl (.inl (.inr hy)))), hl hi (fun y hy => h y (by simp only [Op.operands, Array.mem_append]; exact .inl (.inr hy))), hl m (fun y hy => h y (by simp only [Op.operands, Array.mem_append]; exact .inr hy))]
  case store t x y =>
    simp only [execOp]
    rw [h x (by simp [Op.operands]), h y (by simp [Op.operands])]
  case binOp q t x y t' =>
    simp only [execOp]
    rw [h x (by simp [Op.operands]), h y (by simp [Op.operands])]
  case index t x y =>
    simp only [execOp]
    rw [h x (by simp [Op.operands]), h y (by simp [Op.operands])]
  case indexAddr t x y =>
    simp only [execOp]
    rw [h x (by simp [Op.operands]), h y (by simp [Op.operands])]
  all_goals (simp only [execOp])
  all_goals (rw [h _ (by simp only [Op.operands]; exact Array.mem_singleton.2 rfl)])

/-- An operation of these kinds gives a value, or nothing. -/
theorem execOp_next {ρ : Operand → Value} (tn : Tn) (T : List Nat) (P : Program) (w w' : World) (o : Oper) (nx : Next) (hok : opOK tn T o = true) (hc : ∀ c, o.op ≠ .call c) (h : (execOp ρ o).run P w = .ok nx w') : (∃ v, nx = .value v) ∨ nx = .skip := by
  have hv : ∀ s : Sem Value, ((do let x ← s; pure (Next.value x)) : Sem Next).run P w = .ok nx w' → ∃ v, nx = .value v := by
    intro s hs
    rw [Sem.run_bind] at hs
    cases hr : s.run P w with
    | ok x w2 => rw [hr] at hs; simp at hs; exact ⟨x, hs.1.symm⟩
    | halt x w2 => rw [hr] at hs; simp [Result.andThen] at hs
  have hu : ∀ s : Sem Unit, ((do s; pure Next.skip) : Sem Next).run P w = .ok nx w' → nx = .skip := by
    intro s hs
    rw [Sem.run_bind] at hs
    cases hr : s.run P w with
    | ok x w2 => rw [hr] at hs; simp at hs; exact hs.1.symm
    | halt x w2 => rw [hr] at hs; simp [Result.andThen] at hs
  obtain ⟨dst, op, ty, pos, af, gd⟩ := o
  cases op <;> simp only [opOK, Bool.false_eq_true] at hok <;> (try exact absurd rfl (hc _))
  case move x => simp [execOp] at h; exact .inl ⟨_, h.1.symm⟩
  case assign x => simp [execOp] at h; exact .inl ⟨_, h.1.symm⟩
  case pick c x y => exact .inl (by
    simp only [execOp] at h
    rw [Sem.run_bind] at h
    cases hr : (asBool (ρ c)).run P w with
    | ok b w2 => rw [hr] at h; simp at h; exact ⟨_, h.1.symm⟩
    | halt x w2 => rw [hr] at h; simp [Result.andThen] at h)
  case store t x y => exact .inr (hu _ h)
  case nilCheck x =>
    refine .inl ?_
    have hB : ∀ {α : Type} (s : Sem α) (k : α → Sem Next) (w1 : World), (∀ a w2, (k a).run P w2 = .ok nx w' → ∃ v, nx = .value v) → (s >>= k).run P w1 = .ok nx w' → ∃ v, nx = .value v := by
      intro α s k w1 hk hs
      rw [Sem.run_bind] at hs
      cases hr : s.run P w1 with
      | ok x w2 => rw [hr] at hs; exact hk _ _ hs
      | halt x w2 => rw [hr] at hs; simp [Result.andThen] at hs
    have hp : ∀ w1, (runtimePanic .nilDeref : Sem Next).run P w1 = .ok nx w' → ∃ v, nx = .value v := by
      intro w1 hs
      unfold runtimePanic at hs
      refine hB _ _ _ (fun p w2 h2 => ?_) hs
      simp [goPanic] at h2
    have hpu : ∀ w1 v, (pure (Next.value v) : Sem Next).run P w1 = .ok nx w' → ∃ v, nx = .value v := by
      intro w1 v hs
      simp at hs
      exact ⟨v, hs.1.symm⟩
    simp only [execOp] at h
    split at h
    · exact hp _ h
    · exact hp _ h
    · exact hp _ h
    · split at h
      · exact hp _ h
      · refine hB _ _ _ (fun a w2 h2 => ?_) h
        refine hB _ _ _ (fun a w3 h3 => ?_) h2
        split at h3
        · refine hB _ _ _ (fun a w4 h4 => ?_) h3
          exact hpu _ _ h4
        · exact hpu _ _ h3
      · exact hpu _ _ h
    · exact hpu _ _ h
  all_goals exact .inl (hv _ h)

end Go.Proofs.YtkmhjkgbcipbmaaGreatDoor.Sim

namespace Go.Proofs.YtkmhjkgbcipbmaaGreatDoor.Sim
open Go

variable {P : Program} {tn : Tn} {V1 V2 : Value}

/-- Two frames of one function: the same but for the turned slots. -/
structure FR (P : Program) (tn : Tn) (V1 V2 : Value) (fr fr' : Frame) (T : List Nat) : Prop where
  fn : fr'.fn = fr.fn
  look : tn.lookup fr.fn = some T
  tm : TRel V1 V2 T fr.tmps fr'.tmps
  todo : fr'.todo = fr.todo
  ok : ∀ x ∈ fr.todo, itemOK tn T x = true
  d : fr.defers = []
  d' : fr'.defers = []
  mode : fr'.mode = fr.mode
  kind : fr.kind = .normal
  kind' : fr'.kind = .normal
  rnd : fr.roundOf = none
  rnd' : fr'.roundOf = none

/-- A frame that waits for a call: what the call gives goes into a slot that is not turned. -/
def Waits (fr : Frame) (T : List Nat) : Prop := fr.mode = .run ∧ ∃ ops i rest k, fr.todo = .inRegion ops (i :: rest) :: k ∧ ∀ d, (ops[i]?).bind (·.dst) = some d → d ∉ T

def SR (P : Program) (tn : Tn) (V1 V2 : Value) : List Frame → List Frame → Prop
  | [], [] => True
  | fr :: l, fr' :: l' => (∃ T, FR P tn V1 V2 fr fr' T ∧ Waits fr T) ∧ SR P tn V1 V2 l l'
  | [], _ :: _ => False
  | _ :: _, [] => False
theorem SR.nil {P : Program} {tn : Tn} {V1 V2 : Value} : SR P tn V1 V2 [] [] := trivial
theorem SR.cons {P : Program} {tn : Tn} {V1 V2 : Value} {fr fr' : Frame} {T : List Nat} {l l' : List Frame} (h1 : FR P tn V1 V2 fr fr' T) (h2 : Waits fr T) (h3 : SR P tn V1 V2 l l') : SR P tn V1 V2 (fr :: l) (fr' :: l') := ⟨⟨T, h1, h2⟩, h3⟩
theorem SR.inv {P : Program} {tn : Tn} {V1 V2 : Value} {fs fs' : List Frame} (h : SR P tn V1 V2 fs fs') : (fs = [] ∧ fs' = []) ∨ ∃ fr fr' T l l', fs = fr :: l ∧ fs' = fr' :: l' ∧ FR P tn V1 V2 fr fr' T ∧ Waits fr T ∧ SR P tn V1 V2 l l' := by
  cases fs with
  | nil =>
    cases fs' with
    | nil => exact .inl ⟨rfl, rfl⟩
    | cons _ _ => exact h.elim
  | cons fr l =>
    cases fs' with
    | nil => exact h.elim
    | cons fr' l' =>
      obtain ⟨⟨T, h1, h2⟩, h3⟩ := h
      exact .inr ⟨fr, fr', T, l, l', rfl, rfl, h1, h2, h3⟩

/-- The last caller: whatever comes back to it, the run ends. -/
def Last : Frame := { fn := 0, tmps := #[], todo := [], defers := [{ target := .nil, args := #[] }], mode := .panicking [], kind := .normal, roundOf := none }

def Gone (m : Machine) : Prop := ∃ fr w chain, m = lone fr [] w ∧ fr.mode = .panicking chain ∧ fr.defers = [{ target := .nil, args := #[] }]

theorem gone_step {m m' : Machine} (h : Gone m) : step P m ≠ .next m' := by
  obtain ⟨fr, w, chain, rfl, hm, hd⟩ := h
  intro hs
  have : ∃ o, step P (lone fr [] w) = .ended o w := by
    exact ⟨.unsupported (.noEntry "machine/Return: a deferred call of a nil function value, made while the frame is unwinding") (({ fr with defers := [] } : Frame).pos P), step_lone_ended (by simp [stepG, hm, unwind, hd, callDeferred])⟩
  obtain ⟨o, ho⟩ := this
  rw [ho] at hs
  cases hs

/-- A machine that comes to nothing: it sleeps, or it tells why it dies. -/
def Dead (m : Machine) : Prop := ∃ g w, m = { world := w, gs := #[g], rest := { timers := #[], alone := none, slice := none } } ∧
  ((g.status = .blocked ∨ g.status = .waiting) ∨ ∃ d f, g.status = .running ∧ g.dying = some d ∧ d.calling = false ∧ d.fatal = some f)

theorem dead_not_lone {m : Machine} (h : Dead m) (fr : Frame) (cs : List Frame) (w : World) : m ≠ lone fr cs w := by
  obtain ⟨g, w2, rfl, h⟩ := h
  intro e
  simp [lone] at e
  obtain ⟨_, rfl⟩ := e
  rcases h with (h | h) | ⟨d, f, _, h, _⟩ <;> simp at h

theorem finish_rel {fr fr' : Frame} {T : List Nat} (h : FR P tn V1 V2 fr fr' T) {v v' : Value} (hv : ∀ ops i rest k d, fr.todo = .inRegion ops (i :: rest) :: k → (ops[i]?).bind (·.dst) = some d → VR V1 V2 T d v v') :
    FR P tn V1 V2 (fr.finish v) (fr'.finish v') T := by
  obtain ⟨f, tm, todo, df, md, kd, rd⟩ := fr
  obtain ⟨f', tm', todo', df', md', kd', rd'⟩ := fr'
  obtain ⟨h1, h2, h3, h4, h5, h6, h7, h8, h9, h10, h11, h12⟩ := h
  dsimp only at *
  subst h4
  cases todo' with
  | nil => exact ⟨h1, h2, h3, rfl, h5, h6, h7, h8, h9, h10, h11, h12⟩
  | cons x k =>
    cases x with
    | inRegion ops l =>
      cases l with
      | nil => exact ⟨h1, h2, h3, rfl, h5, h6, h7, h8, h9, h10, h11, h12⟩
      | cons i rest =>
        simp only [Frame.finish]
        refine ⟨h1, h2, ?_, rfl, ?_, h6, h7, h8, h9, h10, h11, h12⟩
        · dsimp only
          cases hd : (ops[i]?).bind (·.dst) with
          | none => exact h3
          | some d => exact h3.set (hv ops i rest k d rfl hd)
        · intro x hx
          dsimp only at hx
          rcases List.mem_cons.1 hx with rfl | hx
          · have := h5 _ (List.mem_cons_self ..)
            simpa [itemOK] using this
          · exact h5 _ (List.mem_cons_of_mem _ hx)
    | _ => first
      | exact ⟨h1, h2, h3, rfl, h5, h6, h7, h8, h9, h10, h11, h12⟩
      | (have := h5 _ (List.mem_cons_self ..); simp [itemOK] at this)

theorem raise_rel {fr fr' : Frame} {T : List Nat} (h : FR P tn V1 V2 fr fr' T) (vs : List PanicEntry) : FR P tn V1 V2 (fr.raise vs) (fr'.raise vs) T := by
  obtain ⟨f, tm, todo, df, md, kd, rd⟩ := fr
  obtain ⟨f', tm', todo', df', md', kd', rd'⟩ := fr'
  obtain ⟨h1, h2, h3, h4, h5, h6, h7, h8, h9, h10, h11, h12⟩ := h
  dsimp only at *
  subst h8
  unfold Frame.raise
  cases md' <;> exact ⟨h1, h2, h3, h4, h5, h6, h7, rfl, h9, h10, h11, h12⟩

theorem todo_rel {fr fr' : Frame} {T : List Nat} (h : FR P tn V1 V2 fr fr' T) (k : List Item) (hk : ∀ x ∈ k, itemOK tn T x = true) : FR P tn V1 V2 { fr with todo := k } { fr' with todo := k } T :=
  ⟨h.fn, h.look, h.tm, rfl, hk, h.d, h.d', h.mode, h.kind, h.kind', h.rnd, h.rnd'⟩

theorem ret_rel {fr fr' : Frame} {T : List Nat} (h : FR P tn V1 V2 fr fr' T) : FR P tn V1 V2 { fr with mode := .returning } { fr' with mode := .returning } T :=
  ⟨h.fn, h.look, h.tm, h.todo, h.ok, h.d, h.d', rfl, h.kind, h.kind', h.rnd, h.rnd'⟩

theorem exitTo_mem {id : Nat} {k k' : List Item} (h : exitTo id k = some k') : ∀ x ∈ k', x ∈ k := by
  induction k with
  | nil => simp [exitTo] at h
  | cons y k ih =>
    cases y with
    | inBlock id' =>
      simp only [exitTo] at h
      split at h
      · cases h; exact fun x hx => List.mem_cons_of_mem _ hx
      · exact fun x hx => List.mem_cons_of_mem _ (ih h x hx)
    | _ => exact fun x hx => List.mem_cons_of_mem _ (ih (by simpa [exitTo] using h) x hx)

/-- What a step of the one is in the other. -/
def Follows (P : Program) (tn : Tn) (V1 V2 : Value) (cs : List Frame) (m' : Machine) (m1 : Machine) : Prop :=
  (∃ fr frs fr' frs' w T, m1 = lone fr (frs ++ [Last]) w ∧ step P m' = .next (lone fr' (frs' ++ cs) w) ∧ FR P tn V1 V2 fr fr' T ∧ SR P tn V1 V2 frs frs') ∨ Gone m1 ∨ Dead m1

end Go.Proofs.YtkmhjkgbcipbmaaGreatDoor.Sim

namespace Go.Proofs.YtkmhjkgbcipbmaaGreatDoor.Sim
open Go

variable {P : Program} {tn : Tn} {V1 V2 : Value}

theorem writeOn_dead (fr : Frame) (d : Dying) (f : Fatal) (w : World) (hc : d.calling = false) (g : Goroutine) (w' : World)
    (h : (writeOn P fr d f w).bare = .go g w') : g.status = .blocked ∨ ∃ d f, g.status = .running ∧ g.dying = some d ∧ d.calling = false ∧ d.fatal = some f := by
  unfold writeOn at h
  cases hp : f.pieces with
  | nil => simp [hp] at h
  | cons piece rest =>
    simp only [hp] at h
    split at h
    · simp at h; obtain ⟨rfl, _⟩ := h; exact .inr ⟨_, _, rfl, rfl, hc, rfl⟩
    · simp at h; obtain ⟨rfl, _⟩ := h; exact .inl rfl
    · simp at h
    · simp at h

theorem dead_step {m m' : Machine} (h : Dead m) (hs : step P m = .next m') : Dead m' := by
  obtain ⟨⟨fr, cs, st, dy, off⟩, w, rfl, h⟩ := h
  dsimp only at h
  rcases h with (rfl | rfl) | ⟨d, f, rfl, rfl, hc, hf⟩
  · exfalso
    simp [step, stepT, move, ask, askOn, runnable_eq, due, ahead, Goroutine.canRun, List.range_succ, choose, pure, Sem.run, Question.forced] at hs
    generalize endWith w 2 _ _ = q at hs
    cases q <;> simp at hs
  · simp [step, stepT, move, ask, askOn, runnable_eq, due, ahead, Goroutine.canRun, List.range_succ, choose, pure, Sem.run, Question.forced] at hs
    exact ⟨⟨fr, cs, .waiting, dy, off⟩, w, hs.symm, .inl (.inr rfl)⟩
  · have hG : stepG P true { frame := fr, callers := cs, status := .running, dying := some d, offers := off } w = writeOn P fr d f w := by
      obtain ⟨todo, texts, calling, pending, re, hand, fatal⟩ := d
      dsimp only at hc hf
      subst hc hf
      simp [stepG, die]
    rw [show ({ world := w, gs := #[{ frame := fr, callers := cs, status := .running, dying := some d, offers := off }], rest := { timers := #[], alone := none, slice := none } } : Machine) = loneD fr cs d off w from rfl] at hs
    rw [step, stepT, move_loneD] at hs
    generalize hx : writeOn P fr d f w = s at hG
    have hb := writeOn_dead (P := P) fr d f w hc
    rw [hx] at hb
    cases s with
    | go g w2 es =>
      simp [runT, loneD, Array.swapAt!, hG] at hs
      refine ⟨g, w2, hs.symm, ?_⟩
      rcases hb g w2 rfl with h | h
      · exact .inl (.inl h)
      · exact .inr h
    | ended o w2 es => simp [runT, loneD, Array.swapAt!, hG] at hs
    | _ =>
      exfalso
      have : (writeOn P fr d f w).bare = _ := congrArg GStep.bare hx
      unfold writeOn at this
      cases hp : f.pieces with
      | nil => simp [hp] at this
      | cons piece rest => simp only [hp] at this; split at this <;> simp at this

theorem dead_runN {n : Nat} {m m' : Machine} (h : Dead m) (hs : runN P n m = .next m') : Dead m' := by
  induction n generalizing m with
  | zero => simp [runN] at hs; exact hs ▸ h
  | succ n ih =>
    simp only [runN] at hs
    cases hx : step P m with
    | next m2 => rw [hx] at hs; exact ih (dead_step h hx) hs
    | ended o w => rw [hx] at hs; simp at hs

end Go.Proofs.YtkmhjkgbcipbmaaGreatDoor.Sim

namespace Go.Proofs.YtkmhjkgbcipbmaaGreatDoor.Sim
open Go

variable {P : Program} {tn : Tn} {V1 V2 : Value}

/-- What the whole program must be. -/
structure Fine (P : Program) (tn : Tn) (V1 V2 : Value) (g : FuncId) : Prop where
  fns : ∀ f T, tn.lookup f = some T → fnOK P tn (f, T) = true
  steps : ∀ i, P.stepOf i = none
  follows : P.follows .staticDataAhead = true
  cmp : tn.lookup g = some []
  n1 : NoBool V1
  n2 : NoBool V2
  one : ∀ (x y : Value) (w : World), ((do let d ← Deferred.ofValue V1 #[x, y]; invoke d.target d.args) : Sem Next).run P w = .ok (.enter g #[x, y]) w
  two : ∀ (x y : Value) (w : World), ((do let d ← Deferred.ofValue V2 #[x, y]; invoke d.target d.args) : Sem Next).run P w = .ok (.enter g #[x, y]) w

theorem mapM_same {α β : Type} (l : Array α) (f g : α → Sem β) (h : ∀ x ∈ l, f x = g x) : l.mapM f = l.mapM g := by
  rw [Array.mapM_eq_mapM_toList, Array.mapM_eq_mapM_toList]
  congr 1
  have h' : ∀ x ∈ l.toList, f x = g x := fun x hx => h x (by simpa using hx)
  generalize l.toList = k at h'
  induction k with
  | nil => rfl
  | cons y k ih => simp only [List.mapM_cons]; rw [h' y (by simp), ih (fun x hx => h' x (by simp [hx]))]

theorem step_go {fr : Frame} {cs : List Frame} {w : World} {m1 : Machine} {s : GStep} (hs : step P (lone fr cs w) = .next m1)
    (hb : (stepG P true { frame := fr, callers := cs, status := .running, dying := none } w).bare = s.bare) (g : Goroutine) (w1 : World) (hg : s.bare = .go g w1) :
    m1 = { world := w1, gs := #[g], rest := { timers := #[], alone := none, slice := none } } := by
  rw [hg] at hb
  generalize hx : stepG P true { frame := fr, callers := cs, status := .running, dying := none } w = q at hb
  cases q <;> simp at hb
  obtain ⟨rfl, rfl⟩ := hb
  rw [step, stepT, move_lone] at hs
  simp [runT, lone, Array.swapAt!, hx] at hs
  exact hs.symm

theorem step_end {fr : Frame} {cs : List Frame} {w : World} {m1 : Machine} (hs : step P (lone fr cs w) = .next m1) (o : Outcome) (w1 : World)
    (hb : (stepG P true { frame := fr, callers := cs, status := .running, dying := none } w).bare = .ended o w1) : False := by
  rw [step_lone_ended hb] at hs
  cases hs

/-- Both go on to frames that belong together. -/
theorem follows_go {fr fr' fr1 fr1' : Frame} {frs frs' frs1 frs1' cs : List Frame} {w w1 : World} {m1 : Machine} {T1 : List Nat} (hs : step P (lone fr (frs ++ [Last]) w) = .next m1)
    (h1 : (stepG P true { frame := fr, callers := frs ++ [Last], status := .running, dying := none } w).bare = .go { frame := fr1, callers := frs1 ++ [Last], status := .running, dying := none } w1)
    (h2 : (stepG P true { frame := fr', callers := frs' ++ cs, status := .running, dying := none } w).bare = .go { frame := fr1', callers := frs1' ++ cs, status := .running, dying := none } w1)
    (hF : FR P tn V1 V2 fr1 fr1' T1) (hS : SR P tn V1 V2 frs1 frs1') : Follows P tn V1 V2 cs (lone fr' (frs' ++ cs) w) m1 := by
  have e1 := step_lone_go h1
  rw [e1] at hs
  cases hs
  exact .inl ⟨fr1, frs1, fr1', frs1', w1, T1, rfl, step_lone_go h2, hF, hS⟩

/-- A frame that returns. -/
theorem step_ret {g : FuncId} (hP : Fine P tn V1 V2 g) {fr fr' : Frame} {frs frs' cs : List Frame} {w : World} {m1 : Machine} {T : List Nat} (hF : FR P tn V1 V2 fr fr' T) (hS : SR P tn V1 V2 frs frs') (hm : fr.mode = .returning)
    (hs : step P (lone fr (frs ++ [Last]) w) = .next m1) : Follows P tn V1 V2 cs (lone fr' (frs' ++ cs) w) m1 := by
  have hfn := hP.fns _ _ hF.look
  unfold fnOK at hfn
  dsimp only at hfn
  cases hf : P.funcs[fr.fn]? with
  | none => rw [hf] at hfn; simp at hfn
  | some fn =>
    rw [hf] at hfn
    simp only [Bool.and_eq_true] at hfn
    have hres : results fn fr'.tmps = results fn fr.tmps := by
      unfold results
      congr 1
      refine mapM_same _ _ _ (fun x hx => ?_)
      have hx := Array.all_eq_true_iff_forall_mem.1 hfn.1.2 x hx
      cases x with
      | tmp t => simp [resOK] at hx; dsimp only; rw [hF.tm.clean hx]
      | cell t ty => simp [resOK] at hx; dsimp only; rw [hF.tm.clean hx]
    have hm' : fr'.mode = .returning := hF.mode.trans hm
    have hf' : P.funcs[fr'.fn]? = some fn := by rw [hF.fn]; exact hf
    cases hr : (results fn fr.tmps).run P w with
    | halt x w1 =>
      exfalso
      cases x <;> exact step_end hs _ w1 (by simp [stepG, hm, unwind, hF.d, hf, hr]; rfl)
    | ok v w1 =>
      rcases SR.inv hS with ⟨rfl, rfl⟩ | ⟨c, c', T', l, l', rfl, rfl, hc, hw, hl⟩
      · skip
        have e1 : step P (lone fr ([] ++ [Last]) w) = .next (lone (Last.finish v) [] w1) := step_lone_go (by simp [stepG, hm, unwind, hF.d, hf, hr, doReturn, hF.kind])
        rw [e1] at hs
        cases hs
        exact .inr (.inl ⟨_, _, [], rfl, rfl, rfl⟩)
      · skip
        refine follows_go (fr1 := c.finish v) (fr1' := c'.finish v) (frs1 := l) (frs1' := l') (w1 := w1) (T1 := T') hs ?_ ?_ ?_ hl
        · simp [stepG, hm, unwind, hF.d, hf, hr, doReturn, hF.kind]
        · simp [stepG, hm', unwind, hF.d', hf', hres, hr, doReturn, hF.kind']
        · refine finish_rel hc (fun ops i rest k d ht hd => ?_)
          obtain ⟨_, ops2, i2, rest2, k2, ht2, hd2⟩ := hw
          rw [ht] at ht2
          cases ht2
          exact VR.of_clean (hd2 d hd)

/-- A frame that panics. -/
theorem step_pan {g : FuncId} (hP : Fine P tn V1 V2 g) {fr fr' : Frame} {frs frs' cs : List Frame} {w : World} {m1 : Machine} {T : List Nat} {chain : List PanicEntry} (hF : FR P tn V1 V2 fr fr' T) (hS : SR P tn V1 V2 frs frs') (hm : fr.mode = .panicking chain)
    (hs : step P (lone fr (frs ++ [Last]) w) = .next m1) : Follows P tn V1 V2 cs (lone fr' (frs' ++ cs) w) m1 := by
  have hfn := hP.fns _ _ hF.look
  unfold fnOK at hfn
  dsimp only at hfn
  cases hf : P.funcs[fr.fn]? with
  | none => rw [hf] at hfn; simp at hfn
  | some fn =>
    have hm' : fr'.mode = .panicking chain := hF.mode.trans hm
    have hf' : P.funcs[fr'.fn]? = some fn := by rw [hF.fn]; exact hf
    rcases SR.inv hS with ⟨rfl, rfl⟩ | ⟨c, c', T', l, l', rfl, rfl, hc, hw, hl⟩
    · skip
      have e1 : step P (lone fr ([] ++ [Last]) w) = .next (lone (Last.raise chain) [] w) := step_lone_go (by simp [stepG, hm, unwind, hF.d, hf, Frame.catches])
      rw [e1] at hs
      cases hs
      exact .inr (.inl ⟨_, _, chain ++ [], rfl, rfl, rfl⟩)
    · skip
      refine follows_go (fr1 := c.raise chain) (fr1' := c'.raise chain) (frs1 := l) (frs1' := l') (w1 := w) (T1 := T') hs ?_ ?_ (raise_rel hc chain) hl
      · simp [stepG, hm, unwind, hF.d, hf, Frame.catches]
      · simp [stepG, hm', unwind, hF.d', hf', Frame.catches]

end Go.Proofs.YtkmhjkgbcipbmaaGreatDoor.Sim

namespace Go.Proofs.YtkmhjkgbcipbmaaGreatDoor.Sim
open Go

variable {P : Program} {tn : Tn} {V1 V2 : Value}

theorem eval_clean {fr fr' : Frame} {T : List Nat} (h : FR P tn V1 V2 fr fr' T) {x : Operand} (hx : opdClean T x = true) : fr'.eval x = fr.eval x := by
  cases x with
  | tmp t => simp [opdClean] at hx; simp only [Frame.eval]; exact (h.tm.clean hx).symm
  | const v => rfl
  | global i => rfl
  | func f => rfl

theorem follows_dead {fr fr' : Frame} {frs frs' cs : List Frame} {w w1 : World} {m1 : Machine} {g : Goroutine} (hs : step P (lone fr (frs ++ [Last]) w) = .next m1)
    (h1 : (stepG P true { frame := fr, callers := frs ++ [Last], status := .running, dying := none } w).bare = .go g w1)
    (hg : (g.status = .blocked ∨ g.status = .waiting) ∨ ∃ d f, g.status = .running ∧ g.dying = some d ∧ d.calling = false ∧ d.fatal = some f) : Follows P tn V1 V2 cs (lone fr' (frs' ++ cs) w) m1 := by
  have := step_go (s := .go g w1) hs h1 g w1 rfl
  exact .inr (.inr ⟨g, w1, this, hg⟩)

/-- An operation that stops. -/
theorem step_halt {g : FuncId} (hP : Fine P tn V1 V2 g) {fr fr' : Frame} {frs frs' cs : List Frame} {w w1 : World} {m1 : Machine} {T : List Nat} {s s' : Sem Next} {x : Halt} (hF : FR P tn V1 V2 fr fr' T) (hS : SR P tn V1 V2 frs frs')
    (e1 : stepG P true { frame := fr, callers := frs ++ [Last], status := .running, dying := none } w = stepG.apply P true fr (frs ++ [Last]) none s w)
    (e2 : stepG P true { frame := fr', callers := frs' ++ cs, status := .running, dying := none } w = stepG.apply P true fr' (frs' ++ cs) none s' w)
    (h1 : s.run P w = .halt x w1) (h2 : s'.run P w = .halt x w1)
    (hs : step P (lone fr (frs ++ [Last]) w) = .next m1) : Follows P tn V1 V2 cs (lone fr' (frs' ++ cs) w) m1 := by
  cases x with
  | panic v => exact follows_go hs (by rw [e1]; simp [stepG.apply, h1]; try exact ⟨rfl, rfl⟩) (by rw [e2]; simp [stepG.apply, h2]; try exact ⟨rfl, rfl⟩) (raise_rel hF _) hS
  | goexit => exact follows_go hs (by rw [e1]; simp [stepG.apply, h1]; try exact ⟨rfl, rfl⟩) (by rw [e2]; simp [stepG.apply, h2]; try exact ⟨rfl, rfl⟩) (raise_rel hF _) hS
  | blocked => exact follows_dead hs (by rw [e1]; simp [stepG.apply, h1]; try exact ⟨rfl, rfl⟩) (.inl (.inl rfl))
  | waiting => exact follows_dead hs (by rw [e1]; simp [stepG.apply, h1]; try exact ⟨rfl, rfl⟩) (.inl (.inr rfl))
  | exit c => exact (step_end hs _ _ (by rw [e1]; simp [stepG.apply, h1]; try exact ⟨rfl, rfl⟩)).elim
  | throw m => exact follows_dead hs (by rw [e1]; simp [stepG.apply, h1, endThrow, dieOf]; try exact ⟨rfl, rfl⟩) (.inr ⟨_, _, rfl, rfl, rfl, rfl⟩)
  | stuck m => exact (step_end hs _ _ (by rw [e1]; simp [stepG.apply, h1]; try exact ⟨rfl, rfl⟩)).elim
  | unsupported u =>
    cases u with
    | initOrder i => exact (step_end hs _ _ (by rw [e1]; simp [stepG.apply, h1, early, hP.follows, hP.steps]; try exact ⟨rfl, rfl⟩)).elim
    | _ => exact (step_end hs _ _ (by rw [e1]; simp [stepG.apply, h1]; try exact ⟨rfl, rfl⟩)).elim
  | fatal m =>
    have hb : (stepG P true { frame := fr, callers := frs ++ [Last], status := .running, dying := none } w).bare = (endFatal P fr (frs ++ [Last]) none m w1).bare := by rw [e1]; simp [stepG.apply, h1]
    unfold endFatal at hb
    dsimp only at hb
    split at hb
    · exact follows_dead hs (hb.trans (by simp [dieOf]; try exact ⟨rfl, rfl⟩)) (.inr ⟨_, _, rfl, rfl, rfl, rfl⟩)
    · exact (step_end hs _ _ hb).elim
    · exact (step_end hs _ _ hb).elim

end Go.Proofs.YtkmhjkgbcipbmaaGreatDoor.Sim

namespace Go.Proofs.YtkmhjkgbcipbmaaGreatDoor.Sim
open Go

variable {P : Program} {tn : Tn} {V1 V2 : Value}

theorem calls_in {g : FuncId} (hP : Fine P tn V1 V2 g) {f : FuncId} {T : List Nat} (h : tn.lookup f = some T) (args : Array Value) (w : World) : (callFunc f args).run P w = .ok (.enter f args) w := by
  have hfn := hP.fns _ _ h
  unfold fnOK at hfn
  dsimp only at hfn
  cases hf : P.funcs[f]? with
  | none => rw [hf] at hfn; simp at hfn
  | some fn =>
    rw [hf] at hfn
    dsimp only at hfn
    cases hb : fn.body with
    | none => rw [hb] at hfn; simp at hfn
    | some c =>
      rw [hb] at hfn
      simp only [Bool.and_eq_true] at hfn
      exact enters_of hf (by simpa using hfn.1.1) hb args w

theorem enter_rel {g : FuncId} (hP : Fine P tn V1 V2 g) {f : FuncId} {T : List Nat} (h : tn.lookup f = some T) {args args' : Array Value} (ha : TRel V1 V2 T args args') : FR P tn V1 V2 (Frame.enter P f args .normal) (Frame.enter P f args' .normal) T := by
  have hfn := hP.fns _ _ h
  unfold fnOK at hfn
  dsimp only at hfn
  cases hf : P.funcs[f]? with
  | none => rw [hf] at hfn; simp at hfn
  | some fn =>
    rw [hf] at hfn
    dsimp only at hfn
    cases hb : fn.body with
    | none => rw [hb] at hfn; simp at hfn
    | some c =>
      rw [hb] at hfn
      simp only [Bool.and_eq_true] at hfn
      refine ⟨rfl, h, ?_, rfl, ?_, rfl, rfl, rfl, rfl, rfl, rfl, rfl⟩
      · simp only [Frame.enter]
        rw [← ha.size]
        refine ⟨by simp [ha.size], fun i => ?_⟩
        have he := ha.each i
        have hsz := ha.size
        simp only [Array.getD_eq_getD_getElem?] at he ⊢
        by_cases hi : i < args.size
        · rw [Array.getElem?_append_left hi, Array.getElem?_append_left (by omega)]; exact he
        · rw [Array.getElem?_append_right (by omega), Array.getElem?_append_right (by omega), ← hsz]
          have : ∀ n k : Nat, ((Array.replicate n undef)[k]?).getD undef = undef := by
            intro n k
            rw [Array.getElem?_replicate]
            split <;> rfl
          rw [this]
          exact VR.refl_undef _ _ _ _
      · intro x hx
        simp [Frame.enter, hf, hb] at hx
        subst hx
        exact hfn.2

/-- A call to a function that is known. -/
theorem step_call {g : FuncId} (hP : Fine P tn V1 V2 g) {fr fr' : Frame} {frs frs' cs : List Frame} {w w1 : World} {m1 : Machine} {T T2 : List Nat} {s s' : Sem Next} {f : FuncId} {args args' : Array Value} (hF : FR P tn V1 V2 fr fr' T) (hS : SR P tn V1 V2 frs frs') (hW : Waits fr T)
    (e1 : stepG P true { frame := fr, callers := frs ++ [Last], status := .running, dying := none } w = stepG.apply P true fr (frs ++ [Last]) none s w)
    (e2 : stepG P true { frame := fr', callers := frs' ++ cs, status := .running, dying := none } w = stepG.apply P true fr' (frs' ++ cs) none s' w)
    (h1 : s.run P w = .ok (.enter f args) w1) (h2 : s'.run P w = .ok (.enter f args') w1) (hl : tn.lookup f = some T2) (ha : TRel V1 V2 T2 args args')
    (hs : step P (lone fr (frs ++ [Last]) w) = .next m1) : Follows P tn V1 V2 cs (lone fr' (frs' ++ cs) w) m1 := by
  obtain ⟨hm, ops, i, rest, k, ht, _⟩ := id hW
  have ht' := hF.todo.trans ht
  refine follows_go (fr1 := Frame.enter P f args .normal) (fr1' := Frame.enter P f args' .normal) (frs1 := fr :: frs) (frs1' := fr' :: frs') (w1 := w1) (T1 := T2) hs ?_ ?_ (enter_rel hP hl ha) (.cons hF hW hS)
  · rw [e1]; simp [stepG.apply, h1, ht]
  · rw [e2]; simp [stepG.apply, h2, ht']

/-- An operation that gives a value. -/
theorem step_val {fr fr' : Frame} {frs frs' cs : List Frame} {w w1 : World} {m1 : Machine} {T : List Nat} {s s' : Sem Next} {v v' : Value} (hF : FR P tn V1 V2 fr fr' T) (hS : SR P tn V1 V2 frs frs')
    (e1 : stepG P true { frame := fr, callers := frs ++ [Last], status := .running, dying := none } w = stepG.apply P true fr (frs ++ [Last]) none s w)
    (e2 : stepG P true { frame := fr', callers := frs' ++ cs, status := .running, dying := none } w = stepG.apply P true fr' (frs' ++ cs) none s' w)
    (h : (s.run P w = .ok (.value v) w1 ∧ s'.run P w = .ok (.value v') w1) ∨ (s.run P w = .ok .skip w1 ∧ s'.run P w = .ok .skip w1 ∧ v = undef ∧ v' = undef))
    (hv : ∀ ops i rest k d, fr.todo = .inRegion ops (i :: rest) :: k → (ops[i]?).bind (·.dst) = some d → VR V1 V2 T d v v')
    (hs : step P (lone fr (frs ++ [Last]) w) = .next m1) : Follows P tn V1 V2 cs (lone fr' (frs' ++ cs) w) m1 := by
  refine follows_go (fr1 := fr.finish v) (fr1' := fr'.finish v') (frs1 := frs) (frs1' := frs') (w1 := w1) (T1 := T) hs ?_ ?_ (finish_rel hF hv) hS
  · rw [e1]; rcases h with ⟨h1, _⟩ | ⟨h1, _, rfl, rfl⟩ <;> simp [stepG.apply, h1]
  · rw [e2]; rcases h with ⟨_, h2⟩ | ⟨_, h2, rfl, rfl⟩ <;> simp [stepG.apply, h2]

theorem step_op {g : FuncId} (hP : Fine P tn V1 V2 g) {fr fr' : Frame} {frs frs' cs : List Frame} {w : World} {m1 : Machine} {T : List Nat} {ops : Array Oper} {i : Nat} {rest : List Nat} {k : List Item} (hF : FR P tn V1 V2 fr fr' T) (hS : SR P tn V1 V2 frs frs') (hm : fr.mode = .run)
    (ht : fr.todo = .inRegion ops (i :: rest) :: k) (hs : step P (lone fr (frs ++ [Last]) w) = .next m1) : Follows P tn V1 V2 cs (lone fr' (frs' ++ cs) w) m1 := by
  have hm' := hF.mode.trans hm
  have ht' := hF.todo.trans ht
  have hops : ops.all (opOK tn T) = true := by
    have := hF.ok (.inRegion ops (i :: rest)) (by rw [ht]; exact List.mem_cons_self ..)
    simpa [itemOK] using this
  have hy := hF.tm.yielded hP.n1 hP.n2 ops
  cases hw : ((ops[i]?).map (Region.wanted · (yielded ops fr.tmps))).getD false with
  | false =>
    have hw' : ((ops[i]?).map (Region.wanted · (yielded ops fr'.tmps))).getD false = false := by rw [← hy]; exact hw
    refine follows_go (fr1 := fr.finish undef) (fr1' := fr'.finish undef) (frs1 := frs) (frs1' := frs') (w1 := w) (T1 := T) hs ?_ ?_ (finish_rel hF (fun _ _ _ _ _ _ _ => VR.refl_undef _ _ _ _)) hS
    · simp [stepG, stepG.exec, hm, ht, hw]
    · simp [stepG, stepG.exec, hm', ht', hw']
  | true =>
    have hw' : ((ops[i]?).map (Region.wanted · (yielded ops fr'.tmps))).getD false = true := by rw [← hy]; exact hw
    cases ho : ops[i]? with
    | none => rw [ho] at hw; simp at hw
    | some o =>
      have hok : opOK tn T o = true := Array.all_eq_true_iff_forall_mem.1 hops o (Array.mem_of_getElem? ho)
      have e1 : stepG P true { frame := fr, callers := frs ++ [Last], status := .running, dying := none } w = stepG.apply P true fr (frs ++ [Last]) none (execOp fr.eval o) w := by
        rw [ho] at hw
        simp [stepG, stepG.exec, stepG.oper, Frame.oper?, hm, ht, ho, hF.rnd]
        simp at hw
        simp [hw]
      have e2 : stepG P true { frame := fr', callers := frs' ++ cs, status := .running, dying := none } w = stepG.apply P true fr' (frs' ++ cs) none (execOp fr'.eval o) w := by
        rw [ho] at hw'
        simp [stepG, stepG.exec, stepG.oper, Frame.oper?, hm', ht', ho, hF.rnd']
        simp at hw'
        simp [hw']
      have hdst : ∀ v, dstClean T o = true → ∀ ops2 i2 rest2 k2 d, fr.todo = .inRegion ops2 (i2 :: rest2) :: k2 → (ops2[i2]?).bind (·.dst) = some d → VR V1 V2 T d v v := by
        intro v hd ops2 i2 rest2 k2 d h1 h2
        rw [ht] at h1
        cases h1
        rw [ho] at h2
        simp at h2
        simp [dstClean, h2] at hd
        exact VR.of_clean hd
      by_cases hcall : ∃ c, o.op = .call c
      · obtain ⟨c, hc⟩ := hcall
        have hok2 := hok
        unfold opOK at hok2
        rw [hc] at hok2
        simp only [Bool.and_eq_true] at hok2
        obtain ⟨hd, hcal⟩ := hok2
        have hW : Waits fr T := by
          refine ⟨hm, ops, i, rest, k, ht, fun d hdd => ?_⟩
          rw [ho] at hdd
          simp at hdd
          simpa [dstClean, hdd] using hd
        have hex : ∀ ρ : Operand → Value, execOp ρ o = (do let d ← resolve ρ c o.type; invoke d.target d.args) := fun ρ => by simp only [execOp, hc]
        have hargs : ∀ x ∈ c.args, opdClean T x = true → fr'.eval x = fr.eval x := fun x _ hx => eval_clean hF hx
        cases hcl : c.callee with
        | invoke recv name => rw [hcl] at hcal; simp at hcal
        | builtin bi =>
          have hbl : bi = .len ∧ c.args.all (opdClean T) = true := by
            rw [hcl] at hcal
            cases bi <;> simp at hcal ⊢
            exact hcal
          obtain ⟨rfl, hal⟩ := hbl
          have hmap : c.args.map fr'.eval = c.args.map fr.eval := map_congr _ (fun x hx => eval_clean hF (Array.all_eq_true_iff_forall_mem.1 hal x hx))
          have hsame : execOp fr'.eval o = execOp fr.eval o := by rw [hex, hex]; simp only [resolve, hcl, hmap]
          rw [hsame] at e2
          cases hr : (execOp fr.eval o).run P w with
          | halt x w1 => exact step_halt hP hF hS e1 e2 hr hr hs
          | ok nx w1 =>
            have hnx : ∃ v, nx = .value v := by
              rw [hex] at hr
              simp only [resolve, hcl] at hr
              simp only [pure_bind, invoke, builtin] at hr
              rw [Sem.run_bind] at hr
              revert hr
              generalize (Sem.run P _ w : Result Value) = q
              intro hr
              cases q with
              | ok x w2 => simp at hr; exact ⟨x, hr.1.symm⟩
              | halt x w2 => simp [Result.andThen] at hr
            obtain ⟨v, rfl⟩ := hnx
            exact step_val hF hS e1 e2 (.inl ⟨hr, hr⟩) (hdst v hd) hs
        | value x =>
          cases x with
          | const v => rw [hcl] at hcal; simp at hcal
          | global j => rw [hcl] at hcal; simp at hcal
          | func f =>
            rw [hcl] at hcal
            dsimp only at hcal
            cases hl : tn.lookup f with
            | none => rw [hl] at hcal; simp at hcal
            | some T2 =>
              rw [hl] at hcal
              dsimp only at hcal
              have hrun : ∀ fx : Frame, (execOp fx.eval o).run P w = .ok (.enter f (c.args.map fx.eval)) w := by
                intro fx
                rw [hex]
                simp only [resolve, hcl, Frame.eval, Deferred.ofValue, pure_bind, invoke, Array.append_empty, Array.empty_append]
                exact calls_in hP hl _ w
              refine step_call hP hF hS hW e1 e2 (hrun fr) (hrun fr') hl ⟨by simp, fun j => ?_⟩ hs
              have hj := hcal
              unfold argsOK at hj
              rw [List.all_eq_true] at hj
              simp only [Array.getD_eq_getD_getElem?, Array.getElem?_map]
              cases hx : c.args[j]? with
              | none => exact VR.refl_undef _ _ _ _
              | some x =>
                have hjs : j < c.args.size := (Array.getElem?_eq_some_iff.1 hx).1
                have h3 := hj j (List.mem_range.2 hjs)
                rw [hx] at h3
                simp only [Option.map_some, Option.getD_some]
                dsimp only at h3
                by_cases hjt : j ∈ T2
                · have hcx : opdClean T x = false := by
                    have : T2.contains j = true := by simpa using hjt
                    rw [this] at h3
                    simpa using h3
                  cases x with
                  | tmp t =>
                    have htT : t ∈ T := by simpa [opdClean] using hcx
                    exact ⟨fun h => absurd hjt h, fun _ => (hF.tm.each t).2 htT⟩
                  | const v => simp [opdClean] at hcx
                  | global i => simp [opdClean] at hcx
                  | func f => simp [opdClean] at hcx
                · have hcx : opdClean T x = true := by
                    have : T2.contains j = false := by simpa using hjt
                    rw [this] at h3
                    simpa using h3
                  rw [eval_clean hF hcx]
                  exact VR.of_clean hjt
          | tmp t =>
            rw [hcl] at hcal
            simp only [Bool.and_eq_true] at hcal
            obtain ⟨⟨htT, hal⟩, hsz⟩ := hcal
            have htT : t ∈ T := by simpa using htT
            have hsz : c.args.size = 2 := by simpa using hsz
            have hmap : c.args.map fr'.eval = c.args.map fr.eval := map_congr _ (fun x hx => eval_clean hF (Array.all_eq_true_iff_forall_mem.1 hal x hx))
            have hrun : ∀ fx : Frame, execOp fx.eval o = (do let d ← Deferred.ofValue (fx.tmps.getD t undef) (c.args.map fx.eval); invoke d.target d.args) := by
              intro fx
              rw [hex]
              simp only [resolve, hcl, Frame.eval]
            obtain ⟨x, y, hxy⟩ : ∃ x y, c.args.map fr.eval = #[x, y] := by
              have h2 : (c.args.map fr.eval).size = 2 := by simpa using hsz
              generalize c.args.map fr.eval = z at h2
              obtain ⟨z⟩ := z
              match z, h2 with
              | [x, y], _ => exact ⟨x, y, rfl⟩
            rcases (hF.tm.each t).2 htT with ⟨u1, u2⟩ | ⟨u1, u2⟩
            · have q1 : (execOp fr.eval o).run P w = .halt (.stuck "call: function value expected") w := by rw [hrun, u1]; rfl
              have q2 : (execOp fr'.eval o).run P w = .halt (.stuck "call: function value expected") w := by rw [hrun, u2]; rfl
              exact step_halt hP hF hS e1 e2 q1 q2 hs
            · have q1 : (execOp fr.eval o).run P w = .ok (.enter g #[x, y]) w := by rw [hrun, u1, hxy]; exact hP.one x y w
              have q2 : (execOp fr'.eval o).run P w = .ok (.enter g #[x, y]) w := by rw [hrun, u2, hmap, hxy]; exact hP.two x y w
              exact step_call hP hF hS hW e1 e2 q1 q2 hP.cmp ⟨rfl, fun j => VR.of_clean (by simp)⟩ hs
      · have hnc : ∀ c, o.op ≠ .call c := fun c e => hcall ⟨c, e⟩
        by_cases hclean : o.op.operands.all (opdClean T) = true ∧ dstClean T o = true
        · have hsame : execOp fr'.eval o = execOp fr.eval o := execOp_congr tn T o hok (fun x hx => eval_clean hF (Array.all_eq_true_iff_forall_mem.1 hclean.1 x hx)) hnc
          rw [hsame] at e2
          cases hr : (execOp fr.eval o).run P w with
          | halt x w1 => exact step_halt hP hF hS e1 e2 hr hr hs
          | ok nx w1 =>
            rcases execOp_next tn T P w w1 o nx hok hnc hr with ⟨v, rfl⟩ | rfl
            · exact step_val hF hS e1 e2 (.inl ⟨hr, hr⟩) (hdst v hclean.2) hs
            · exact step_val (v := undef) (v' := undef) hF hS e1 e2 (.inr ⟨hr, hr, rfl, rfl⟩) (hdst undef hclean.2) hs
        ·
          have key : ∀ x, o.op.operands = #[x] → (if opdClean T x then dstClean T o else !(dstClean T o)) = true → (∀ ρ : Operand → Value, (execOp ρ o).run P w = .ok (.value (ρ x)) w) → Follows P tn V1 V2 cs (lone fr' (frs' ++ cs) w) m1 := by
            intro x hx hif hrun
            cases hcx : opdClean T x with
            | true => exact absurd ⟨by rw [hx]; simp [hcx], by rw [hcx] at hif; simpa using hif⟩ hclean
            | false =>
              rw [hcx] at hif
              have hd : dstClean T o = false := by simpa using hif
              cases x with
              | tmp t =>
                have htT : t ∈ T := by simpa [opdClean] using hcx
                refine step_val hF hS e1 e2 (.inl ⟨hrun _, hrun _⟩) ?_ hs
                intro ops2 i2 rest2 k2 d h1 h2
                rw [ht] at h1
                cases h1
                rw [ho] at h2
                simp at h2
                have hdT : d ∈ T := by simpa [dstClean, h2] using hd
                exact ⟨fun h => absurd hdT h, fun _ => (hF.tm.each t).2 htT⟩
              | const v => simp [opdClean] at hcx
              | global i => simp [opdClean] at hcx
              | func f => simp [opdClean] at hcx
          have hok2 := hok
          unfold opOK at hok2
          cases hop : o.op with
          | move x => rw [hop] at hok2; exact key x (by rw [hop]; rfl) hok2 (fun ρ => by simp [execOp, hop])
          | assign x => rw [hop] at hok2; exact key x (by rw [hop]; rfl) hok2 (fun ρ => by simp [execOp, hop])
          | call c => exact absurd hop (hnc c)
          | _ =>
            exfalso
            rw [hop] at hok2
            first
              | (simp at hok2; done)
              | (simp only [Bool.and_eq_true] at hok2; exact hclean ⟨by rw [hop]; exact hok2.2, hok2.1⟩)

end Go.Proofs.YtkmhjkgbcipbmaaGreatDoor.Sim

namespace Go.Proofs.YtkmhjkgbcipbmaaGreatDoor.Sim
open Go

variable {P : Program} {tn : Tn} {V1 V2 : Value}

theorem step_run {g : FuncId} (hP : Fine P tn V1 V2 g) {fr fr' : Frame} {frs frs' cs : List Frame} {w : World} {m1 : Machine} {T : List Nat} (hF : FR P tn V1 V2 fr fr' T) (hS : SR P tn V1 V2 frs frs') (hm : fr.mode = .run)
    (hs : step P (lone fr (frs ++ [Last]) w) = .next m1) : Follows P tn V1 V2 cs (lone fr' (frs' ++ cs) w) m1 := by
  have hm' := hF.mode.trans hm
  have hr := hF.rnd
  have hr' := hF.rnd'
  have key : ∀ k', (∀ x ∈ k', itemOK tn T x = true) →
      (stepG P true { frame := fr, callers := frs ++ [Last], status := .running, dying := none } w).bare = .go { frame := { fr with todo := k' }, callers := frs ++ [Last], status := .running, dying := none } w →
      (stepG P true { frame := fr', callers := frs' ++ cs, status := .running, dying := none } w).bare = .go { frame := { fr' with todo := k' }, callers := frs' ++ cs, status := .running, dying := none } w →
      Follows P tn V1 V2 cs (lone fr' (frs' ++ cs) w) m1 := fun k' hk h1 h2 => follows_go hs h1 h2 (todo_rel hF k' hk) hS
  have keyR : (stepG P true { frame := fr, callers := frs ++ [Last], status := .running, dying := none } w).bare = .go { frame := { fr with mode := .returning }, callers := frs ++ [Last], status := .running, dying := none } w →
      (stepG P true { frame := fr', callers := frs' ++ cs, status := .running, dying := none } w).bare = .go { frame := { fr' with mode := .returning }, callers := frs' ++ cs, status := .running, dying := none } w →
      Follows P tn V1 V2 cs (lone fr' (frs' ++ cs) w) m1 := fun h1 h2 => follows_go hs h1 h2 (ret_rel hF) hS
  cases ht : fr.todo with
  | nil =>
    have ht' := hF.todo.trans ht
    exact keyR (by simp [stepG, stepG.exec, hm, ht, hr]) (by simp [stepG, stepG.exec, hm', ht', hr'])
  | cons x k =>
    have ht' := hF.todo.trans ht
    have hx : itemOK tn T x = true := hF.ok x (by rw [ht]; exact List.mem_cons_self ..)
    have hk : ∀ y ∈ k, itemOK tn T y = true := fun y hy => hF.ok y (by rw [ht]; exact List.mem_cons_of_mem _ hy)
    cases x with
    | inBlock id => exact key k hk (by simp [stepG, stepG.exec, hm, ht]) (by simp [stepG, stepG.exec, hm', ht'])
    | inLoop b =>
      refine key (.code b :: .inLoop b :: k) (fun y hy => ?_) (by simp [stepG, stepG.exec, hm, ht]) (by simp [stepG, stepG.exec, hm', ht'])
      rcases List.mem_cons.1 hy with rfl | hy
      · simpa [itemOK] using hx
      · rcases List.mem_cons.1 hy with rfl | hy
        · exact hx
        · exact hk y hy
    | inRegion ops l =>
      cases l with
      | nil => exact key k hk (by simp [stepG, stepG.exec, hm, ht]) (by simp [stepG, stepG.exec, hm', ht'])
      | cons i rest => exact step_op hP hF hS hm ht hs
    | code c =>
      cases c with
      | skip => exact key k hk (by simp [stepG, stepG.exec, hm, ht]) (by simp [stepG, stepG.exec, hm', ht'])
      | label l => exact key k hk (by simp [stepG, stepG.exec, hm, ht]) (by simp [stepG, stepG.exec, hm', ht'])
      | ret => exact keyR (by simp [stepG, stepG.exec, hm, ht, hr]) (by simp [stepG, stepG.exec, hm', ht', hr'])
      | seq a b =>
        simp only [itemOK, codeOK, Bool.and_eq_true] at hx
        refine key (.code a :: .code b :: k) (fun y hy => ?_) (by simp [stepG, stepG.exec, hm, ht]) (by simp [stepG, stepG.exec, hm', ht'])
        rcases List.mem_cons.1 hy with rfl | hy
        · exact hx.1
        · rcases List.mem_cons.1 hy with rfl | hy
          · exact hx.2
          · exact hk y hy
      | block id b =>
        refine key (.code b :: .inBlock id :: k) (fun y hy => ?_) (by simp [stepG, stepG.exec, hm, ht]) (by simp [stepG, stepG.exec, hm', ht'])
        rcases List.mem_cons.1 hy with rfl | hy
        · simpa [itemOK, codeOK] using hx
        · rcases List.mem_cons.1 hy with rfl | hy
          · rfl
          · exact hk y hy
      | loop b =>
        refine key (.code b :: .inLoop b :: k) (fun y hy => ?_) (by simp [stepG, stepG.exec, hm, ht]) (by simp [stepG, stepG.exec, hm', ht'])
        rcases List.mem_cons.1 hy with rfl | hy
        · simpa [itemOK, codeOK] using hx
        · rcases List.mem_cons.1 hy with rfl | hy
          · simpa [itemOK, codeOK] using hx
          · exact hk y hy
      | cond c a b =>
        simp only [itemOK, codeOK, Bool.and_eq_true] at hx
        have he := eval_clean hF hx.1.1
        cases hb : fr.eval c with
        | bool v =>
          rw [hb] at he
          refine key (.code (if v then a else b) :: k) (fun y hy => ?_) (by simp [stepG, stepG.exec, hm, ht, hb]) (by simp [stepG, stepG.exec, hm', ht', he])
          rcases List.mem_cons.1 hy with rfl | hy
          · cases v
            · exact hx.2
            · exact hx.1.2
          · exact hk y hy
        | _ => exact (step_end hs _ _ (by simp [stepG, stepG.exec, hm, ht, hb]; try exact ⟨rfl, rfl⟩)).elim
      | exit id =>
        cases hx2 : exitTo id k with
        | none => exact (step_end hs _ _ (by simp [stepG, stepG.exec, hm, ht, hx2, hr]; try exact ⟨rfl, rfl⟩)).elim
        | some k' => exact key k' (fun y hy => hk y (exitTo_mem hx2 y hy)) (by simp [stepG, stepG.exec, hm, ht, hx2]) (by simp [stepG, stepG.exec, hm', ht', hx2])
      | region id ops draw =>
        have hops : ∀ l, itemOK tn T (.inRegion ops l) = true := fun l => by simpa [itemOK, codeOK] using hx
        cases draw with
        | false =>
          refine key (.inRegion ops (List.range ops.size) :: k) (fun y hy => ?_) (by simp [stepG, stepG.exec, hm, ht]) (by simp [stepG, stepG.exec, hm', ht'])
          rcases List.mem_cons.1 hy with rfl | hy
          · exact hops _
          · exact hk y hy
        | true =>
          refine follows_go (fr1 := { fr with todo := .inRegion ops (Region.schedule (P.follows .mixedOrders) ops (w.tape w.drawn (.order fr.fn id))) :: k }) (fr1' := { fr' with todo := .inRegion ops (Region.schedule (P.follows .mixedOrders) ops (w.tape w.drawn (.order fr.fn id))) :: k }) (frs1 := frs) (frs1' := frs')
            (w1 := { w with drawn := w.drawn + 1 }) (T1 := T) hs ?_ ?_ (todo_rel hF _ (fun y hy => ?_)) hS
          · simp [stepG, stepG.exec, hm, ht, choose, Sem.run, Question.forced, Question.cut]
          · simp [stepG, stepG.exec, hm', ht', choose, Sem.run, Question.forced, Question.cut, hF.fn]
          · rcases List.mem_cons.1 hy with rfl | hy
            · exact hops _
            · exact hk y hy
      | _ => simp [itemOK, codeOK] at hx
    | _ => simp [itemOK] at hx

theorem step_all {g : FuncId} (hP : Fine P tn V1 V2 g) {fr fr' : Frame} {frs frs' cs : List Frame} {w : World} {m1 : Machine} {T : List Nat} (hF : FR P tn V1 V2 fr fr' T) (hS : SR P tn V1 V2 frs frs')
    (hs : step P (lone fr (frs ++ [Last]) w) = .next m1) : Follows P tn V1 V2 cs (lone fr' (frs' ++ cs) w) m1 := by
  cases hm : fr.mode with
  | run => exact step_run hP hF hS hm hs
  | returning => exact step_ret hP hF hS hm hs
  | panicking chain => exact step_pan hP hF hS hm hs

theorem runs_same {g : FuncId} (hP : Fine P tn V1 V2 g) (cs : List Frame) (n : Nat) : ∀ {fr fr' : Frame} {frs frs' : List Frame} {w w2 : World} {T : List Nat} {fe : Frame}, FR P tn V1 V2 fr fr' T → SR P tn V1 V2 frs frs' →
    runN P n (lone fr (frs ++ [Last]) w) = .next (lone fe [Last] w2) → ∃ fe' T', Steps P (lone fr' (frs' ++ cs) w) (lone fe' cs w2) ∧ FR P tn V1 V2 fe fe' T' := by
  induction n with
  | zero =>
    intro fr fr' frs frs' w w2 T fe hF hS h
    simp [runN, lone] at h
    obtain ⟨rfl, rfl, h⟩ := h
    rcases SR.inv hS with ⟨rfl, rfl⟩ | ⟨c, c', T', l, l', rfl, rfl, hc, hw, hl⟩
    · exact ⟨fr', T, Steps.refl _ _, hF⟩
    · simp at h
  | succ n ih =>
    intro fr fr' frs frs' w w2 T fe hF hS h
    simp only [runN] at h
    cases hx : step P (lone fr (frs ++ [Last]) w) with
    | ended o w1 => rw [hx] at h; simp at h
    | next m1 =>
      rw [hx] at h
      dsimp only at h
      rcases step_all (cs := cs) hP hF hS hx with ⟨fr1, frs1, fr1', frs1', w1, T1, rfl, hst, hF1, hS1⟩ | hg | hd
      · obtain ⟨fe', T', hsteps, hFe⟩ := ih hF1 hS1 h
        exact ⟨fe', T', .head hst hsteps, hFe⟩
      · exfalso
        cases n with
        | zero =>
          simp [runN] at h
          obtain ⟨fr3, w3, chain, he, _⟩ := hg
          rw [h] at he
          simp [lone] at he
        | succ n =>
          simp only [runN] at h
          cases hy : step P m1 with
          | next m2 => exact gone_step hg hy
          | ended o w1 => rw [hy] at h; simp at h
      · exact absurd rfl (dead_not_lone (dead_runN hd h) fe [Last] w2)

/-- THE TURN: what a function does with the one value it does with the other. -/
theorem calls_turn {g : FuncId} (hP : Fine P tn V1 V2 g) {f : FuncId} {T : List Nat} (hf : tn.lookup f = some T) {args args' : Array Value} (ha : TRel V1 V2 T args args') {w : World} {R : Ending → World → Prop}
    (hR : ∀ e w', R e w' → ∃ v, e = .returned v) (h : Calls P f args w R) : Calls P f args' w R := by
  intro cs
  obtain ⟨e, w', fr, hr, hc, hfn, hl⟩ := h [Last]
  obtain ⟨v, rfl⟩ := hR e w' hr
  obtain ⟨n, hn⟩ : Steps P (lone (Frame.enter P f args .normal) [Last] w) (lone fr [Last] w') := hc
  obtain ⟨fe', T', hst, hF⟩ := runs_same hP cs n (frs := []) (frs' := []) (enter_rel hP hf ha) .nil hn
  refine ⟨.returned v, w', fe', hr, hst, hF.fn.trans hfn, ?_⟩
  obtain ⟨hm, hd, hk, fn, hfu, hres⟩ := hl
  refine ⟨hF.mode.trans hm, hF.d', hF.kind', fn, by rw [hF.fn]; exact hfu, ?_⟩
  have hfo := hP.fns _ _ hF.look
  unfold fnOK at hfo
  dsimp only at hfo
  rw [hfu] at hfo
  dsimp only at hfo
  simp only [Bool.and_eq_true] at hfo
  rw [← hres]
  congr 1
  unfold results
  congr 1
  refine mapM_same _ _ _ (fun x hx => ?_)
  have hx := Array.all_eq_true_iff_forall_mem.1 hfo.1.2 x hx
  cases x with
  | tmp t => simp [resOK] at hx; dsimp only; rw [hF.tm.clean hx]
  | cell t ty => simp [resOK] at hx; dsimp only; rw [hF.tm.clean hx]

end Go.Proofs.YtkmhjkgbcipbmaaGreatDoor.Sim
