import Derived.Calls
import Derived.Shelf.Abstract
set_option linter.unusedVariables false
set_option linter.unusedSimpArgs false
namespace Go.Proofs.YtoifcnidhfnapaaGreat.Sim
open Go

/-- Which slots of a function hold the value that is turned; the functions that may be entered. -/
abbrev Tn := List (Nat × List Nat)

def opdClean (T : List Nat) : Operand → Bool
  | .tmp t => !T.contains t
  | _ => true

def dstClean (T : List Nat) (o : Oper) : Bool :=
  match o.dst with
  | some d => !T.contains d
  | none => true

def argsOK (T T' : List Nat) (args : Array Operand) : Bool :=
  (List.range args.size).all fun j => match args[j]? with
    | some x => (opdClean T x) == !(T'.contains j)
    | none => true

def opOK (tn : Tn) (T : List Nat) (o : Oper) : Bool :=
  match o.op with
  | .move x | .assign x => if opdClean T x then dstClean T o else !(dstClean T o)
  | .call c => dstClean T o && (match c.callee with
      | .builtin .len => c.args.all (opdClean T)
      | .value (.func f) => match tn.lookup f with
        | some T' => argsOK T T' c.args
        | none => false
      | .value (.tmp t) => T.contains t && c.args.all (opdClean T) && c.args.size == 2
      | _ => false)
  | .pick .. | .alloc .. | .box .. | .load .. | .store .. | .nilCheck .. | .binOp .. | .unOp .. | .convert .. | .extract .. | .index .. | .indexAddr .. | .slice .. | .field .. | .fieldAddr .. => dstClean T o && o.op.operands.all (opdClean T)
  | _ => false

def codeOK (tn : Tn) (T : List Nat) : Code → Bool
  | .skip | .ret | .exit _ | .label _ => true
  | .region _ ops _ => ops.all (opOK tn T)
  | .seq a b => codeOK tn T a && codeOK tn T b
  | .cond c a b => opdClean T c && codeOK tn T a && codeOK tn T b
  | .block _ b => codeOK tn T b
  | .loop b => codeOK tn T b
  | _ => false

def resOK (T : List Nat) : ResultVar → Bool
  | .tmp t => !T.contains t
  | .cell a _ => !T.contains a

def fnOK (P : Program) (tn : Tn) (x : Nat × List Nat) : Bool :=
  match P.funcs[x.1]? with
  | some fn => fn.name != "runtime.NumGoroutine" && fn.results.all (resOK x.2) && (match fn.body with
      | some c => codeOK tn x.2 c
      | none => false)
  | none => false

def itemOK (tn : Tn) (T : List Nat) : Item → Bool
  | .code c => codeOK tn T c
  | .inBlock _ => true
  | .inLoop c => codeOK tn T c
  | .inRegion ops _ => ops.all (opOK tn T)
  | _ => false

section
variable (V1 V2 : Value)

def VR (T : List Nat) (i : Nat) (x y : Value) : Prop := (i ∉ T → x = y) ∧ (i ∈ T → (x = undef ∧ y = undef) ∨ (x = V1 ∧ y = V2))

structure TRel (T : List Nat) (a b : Array Value) : Prop where
  size : a.size = b.size
  each : ∀ i, VR V1 V2 T i (a.getD i undef) (b.getD i undef)
end

variable {V1 V2 : Value} {T : List Nat} {a b : Array Value}

theorem getD_set (a : Array Value) (d i : Nat) (v : Value) : (a.setIfInBounds d v).getD i undef = if d = i ∧ d < a.size then v else a.getD i undef := by
  simp only [Array.getD_eq_getD_getElem?, Array.getElem?_setIfInBounds]
  by_cases h : d = i
  · subst h
    by_cases h2 : d < a.size
    · simp [h2]
    · simp [h2]
  · simp [h]

theorem TRel.set (h : TRel V1 V2 T a b) {d : Nat} {v v' : Value} (hv : VR V1 V2 T d v v') : TRel V1 V2 T (a.setIfInBounds d v) (b.setIfInBounds d v') := by
  refine ⟨by simp [h.size], fun i => ?_⟩
  rw [getD_set, getD_set, ← h.size]
  by_cases e : d = i ∧ d < a.size
  · rw [if_pos e, if_pos e, ← e.1]; exact hv
  · rw [if_neg e, if_neg e]; exact h.each i

theorem VR.refl_undef (V1 V2 : Value) (T : List Nat) (i : Nat) : VR V1 V2 T i undef undef := ⟨fun _ => rfl, fun _ => .inl ⟨rfl, rfl⟩⟩
theorem VR.of_clean {i : Nat} {v : Value} (h : i ∉ T) : VR V1 V2 T i v v := ⟨fun _ => rfl, fun hi => absurd hi h⟩

theorem TRel.clean (h : TRel V1 V2 T a b) {i : Nat} (hi : i ∉ T) : a.getD i undef = b.getD i undef := (h.each i).1 hi

theorem TRel.opt (h : TRel V1 V2 T a b) {i : Nat} (hi : i ∉ T) : a[i]? = b[i]? := by
  have h1 := h.clean hi
  have h2 := h.size
  by_cases hl : i < a.size
  · have hl' : i < b.size := by omega
    simp only [Array.getD_eq_getD_getElem?, Array.getElem?_eq_getElem hl, Array.getElem?_eq_getElem hl', Option.getD_some] at h1
    rw [Array.getElem?_eq_getElem hl, Array.getElem?_eq_getElem hl', h1]
  · rw [Array.getElem?_eq_none (by omega), Array.getElem?_eq_none (by omega)]

/-- No one of the two is a truth value. -/
def NoBool (V : Value) : Prop := ∀ b, V ≠ .bool b

theorem TRel.yielded (h : TRel V1 V2 T a b) (n1 : NoBool V1) (n2 : NoBool V2) (ops : Array Oper) : yielded ops a = yielded ops b := by
  funext j
  unfold Go.yielded
  cases hd : (ops[j]?).bind (·.dst) with
  | none => rfl
  | some d =>
    simp only [Option.bind_some]
    by_cases hi : d ∈ T
    · have key : ∀ (x : Array Value) (V : Value), NoBool V → (x.getD d undef = undef ∨ x.getD d undef = V) → (match x[d]? with | some (.bool b) => some b | _ => none) = (none : Option Bool) := by
        intro x V hV hx
        cases hg : x[d]? with
        | none => rfl
        | some v =>
          have hv : x.getD d undef = v := by simp [Array.getD_eq_getD_getElem?, hg]
          rw [hv] at hx
          rcases hx with rfl | rfl
          · rfl
          · cases v <;> first | rfl | exact absurd rfl (hV _)
      rcases (h.each d).2 hi with ⟨h1, h2⟩ | ⟨h1, h2⟩
      · exact (key a V1 n1 (.inl h1)).trans (key b V2 n2 (.inl h2)).symm
      · exact (key a V1 n1 (.inr h1)).trans (key b V2 n2 (.inr h2)).symm
    · rw [h.opt hi]

theorem map_congr {ρ ρ' : Operand → Value} (xs : Array Operand) (h : ∀ x ∈ xs, ρ x = ρ' x) : xs.map ρ = xs.map ρ' := Array.map_congr_left h

/-- What an operation does hangs on its operands alone. -/
theorem execOp_congr {ρ ρ' : Operand → Value} (tn : Tn) (T : List Nat) (o : Oper) (hok : opOK tn T o = true) (h : ∀ x ∈ o.op.operands, ρ x = ρ' x) (hc : ∀ c, o.op ≠ .call c) : execOp ρ o = execOp ρ' o := by
  obtain ⟨dst, op, ty, pos, af, gd⟩ := o
  cases op <;> simp only [opOK, Bool.false_eq_true] at hok <;> (try exact absurd rfl (hc _))
  case pick c x y =>
    simp only [execOp]
    rw [h c (by simp [Op.operands]), h x (by simp [Op.operands]), h y (by simp [Op.operands])]
  case slice t x l hi m =>
    simp only [execOp]
    have hl : ∀ (z : Option Operand), (∀ y ∈ z.toArray, ρ y = ρ' y) → z.map ρ = z.map ρ' := by
      intro z hz
      cases z with
      | none => rfl
      | some y => simp; exact hz y (by simp)
    rw [h x (by simp [Op.operands]), hl l (fun y hy => h y (by simp only [Op.operands, Array.mem_append]; exact .inl (.inl (.inr hy)))), hl hi (fun y hy => h y (by simp only [Op.operands, Array.mem_append]; exact .inl (.inr hy))), hl m (fun y hy => h y (by simp only [Op.operands, Array.mem_append]; exact .inr hy))]
  case store t x y =>
    simp only [execOp]
    rw [h x (by simp [Op.operands]), h y (by simp [Op.operands])]
  case binOp q t x y t' =>
    simp only [execOp]
    rw [h x (by simp [Op.operands]), h y (by simp [Op.operands])]
  case index t x y =>
    simp only [execOp]
    rw [h x (by simp [Op.operands]), h y (by simp [Op.operands])]
  case indexAddr t x y =>
    simp only [execOp]
    rw [h x (by simp [Op.operands]), h y (by simp [Op.operands])]
  all_goals (simp only [execOp])
  all_goals (rw [h _ (by simp only [Op.operands]; exact Array.mem_singleton.2 rfl)])

/-- An operation of these kinds gives a value, or nothing. -/
theorem execOp_next {ρ : Operand → Value} (tn : Tn) (T : List Nat) (P : Program) (w w' : World) (o : Oper) (nx : Next) (hok : opOK tn T o = true) (hc : ∀ c, o.op ≠ .call c) (h : (execOp ρ o).run P w = .ok nx w') : (∃ v, nx = .value v) ∨ nx = .skip := by
  have hv : ∀ s : Sem Value, ((do let x ← s; pure (Next.value x)) : Sem Next).run P w = .ok nx w' → ∃ v, nx = .value v := by
    intro s hs
    rw [Sem.run_bind] at hs
    cases hr : s.run P w with
    | ok x w2 => rw [hr] at hs; simp at hs; exact ⟨x, hs.1.symm⟩
    | halt x w2 => rw [hr] at hs; simp [Result.andThen] at hs
  have hu : ∀ s : Sem Unit, ((do s; pure Next.skip) : Sem Next).run P w = .ok nx w' → nx = .skip := by
    intro s hs
    rw [Sem.run_bind] at hs
    cases hr : s.run P w with
    | ok x w2 => rw [hr] at hs; simp at hs; exact hs.1.symm
    | halt x w2 => rw [hr] at hs; simp [Result.andThen] at hs
  obtain ⟨dst, op, ty, pos, af, gd⟩ := o
  cases op <;> simp only [opOK, Bool.false_eq_true] at hok <;> (try exact absurd rfl (hc _))
  case move x => simp [execOp] at h; exact .inl ⟨_, h.1.symm⟩
  case assign x => simp [execOp] at h; exact .inl ⟨_, h.1.symm⟩
  case pick c x y => exact .inl (by
    simp only [execOp] at h
    rw [Sem.run_bind] at h
    cases hr : (asBool (ρ c)).run P w with
    | ok b w2 => rw [hr] at h; simp at h; exact ⟨_, h.1.symm⟩
    | halt x w2 => rw [hr] at h; simp [Result.andThen] at h)
  case store t x y => exact .inr (hu _ h)
  case nilCheck x =>
    refine .inl ?_
    have hB : ∀ {α : Type} (s : Sem α) (k : α → Sem Next) (w1 : World), (∀ a w2, (k a).run P w2 = .ok nx w' → ∃ v, nx = .value v) → (s >>= k).run P w1 = .ok nx w' → ∃ v, nx = .value v := by
      intro α s k w1 hk hs
      rw [Sem.run_bind] at hs
      cases hr : s.run P w1 with
      | ok x w2 => rw [hr] at hs; exact hk _ _ hs
      | halt x w2 => rw [hr] at hs; simp [Result.andThen] at hs
    have hp : ∀ w1, (runtimePanic .nilDeref : Sem Next).run P w1 = .ok nx w' → ∃ v, nx = .value v := by
      intro w1 hs
      unfold runtimePanic at hs
      refine hB _ _ _ (fun p w2 h2 => ?_) hs
      simp [goPanic] at h2
    have hpu : ∀ w1 v, (pure (Next.value v) : Sem Next).run P w1 = .ok nx w' → ∃ v, nx = .value v := by
      intro w1 v hs
      simp at hs
      exact ⟨v, hs.1.symm⟩
    simp only [execOp] at h
    split at h
    · exact hp _ h
    · exact hp _ h
    · exact hp _ h
    · split at h
      · exact hp _ h
      · refine hB _ _ _ (fun a w2 h2 => ?_) h
        refine hB _ _ _ (fun a w3 h3 => ?_) h2
        split at h3
        · refine hB _ _ _ (fun a w4 h4 => ?_) h3
          exact hpu _ _ h4
        · exact hpu _ _ h3
      · exact hpu _ _ h
    · exact hpu _ _ h
  all_goals exact .inl (hv _ h)

end Go.Proofs.YtoifcnidhfnapaaGreat.Sim
