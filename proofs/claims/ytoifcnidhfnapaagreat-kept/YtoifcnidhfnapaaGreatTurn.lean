import Derived.Test.YtoifcnidhfnapaaGreatSim7
import Derived.Test.YtoifcnidhfnapaaGreatProg
import Derived.KernelRfl
import Derived.WalkKit
set_option linter.unusedVariables false
set_option linter.unusedSimpArgs false
namespace Go.Proofs.YtoifcnidhfnapaaGreat
open Go

/-- The sort's functions, and where each holds the comparator. -/
def tnR : Sim.Tn := [(53, [1, 12]), (67, [4, 29, 36, 43, 51, 60, 79, 84, 102, 110, 133, 145]), (68, []), (70, []), (78, [3, 22]), (79, [3, 28, 58]), (80, [3]), (81, [3, 39, 43, 47, 53]), (82, [3]), (83, [3, 23, 72, 112]), (84, [4, 35, 54]), (85, [4, 36, 54, 109, 127]), (86, []), (87, []), (96, []), (102, [4, 24, 43]), (103, []), (104, []), (105, [3, 16]), (106, [5, 18, 27, 36]), (110, []), (115, [4, 12]), (117, [])]

def fnOf : Value := .func (.func 70) #[] #[]
def meOf : Value := .func (.methodOf 62 "Compare") #[] #[]

set_option maxRecDepth 100000 in
theorem tnR_all : (tnR.all fun x => Sim.fnOK Tryz.prog tnR x) = true := by kernel_rfl

theorem lookup_mem {l : Sim.Tn} {f : Nat} {T : List Nat} (h : l.lookup f = some T) : (f, T) ∈ l := by
  induction l with
  | nil => simp at h
  | cons x l ih =>
    obtain ⟨a, b⟩ := x
    simp only [List.lookup] at h
    split at h
    · rename_i e
      have : f = a := by simpa using e
      subst this
      cases h
      exact List.mem_cons_self ..
    · exact List.mem_cons_of_mem _ (ih h)

set_option maxRecDepth 100000 in
theorem noSteps : (Tryz.prog.funcs.all fun f => ((f.body.map readies).getD []).isEmpty) = true := by kernel_rfl

theorem stepOf_none (i : Nat) : Tryz.prog.stepOf i = none := by
  unfold Program.stepOf
  rw [Array.findIdx?_eq_none_iff]
  intro f hf
  have h := Array.all_eq_true_iff_forall_mem.1 noSteps f hf
  cases hb : f.body with
  | none => simp
  | some c => simp [hb] at h; simp [h]

set_option maxRecDepth 100000 in
theorem methR (n : Nat) (x : Value) (w : World) : (method (n + 1) 62 x "Compare").run Tryz.prog w = .ok (70, x) w := by kernel_rfl

set_option maxRecDepth 100000 in
set_option maxHeartbeats 1000000 in
theorem fineR : Sim.Fine Tryz.prog tnR fnOf meOf 70 where
  fns f T h := (List.all_eq_true.1 tnR_all) (f, T) (lookup_mem h)
  steps := stepOf_none
  follows := by kernel_rfl
  cmp := by rfl
  n1 b := by simp [fnOf]
  n2 b := by simp [meOf]
  one x y w := by
    simp only [fnOf, Deferred.ofValue, pure_bind, invoke, Array.append_empty, Array.empty_append]
    exact enters_of Tryz.func70 (by kernel_rfl) rfl #[x, y] w
  two x y w := by
    simp [meOf, Deferred.ofValue, invoke, callMethod]
    rw [show 221 + Made.depth = (221 + Made.depth - 1) + 1 from rfl, methR]
    exact enters_of Tryz.func70 (by kernel_rfl) rfl #[x, y] w

end Go.Proofs.YtoifcnidhfnapaaGreat
