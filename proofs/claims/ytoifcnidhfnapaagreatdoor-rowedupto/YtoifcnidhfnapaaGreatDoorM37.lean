import Derived.Test.YtoifcnidhfnapaaGreatDoorCards
import Derived.Test.YtoifcnidhfnapaaGreatDoorTie
import Derived.WalkKit
import Derived.ProofKit
import Derived.OpenShut
import Derived.Deep.DeepHandedRow
import Derived.Deep.DeepWitnessRowRef
import Derived.Lib.LaidTab
import Derived.LaidHandle
import Derived.ChangeOld
import Derived.Below
import Derived.Test.YtoifcnidhfnapaaGreatDoorM36
set_option linter.unusedVariables false
set_option linter.unusedSimpArgs false

namespace Go.Proofs.YtoifcnidhfnapaaGreatDoor
set_option linter.unusedVariables false
set_option linter.unusedSimpArgs false
open Go.RowKit Go.Maps


open Go.ChangeShapes Go.WideShapes Go.ChangeAt

theorem Tryz.own : ownKnob Tryz.prog.godebug = none := by kernel_rfl

/-- What the listed variables' initialisers lay. -/
def laidHeap (h : Array Obj) : Array Obj :=
  let put (h : Array Obj) (g : Nat) (cs : Array Value) : Array Obj := h.modify g fun
    | .cells _ t frozen => .cells cs t frozen
    | o => o
  let h0 := put h 0 #[.iface 314 (.agg #[.pointer (some ⟨6, 121, none⟩)])]
  let h1 := put h0 1 (([[], [41, 58, 45, 97, 40, 65, 41], [65, 41, 58, 45, 97, 40, 65, 41], [40, 65, 41, 58, 45, 97, 40, 65, 41], [58, 45, 97, 40, 65, 41], [45, 97, 40, 65, 41], [97, 40, 65, 41], [40, 65, 41], [65, 41], [41], [49, 41], [97]] : List (List UInt8)).map fun x => Value.string ⟨x.toArray⟩).toArray
  let h2 := put h1 3 (([1, 10, 100, 1000, 10000, 100000, 1000000, 10000000, 100000000, 1000000000, 10000000000, 100000000000, 1000000000000, 10000000000000, 100000000000000, 1000000000000000, 10000000000000000, 100000000000000000, 1000000000000000000, 10000000000000000000] : List Int).map fun z => Value.int .u64 z).toArray
  let h3 := put h2 4 (([0, 1, 28, 2, 29, 14, 24, 3, 30, 22, 20, 15, 25, 17, 4, 8, 31, 27, 13, 23, 21, 19, 16, 7, 26, 12, 18, 6, 11, 5, 10, 9] : List Int).map fun z => Value.int .u8 z).toArray
  put h3 5 (([0, 1, 56, 2, 57, 49, 28, 3, 61, 58, 42, 50, 38, 29, 17, 4, 62, 47, 59, 36, 45, 43, 51, 22, 53, 39, 33, 30, 24, 18, 12, 5, 63, 55, 48, 27, 60, 41, 37, 16, 46, 35, 44, 21, 52, 32, 23, 11, 54, 26, 40, 15, 34, 20, 31, 10, 25, 14, 19, 9, 13, 8, 7, 6] : List Int).map fun z => Value.int .u8 z).toArray

/-- The script of a call, read: what the walks ask. -/
theorem script_of {H : Type} {enc : TypeId × Value → H} {W : World} {v : Value} {d : DataW H} {p : List MemPlace} (h : ∃ n, DataW.trod enc Tryz.prog W 0 (fun _ => true) true n 22 v.cells.toList = some (d, p)) (hv : v.cells.toList = [v]) (hb : Rows.uptoSmall H [d] = true) :
    ∃ ops : List OpR, ScriptAt W v ops ∧ ops.length ≤ 2000000 ∧ entSum ops ≤ 1000000000 := by
  obtain ⟨n, hn⟩ := h
  rw [hv] at hn
  refine read_script hn ?_
  have h1 : Rows.uptoBulk d + 0 ≤ 1048576 := of_decide_eq_true hb
  exact h1

end Go.Proofs.YtoifcnidhfnapaaGreatDoor
