import Derived.Test.YtgddkjhknlgbbaaGreatDoorM09
import Derived.Shelf.SlSortCmp.WholeK
set_option linter.unusedVariables false
set_option linter.unusedSimpArgs false

namespace Go.Proofs.YtgddkjhknlgbbaaGreatDoor
open Go.RowKit Go.Maps Go.Sort Go.Shelf

def encR (r : Row) : List Value := [.int .i64 r.1, .int .i64 r.2.1, .int .i64 r.2.2]
def listR (r : Row) : List Int := [r.1, r.2.1, r.2.2]
def cmpR (x y : Row) : Int := cmpL (listR x) (listR y)

theorem ints3 {w : World} {b : Nat} {t : TypeId} (x y z : Int) (h : w.heap[b]? = some (.cells #[.int .i64 x, .int .i64 y, .int .i64 z] t (0, 0))) : IntsAt w (.slice (some ⟨b, 0, none⟩) 3 3) [x, y, z] := by
  refine ⟨some ⟨b, 0, none⟩, 3, rfl, fun i hi => ⟨b, 0, rfl, ?_⟩⟩
  rw [cell_of_heap h]
  match i, hi with
  | 0, _ => rfl
  | 1, _ => rfl
  | 2, _ => rfl

set_option maxHeartbeats 1000000 in
theorem cmpRow_any (x y : Row) (W : World) : Calls Tryz.prog 101 #[.agg #[.int .i64 x.1, .int .i64 x.2.1, .int .i64 x.2.2], .agg #[.int .i64 y.1, .int .i64 y.2.1, .int .i64 y.2.2]] W fun e w' => e = .returned (.int .i64 (cmpR x y)) ∧ ∃ q os', w' = grow (W.drewN q) os' := by
  obtain ⟨x1, x2, x3⟩ := x
  obtain ⟨y1, y2, y3⟩ := y
  dsimp only
  obtain ⟨W2, hW2⟩ : ∃ W2, W2 = (W.alloc (.cells #[.int .i64 x1, .int .i64 x2, .int .i64 x3] 127)).alloc (.cells #[.int .i64 y1, .int .i64 y2, .int .i64 y3] 127) := ⟨_, rfl⟩
  have hx : IntsAt W2 (.slice (some ⟨W.heap.size, 0, none⟩) 3 3) [x1, x2, x3] := ints3 (t := 127) x1 x2 x3 (by rw [hW2, Below.heap_alloc _ _ _ (by simp)]; exact heap_last _ _ _ rfl)
  have hy : IntsAt W2 (.slice (some ⟨W.heap.size + 1, 0, none⟩) 3 3) [y1, y2, y3] := ints3 (t := 127) y1 y2 y3 (by rw [hW2]; exact heap_last _ _ _ (by simp))
  have Hx := hide hx
  have Hy := hide hy
  have HW := hide hW2
  have Hr : Hid (cmpL [x1, x2, x3] [y1, y2, y3] = cmpR (x1, x2, x3) (y1, y2, y3)) := rfl
  clear hx hy
  go_enter Tryz.func101, Tryz.ntmps101
  go_wp2
  rw [← hW2]
  clear hW2
  go_quiet ((go_at_call 122; exact Calls.quiet_of_same (compare_any _ _ [x1, x2, x3] [y1, y2, y3] _ (by exact (unhide Hx).drewN _) (by exact (unhide Hy).drewN _) rfl (by simp))))
  go_wp2
  go_ret
  refine ⟨ret_int (unhide Hr), nq, #[.cells #[.int .i64 x1, .int .i64 x2, .int .i64 x3] 127, .cells #[.int .i64 y1, .int .i64 y2, .int .i64 y3] 127], ?_⟩
  rw [unhide HW, alloc_eq_grow, alloc_eq_grow, grow_grow]
  rfl

theorem cmpLays33 (blk off size : Nat) (w : World) : CmpLays Tryz.prog 101 #[] encR 3 cmpR blk off size w :=
  fun _ _ _ _ x y => cmpRow_any x y _

theorem cmpI_lt (x y : Int) : cmpI x y < 0 ↔ x < y := by
  unfold cmpI
  split
  · simp [*]
  · split <;> simp [*] <;> omega
theorem cmpI_eq (x y : Int) : cmpI x y = 0 ↔ x = y := by
  unfold cmpI
  split
  · constructor <;> intro h <;> omega
  · split
    · constructor <;> intro h <;> omega
    · constructor <;> intro h <;> omega

/-- 'row a stands ahead of row b'. -/
def ltR (x y : Row) : Prop := x.1 < y.1 ∨ (x.1 = y.1 ∧ (x.2.1 < y.2.1 ∨ (x.2.1 = y.2.1 ∧ x.2.2 < y.2.2)))

theorem ltOf_R (x y : Row) : ltOf cmpR x y = true ↔ ltR x y := by
  unfold ltOf cmpR listR ltR
  rw [decide_eq_true_iff]
  simp only [cmpL]
  by_cases h1 : x.1 = y.1
  · rw [if_pos ((cmpI_eq _ _).2 h1)]
    by_cases h2 : x.2.1 = y.2.1
    · rw [if_pos ((cmpI_eq _ _).2 h2)]
      by_cases h3 : x.2.2 = y.2.2
      · rw [if_pos ((cmpI_eq _ _).2 h3)]; simp; omega
      · rw [if_neg (fun e => h3 ((cmpI_eq _ _).1 e)), cmpI_lt]; omega
    · rw [if_neg (fun e => h2 ((cmpI_eq _ _).1 e)), cmpI_lt]; omega
  · rw [if_neg (fun e => h1 ((cmpI_eq _ _).1 e)), cmpI_lt]; omega

theorem ltOf_R_false (x y : Row) : ltOf cmpR x y = false ↔ ¬ ltR x y := by
  rw [← ltOf_R]; simp

theorem swoR : SWO (ltOf cmpR) where
  irrefl x := by rw [ltOf_R_false]; unfold ltR; omega
  trans x y z h1 h2 := by rw [ltOf_R] at *; unfold ltR at *; omega
  ntrans x y z h1 h2 := by rw [ltOf_R_false] at *; unfold ltR at *; omega

end Go.Proofs.YtgddkjhknlgbbaaGreatDoor
