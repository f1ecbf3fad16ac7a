import Derived.Test.YtgddkjhknlgbbaaAdd
import Derived.Test.YtgddkjhknlgbbaaRowOf
namespace Go.Proofs.Ytgddkjhknlgbbaa
open Go.RowKit Go.Maps

theorem grown_below {w w' : World} {b : Nat} (h : w.grownBy w' (some b)) (hb : w.heap.size ≤ b) : Below w.heap.size w w' :=
  (Below.refl _ _).grown h (Nat.le_refl _) (fun k e => by cases e; exact hb)

/-- How a pointer to a block's head reads; how a map reads: by its block's number. -/
def ptrElem : Value → Option (DataW Unit × List MemPlace)
  | .pointer (some ⟨b, 0, none⟩) => some (.lit (.int .i64 b), [])
  | .pointer none => some (.lit (.int .i64 (-1)), [])
  | _ => none
def mapElem : Value → Option (DataW Unit × List MemPlace)
  | .map (some b) => some (.lit (.int .i64 b), [])
  | .map none => some (.lit (.int .i64 (-1)), [])
  | _ => none

def strLit (s : ByteArray) : Lit := .string s.data.toList

theorem strLit_inj {a b : ByteArray} (h : strLit a = strLit b) : a = b := by
  unfold strLit at h
  injection h with h
  cases a; cases b
  simp at h
  rw [h]

theorem keyOf_str {s : ByteArray} (h : s.size ≤ maxLen) : keyOf Try.prog 9 (.string s) = some (strLit s) := by simp [keyOf, Try.underlying9, mapKey, h, strLit]

/-- A relation of the engine's: its struct's block, its map's block, its arity, a bound on its entries, its weights. -/
structure Rel where
  rb : Nat
  mb : Nat
  ar : Nat
  n : Nat
  f : Row → Int

abbrev St := ByteArray → Option Rel

structure EngRep (w : World) (eb db nD S E : Nat) (st : St) : Prop where
  eng : ∃ xs : Array Value, w.heap[eb]? = some (.cells xs 55 (0, 0)) ∧ xs[0]? = some (.map (some db))
  dir : ∃ D, w.ownsMap Try.prog 9 ptrElem db nD D ∧ (∀ nm, nm.size ≤ maxLen → Maps.has D (strLit nm) = (st nm).isSome) ∧
    (∀ nm R, nm.size ≤ maxLen → st nm = some R → ∀ zd, D.atKey (strLit nm) zd = .lit (.int .i64 R.rb))
  rel : ∀ nm R, st nm = some R → w.heap[R.rb]? = some (.cells #[.int .i64 R.ar, .map (some R.mb)] 75 (0, 0)) ∧ WMap w R.mb R.n R.f
  apart : ∀ nm nm' R R', st nm = some R → st nm' = some R' → nm ≠ nm' → R.mb ≠ R'.mb
  inn : S ≤ eb ∧ eb < E ∧ S ≤ db ∧ db < E
  inr : ∀ nm R, st nm = some R → S ≤ R.rb ∧ R.rb < E ∧ S ≤ R.mb ∧ R.mb < E ∧ R.mb ≠ db
  top : E ≤ w.heap.size

theorem EngRep.c0 {w : World} {eb db nD S E : Nat} {st : St} (h : EngRep w eb db nD S E st) : w.cell? ⟨eb, 0, none⟩ = some (.map (some db)) := by
  obtain ⟨xs, h1, h2⟩ := h.eng
  exact (cell_of_heap h1 0).trans h2

set_option maxHeartbeats 400000 in
theorem new_any (w : World) : Calls Try.prog 17 #[] w fun e w' => e = .returned (.pointer (some ⟨w.heap.size + 2, 0, none⟩)) ∧ EngRep w' (w.heap.size + 2) w.heap.size 0 w.heap.size w'.heap.size (fun _ => none) ∧ Below w.heap.size w w' := by
  have hmm := @run_makeMap Try.prog
  go_enter Try.func17, Try.ntmps17
  go_wp2
  go_ret
  refine ⟨rfl, ⟨⟨_, heap_last _ _ _ (by simp), rfl⟩, ⟨.map [], ((World.ownsMap_made _ _ _ _).alloc _).alloc _, fun _ _ => rfl, fun _ _ _ h => by cases h⟩, fun _ _ h => (by cases h), fun _ _ _ _ h => (by cases h), by simp; omega, fun _ _ h => (by cases h), Nat.le_refl _⟩, (((Below.refl _ _).alloc (Nat.le_refl _) _).alloc (by simp) _).alloc (by simp; omega) _⟩

set_option maxHeartbeats 400000 in
theorem relNew_any (a : Nat) (w : World) : Calls Try.prog 28 #[.int .i64 a] w fun e w' => e = .returned (.pointer (some ⟨w.heap.size + 1, 0, none⟩)) ∧ w'.heap[w.heap.size + 1]? = some (.cells #[.int .i64 a, .map (some w.heap.size)] 75 (0, 0)) ∧
    WMap w' w.heap.size 0 (fun _ => 0) ∧ w'.heap.size = w.heap.size + 2 ∧ Below w.heap.size w w' := by
  have hmm := @run_makeMap Try.prog
  go_enter Try.func28, Try.ntmps28
  go_wp2
  go_ret
  exact ⟨rfl, heap_last _ _ _ (by simp), ⟨.map [], (World.ownsMap_made _ _ _ _).alloc _, ⟨fun _ _ => rfl, fun _ _ => by simp [Maps.has], fun _ h => by simp [Maps.has] at h⟩⟩, by simp, ((Below.refl _ _).alloc (Nat.le_refl _) _).alloc (by simp) _⟩

theorem arity_any (rb ar mb : Nat) (w : World) (h : w.heap[rb]? = some (.cells #[.int .i64 ar, .map (some mb)] 75 (0, 0))) :
    Calls Try.prog 22 #[.pointer (some ⟨rb, 0, none⟩)] w fun e w' => e = .returned (.int .i64 ar) ∧ w' = w := by
  have c0 : w.cell? ⟨rb, 0, none⟩ = some (.int .i64 ar) := cell_of_heap h 0
  clear h
  go_enter Try.func22, Try.ntmps22
  go_wp2
  go_ret
  exact ⟨rfl, rfl⟩

theorem len_any {D : DataW Unit} (rb ar mb n : Nat) (w : World) (h : w.heap[rb]? = some (.cells #[.int .i64 ar, .map (some mb)] 75 (0, 0))) (hown : w.ownsMap Try.prog 61 (plainElem Try.prog 3) mb n D) :
    Calls Try.prog 20 #[.pointer (some ⟨rb, 0, none⟩)] w fun e w' => e = .returned (.int .i64 (Maps.size D)) ∧ w' = w := by
  have c0 : w.cell? ⟨rb, 1, none⟩ = some (.map (some mb)) := cell_of_heap h 1
  clear h
  go_enter Try.func20, Try.ntmps20
  go_wp2_with (first
    | (at_len; refine wpList_len_own _ rfl _ 69 rfl 61 3 Try.underlying69 _ mb n D rfl hown ?_)
    | go_in)
  go_ret
  exact ⟨rfl, rfl⟩

end Go.Proofs.Ytgddkjhknlgbbaa
