import Derived.Test.YtoifcnidhfnapaaGreatAdd
import Derived.Test.YtoifcnidhfnapaaGreatRowOf
set_option linter.unusedVariables false
set_option linter.unusedSimpArgs false
namespace Go.Proofs.YtoifcnidhfnapaaGreat
open Go.RowKit Go.Maps

theorem grown_below {w w' : World} {b : Nat} (h : w.grownBy w' (some b)) (hb : w.heap.size ≤ b) : Below w.heap.size w w' :=
  (Below.refl _ _).grown h (Nat.le_refl _) (fun k e => by cases e; exact hb)

/-- How a pointer to a block's head reads; how a map reads: by its block's number. -/
def ptrElem : Value → Option (DataW Unit × List MemPlace)
  | .pointer (some ⟨b, 0, none⟩) => some (.lit (.int .i64 b), [])
  | .pointer none => some (.lit (.int .i64 (-1)), [])
  | _ => none
def mapElem : Value → Option (DataW Unit × List MemPlace)
  | .map (some b) => some (.lit (.int .i64 b), [])
  | .map none => some (.lit (.int .i64 (-1)), [])
  | _ => none

def strLit (s : ByteArray) : Lit := .string s.data.toList

theorem strLit_inj {a b : ByteArray} (h : strLit a = strLit b) : a = b := by
  unfold strLit at h
  injection h with h
  cases a; cases b
  simp at h
  rw [h]

theorem keyOf_str {s : ByteArray} (h : s.size ≤ maxLen) : keyOf Tryz.prog 9 (.string s) = some (strLit s) := by simp [keyOf, Tryz.underlying9, mapKey, h, strLit]

/-- A relation of the engine's: its struct's block, its map's block, its arity, a bound on its entries, its weights. -/
structure Rel where
  rb : Nat
  mb : Nat
  ar : Nat
  n : Nat
  f : Row → Int

abbrev St := ByteArray → Option Rel

/-- There is no view and no index: both maps (the blocks behind the relations' one) are empty; the relations' maps lie behind the engine's block. -/
def NoV (w : World) (xs : Array Value) (db eb : Nat) (st : St) : Prop :=
  xs[1]? = some (.map (some (db + 1))) ∧ xs[2]? = some (.map (some (db + 2))) ∧ w.ownsMap Tryz.prog 85 ptrElem (db + 1) 0 (.map []) ∧ w.ownsMap Tryz.prog 9 ptrElem (db + 2) 0 (.map []) ∧ db + 3 = eb ∧ ∀ nm R, st nm = some R → eb < R.mb

theorem ownsMap_kept {k : TypeId} {R : Value → Option (DataW Unit × List MemPlace)} {w w' : World} {b n : Nat} {D : DataW Unit} (h : w.ownsMap Tryz.prog k R b n D) (hb : w'.heap[b]? = w.heap[b]?) : w'.ownsMap Tryz.prog k R b n D := by
  obtain ⟨es, clock, h1, h2⟩ := h
  exact ⟨es, clock, hb.trans h1, h2⟩

theorem NoV.kept {w w' : World} {xs : Array Value} {db eb : Nat} {st : St} (h : NoV w xs db eb st) (h1 : w'.heap[db + 1]? = w.heap[db + 1]?) (h2 : w'.heap[db + 2]? = w.heap[db + 2]?) : NoV w' xs db eb st :=
  ⟨h.1, h.2.1, ownsMap_kept h.2.2.1 h1, ownsMap_kept h.2.2.2.1 h2, h.2.2.2.2.1, h.2.2.2.2.2⟩

theorem NoV.turn {w : World} {xs : Array Value} {db eb : Nat} {st st' : St} (h : NoV w xs db eb st) (hs : ∀ nm R', st' nm = some R' → eb < R'.mb) : NoV w xs db eb st' :=
  ⟨h.1, h.2.1, h.2.2.1, h.2.2.2.1, h.2.2.2.2.1, hs⟩

structure EngRep (w : World) (eb db nD S E : Nat) (st : St) : Prop where
  eng : ∃ xs : Array Value, w.heap[eb]? = some (.cells xs 56 (0, 0)) ∧ xs[0]? = some (.map (some db)) ∧ NoV w xs db eb st
  dir : ∃ D, w.ownsMap Tryz.prog 9 ptrElem db nD D ∧ (∀ nm, nm.size ≤ maxLen → Maps.has D (strLit nm) = (st nm).isSome) ∧
    (∀ nm R, nm.size ≤ maxLen → st nm = some R → ∀ zd, D.atKey (strLit nm) zd = .lit (.int .i64 R.rb))
  rel : ∀ nm R, st nm = some R → w.heap[R.rb]? = some (.cells #[.int .i64 R.ar, .map (some R.mb)] 77 (0, 0)) ∧ WMap w R.mb R.n R.f
  apart : ∀ nm nm' R R', st nm = some R → st nm' = some R' → nm ≠ nm' → R.mb ≠ R'.mb
  inn : S ≤ eb ∧ eb < E ∧ S ≤ db ∧ db < E
  inr : ∀ nm R, st nm = some R → S ≤ R.rb ∧ R.rb < E ∧ S ≤ R.mb ∧ R.mb < E ∧ R.mb ≠ db
  top : E ≤ w.heap.size

theorem EngRep.c0 {w : World} {eb db nD S E : Nat} {st : St} (h : EngRep w eb db nD S E st) : w.cell? ⟨eb, 0, none⟩ = some (.map (some db)) := by
  obtain ⟨xs, h1, h2, _⟩ := h.eng
  exact (cell_of_heap h1 0).trans h2

set_option maxHeartbeats 400000 in
theorem new_any (w : World) : Calls Tryz.prog 17 #[] w fun e w' => e = .returned (.pointer (some ⟨w.heap.size + 3, 0, none⟩)) ∧ EngRep w' (w.heap.size + 3) w.heap.size 0 w.heap.size w'.heap.size (fun _ => none) ∧ Below w.heap.size w w' := by
  have hmm := @run_makeMap Tryz.prog
  go_enter Tryz.func17, Tryz.ntmps17
  go_wp2
  go_ret
  have made : ∀ (W : World) (k : TypeId) (b : Nat), b = W.heap.size → (W.alloc (.map #[] 0)).ownsMap Tryz.prog k ptrElem b 0 (.map []) := fun W k b e => by subst e; exact World.ownsMap_made W Tryz.prog k ptrElem
  refine ⟨rfl, ⟨⟨_, heap_last _ _ _ (by simp), rfl, rfl, rfl, ((made _ _ _ (by simp)).alloc _).alloc _, (made _ _ _ (by simp)).alloc _, rfl, fun _ _ h => by cases h⟩, ⟨.map [], (((World.ownsMap_made _ _ _ _).alloc _).alloc _).alloc _, fun _ _ => rfl, fun _ _ _ h => by cases h⟩, fun _ _ h => (by cases h), fun _ _ _ _ h => (by cases h), by simp; omega, fun _ _ h => (by cases h), Nat.le_refl _⟩, ((((Below.refl _ _).alloc (Nat.le_refl _) _).alloc (by simp) _).alloc (by simp; omega) _).alloc (by simp; omega) _⟩

set_option maxHeartbeats 400000 in
theorem relNew_any (a : Nat) (w : World) : Calls Tryz.prog 29 #[.int .i64 a] w fun e w' => e = .returned (.pointer (some ⟨w.heap.size + 1, 0, none⟩)) ∧ w'.heap[w.heap.size + 1]? = some (.cells #[.int .i64 a, .map (some w.heap.size)] 77 (0, 0)) ∧
    WMap w' w.heap.size 0 (fun _ => 0) ∧ w'.heap.size = w.heap.size + 2 ∧ Below w.heap.size w w' := by
  have hmm := @run_makeMap Tryz.prog
  go_enter Tryz.func29, Tryz.ntmps29
  go_wp2
  go_ret
  exact ⟨rfl, heap_last _ _ _ (by simp), ⟨.map [], (World.ownsMap_made _ _ _ _).alloc _, ⟨fun _ _ => rfl, fun _ _ => by simp [Maps.has], fun _ h => by simp [Maps.has] at h⟩⟩, by simp, ((Below.refl _ _).alloc (Nat.le_refl _) _).alloc (by simp) _⟩

theorem arity_any (rb ar mb : Nat) (w : World) (h : w.heap[rb]? = some (.cells #[.int .i64 ar, .map (some mb)] 77 (0, 0))) :
    Calls Tryz.prog 23 #[.pointer (some ⟨rb, 0, none⟩)] w fun e w' => e = .returned (.int .i64 ar) ∧ w' = w := by
  have c0 : w.cell? ⟨rb, 0, none⟩ = some (.int .i64 ar) := cell_of_heap h 0
  clear h
  go_enter Tryz.func23, Tryz.ntmps23
  go_wp2
  go_ret
  exact ⟨rfl, rfl⟩

theorem len_any {D : DataW Unit} (rb ar mb n : Nat) (w : World) (h : w.heap[rb]? = some (.cells #[.int .i64 ar, .map (some mb)] 77 (0, 0))) (hown : w.ownsMap Tryz.prog 62 (plainElem Tryz.prog 2) mb n D) :
    Calls Tryz.prog 20 #[.pointer (some ⟨rb, 0, none⟩)] w fun e w' => e = .returned (.int .i64 (Maps.size D)) ∧ w' = w := by
  have c0 : w.cell? ⟨rb, 1, none⟩ = some (.map (some mb)) := cell_of_heap h 1
  clear h
  go_enter Tryz.func20, Tryz.ntmps20
  go_wp2_with (first
    | (at_len; refine wpList_len_own _ rfl _ 75 rfl 62 2 Tryz.underlying75 _ mb n D rfl hown ?_)
    | go_in)
  go_ret
  exact ⟨rfl, rfl⟩

end Go.Proofs.YtoifcnidhfnapaaGreat
