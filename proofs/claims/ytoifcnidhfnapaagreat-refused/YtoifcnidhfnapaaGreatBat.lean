import Derived.Test.YtoifcnidhfnapaaGreatBegun
import Derived.Maps.AppendAt
set_option linter.unusedVariables false
set_option linter.unusedSimpArgs false
namespace Go.Proofs.YtoifcnidhfnapaaGreat
open Go.RowKit Go.Maps

/-- The three cells of an entry whose row lies in block b. -/
def entL (p : Ent × Nat) : List Value := [.string p.1.nm, .slice (some ⟨p.2, 0, none⟩) p.1.row.length p.1.row.length, .int .i64 p.1.wt]
def cellsE (xs : List (Ent × Nat)) : List Value := xs.flatMap entL
def RowsIn (w : World) (xs : List (Ent × Nat)) : Prop := ∀ p ∈ xs, w.heap[p.2]? = some (.cells (p.1.row.map (Value.int .i64)).toArray 2 (0, 0))

theorem cellsE_len (xs : List (Ent × Nat)) : (cellsE xs).length = xs.length * 3 := by
  induction xs with
  | nil => rfl
  | cons p ps ih => simp only [cellsE, List.flatMap_cons, List.length_append, List.length_cons] at ih ⊢; rw [ih]; simp [entL]; omega

theorem cellsE_snoc (xs : List (Ent × Nat)) (p : Ent × Nat) : cellsE (xs ++ [p]) = cellsE xs ++ entL p := by simp [cellsE, List.flatMap_append]

theorem cellsE_at (xs : List (Ent × Nat)) (i j : Nat) (hi : i < xs.length) (hj : j < 3) : (cellsE xs)[i * 3 + j]? = (entL xs[i])[j]? := by
  induction xs generalizing i with
  | nil => simp at hi
  | cons p ps ih =>
    have hl : (entL p).length = 3 := rfl
    have e : cellsE (p :: ps) = entL p ++ cellsE ps := rfl
    rw [e]
    cases i with
    | zero => rw [List.getElem?_append_left (by rw [hl]; omega)]; simp
    | succ i =>
      have h2 : (i + 1) * 3 + j - 3 = i * 3 + j := by omega
      rw [List.getElem?_append_right (by rw [hl]; omega), hl, h2, ih i (by simpa using hi)]
      simp

theorem ints_of_block {w : World} {b : Nat} {zs : List Int} (h : w.heap[b]? = some (.cells (zs.map (Value.int .i64)).toArray 2 (0, 0))) (cap : Nat) : IntsAt w (.slice (some ⟨b, 0, none⟩) zs.length cap) zs := by
  refine ⟨_, cap, rfl, fun i hi => ⟨b, 0, rfl, ?_⟩⟩
  rw [cell_of_heap h]
  simp [hi]

/-- Entries in a block, read. -/
theorem ents_of_block {w : World} {g : Nat} {cur : Array Value} {xs : List (Ent × Nat)} (hg : w.heap[g]? = some (.cells cur 39 (0, 0))) (ht : cur.toList.take (xs.length * 3) = cellsE xs) (hr : RowsIn w xs) (cap : Nat) :
    EntsAt w (.slice (some ⟨g, 0, none⟩) xs.length cap) (xs.map (·.1)) := by
  refine ⟨some ⟨g, 0, none⟩, cap, by simp, fun i hi => ?_⟩
  have hi' : i < xs.length := by simpa using hi
  have hx : ((xs.map (·.1))[i]?.getD zeroEnt) = (xs[i]).1 := by simp [hi']
  rw [hx]
  have hcell : ∀ j, j < 3 → cur[i * 3 + j]? = (entL xs[i])[j]? := by
    intro j hj
    rw [← cellsE_at xs i j hi' hj, ← ht, List.getElem?_take_of_lt (by omega)]
    simp
  refine ⟨g, 0, .slice (some ⟨xs[i].2, 0, none⟩) xs[i].1.row.length xs[i].1.row.length, rfl, ?_, ?_, ?_, ?_⟩
  · rw [cell_of_heap hg, Nat.zero_add]; exact hcell 0 (by omega)
  · rw [cell_of_heap hg, Nat.zero_add]; exact hcell 1 (by omega)
  · exact ints_of_block (hr _ (List.getElem_mem hi')) _
  · rw [cell_of_heap hg, Nat.zero_add]; exact hcell 2 (by omega)

theorem ents_of_own {w : World} {m : Nat} {v : Value} {xs : List (Ent × Nat)} (h : w.ownsRow m 39 3 v xs.length (cellsE xs)) (hr : RowsIn w xs) : EntsAt w v (xs.map (·.1)) := by
  rcases h.2 with ⟨rfl, h0⟩ | ⟨g, cap, cur, rfl, _, hg, _, _, _, ht⟩
  · have : xs = [] := List.eq_nil_of_length_eq_zero h0
    subst this
    exact ⟨none, 0, rfl, fun i hi => by simp at hi⟩
  · exact ents_of_block hg ht hr cap

/-- A batch that is done: it lies below m. -/
def Done (w : World) (B m : Nat) (v : Value) (es : List Ent) : Prop :=
  ∃ g cap cur xs, v = .slice (some ⟨g, 0, none⟩) xs.length cap ∧ B ≤ g ∧ g < m ∧ w.heap[g]? = some (.cells cur 39 (0, 0)) ∧ cur.toList.take (xs.length * 3) = cellsE xs ∧ RowsIn w xs ∧ xs.map (·.1) = es ∧ ∀ p ∈ xs, B ≤ p.2

/-- The slice v reads as the batches bs. -/
def BatsAt (w : World) (v : Value) (bs : List (List Ent)) : Prop :=
  ∃ a cap, v = .slice a bs.length cap ∧ ∀ i, i < bs.length → ∃ b o sv, a = some ⟨b, o, none⟩ ∧ w.cell? ⟨b, o + i, none⟩ = some sv ∧ EntsAt w sv (bs[i]?.getD [])

/-! ### as data -/
def stepB (s : List (List Ent) × List Ent) (c : Int) : List (List Ent) × List Ent :=
  if pickZ (c.tdiv 7) 12 < ((s.2 ++ [entZ c]).length : Int) then (s.1 ++ [s.2 ++ [entZ c]], []) else (s.1, s.2 ++ [entZ c])
def runB (codes : List Int) : List (List Ent) × List Ent := codes.foldl stepB ([], [])
def batsZ (codes : List Int) : List (List Ent) := if 0 < (runB (codes.take 400)).2.length then (runB (codes.take 400)).1 ++ [(runB (codes.take 400)).2] else (runB (codes.take 400)).1

theorem snocInd {α : Type} {P : List α → Prop} (h0 : P []) (hs : ∀ l c, P l → P (l ++ [c])) (l : List α) : P l := by
  rw [← l.reverse_reverse]
  induction l.reverse with
  | nil => exact h0
  | cons a t ih => rw [List.reverse_cons]; exact hs _ _ ih

theorem runB_snoc (l : List Int) (c : Int) : runB (l ++ [c]) = stepB (runB l) c := by simp [runB, List.foldl_append]

theorem runB_len (l : List Int) : ((runB l).1.map List.length).sum + (runB l).2.length = l.length ∧ (runB l).1.length ≤ l.length := by
  refine snocInd (P := fun l => ((runB l).1.map List.length).sum + (runB l).2.length = l.length ∧ (runB l).1.length ≤ l.length) (by simp [runB]) (fun l c ih => ?_) l
  rw [runB_snoc]
  unfold stepB
  split <;> simp at ih ⊢ <;> omega

end Go.Proofs.YtoifcnidhfnapaaGreat
