import Derived.Test.YtgddkjhknlgbbaaSame
import Derived.Maps.OwnSet
import Derived.Maps.RangeWalk
import Derived.DeepKeys4
namespace Go.Proofs.Ytgddkjhknlgbbaa
open Go.RowKit Go.Maps

/-- A row: three numbers. -/
abbrev Row := Int × Int × Int
def rowVal (r : Row) : Value := .agg #[.int .i64 r.1, .int .i64 r.2.1, .int .i64 r.2.2]
def rowCells (r : Row) : Array Value := #[.int .i64 r.1, .int .i64 r.2.1, .int .i64 r.2.2]
def wfI (x : Int) : Prop := (Lit.int .i64 x).wf = true
def WfRow (r : Row) : Prop := wfI r.1 ∧ wfI r.2.1 ∧ wfI r.2.2

theorem Try.laidOut : laidOutB Try.prog = true := by kernel_rfl
theorem Try.row60 : (61 : TypeId) < Try.prog.types.size := of_decide_eq_true (by kernel_rfl)
theorem Try.cells60 : Try.prog.cellsOf 61 = 3 := by kernel_rfl
theorem Try.cells2 : Try.prog.cellsOf 2 = 1 := by kernel_rfl
theorem Try.size : Try.prog.types.size = 135 := by kernel_rfl
theorem Try.keyType60 : Try.prog.keyType 61 = true := by kernel_rfl
theorem Try.wide60 : (match Try.prog.underlying 61 with | some (.array _ _) | some (.struct _) => true | _ => false) = true := by rw [Try.underlying61]
set_option maxRecDepth 100000 in
theorem law60 : Keyed Try.prog 61 := Keyed.of_law (deep_law_laid Try.laidOut (m := 2) (by omega) Try.row60 (by kernel_rfl) Try.wide60)
theorem law9 : Keyed Try.prog 9 := string_keyed Try.underlying9

def rowLit (r : Row) : Lit := .string (keyBytes [.int .i64 r.1, .int .i64 r.2.1, .int .i64 r.2.2])

theorem kl2 (d : Nat) {x : Int} (h : wfI x) : Try.prog.keyLits (d + 1) 2 [.int .i64 x] = some [.int .i64 x] := by
  unfold wfI at h
  unfold Program.keyLits
  rw [Try.underlying2]
  simp [h]

theorem kl2_inv (d : Nat) {v : Value} {ls : List Lit} (h : Try.prog.keyLits (d + 1) 2 [v] = some ls) : ∃ x, wfI x ∧ v = .int .i64 x ∧ ls = [.int .i64 x] := by
  unfold Program.keyLits at h
  simp only [Try.underlying2] at h
  cases v <;> simp at h
  obtain ⟨⟨rfl, hw⟩, rfl⟩ := h
  exact ⟨_, hw, rfl, rfl⟩

theorem kl60 (d : Nat) (a b c : Value) : Try.prog.keyLits (d + 2) 61 [a, b, c] = (do
    let x ← Try.prog.keyLits (d + 1) 2 [a]
    let y ← Try.prog.keyLits (d + 1) 2 [b]
    let z ← Try.prog.keyLits (d + 1) 2 [c]
    pure (x ++ (y ++ z))) := by
  conv => lhs; unfold Program.keyLits
  rw [Try.underlying61]
  simp only [Try.cells60, Try.cells2, List.length_cons, List.length_nil, Nat.zero_add, Nat.reduceAdd, if_true]
  simp only [show List.range 3 = [0, 1, 2] from rfl, List.mapM_cons, List.mapM_nil]
  simp only [Nat.zero_mul, Nat.one_mul, Nat.reduceMul, List.drop_zero, List.drop_succ_cons, List.take_succ_cons, List.take_zero]
  generalize Try.prog.keyLits (d + 1) 2 [a] = A
  generalize Try.prog.keyLits (d + 1) 2 [b] = B
  generalize Try.prog.keyLits (d + 1) 2 [c] = C
  cases A <;> cases B <;> cases C <;> simp [List.flatten]

theorem keyOf_row {r : Row} (h : WfRow r) : keyOf Try.prog 61 (rowVal r) = some (rowLit r) := by
  obtain ⟨h1, h2, h3⟩ := h
  unfold keyOf
  rw [Try.underlying61]
  simp only [Try.keyType60, rowVal, Value.formed, Try.underlying61, Try.cells60, Value.cells, Try.size]
  have := kl60 134 (.int .i64 r.1) (.int .i64 r.2.1) (.int .i64 r.2.2)
  rw [kl2 134 h1, kl2 134 h2, kl2 134 h3] at this
  simp only [show (135 + 1 : Nat) = 134 + 2 from rfl]
  rw [this]
  rfl

theorem len3 {α : Type} {l : List α} (h : l.length = 3) : ∃ a b c, l = [a, b, c] := by
  match l, h with
  | [a, b, c], _ => exact ⟨a, b, c, rfl⟩

theorem keyOf_row_inv {v : Value} {l : Lit} (h : keyOf Try.prog 61 v = some l) : ∃ r, WfRow r ∧ v = rowVal r ∧ l = rowLit r := by
  unfold keyOf at h
  simp only [Try.underlying61, Try.keyType60, Try.size] at h
  cases v <;> simp [Value.formed, Try.underlying61, Try.cells60] at h
  rename_i cs
  obtain ⟨hs, ls, hls, rfl⟩ := h
  obtain ⟨cs⟩ := cs
  obtain ⟨a, b, c, rfl⟩ := len3 (by simpa using hs)
  · simp only [Value.cells] at hls
    have e : (136 : Nat) = 134 + 2 := rfl
    rw [e, kl60] at hls
    cases hA : Try.prog.keyLits (134 + 1) 2 [a] with
    | none => simp [hA] at hls
    | some A =>
      cases hB : Try.prog.keyLits (134 + 1) 2 [b] with
      | none => simp [hA, hB] at hls
      | some B =>
        cases hC : Try.prog.keyLits (134 + 1) 2 [c] with
        | none => simp [hA, hB, hC] at hls
        | some C =>
          obtain ⟨x, wx, rfl, rfl⟩ := kl2_inv _ hA
          obtain ⟨y, wy, rfl, rfl⟩ := kl2_inv _ hB
          obtain ⟨z, wz, rfl, rfl⟩ := kl2_inv _ hC
          simp [hA, hB, hC] at hls
          subst hls
          exact ⟨(x, y, z), ⟨wx, wy, wz⟩, rfl, rfl⟩

theorem rowLit_inj {r s : Row} (hr : WfRow r) (hs : WfRow s) (h : rowLit r = rowLit s) : r = s := by
  have := law60.inj (keyOf_row hr) (h ▸ keyOf_row hs)
  simp [rowVal] at this
  obtain ⟨h1, h2, h3⟩ := this
  exact Prod.ext h1 (Prod.ext h2 h3)

end Go.Proofs.Ytgddkjhknlgbbaa
