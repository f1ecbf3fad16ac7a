import Derived.Test.YtoifcnidhfnapaaGreatSame
import Derived.Maps.OwnSet
import Derived.Maps.RangeWalk
import Derived.DeepKeys4
set_option linter.unusedVariables false
set_option linter.unusedSimpArgs false
namespace Go.Proofs.YtoifcnidhfnapaaGreat
open Go.RowKit Go.Maps

/-- A row: three numbers. -/
abbrev Row := Int × Int × Int
def rowVal (r : Row) : Value := .agg #[.int .i64 r.1, .int .i64 r.2.1, .int .i64 r.2.2]
def rowCells (r : Row) : Array Value := #[.int .i64 r.1, .int .i64 r.2.1, .int .i64 r.2.2]
def wfI (x : Int) : Prop := (Lit.int .i64 x).wf = true
def WfRow (r : Row) : Prop := wfI r.1 ∧ wfI r.2.1 ∧ wfI r.2.2

theorem Tryz.laidOut : laidOutB Tryz.prog = true := by kernel_rfl
theorem Tryz.row60 : (62 : TypeId) < Tryz.prog.types.size := of_decide_eq_true (by kernel_rfl)
theorem Tryz.cells60 : Tryz.prog.cellsOf 62 = 3 := by kernel_rfl
theorem Tryz.cells2 : Tryz.prog.cellsOf 2 = 1 := by kernel_rfl
theorem Tryz.size : Tryz.prog.types.size = 221 := by kernel_rfl
theorem Tryz.keyType60 : Tryz.prog.keyType 62 = true := by kernel_rfl
theorem Tryz.wide60 : (match Tryz.prog.underlying 62 with | some (.array _ _) | some (.struct _) => true | _ => false) = true := by rw [Tryz.underlying62]
set_option maxRecDepth 100000 in
theorem law60 : Keyed Tryz.prog 62 := Keyed.of_law (deep_law_laid Tryz.laidOut (m := 2) (by omega) Tryz.row60 (by kernel_rfl) Tryz.wide60)
theorem law9 : Keyed Tryz.prog 9 := string_keyed Tryz.underlying9

def rowLit (r : Row) : Lit := .string (keyBytes [.int .i64 r.1, .int .i64 r.2.1, .int .i64 r.2.2])

theorem kl2 (d : Nat) {x : Int} (h : wfI x) : Tryz.prog.keyLits (d + 1) 2 [.int .i64 x] = some [.int .i64 x] := by
  unfold wfI at h
  unfold Program.keyLits
  rw [Tryz.underlying2]
  simp [h]

theorem kl2_inv (d : Nat) {v : Value} {ls : List Lit} (h : Tryz.prog.keyLits (d + 1) 2 [v] = some ls) : ∃ x, wfI x ∧ v = .int .i64 x ∧ ls = [.int .i64 x] := by
  unfold Program.keyLits at h
  simp only [Tryz.underlying2] at h
  cases v <;> simp at h
  obtain ⟨⟨rfl, hw⟩, rfl⟩ := h
  exact ⟨_, hw, rfl, rfl⟩

theorem kl60 (d : Nat) (a b c : Value) : Tryz.prog.keyLits (d + 2) 62 [a, b, c] = (do
    let x ← Tryz.prog.keyLits (d + 1) 2 [a]
    let y ← Tryz.prog.keyLits (d + 1) 2 [b]
    let z ← Tryz.prog.keyLits (d + 1) 2 [c]
    pure (x ++ (y ++ z))) := by
  conv => lhs; unfold Program.keyLits
  rw [Tryz.underlying62]
  simp only [Tryz.cells60, Tryz.cells2, List.length_cons, List.length_nil, Nat.zero_add, Nat.reduceAdd, if_true]
  simp only [show List.range 3 = [0, 1, 2] from rfl, List.mapM_cons, List.mapM_nil]
  simp only [Nat.zero_mul, Nat.one_mul, Nat.reduceMul, List.drop_zero, List.drop_succ_cons, List.take_succ_cons, List.take_zero]
  generalize Tryz.prog.keyLits (d + 1) 2 [a] = A
  generalize Tryz.prog.keyLits (d + 1) 2 [b] = B
  generalize Tryz.prog.keyLits (d + 1) 2 [c] = C
  cases A <;> cases B <;> cases C <;> simp [List.flatten]

theorem keyOf_row {r : Row} (h : WfRow r) : keyOf Tryz.prog 62 (rowVal r) = some (rowLit r) := by
  obtain ⟨h1, h2, h3⟩ := h
  unfold keyOf
  rw [Tryz.underlying62]
  simp only [Tryz.keyType60, rowVal, Value.formed, Tryz.underlying62, Tryz.cells60, Value.cells, Tryz.size]
  have := kl60 220 (.int .i64 r.1) (.int .i64 r.2.1) (.int .i64 r.2.2)
  rw [kl2 220 h1, kl2 220 h2, kl2 220 h3] at this
  simp only [show (221 + 1 : Nat) = 220 + 2 from rfl]
  rw [this]
  rfl

theorem len3 {α : Type} {l : List α} (h : l.length = 3) : ∃ a b c, l = [a, b, c] := by
  match l, h with
  | [a, b, c], _ => exact ⟨a, b, c, rfl⟩

theorem keyOf_row_inv {v : Value} {l : Lit} (h : keyOf Tryz.prog 62 v = some l) : ∃ r, WfRow r ∧ v = rowVal r ∧ l = rowLit r := by
  unfold keyOf at h
  simp only [Tryz.underlying62, Tryz.keyType60, Tryz.size] at h
  cases v <;> simp [Value.formed, Tryz.underlying62, Tryz.cells60] at h
  rename_i cs
  obtain ⟨hs, ls, hls, rfl⟩ := h
  obtain ⟨cs⟩ := cs
  obtain ⟨a, b, c, rfl⟩ := len3 (by simpa using hs)
  · simp only [Value.cells] at hls
    have e : (222 : Nat) = 220 + 2 := rfl
    rw [e, kl60] at hls
    cases hA : Tryz.prog.keyLits (220 + 1) 2 [a] with
    | none => simp [hA] at hls
    | some A =>
      cases hB : Tryz.prog.keyLits (220 + 1) 2 [b] with
      | none => simp [hA, hB] at hls
      | some B =>
        cases hC : Tryz.prog.keyLits (220 + 1) 2 [c] with
        | none => simp [hA, hB, hC] at hls
        | some C =>
          obtain ⟨x, wx, rfl, rfl⟩ := kl2_inv _ hA
          obtain ⟨y, wy, rfl, rfl⟩ := kl2_inv _ hB
          obtain ⟨z, wz, rfl, rfl⟩ := kl2_inv _ hC
          simp [hA, hB, hC] at hls
          subst hls
          exact ⟨(x, y, z), ⟨wx, wy, wz⟩, rfl, rfl⟩

theorem rowLit_inj {r s : Row} (hr : WfRow r) (hs : WfRow s) (h : rowLit r = rowLit s) : r = s := by
  have := law60.inj (keyOf_row hr) (h ▸ keyOf_row hs)
  simp [rowVal] at this
  obtain ⟨h1, h2, h3⟩ := this
  exact Prod.ext h1 (Prod.ext h2 h3)

end Go.Proofs.YtoifcnidhfnapaaGreat
