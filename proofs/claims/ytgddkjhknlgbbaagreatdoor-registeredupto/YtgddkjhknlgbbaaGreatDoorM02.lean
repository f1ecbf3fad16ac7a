import Derived.Test.YtgddkjhknlgbbaaGreatDoorM01
import Derived.Maps.OwnSet
import Derived.Maps.RangeWalk
import Derived.DeepKeys4
set_option linter.unusedVariables false
set_option linter.unusedSimpArgs false

namespace Go.Proofs.YtgddkjhknlgbbaaGreatDoor
open Go.RowKit Go.Maps

/-- A row: three numbers. -/
abbrev Row := Int × Int × Int
def rowVal (r : Row) : Value := .agg #[.int .i64 r.1, .int .i64 r.2.1, .int .i64 r.2.2]
def rowCells (r : Row) : Array Value := #[.int .i64 r.1, .int .i64 r.2.1, .int .i64 r.2.2]
def wfI (x : Int) : Prop := (Lit.int .i64 x).wf = true
def WfRow (r : Row) : Prop := wfI r.1 ∧ wfI r.2.1 ∧ wfI r.2.2

theorem Tryz.laidOut : laidOutB Tryz.prog = true := by kernel_rfl
theorem Tryz.row60 : (127 : TypeId) < Tryz.prog.types.size := of_decide_eq_true (by kernel_rfl)
theorem Tryz.cells60 : Tryz.prog.cellsOf 127 = 3 := by kernel_rfl
theorem Tryz.cells2 : Tryz.prog.cellsOf 2 = 1 := by kernel_rfl
theorem Tryz.size : Tryz.prog.types.size = 301 := by kernel_rfl
theorem Tryz.keyType60 : Tryz.prog.keyType 127 = true := by kernel_rfl
theorem Tryz.wide60 : (match Tryz.prog.underlying 127 with | some (.array _ _) | some (.struct _) => true | _ => false) = true := by rw [Tryz.underlying127]
set_option maxRecDepth 100000 in
theorem law60 : Keyed Tryz.prog 127 := Keyed.of_law (deep_law_laid Tryz.laidOut (m := 2) (by omega) Tryz.row60 (by kernel_rfl) Tryz.wide60)
theorem law9 : Keyed Tryz.prog 9 := string_keyed Tryz.underlying9

def rowLit (r : Row) : Lit := .string (keyBytes [.int .i64 r.1, .int .i64 r.2.1, .int .i64 r.2.2])

theorem kl2 (d : Nat) {x : Int} (h : wfI x) : Tryz.prog.keyLits (d + 1) 2 [.int .i64 x] = some [.int .i64 x] := by
  unfold wfI at h
  unfold Program.keyLits
  rw [Tryz.underlying2]
  simp [h]

theorem kl2_inv (d : Nat) {v : Value} {ls : List Lit} (h : Tryz.prog.keyLits (d + 1) 2 [v] = some ls) : ∃ x, wfI x ∧ v = .int .i64 x ∧ ls = [.int .i64 x] := by
  unfold Program.keyLits at h
  simp only [Tryz.underlying2] at h
  cases v <;> simp at h
  obtain ⟨⟨rfl, hw⟩, rfl⟩ := h
  exact ⟨_, hw, rfl, rfl⟩

theorem kl60 (d : Nat) (a b c : Value) : Tryz.prog.keyLits (d + 2) 127 [a, b, c] = (do
    let x ← Tryz.prog.keyLits (d + 1) 2 [a]
    let y ← Tryz.prog.keyLits (d + 1) 2 [b]
    let z ← Tryz.prog.keyLits (d + 1) 2 [c]
    pure (x ++ (y ++ z))) := by
  conv => lhs; unfold Program.keyLits
  rw [Tryz.underlying127]
  simp only [Tryz.cells60, Tryz.cells2, List.length_cons, List.length_nil, Nat.zero_add, Nat.reduceAdd, if_true]
  simp only [show List.range 3 = [0, 1, 2] from rfl, List.mapM_cons, List.mapM_nil]
  simp only [Nat.zero_mul, Nat.one_mul, Nat.reduceMul, List.drop_zero, List.drop_succ_cons, List.take_succ_cons, List.take_zero]
  generalize Tryz.prog.keyLits (d + 1) 2 [a] = A
  generalize Tryz.prog.keyLits (d + 1) 2 [b] = B
  generalize Tryz.prog.keyLits (d + 1) 2 [c] = C
  cases A <;> cases B <;> cases C <;> simp [List.flatten]

theorem keyOf_row {r : Row} (h : WfRow r) : keyOf Tryz.prog 127 (rowVal r) = some (rowLit r) := by
  obtain ⟨h1, h2, h3⟩ := h
  unfold keyOf
  rw [Tryz.underlying127]
  simp only [Tryz.keyType60, rowVal, Value.formed, Tryz.underlying127, Tryz.cells60, Value.cells, Tryz.size]
  have := kl60 300 (.int .i64 r.1) (.int .i64 r.2.1) (.int .i64 r.2.2)
  rw [kl2 300 h1, kl2 300 h2, kl2 300 h3] at this
  simp only [show (301 + 1 : Nat) = 300 + 2 from rfl]
  rw [this]
  rfl

theorem len3 {α : Type} {l : List α} (h : l.length = 3) : ∃ a b c, l = [a, b, c] := by
  match l, h with
  | [a, b, c], _ => exact ⟨a, b, c, rfl⟩

theorem keyOf_row_inv {v : Value} {l : Lit} (h : keyOf Tryz.prog 127 v = some l) : ∃ r, WfRow r ∧ v = rowVal r ∧ l = rowLit r := by
  unfold keyOf at h
  simp only [Tryz.underlying127, Tryz.keyType60, Tryz.size] at h
  cases v <;> simp [Value.formed, Tryz.underlying127, Tryz.cells60] at h
  rename_i cs
  obtain ⟨hs, ls, hls, rfl⟩ := h
  obtain ⟨cs⟩ := cs
  obtain ⟨a, b, c, rfl⟩ := len3 (by simpa using hs)
  · simp only [Value.cells] at hls
    have e : (302 : Nat) = 300 + 2 := rfl
    rw [e, kl60] at hls
    cases hA : Tryz.prog.keyLits (300 + 1) 2 [a] with
    | none => simp [hA] at hls
    | some A =>
      cases hB : Tryz.prog.keyLits (300 + 1) 2 [b] with
      | none => simp [hA, hB] at hls
      | some B =>
        cases hC : Tryz.prog.keyLits (300 + 1) 2 [c] with
        | none => simp [hA, hB, hC] at hls
        | some C =>
          obtain ⟨x, wx, rfl, rfl⟩ := kl2_inv _ hA
          obtain ⟨y, wy, rfl, rfl⟩ := kl2_inv _ hB
          obtain ⟨z, wz, rfl, rfl⟩ := kl2_inv _ hC
          simp [hA, hB, hC] at hls
          subst hls
          exact ⟨(x, y, z), ⟨wx, wy, wz⟩, rfl, rfl⟩

theorem rowLit_inj {r s : Row} (hr : WfRow r) (hs : WfRow s) (h : rowLit r = rowLit s) : r = s := by
  have := law60.inj (keyOf_row hr) (h ▸ keyOf_row hs)
  simp [rowVal] at this
  obtain ⟨h1, h2, h3⟩ := this
  exact Prod.ext h1 (Prod.ext h2 h3)

end Go.Proofs.YtgddkjhknlgbbaaGreatDoor

namespace Go.Proofs.YtgddkjhknlgbbaaGreatDoor
open Go.RowKit Go.Maps

def upd (f : Row → Int) (r : Row) (x : Int) : Row → Int := fun s => if s = r then x else f s

/-- The datum D of a map of weights reads as f. -/
structure Rep (D : DataW Unit) (f : Row → Int) : Prop where
  at_ : ∀ r, WfRow r → D.atKey (rowLit r) (.lit (.int .i64 0)) = .lit (.int .i64 (f r))
  has_ : ∀ r, WfRow r → (Maps.has D (rowLit r) = true ↔ f r ≠ 0)
  keys : ∀ l, Maps.has D l = true → ∃ r, WfRow r ∧ l = rowLit r

def WMap (w : World) (b n : Nat) (f : Row → Int) : Prop := ∃ D : DataW Unit, w.ownsMap Tryz.prog 127 (plainElem Tryz.prog 3) b n D ∧ Rep D f

theorem rowLit_isKey (r : Row) : WideAt.IsKeyLit (rowLit r) := trivial

theorem Rep.put {D : DataW Unit} {f : Row → Int} (h : Rep D f) (hD : IsMap D) {r : Row} (hr : WfRow r) {x : Int} (hx : x ≠ 0) : Rep (D.put (rowLit r) (.lit (.int .i64 x))) (upd f r x) := by
  refine ⟨fun s hs => ?_, fun s hs => ?_, fun l hl => ?_⟩
  · unfold upd
    by_cases e : s = r
    · subst e; rw [atKey_put_same hD (rowLit_isKey _), if_pos rfl]
    · rw [atKey_put_other (fun e' => e (rowLit_inj hs hr e')), if_neg e]; exact h.at_ s hs
  · unfold upd
    by_cases e : s = r
    · subst e; rw [has_put_same hD (rowLit_isKey _), if_pos rfl]; simp [hx]
    · rw [has_put_other (fun e' => e (rowLit_inj hs hr e')), if_neg e]; exact h.has_ s hs
  · by_cases e : l = rowLit r
    · exact ⟨r, hr, e⟩
    · rw [has_put_other e] at hl; exact h.keys l hl

theorem Rep.del {D : DataW Unit} {f : Row → Int} (h : Rep D f) {r : Row} (hr : WfRow r) : Rep (D.del (rowLit r)) (upd f r 0) := by
  refine ⟨fun s hs => ?_, fun s hs => ?_, fun l hl => ?_⟩
  · unfold upd
    by_cases e : s = r
    · subst e; rw [atKey_del_same, if_pos rfl]
    · rw [atKey_del_other (fun e' => e (rowLit_inj hs hr e')), if_neg e]; exact h.at_ s hs
  · unfold upd
    by_cases e : s = r
    · subst e; rw [has_del_same, if_pos rfl]; simp
    · rw [has_del_other (fun e' => e (rowLit_inj hs hr e')), if_neg e]; exact h.has_ s hs
  · by_cases e : l = rowLit r
    · subst e; rw [has_del_same] at hl; simp at hl
    · rw [has_del_other e] at hl; exact h.keys l hl

theorem zero3 (w : World) : (zeroValue 3).run Tryz.prog w = .ok (.int .i64 0) w := by kernel_rfl

theorem lit_int_inj {a b : Int} (h : (DataW.lit (.int .i64 a) : DataW Unit) = .lit (.int .i64 b)) : a = b := by
  injection h with h; injection h

set_option maxHeartbeats 400000 in
theorem add_any (b n : Nat) (f : Row → Int) (r : Row) (x : Int) (w : World) (h : WMap w b n f) (hn : n < 2000000000) (hr : WfRow r) (h1 : -1000000 ≤ f r) (h2 : f r ≤ 1000000) (h3 : -1000000 ≤ x) (h4 : x ≤ 1000000) :
    Calls Tryz.prog 65 #[.map (some b), rowVal r, .int .i64 x] w fun e w' => e = .returned (.tuple #[]) ∧ WMap w' b (n + 1) (upd f r (f r + x)) ∧ w.grownBy w' (some b) := by
  obtain ⟨D, hown, hrep⟩ := h
  have hkey := keyOf_row hr
  have hat0 := hrep.at_ r hr
  obtain ⟨a, a2, a3⟩ := r
  obtain ⟨q, hq⟩ : ∃ q, q = f (a, a2, a3) := ⟨_, rfl⟩
  rw [← hq] at hat0 h1 h2
  have Hq := hide hq
  have Hrep := hide hrep
  have Hat := hide hat0
  clear hq hrep hat0
  have hown' := hown.alloc (.cells #[.int .i64 a, .int .i64 a2, .int .i64 a3] 127)
  unfold rowVal at hkey ⊢
  have hwf : (Lit.int .i64 (q + x)).wf = true := WalkArith.wf_i64 (by omega)
  by_cases hz : q + x = 0
  · have hzb : (q + x == 0) = true := by simp [hz]
    clear hz
    go_enter Tryz.func65, Tryz.ntmps65
    go_wp2_with (first
      | (at_lookup; refine wpList_lookup_own_int _ rfl _ _ 81 rfl 127 3 .i64 law60 Tryz.underlying81 Tryz.underlying3 (zero3 _) b n D rfl hown' _ _ rfl hkey ?_; intro c hat hwc; obtain rfl := lit_int_inj (hat.symm.trans (unhide Hat)); clear hat)
      | (at_delete; refine wpList_delete_own _ rfl _ _ 81 127 rfl 3 law60 Tryz.underlying81 _ b n D rfl hown' _ _ rfl hkey ?_; intro w1 hown1 hturn1)
      | go_in)
    refine bodyPost_ret (v := .tuple #[]) (by simp [results, Tryz.results65, go_sem]) rfl ?_
    refine ⟨rfl, ⟨_, hown1.mono (Nat.le_succ _), ?_⟩, ((World.grownBy_alloc _ _ _)).trans hturn1.grown⟩
    rw [← unhide Hq, show c + x = 0 from by simpa using hzb]
    exact (unhide Hrep).del hr
  · have hzb : (q + x == 0) = false := by simp [hz]
    have Hz := hide hz
    clear hz
    go_enter Tryz.func65, Tryz.ntmps65
    go_wp2_with (first
      | (at_lookup; refine wpList_lookup_own_int _ rfl _ _ 81 rfl 127 3 .i64 law60 Tryz.underlying81 Tryz.underlying3 (zero3 _) b n D rfl hown' _ _ rfl hkey ?_; intro c hat hwc; obtain rfl := lit_int_inj (hat.symm.trans (unhide Hat)); clear hat)
      | (at_mapUpdate; refine wpList_mapUpdate_own _ rfl _ _ _ 81 rfl 127 3 law60 Tryz.underlying81 _ b n D rfl hown' (by unfold maxLen; omega) _ _ _ rfl rfl hkey _ [] (plainElem_int Tryz.underlying3 hwf) ?_; intro w1 hown1 hgrow1)
      | go_in)
    go_end0
    refine ⟨rfl, ⟨_, hown1, ?_⟩, ((World.grownBy_alloc _ _ _)).trans hgrow1⟩
    rw [← unhide Hq]
    exact (unhide Hrep).put hown.isMap hr (unhide Hz)

end Go.Proofs.YtgddkjhknlgbbaaGreatDoor
