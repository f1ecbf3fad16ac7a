import Derived.Test.YtoifcnidhfnapaaGreatRws
import Derived.Test.YtoifcnidhfnapaaGreatRise
namespace Go.Proofs.YtoifcnidhfnapaaGreat
set_option linter.unusedVariables false
set_option linter.unusedSimpArgs false
open Go.RowKit Go.Maps

/-- What the law sums: the weights of the entries with this name and these numbers. -/
def sumP (es : List Ent) (nm : ByteArray) (zs : List Int) : Int :=
  match es with
  | [] => 0
  | x :: rest => (if x.row = zs ∧ x.nm = nm then x.wt else 0) + sumP rest nm zs

theorem sumP_snoc (es : List Ent) (x : Ent) (nm : ByteArray) (zs : List Int) : sumP (es ++ [x]) nm zs = sumP es nm zs + (if x.row = zs ∧ x.nm = nm then x.wt else 0) := by
  induction es with
  | nil => simp [sumP]
  | cons y ys ih => simp only [List.cons_append, sumP, ih]; omega

theorem sumP_append (a b : List Ent) (nm : ByteArray) (zs : List Int) : sumP (a ++ b) nm zs = sumP a nm zs + sumP b nm zs := by
  induction a with
  | nil => simp [sumP]
  | cons x xs ih => simp only [List.cons_append, sumP, ih]; omega

theorem pad_inj {a b : List Int} (hl : a.length = b.length) (h3 : a.length ≤ 3) : padRow a = padRow b ↔ a = b := by
  constructor
  · intro h
    match a, b, hl, h3 with
    | [], [], _, _ => rfl
    | [x], [y], _, _ => simp [padRow] at h; simp [h]
    | [x, x2], [y, y2], _, _ => simp [padRow] at h; simp [h]
    | [x, x2, x3], [y, y2, y3], _, _ => simp [padRow] at h; simp [h]
  · intro h; rw [h]

theorem sumP_eq {es : List Ent} (hf : ∀ x ∈ es, Fine x) {nm : ByteArray} {zs : List Int} (hl : ∀ x ∈ es, x.nm = nm → x.row.length = zs.length) (h3 : zs.length ≤ 3) : sumP es nm zs = sumE es nm (padRow zs) := by
  induction es with
  | nil => rfl
  | cons y ys ih =>
    simp only [sumP, sumE]
    rw [ih (fun x hx => hf x (List.mem_cons_of_mem _ hx)) (fun x hx => hl x (List.mem_cons_of_mem _ hx))]
    congr 1
    by_cases e : y.nm = nm
    · have := hl y List.mem_cons_self e
      have hp := pad_inj this (by omega)
      simp only [e, true_and, and_true]
      by_cases e2 : y.row = zs
      · rw [if_pos e2, if_pos (hp.2 e2)]
      · rw [if_neg e2, if_neg (fun h => e2 (hp.1 h))]
    · simp [e]

/-- A row of a relation with ar columns. -/
def InAr (ar : Nat) (y : Row) : Prop := padRow (numsR ar y) = y

theorem nums_pad {ar : Nat} {zs : List Int} (h : zs.length = ar) (h3 : ar ≤ 3) : numsR ar (padRow zs) = zs := by
  subst h
  match zs, h3 with
  | [], _ => rfl
  | [x], _ => rfl
  | [x, x2], _ => rfl
  | [x, x2, x3], _ => rfl

theorem weightZ_rows {ar : Nat} {f : Row → Int} {zs : List Int} (h : zs.length = ar) (h3 : ar ≤ 3) : ∀ (ys : List Row), (∀ y ∈ ys, InAr ar y) → weightZ (rowsZ ar f ys) zs = if padRow zs ∈ ys then f (padRow zs) else 0
  | [], _ => by simp [rowsZ, weightZ]
  | y :: ys, hy => by
    have ih := weightZ_rows (f := f) h h3 ys (fun z hz => hy z (List.mem_cons_of_mem _ hz))
    have hy0 := hy y List.mem_cons_self
    have e : rowsZ ar f (y :: ys) = (numsR ar y, f y) :: rowsZ ar f ys := rfl
    rw [e]
    simp only [weightZ]
    by_cases e1 : numsR ar y = zs
    · have e2 : padRow zs = y := by rw [← e1]; exact hy0
      rw [if_pos e1, e2]
      simp
    · have e2 : padRow zs ≠ y := fun e2 => e1 (by rw [← e2]; exact nums_pad h h3)
      rw [if_neg e1, ih]
      simp [e2]

theorem weightZ_eq {ar : Nat} {f : Row → Int} {zs : List Int} {ys : List Row} (h : zs.length = ar) (h3 : ar ≤ 3) (hy : ∀ y ∈ ys, InAr ar y) (hR : RowsF f ys) (hw : WfRow (padRow zs)) : weightZ (rowsZ ar f ys) zs = f (padRow zs) := by
  rw [weightZ_rows h h3 ys hy]
  by_cases e : padRow zs ∈ ys
  · rw [if_pos e]
  · rw [if_neg e]
    have : ¬ f (padRow zs) ≠ 0 := fun h => e ((hR.mem _ hw).2 h)
    omega

theorem grid_in {y : Row} : (y ∈ grid2 → InAr 2 y) ∧ (y ∈ grid1 → InAr 1 y) := by
  constructor
  · intro h
    simp only [grid2, List.mem_flatMap, List.mem_map] at h
    obtain ⟨a, _, b, _, rfl⟩ := h
    rfl
  · intro h
    simp only [grid1, List.mem_map] at h
    obtain ⟨a, _, rfl⟩ := h
    rfl

theorem rises_rows {ar : Nat} {f : Row → Int} {ys : List Row} (har : ar = 1 ∨ ar = 2) (hy : ∀ y ∈ ys, InAr ar y) (hR : RowsF f ys) : Rises (rowsZ ar f ys) := by
  have hlen : (rowsZ ar f ys).length = ys.length := by simp [rowsZ]
  have hat : ∀ i (hi : i < ys.length), (rowsZ ar f ys)[i]?.getD ([], 0) = (numsR ar ys[i], f ys[i]) := fun i hi => by simp [rowsZ, hi]
  refine ⟨fun i hi => ?_, fun i hi => ?_⟩
  · rw [hlen] at hi
    rw [hat i hi]
    exact (hR.mem _ (hR.wf _ (List.getElem_mem hi))).1 (List.getElem_mem hi)
  · rw [hlen] at hi
    rw [hat i (by omega), hat (i + 1) hi]
    have hlt : ltR ys[i] ys[i + 1] := List.pairwise_iff_getElem.1 hR.rising i (i + 1) (by omega) hi (by omega)
    have h1 := hy _ (List.getElem_mem (show i < ys.length by omega))
    have h2 := hy _ (List.getElem_mem hi)
    generalize ys[i] = y at hlt h1
    generalize ys[i + 1] = z at hlt h2
    obtain ⟨y1, y2, y3⟩ := y
    obtain ⟨z1, z2, z3⟩ := z
    unfold ltR at hlt
    unfold InAr at h1 h2
    dsimp only at hlt
    rcases har with rfl | rfl
    · simp [numsR, padRow] at h1 h2
      refine ⟨0, ?_⟩
      simp [PartAt, numsR]
      omega
    · simp [numsR, padRow] at h1 h2
      by_cases e : y1 < z1
      · refine ⟨0, ?_⟩
        simp [PartAt, numsR]
        omega
      · refine ⟨1, ?_⟩
        simp [PartAt, numsR]
        omega

/-! The sixteen rows that the law asks for. -/
def zs2 (i : Nat) : List Int := [numZ i, numZ ((i : Int) / 4)]
def zs1 (i : Nat) : List Int := [numZ i]

def cntTo (p : Nat → Bool) : Nat → Nat
  | 0 => 0
  | i + 1 => cntTo p i + if p i then 1 else 0

theorem cntTo_eq (p : Nat → Bool) : ∀ n, cntTo p n = ((List.range n).filter p).length
  | 0 => rfl
  | n + 1 => by
    rw [List.range_succ, List.filter_append, List.length_append, cntTo, cntTo_eq p n]
    congr 1
    by_cases h : p n <;> simp [h]

theorem cnt_rows {f : Row → Int} {ys : List Row} (hR : RowsF f ys) {G : List Row} (hG : ∀ y ∈ ys, y ∈ G) {n : Nat} (row : Nat → Row) (hrow : (List.range n).map row = G) (hap : G.Pairwise (· ≠ ·)) (hwf : ∀ y ∈ G, WfRow y) :
    cntTo (fun i => decide (f (row i) ≠ 0)) n = ys.length := by
  rw [cntTo_eq]
  have e : ((List.range n).filter (fun i => decide (f (row i) ≠ 0))).length = (G.filter (fun r => decide (f r ≠ 0))).length := by
    rw [← hrow, List.filter_map, List.length_map]
    rfl
  rw [e]
  refine Nat.le_antisymm (length_le_of_apart _ _ (hap.filter _) (fun x hx => ?_)) (length_le_of_apart _ _ (hR.rising.imp (fun {a b} h e => by subst e; unfold ltR at h; omega)) (fun x hx => ?_))
  · have h := List.mem_filter.1 hx
    exact (hR.mem x (hwf x h.1)).2 (by simpa using h.2)
  · exact List.mem_filter.2 ⟨hG x hx, by simpa using (hR.mem x (hR.wf x hx)).1 hx⟩

def row2 (i : Nat) : Row := padRow (zs2 i)
def row1 (i : Nat) : Row := padRow (zs1 i)
def gridB : List Row := nums.flatMap fun b => nums.map fun a => (a, b, 0)

theorem row2_all : (List.range 16).map row2 = gridB := by decide +kernel
theorem row1_all : (List.range 4).map row1 = grid1 := by decide +kernel
theorem gridB_apart : gridB.Pairwise (· ≠ ·) := by decide +kernel
theorem grid1_apart : grid1.Pairwise (· ≠ ·) := by decide +kernel
theorem mem_gridB {y : Row} (h : y ∈ grid2) : y ∈ gridB := by
  simp only [grid2, gridB, List.mem_flatMap, List.mem_map] at *
  obtain ⟨a, ha, b, hb, rfl⟩ := h
  exact ⟨b, hb, a, ha, rfl⟩
theorem wf_gridB : ∀ y ∈ gridB, WfRow y := by
  intro y h
  simp only [gridB, List.mem_flatMap, List.mem_map] at h
  obtain ⟨b, hb, a, ha, rfl⟩ := h
  exact ⟨wf_num ha, wf_num hb, wf_zero⟩
theorem wf_grid1 : ∀ y ∈ grid1, WfRow y := by
  intro y h
  simp only [grid1, List.mem_map] at h
  obtain ⟨a, ha, rfl⟩ := h
  exact ⟨wf_num ha, wf_zero, wf_zero⟩

end Go.Proofs.YtoifcnidhfnapaaGreat
