import Derived.Test.YtoifcnidhfnapaaGreatBat3
set_option linter.unusedVariables false
set_option linter.unusedSimpArgs false
namespace Go.Proofs.YtoifcnidhfnapaaGreat
open Go.RowKit Go.Maps

def nums : List Int := [0, 1, top, bot]
def grid2 : List Row := nums.flatMap fun a => nums.map fun b => (a, b, 0)
def grid1 : List Row := nums.map fun a => (a, 0, 0)

theorem grid2_len : grid2.length = 16 := rfl
theorem grid1_len : grid1.length = 4 := rfl

theorem numZ_mem (c : Int) : numZ c ∈ nums := by
  unfold numZ numT nums
  split
  · simp
  · split
    · simp
    · split <;> simp

theorem wf_num {a : Int} (h : a ∈ nums) : wfI a := by
  unfold nums top bot at h
  simp at h
  rcases h with rfl | rfl | rfl | rfl <;> (unfold wfI; decide)

theorem wf_zero : wfI 0 := by unfold wfI; decide

theorem mem_grid2 {a b : Int} (ha : a ∈ nums) (hb : b ∈ nums) : ((a, b, 0) : Row) ∈ grid2 := by
  unfold grid2
  exact List.mem_flatMap.2 ⟨a, ha, List.mem_map.2 ⟨b, hb, rfl⟩⟩
theorem mem_grid1 {a : Int} (ha : a ∈ nums) : ((a, 0, 0) : Row) ∈ grid1 := List.mem_map.2 ⟨a, ha, rfl⟩

/-- What 'entry' gives. -/
structure Fine (x : Ent) : Prop where
  name : (x.nm = nmR ∧ x.row.length = 2 ∧ padRow x.row ∈ grid2) ∨ (x.nm = nmS ∧ x.row.length = 2 ∧ padRow x.row ∈ grid2) ∨ (x.nm = nmT ∧ x.row.length = 1 ∧ padRow x.row ∈ grid1)
  wf : WfRow (padRow x.row)
  lo : -2 ≤ x.wt
  hi : x.wt ≤ 2

theorem entZ_fine (c : Int) : Fine (entZ c) := by
  have h5 : 0 ≤ entC c % 5 ∧ entC c % 5 < 5 := ⟨Int.emod_nonneg _ (by omega), Int.emod_lt_of_pos _ (by omega)⟩
  unfold entZ
  split
  · exact ⟨Or.inl ⟨rfl, rfl, mem_grid2 (numZ_mem _) (numZ_mem _)⟩, ⟨wf_num (numZ_mem _), wf_num (numZ_mem _), wf_zero⟩, by dsimp only; omega, by dsimp only; omega⟩
  · split
    · exact ⟨Or.inr (Or.inl ⟨rfl, rfl, mem_grid2 (numZ_mem _) (numZ_mem _)⟩), ⟨wf_num (numZ_mem _), wf_num (numZ_mem _), wf_zero⟩, by dsimp only; omega, by dsimp only; omega⟩
    · exact ⟨Or.inr (Or.inr ⟨rfl, rfl, mem_grid1 (numZ_mem _)⟩), ⟨wf_num (numZ_mem _), wf_zero, wf_zero⟩, by dsimp only; omega, by dsimp only; omega⟩

theorem Fine.good {x : Ent} (h : Fine x) : GoodEnt x := by
  refine ⟨?_, ?_, h.wf, by have := h.lo; omega, by have := h.hi; omega⟩
  · rcases h.name with ⟨e, _⟩ | ⟨e, _⟩ | ⟨e, _⟩ <;> (rw [e]; decide)
  · rcases h.name with ⟨_, e, _⟩ | ⟨_, e, _⟩ | ⟨_, e, _⟩ <;> omega

theorem sumE_append (a b : List Ent) (nm : ByteArray) (r : Row) : sumE (a ++ b) nm r = sumE a nm r + sumE b nm r := by
  induction a with
  | nil => simp [sumE]
  | cons x xs ih => simp only [List.cons_append, sumE, ih]; omega

theorem sumE_small {es : List Ent} (h : ∀ x ∈ es, Fine x) (nm : ByteArray) (r : Row) : -(2 * (es.length : Int)) ≤ sumE es nm r ∧ sumE es nm r ≤ 2 * (es.length : Int) := by
  induction es with
  | nil => simp [sumE]
  | cons y ys ih =>
    have h1 := ih (fun x hx => h x (List.mem_cons_of_mem _ hx))
    have h2 := (h y (List.mem_cons_self)).lo
    have h3 := (h y (List.mem_cons_self)).hi
    simp only [sumE, List.length_cons]
    split <;> omega

theorem sumE_supp {es : List Ent} {nm : ByteArray} {r : Row} (h : sumE es nm r ≠ 0) : ∃ x ∈ es, x.nm = nm ∧ padRow x.row = r := by
  induction es with
  | nil => simp [sumE] at h
  | cons y ys ih =>
    by_cases e : y.nm = nm ∧ padRow y.row = r
    · exact ⟨y, List.mem_cons_self, e⟩
    · simp only [sumE, if_neg e] at h
      obtain ⟨x, hx, h2⟩ := ih (by omega)
      exact ⟨x, List.mem_cons_of_mem _ hx, h2⟩

theorem sumE_grid {es : List Ent} (hf : ∀ x ∈ es, Fine x) {nm : ByteArray} {r : Row} (h : sumE es nm r ≠ 0) : (nm = nmR → r ∈ grid2) ∧ (nm = nmS → r ∈ grid2) ∧ (nm = nmT → r ∈ grid1) := by
  obtain ⟨x, hx, hn, hr⟩ := sumE_supp h
  have hx := (hf x hx).name
  rw [hn, hr] at hx
  refine ⟨fun e => ?_, fun e => ?_, fun e => ?_⟩
  · subst e
    rcases hx with ⟨_, _, h⟩ | ⟨e, _⟩ | ⟨e, _⟩
    · exact h
    · exact absurd e nmRS
    · exact absurd e nmRT
  · subst e
    rcases hx with ⟨e, _⟩ | ⟨_, _, h⟩ | ⟨e, _⟩
    · exact absurd e.symm nmRS
    · exact h
    · exact absurd e nmST
  · subst e
    rcases hx with ⟨e, _⟩ | ⟨e, _⟩ | ⟨_, _, h⟩
    · exact absurd e.symm nmRT
    · exact absurd e.symm nmST
    · exact h

/-- What a relation is behind so many entries. -/
structure Tame (R : Rel) (ar cnt : Nat) (G : List Row) : Prop where
  ar_ : R.ar = ar
  n_ : R.n ≤ 2 * cnt
  lo : ∀ r, WfRow r → -(2 * (cnt : Int)) ≤ R.f r
  hi : ∀ r, WfRow r → R.f r ≤ 2 * (cnt : Int)
  supp : ∀ r, WfRow r → R.f r ≠ 0 → r ∈ G

def addRel (R : Rel) (es : List Ent) (nm : ByteArray) : Rel := { R with n := R.n + 2 * es.length, f := fun r => R.f r + sumE es nm r }

theorem stSum_st3 (R S T : Rel) (es : List Ent) : stSum (st3 R S T) es = st3 (addRel R es nmR) (addRel S es nmS) (addRel T es nmT) := by
  funext nm
  unfold stSum
  by_cases h1 : nm = nmR
  · subst h1; rw [st3_R, st3_R]; rfl
  · by_cases h2 : nm = nmS
    · subst h2; rw [st3_S, st3_S]; rfl
    · by_cases h3 : nm = nmT
      · subst h3; rw [st3_T, st3_T]; rfl
      · rw [st3_none h1 h2 h3, st3_none h1 h2 h3]; rfl

theorem Tame.add {R : Rel} {ar cnt : Nat} {G : List Row} (h : Tame R ar cnt G) {es : List Ent} (hf : ∀ x ∈ es, Fine x) {nm : ByteArray} (hG : ∀ r, sumE es nm r ≠ 0 → r ∈ G) : Tame (addRel R es nm) ar (cnt + es.length) G := by
  refine ⟨h.ar_, ?_, fun r hr => ?_, fun r hr => ?_, fun r hr h0 => ?_⟩
  · have := h.n_; simp only [addRel]; omega
  · have h1 := h.lo r hr; have h2 := (sumE_small hf nm r).1; simp only [addRel]; push_cast; omega
  · have h1 := h.hi r hr; have h2 := (sumE_small hf nm r).2; simp only [addRel]; push_cast; omega
  · simp only [addRel] at h0
    by_cases e : R.f r = 0
    · exact hG r (by omega)
    · exact h.supp r hr e

theorem Tame.start {R : Rel} {ar : Nat} (h : Fresh R ar) (G : List Row) : Tame R ar 0 G := by
  obtain ⟨h1, h2, h3⟩ := h
  exact ⟨h1, by omega, fun r _ => by rw [h3]; simp, fun r _ => by rw [h3]; simp, fun r _ h0 => by rw [h3] at h0; exact absurd rfl h0⟩

/-! ### the batches -/
theorem runB_flat (l : List Int) : (runB l).1.flatten ++ (runB l).2 = l.map entZ := by
  refine snocInd (P := fun l => (runB l).1.flatten ++ (runB l).2 = l.map entZ) (by simp [runB]) (fun l c ih => ?_) l
  rw [runB_snoc]
  unfold stepB
  split
  · simp only [List.flatten_append, List.flatten_cons, List.flatten_nil, List.append_nil, List.map_append, List.map_cons, List.map_nil]
    rw [← List.append_assoc, ih]
  · simp only [List.map_append, List.map_cons, List.map_nil]
    rw [← List.append_assoc, ih]

theorem runB_short (l : List Int) : (∀ b ∈ (runB l).1, b.length ≤ 12) ∧ (runB l).2.length ≤ 11 := by
  refine snocInd (P := fun l => (∀ b ∈ (runB l).1, b.length ≤ 12) ∧ (runB l).2.length ≤ 11) (by simp [runB]) (fun l c ih => ?_) l
  rw [runB_snoc]
  have hp := pickZ_range (c.tdiv 7) 12 (by omega)
  unfold stepB
  split
  · refine ⟨fun b hb => ?_, by simp⟩
    rcases List.mem_append.1 hb with hb | hb
    · exact ih.1 b hb
    · simp at hb; subst hb; simp; omega
  · rename_i h
    refine ⟨ih.1, ?_⟩
    simp at h ⊢
    omega

theorem batsZ_flat (codes : List Int) : (batsZ codes).flatten = (codes.take 400).map entZ := by
  have h := runB_flat (codes.take 400)
  unfold batsZ
  split
  · rw [← h]; simp
  · rename_i h0
    have : (runB (codes.take 400)).2 = [] := List.eq_nil_of_length_eq_zero (by omega)
    rw [this] at h
    simpa using h

theorem batsZ_short (codes : List Int) : ∀ b ∈ batsZ codes, b.length ≤ 12 := by
  have h := runB_short (codes.take 400)
  unfold batsZ
  split
  · intro b hb
    rcases List.mem_append.1 hb with hb | hb
    · exact h.1 b hb
    · simp at hb; subst hb; omega
  · exact h.1

theorem batsZ_fine (codes : List Int) : ∀ b ∈ batsZ codes, ∀ x ∈ b, Fine x := by
  intro b hb x hx
  have : x ∈ (batsZ codes).flatten := List.mem_flatten.2 ⟨b, hb, hx⟩
  rw [batsZ_flat] at this
  obtain ⟨c, _, rfl⟩ := List.mem_map.1 this
  exact entZ_fine c

end Go.Proofs.YtoifcnidhfnapaaGreat
