import Derived.Test.YtoifcnidhfnapaaGreatBat
set_option linter.unusedVariables false
set_option linter.unusedSimpArgs false
namespace Go.Proofs.YtoifcnidhfnapaaGreat
open Go.RowKit Go.Maps

theorem Tryz.info39 : (Tryz.prog.info? 39).map (fun i => (i.zero, i.size, i.bytes)) = some (some (.agg #[.string ⟨#[]⟩, .slice none 0 0, .int .i64 0]), 3, 48) := by kernel_rfl
theorem Tryz.info36 : (Tryz.prog.info? 36).map (fun i => (i.zero, i.size, i.bytes)) = some (some (.slice none 0 0), 1, 24) := by kernel_rfl

def BInv (wr : World) (B : Nat) (vo vl : Value) (s : List (List Ent) × List Ent) : Prop :=
  ∃ m xs vos, s.2 = xs.map (·.1) ∧ wr.ownsRow m 39 3 vl xs.length (cellsE xs) ∧ RowsIn wr xs ∧ (∀ p ∈ xs, B ≤ p.2) ∧ wr.ownsRow B 36 1 vo vos.length vos ∧ vos.length = s.1.length ∧
    (∀ j, j < vos.length → Done wr B m (vos[j]?.getD undef) (s.1[j]?.getD [])) ∧ B ≤ m ∧ m ≤ wr.heap.size

theorem RowsIn.kept {w w' : World} {xs : List (Ent × Nat)} {row : Option Nat} (h : RowsIn w xs) (hg : w.grownBy w' row) (hrow : ∀ j, row = some j → ∃ cur t, w.heap[j]? = some (.cells cur t (0, 0)) ∧ t ≠ 2) : RowsIn w' xs := by
  intro p hp
  have h1 := h p hp
  have hlt : p.2 < w.heap.size := (Array.getElem?_eq_some_iff.1 h1).1
  rw [hg.block p.2 hlt (fun e => ?_)]
  · exact h1
  · obtain ⟨cur, t, h2, h3⟩ := hrow p.2 e.symm
    rw [h1] at h2
    cases h2
    exact h3 rfl

theorem Done.kept {w w' : World} {B m : Nat} {v : Value} {es : List Ent} {row : Option Nat} (h : Done w B m v es) (hg : w.grownBy w' row)
    (hrow : ∀ j, row = some j → ∃ cur t, w.heap[j]? = some (.cells cur t (0, 0)) ∧ t ≠ 2 ∧ (t = 39 → m ≤ j)) : Done w' B m v es := by
  obtain ⟨g, cap, cur, xs, rfl, h1, h2, h3, h4, h5, h6, h7⟩ := h
  have hlt : g < w.heap.size := (Array.getElem?_eq_some_iff.1 h3).1
  refine ⟨g, cap, cur, xs, rfl, h1, h2, ?_, h4, h5.kept hg (fun j e => by obtain ⟨c, t, a, b, _⟩ := hrow j e; exact ⟨c, t, a, b⟩), h6, h7⟩
  rw [hg.block g hlt (fun e => ?_)]
  · exact h3
  · obtain ⟨c, t, a, b, d⟩ := hrow g e.symm
    rw [h3] at a
    cases a
    have := d rfl
    omega

theorem Done.mono {w : World} {B m m' : Nat} {v : Value} {es : List Ent} (h : Done w B m v es) (hm : m ≤ m') : Done w B m' v es := by
  obtain ⟨g, cap, cur, xs, rfl, h1, h2, h3⟩ := h
  exact ⟨g, cap, cur, xs, rfl, h1, by omega, h3⟩

theorem own_block {w : World} {base : Nat} {e : TypeId} {size : Nat} {v : Value} {n : Nat} {xs : List Value} (h : w.ownsRow base e size v n xs) : ∀ j, v.ownBlock = some j → base ≤ j ∧ ∃ cur, w.heap[j]? = some (.cells cur e (0, 0)) := by
  intro j hj
  rcases h.2 with ⟨rfl, _⟩ | ⟨g, cap, cur, rfl, hb, hg, _⟩
  · cases hj
  · cases hj; exact ⟨hb, cur, hg⟩

theorem BInv.below {w w' : World} {B : Nat} {vo vl : Value} {s : List (List Ent) × List Ent} (h : BInv w B vo vl s) (hb : Below w.heap.size w w') : BInv w' B vo vl s := by
  obtain ⟨m, xs, vos, h1, h2, h3, h4, h5, h6, h7, h8, h9⟩ := h
  have hg := below_grown hb none
  exact ⟨m, xs, vos, h1, h2.kept hg (by cases hx : vl.ownBlock <;> simp), h3.kept hg (fun j e => by cases e), h4, h5.kept hg (by cases hx : vo.ownBlock <;> simp), h6, fun j hj => (h7 j hj).kept hg (fun j e => by cases e), h8, Nat.le_trans h9 hb.size⟩

/-- Behind 'l = append(l, x)'. -/
theorem BInv.more {w w' : World} {B m : Nat} {vo vl vl' : Value} {s : List (List Ent) × List Ent} {xs : List (Ent × Nat)} {vos : List Value} {x : Ent} {b : Nat}
    (h1 : s.2 = xs.map (·.1)) (h2 : w.ownsRow m 39 3 vl xs.length (cellsE xs)) (h3 : RowsIn w xs) (h4 : ∀ p ∈ xs, B ≤ p.2) (h5 : w.ownsRow B 36 1 vo vos.length vos) (h6 : vos.length = s.1.length)
    (h7 : ∀ j, j < vos.length → Done w B m (vos[j]?.getD undef) (s.1[j]?.getD [])) (h8 : B ≤ m) (h9 : m ≤ w.heap.size)
    (hb : w.heap[b]? = some (.cells (x.row.map (Value.int .i64)).toArray 2 (0, 0))) (hbB : B ≤ b)
    (ho : w'.ownsRow m 39 3 vl' (xs.length + 1) (cellsE xs ++ entL (x, b))) (hg : w.grownBy w' vl.ownBlock) : BInv w' B vo vl' (s.1, s.2 ++ [x]) := by
  have hrow : ∀ j, vl.ownBlock = some j → ∃ cur t, w.heap[j]? = some (.cells cur t (0, 0)) ∧ t ≠ 2 ∧ (t = 39 → m ≤ j) := fun j e => by
    obtain ⟨a, cur, c⟩ := own_block h2 j e
    exact ⟨cur, 39, c, by decide, fun _ => a⟩
  have hrow2 : ∀ j, vl.ownBlock = some j → ∃ cur t, w.heap[j]? = some (.cells cur t (0, 0)) ∧ t ≠ 2 := fun j e => by
    obtain ⟨cur, t, a, b, _⟩ := hrow j e
    exact ⟨cur, t, a, b⟩
  refine ⟨m, xs ++ [(x, b)], vos, by simp [h1], ?_, ?_, ?_, ?_, h6, fun j hj => (h7 j hj).kept hg hrow, h8, Nat.le_trans h9 hg.size⟩
  · rw [cellsE_snoc, List.length_append]; exact ho
  · intro p hp
    rcases List.mem_append.1 hp with hp | hp
    · exact h3.kept hg hrow2 p hp
    · simp at hp; subst hp
      exact (show RowsIn w [(x, b)] from fun p hp => by simp at hp; subst hp; exact hb).kept hg hrow2 (x, b) (by simp)
  · intro p hp
    rcases List.mem_append.1 hp with hp | hp
    · exact h4 p hp
    · simp at hp; subst hp; exact hbB
  · refine h5.kept hg ?_
    cases hvo : vo.ownBlock with
    | none => exact Or.inl rfl
    | some j =>
      refine Or.inr (fun e => ?_)
      obtain ⟨_, cur, c⟩ := own_block h5 j hvo
      obtain ⟨_, cur', c'⟩ := own_block h2 j e.symm
      rw [c] at c'
      cases c'

/-- Behind 'out = append(out, l); l = nil'. -/
theorem BInv.shut {w w' : World} {B m : Nat} {vo vo' vl : Value} {s : List (List Ent) × List Ent} {xs : List (Ent × Nat)} {vos : List Value}
    (h1 : s.2 = xs.map (·.1)) (h2 : w.ownsRow m 39 3 vl xs.length (cellsE xs)) (h3 : RowsIn w xs) (h4 : ∀ p ∈ xs, B ≤ p.2) (h5 : w.ownsRow B 36 1 vo vos.length vos) (h6 : vos.length = s.1.length)
    (h7 : ∀ j, j < vos.length → Done w B m (vos[j]?.getD undef) (s.1[j]?.getD [])) (h8 : B ≤ m) (h9 : m ≤ w.heap.size) (hx : 0 < xs.length)
    (ho : w'.ownsRow B 36 1 vo' (vos.length + 1) (vos ++ [vl])) (hg : w.grownBy w' vo.ownBlock) : BInv w' B vo' (.slice none 0 0) (s.1 ++ [s.2], []) := by
  have hrow : ∀ j, vo.ownBlock = some j → ∃ cur t, w.heap[j]? = some (.cells cur t (0, 0)) ∧ t ≠ 2 ∧ (t = 39 → m ≤ j) := fun j e => by
    obtain ⟨a, cur, c⟩ := own_block h5 j e
    exact ⟨cur, 36, c, by decide, fun e => by cases e⟩
  have hrow3 : ∀ j, vo.ownBlock = some j → ∃ cur t, w.heap[j]? = some (.cells cur t (0, 0)) ∧ t ≠ 2 ∧ (t = 39 → w.heap.size ≤ j) := fun j e => by
    obtain ⟨a, cur, c⟩ := own_block h5 j e
    exact ⟨cur, 36, c, by decide, fun e => by cases e⟩
  have hd : Done w B w.heap.size vl s.2 := by
    rcases h2.2 with ⟨_, h0⟩ | ⟨g, cap, cur, rfl, hb, hgh, _, _, _, ht⟩
    · omega
    · exact ⟨g, cap, cur, xs, rfl, by omega, (Array.getElem?_eq_some_iff.1 hgh).1, hgh, ht, h3, h1.symm, h4⟩
  refine ⟨w.heap.size, [], vos ++ [vl], rfl, World.ownsRow_nil _ _ _ _, fun p hp => by simp at hp, fun p hp => by simp at hp, by simpa using ho, by simp [h6], fun j hj => ?_, by omega, hg.size⟩
  by_cases e : j < vos.length
  · have h := ((h7 j e).mono h9).kept hg hrow3
    rw [List.getElem?_append_left e, List.getElem?_append_left (by omega)]
    exact h
  · have : j = vos.length := by simp at hj; omega
    subst this
    rw [List.getElem?_append_right (Nat.le_refl _), h6, List.getElem?_append_right (Nat.le_refl _)]
    simp
    exact hd.kept hg hrow3

end Go.Proofs.YtoifcnidhfnapaaGreat
