import Derived.Test.YtoifcnidhfnapaaGreatDoorM31
set_option linter.unusedVariables false
set_option linter.unusedSimpArgs false

namespace Go.Proofs.YtoifcnidhfnapaaGreatDoor
set_option linter.unusedVariables false
set_option linter.unusedSimpArgs false
open Go.RowKit Go.Maps

theorem Law.below {o : Nat → Nat} {W W' : World} {wb : Nat} {ps : List (Nat × Nat)} {zss : List (List ZRel)} {hs : List Nat} {N B0 : Nat} (h : Law o W wb ps zss hs N B0) (hb : Below W.heap.size W W') : Law o W' wb ps zss hs N B0 := by
  obtain ⟨pv, hv, base, hS, hpv, hwb, hcp, hch⟩ := h.ex
  have hk : ∀ b, b < W.heap.size → W'.heap[b]? = W.heap[b]? := fun b hb' => hb.block b hb'
  exact ⟨⟨pv, hv, base, hS.below hb, own_below hpv hb, hwb, hcp, hch⟩, h.len, fun i hi => (h.eng i hi).kept hb.size (fun b _ hlt => hk b hlt), fun i hi => (h.ref i hi).kept (fun b _ hlt => hk b hlt), h.ok, fun x hx => (h.holds x hx).kept (fun b _ hlt => hk b hlt), fun b hb' => h.fresh b (Nat.le_trans hb.size hb'), h.args⟩

theorem Law.more {o : Nat → Nat} {W : World} {wb : Nat} {ps : List (Nat × Nat)} {zss : List (List ZRel)} {hs : List Nat} {N N' B0 : Nat} (h : Law o W wb ps zss hs N B0) (hN : N ≤ N') : Law o W wb ps zss hs N' B0 :=
  ⟨h.ex, h.len, fun i hi => (h.eng i hi).imp (fun b hb => hb) hN, h.ref, h.ok, h.holds, h.fresh, h.args⟩

theorem Mid.after {Q : Nat → Prop} {a b c : World} (h : Below a.heap.size a b) (k : Mid Q b c) : Mid Q a c := (Mid.of_below h).trans k

/-- The loan, as it is handed in. -/
theorem loan_ents {W : World} {B lb : Nat} {ev rv : Value} {los : List Lo} {es : List Ent} (h : LoanRep W B lb ev rv los) (hle : los.map (·.e) = es) : ∃ ge ce, ev = .slice (some ⟨ge, 0, none⟩) (es.length + 1) ce ∧ es.length + 1 ≤ ce ∧ EntsAt W (.slice (some ⟨ge, 0, none⟩) es.length ce) es := by
  have hll : los.length = es.length := by rw [← hle]; simp
  have he := h.ents
  rw [hll] at he
  obtain ⟨pe, ce, hee, hce, hpen, hpes⟩ := own_form he
  cases pe with
  | none => have := hpen rfl; omega
  | some ade =>
    obtain ⟨ge, rfl, _, _, hge⟩ := hpes ade rfl
    refine ⟨ge, ce, hee, hce, ⟨some ⟨ge, 0, none⟩, ce, rfl, fun i hi => ?_⟩⟩
    have hil : i < los.length := by omega
    obtain ⟨y, hy⟩ : ∃ y, y = los[i]?.getD zeroLo := ⟨_, rfl⟩
    have hym : y ∈ los := by rw [hy]; simp [hil]
    have hye : es[i]?.getD zeroEnt = y.e := by rw [← hle, hy]; simp [hil]
    have e0 := hge (i * 3 + 0) (by omega)
    have e1 := hge (i * 3 + 1) (by omega)
    have e2 := hge (i * 3 + 2) (by omega)
    rw [flat3_at los lastC i hil _ (by omega), ← hy] at e0 e1 e2
    simp only [entC, Nat.add_zero, List.getElem?_cons_zero, List.getElem?_cons_succ] at e0 e1 e2
    have hrow := h.each.row y hym
    obtain ⟨p2, c2, h2e, hc2, _, hs2⟩ := own_form hrow
    cases h2e
    obtain ⟨g2, hg2, _, _, hcell⟩ := hs2 _ rfl
    cases hg2
    refine ⟨ge, 0, _, rfl, by rw [Nat.zero_add, hye]; exact e0, by rw [Nat.zero_add]; exact e1, ?_, by rw [Nat.zero_add, hye]; exact e2⟩
    rw [hye]
    refine ⟨_, y.c, rfl, fun j hj => ⟨y.g, 0, rfl, ?_⟩⟩
    rw [Nat.zero_add, hcell j (by omega), show rowI y = y.e.row.map (Value.int .i64) ++ [.int .i64 (-77)] from by simp [rowI], List.getElem?_append_left (by simpa using hj)]
    simp [hj]

theorem LoanRep.kept {W W' : World} {B lb : Nat} {ev rv : Value} {los : List Lo} (h : LoanRep W B lb ev rv los) (hlb : B ≤ lb) (hk : ∀ b, B ≤ b → b < W.heap.size → W'.heap[b]? = W.heap[b]?) : LoanRep W' B lb ev rv los := by
  have ho : ∀ {e : TypeId} {size : Nat} {v : Value} {n : Nat} {xs : List Value}, W.ownsRow B e size v n xs → W'.ownsRow B e size v n xs := by
    intro e size v n xs ho
    refine ⟨ho.1, ?_⟩
    rcases ho.2 with h1 | ⟨g, cap, cur, h1, h2, h3, h4⟩
    · exact .inl h1
    · exact .inr ⟨g, cap, cur, h1, h2, (hk g h2 (heap_lt h3)).trans h3, h4⟩
  exact ⟨(hk lb hlb (heap_lt h.box)).trans h.box, ho h.ents, ho h.rows, ⟨fun x hx => ho (h.each.row x hx), h.each.apart⟩⟩

theorem EntsNil.below {w w' : World} {bv : Value} {es : List Ent} (h : EntsNil w bv) (hv : EntsAt w bv es) (hb : Below w.heap.size w w') : EntsNil w' bv := by
  intro b o n cap i he hi p m c hc
  obtain ⟨a, cap', he', hcs⟩ := hv
  rw [he] at he'
  cases he'
  obtain ⟨b', o', sv, hbo, h1, h2, _⟩ := hcs i hi
  cases hbo
  have hlt := World.block_lt_of_cell? w _ h2
  rw [hb.cell (p := ⟨b, _, none⟩) hlt] at hc
  exact h b o es.length cap i he hi p m c hc

/-- Which pair an op is for. -/
theorem pick_pair (m : Int) (n : Nat) (hn : 0 < n) : ∃ (j : Nat) (r : Int), j < n ∧ m.tmod (n : Int) = r ∧ -(n : Int) < r ∧ r < (n : Int) ∧ (r + (n : Int)).tmod (n : Int) = (j : Int) := by
  have hn' : (0 : Int) < (n : Int) := by omega
  have h1 : m.tmod (n : Int) < (n : Int) := Int.tmod_lt_of_pos m hn'
  have h2 : -(n : Int) < m.tmod (n : Int) := by
    have h3 := Int.tmod_lt_of_pos (-m) hn'
    rw [Int.neg_tmod] at h3
    omega
  have h4 : 0 ≤ (m.tmod (n : Int) + (n : Int)).tmod (n : Int) := Int.tmod_nonneg _ (by omega)
  have h5 : (m.tmod (n : Int) + (n : Int)).tmod (n : Int) < (n : Int) := Int.tmod_lt_of_pos _ hn'
  exact ⟨((m.tmod (n : Int) + (n : Int)).tmod (n : Int)).toNat, m.tmod (n : Int), by omega, rfl, h2, h1, by omega⟩

theorem cellsP_at : ∀ (ps : List (Nat × Nat)) (j : Nat), j < ps.length → (cellsP ps)[j * 2]? = some (.pointer (some ⟨(ps[j]?.getD (0, 0)).1, 0, none⟩)) ∧ (cellsP ps)[j * 2 + 1]? = some (.pointer (some ⟨(ps[j]?.getD (0, 0)).2, 0, none⟩))
  | [], j, h => by simp at h
  | p :: ps, j, h => by
    have e : cellsP (p :: ps) = .pointer (some ⟨p.1, 0, none⟩) :: .pointer (some ⟨p.2, 0, none⟩) :: cellsP ps := by simp [cellsP]
    rw [e]
    cases j with
    | zero => exact ⟨rfl, rfl⟩
    | succ j =>
      have := cellsP_at ps j (by simpa using h)
      have e1 : (j + 1) * 2 = j * 2 + 1 + 1 := by omega
      rw [e1]
      simpa using this

end Go.Proofs.YtoifcnidhfnapaaGreatDoor
