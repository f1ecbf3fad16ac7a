import Derived.Test.YtgddkjhknlgbbaaGreatDoorM08
set_option linter.unusedVariables false
set_option linter.unusedSimpArgs false

namespace Go.Proofs.YtgddkjhknlgbbaaGreatDoor
set_option linter.unusedVariables false
set_option linter.unusedSimpArgs false
open Go.RowKit Go.Maps

/-- How a struct without fields reads. -/
def unitElem : Value → Option (DataW Unit × List MemPlace)
  | .agg ⟨[]⟩ => some (.lit (.int .i64 0), [])
  | _ => none
theorem unitElem_inv {v : Value} {d : DataW Unit} {ps : List MemPlace} (h : unitElem v = some (d, ps)) : v = .agg #[] := by
  unfold unitElem at h
  split at h
  · rfl
  · cases h
theorem zero100 (w : World) : (zeroValue 100).run Tryz.prog w = .ok (.agg #[]) w := by kernel_rfl

/-- The views of an engine: a map of their names. -/
structure VRep (W : World) (vb n : Nat) (vs : List ByteArray) : Prop where
  ex : ∃ D, W.ownsMap Tryz.prog 9 unitElem vb n D ∧ Maps.size D = vs.length ∧ ∀ nm : ByteArray, nm.size ≤ maxLen → (Maps.has D (strLit nm) = true ↔ nm ∈ vs)

theorem VRep.kept {W W' : World} {vb n : Nat} {vs : List ByteArray} (h : VRep W vb n vs) (hb : W'.heap[vb]? = W.heap[vb]?) : VRep W' vb n vs := by
  obtain ⟨D, ⟨es, clock, h1, h2⟩, hD⟩ := h.ex
  exact ⟨D, ⟨es, clock, hb.trans h1, h2⟩, hD⟩
theorem VRep.blk {W : World} {vb n : Nat} {vs : List ByteArray} (h : VRep W vb n vs) : ∃ es clock, W.heap[vb]? = some (.map es clock) := by
  obtain ⟨D, ⟨es, clock, h1, h2⟩, hD⟩ := h.ex
  exact ⟨es, clock, h1⟩
theorem VRep.lt {W : World} {vb n : Nat} {vs : List ByteArray} (h : VRep W vb n vs) : vb < W.heap.size := by
  obtain ⟨es, clock, h1⟩ := h.blk
  exact (Array.getElem?_eq_some_iff.1 h1).1
theorem VRep.mono {W : World} {vb n n' : Nat} {vs : List ByteArray} (h : VRep W vb n vs) (hn : n ≤ n') : VRep W vb n' vs := by
  obtain ⟨D, ⟨es, clock, h1, h2, h3, h4⟩, hD⟩ := h.ex
  exact ⟨D, ⟨es, clock, h1, h2, Nat.le_trans h3 hn, h4⟩, hD⟩

theorem VRep.look {W : World} {vb n : Nat} {vs : List ByteArray} (h : VRep W vb n vs) {nm : ByteArray} (hn : nm.size ≤ maxLen) (b : Bool) (hb : b = true ↔ nm ∈ vs) :
    (Instr.lookup 61 (.map (some vb)) (.string nm) true).run Tryz.prog W = .ok (.tuple #[.agg #[], .bool b]) W := by
  obtain ⟨D, hown, _, hhas⟩ := h.ex
  obtain ⟨v, ps, hrun, hv⟩ := hown.look_ok law9 Tryz.underlying61 (zero100 _) (zd := .lit (.int .i64 0)) (zp := []) rfl (keyOf_str hn)
  rw [unitElem_inv hv] at hrun
  have : Maps.has D (strLit nm) = b := by
    have h1 := hhas nm hn
    cases b <;> cases hh : Maps.has D (strLit nm) <;> simp_all
  rw [this] at hrun
  exact hrun

theorem VRep.put {W : World} {vb n : Nat} {vs : List ByteArray} (h : VRep W vb n vs) {nm : ByteArray} (hn : nm.size ≤ maxLen) (hx : nm ∉ vs) (hN : n < maxLen) :
    ∃ w', (Instr.mapUpdate 61 (.map (some vb)) (.string nm) (.agg #[])).run Tryz.prog W = .ok () w' ∧ VRep w' vb (n + 1) (vs ++ [nm]) ∧ W.grownBy w' (some vb) := by
  obtain ⟨D, hown, hsz, hhas⟩ := h.ex
  obtain ⟨w', hr, ho, hg⟩ := hown.update law9 Tryz.underlying61 hN (keyOf_str hn) (val := .agg #[]) (d := .lit (.int .i64 0)) (ps := []) rfl
  have h0 : Maps.has D (strLit nm) = false := by
    cases e : Maps.has D (strLit nm) with
    | false => rfl
    | true => exact absurd ((hhas nm hn).1 e) hx
  refine ⟨w', hr, ⟨_, ho, ?_, fun m hm => ?_⟩, hg⟩
  · rw [size_put (hown.tidy law9), h0, hsz]; simp
  · by_cases e : m = nm
    · subst e
      rw [has_put_same hown.isMap (strLit_isKey _)]
      simp
    · rw [has_put_other (fun e' => e (strLit_inj e')), hhas m hm]
      simp [e]

theorem VRep.del {W : World} {vb n : Nat} {vs : List ByteArray} (h : VRep W vb n vs) (hnd : vs.Nodup) {nm : ByteArray} (hn : nm.size ≤ maxLen) (hx : nm ∈ vs) (ty : TypeId) :
    ∃ w', (Builtin.delete_ #[61, 9] ty #[.map (some vb), .string nm]).run Tryz.prog W = .ok (.tuple #[]) w' ∧ VRep w' vb n (vs.filter fun x => decide (x ≠ nm)) ∧ W.grownBy w' (some vb) := by
  obtain ⟨D, hown, hsz, hhas⟩ := h.ex
  obtain ⟨w', hr, ho, hg⟩ := hown.drop law9 Tryz.underlying61 (keyOf_str hn) ty
  have h1 : Maps.has D (strLit nm) = true := (hhas nm hn).2 hx
  refine ⟨w', hr, ⟨_, ho, ?_, fun m hm => ?_⟩, ?_⟩
  · have := size_del (k := strLit nm) (hown.tidy law9)
    rw [h1, if_pos rfl, hsz] at this
    have h2 : ∀ l : List ByteArray, l.Nodup → nm ∈ l → (l.filter fun x => decide (x ≠ nm)).length + 1 = l.length := by
      intro l hl hm
      induction l with
      | nil => cases hm
      | cons a l ih =>
        rw [List.nodup_cons] at hl
        by_cases e : a = nm
        · subst e
          have h3 : l.filter (fun x => decide (x ≠ a)) = l := List.filter_eq_self.2 (fun x hx => decide_eq_true (fun e => hl.1 (e ▸ hx)))
          rw [List.filter_cons_of_neg (by simp), h3]
          rfl
        · have h4 : nm ∈ l := by
            rcases List.mem_cons.1 hm with h | h
            · exact absurd h.symm e
            · exact h
          have := ih hl.2 h4
          rw [List.filter_cons_of_pos (p := fun x => decide (x ≠ nm)) (decide_eq_true e), List.length_cons, List.length_cons]
          omega
    have := h2 vs hnd hx
    omega
  · by_cases e : m = nm
    · subst e
      rw [has_del_same]
      simp
    · rw [has_del_other (fun e' => e (strLit_inj e')), hhas m hm]
      simp [e]
  · exact hg.grown

end Go.Proofs.YtgddkjhknlgbbaaGreatDoor
