import Derived.Test.YtgddkjhknlgbbaaGreatDoorM03
import Derived.Deep.RegionHeld3
set_option linter.unusedVariables false
set_option linter.unusedSimpArgs false

namespace Go.Proofs.YtgddkjhknlgbbaaGreatDoor
open Go.RowKit Go.Maps

theorem IntsAt.below {w w' : World} {v : Value} {zs : List Int} (h : IntsAt w v zs) (hb : Below w.heap.size w w') : IntsAt w' v zs := by
  obtain ⟨a, cap, rfl, hc⟩ := h
  exact ⟨a, cap, rfl, fun i hi => by obtain ⟨b, o, ha, hx⟩ := hc i hi; exact ⟨b, o, ha, by rw [hb.cell (p := ⟨b, o + i, none⟩) (World.block_lt_of_cell? w _ hx)]; exact hx⟩⟩

def zeroEnt : Ent := ⟨⟨#[]⟩, [], 0⟩

/-- The slice v reads as the entries es. -/
def EntsAt (w : World) (v : Value) (es : List Ent) : Prop :=
  ∃ a cap, v = .slice a es.length cap ∧ ∀ i, i < es.length → ∃ b o sv, a = some ⟨b, o, none⟩ ∧ w.cell? ⟨b, o + i * 3, none⟩ = some (.string (es[i]?.getD zeroEnt).nm) ∧
    w.cell? ⟨b, o + i * 3 + 1, none⟩ = some sv ∧ IntsAt w sv (es[i]?.getD zeroEnt).row ∧ w.cell? ⟨b, o + i * 3 + 2, none⟩ = some (.int .i64 (es[i]?.getD zeroEnt).wt)

theorem EntsAt.below {w w' : World} {v : Value} {es : List Ent} (h : EntsAt w v es) (hb : Below w.heap.size w w') : EntsAt w' v es := by
  obtain ⟨a, cap, rfl, hc⟩ := h
  refine ⟨a, cap, rfl, fun i hi => ?_⟩
  obtain ⟨b, o, sv, ha, h1, h2, h3, h4⟩ := hc i hi
  have hl : b < w.heap.size := World.block_lt_of_cell? w _ h1
  exact ⟨b, o, sv, ha, by rw [hb.cell (p := ⟨b, _, none⟩) hl]; exact h1, by rw [hb.cell (p := ⟨b, _, none⟩) hl]; exact h2, h3.below hb, by rw [hb.cell (p := ⟨b, _, none⟩) hl]; exact h4⟩

/-- What an entry must be, for its batch to be summed. -/
def GoodEnt (x : Ent) : Prop := x.nm.size ≤ 1000 ∧ x.row.length ≤ 3 ∧ WfRow (padRow x.row) ∧ -1000 ≤ x.wt ∧ x.wt ≤ 1000

/-- The sum of the weights of a row in a relation. -/
def sumE (es : List Ent) (nm : ByteArray) (r : Row) : Int :=
  match es with
  | [] => 0
  | x :: rest => (if x.nm = nm ∧ padRow x.row = r then x.wt else 0) + sumE rest nm r

theorem sumE_snoc (es : List Ent) (x : Ent) (nm : ByteArray) (r : Row) : sumE (es ++ [x]) nm r = sumE es nm r + (if x.nm = nm ∧ padRow x.row = r then x.wt else 0) := by
  induction es with
  | nil => simp [sumE]
  | cons y ys ih => simp only [List.cons_append, sumE, ih]; omega

theorem sumE_bd (es : List Ent) (h : ∀ x ∈ es, GoodEnt x) (nm : ByteArray) (r : Row) : -(1000 * (es.length : Int)) ≤ sumE es nm r ∧ sumE es nm r ≤ 1000 * (es.length : Int) := by
  induction es with
  | nil => simp [sumE]
  | cons y ys ih =>
    have h1 := ih (fun x hx => h x (List.mem_cons_of_mem _ hx))
    have h2 := (h y (List.mem_cons_self)).2.2.2
    simp only [sumE, List.length_cons]
    split <;> omega

theorem strLit_isKey (s : ByteArray) : WideAt.IsKeyLit (strLit s) := trivial

abbrev Ch := ByteArray → Option (Nat × (Row → Int))

structure ChgRep (w : World) (cb B n : Nat) (ch : Ch) : Prop where
  dir : ∃ D, w.ownsMap Tryz.prog 9 mapElem cb n D ∧ (∀ nm, nm.size ≤ maxLen → Maps.has D (strLit nm) = (ch nm).isSome) ∧
    (∀ nm p, nm.size ≤ maxLen → ch nm = some p → ∀ zd, D.atKey (strLit nm) zd = .lit (.int .i64 p.1))
  each : ∀ nm p, ch nm = some p → WMap w p.1 n p.2 ∧ B ≤ p.1 ∧ p.1 ≠ cb
  apart : ∀ nm nm' p p', ch nm = some p → ch nm' = some p' → nm ≠ nm' → p.1 ≠ p'.1
  base : B ≤ cb

def SumRel (es : List Ent) (ch : Ch) : Prop := ∀ nm, (ch nm = none → ∀ x ∈ es, x.nm ≠ nm) ∧ ∀ p, ch nm = some p → (∃ x ∈ es, x.nm = nm) ∧ p.2 = sumE es nm

theorem WMap.lt {w : World} {b n : Nat} {f : Row → Int} (h : WMap w b n f) : b < w.heap.size := by
  obtain ⟨D, h1, _⟩ := h
  exact h1.lt

theorem WMap.mono {w : World} {b n n' : Nat} {f : Row → Int} (h : WMap w b n f) (hn : n ≤ n') : WMap w b n' f := by
  obtain ⟨D, h1, h2⟩ := h
  exact ⟨D, h1.mono hn, h2⟩

section
variable {w w' : World} {cb B n : Nat} {ch : Ch}

theorem ChgRep.lt (h : ChgRep w cb B n ch) : cb < w.heap.size := by
  obtain ⟨D, h1, _⟩ := h.dir
  exact h1.lt

/-- The changes stay what they are while none of their blocks turns. -/
theorem ChgRep.kept (h : ChgRep w cb B n ch) (hb : ∀ k, B ≤ k → k < w.heap.size → w'.heap[k]? = w.heap[k]?) : ChgRep w' cb B n ch := by
  have hlt := h.lt
  obtain ⟨⟨D, ⟨es, clock, h1, h2⟩, hD⟩, ea, ap, ba⟩ := h
  refine ⟨⟨D, ⟨es, clock, (hb _ ba hlt).trans h1, h2⟩, hD⟩, fun nm p hp => ?_, ap, ba⟩
  obtain ⟨e1, e2, e3⟩ := ea nm p hp
  exact ⟨e1.kept (hb _ e2 e1.lt), e2, e3⟩

theorem ChgRep.mono (h : ChgRep w cb B n ch) {n' : Nat} (hn : n ≤ n') : ChgRep w cb B n' ch := by
  obtain ⟨⟨D, h1, hD⟩, ea, ap, ba⟩ := h
  exact ⟨⟨D, h1.mono hn, hD⟩, fun nm p hp => ⟨(ea nm p hp).1.mono hn, (ea nm p hp).2⟩, ap, ba⟩

theorem ChgRep.below (h : ChgRep w cb B n ch) (hb : Below w.heap.size w w') : ChgRep w' cb B n ch := h.kept (fun k _ hk => hb.block k hk)

theorem mapElem_inv {v : Value} {b : Nat} {ps : List MemPlace} (h : mapElem v = some (.lit (.int .i64 b), ps)) : v = .map (some b) := by
  unfold mapElem at h
  split at h
  · simp at h
    obtain ⟨h, _⟩ := h
    have h : _ = b := Int.ofNat_inj.1 h
    rw [h]
  · simp at h
  · simp at h

theorem mapElem_none {v : Value} {ps : List MemPlace} (h : mapElem v = some (.lit (.int .i64 (-1)), ps)) : v = .map none := by
  unfold mapElem at h
  split at h
  · simp at h
  · rfl
  · simp at h

theorem ChgRep.hit (h : ChgRep w cb B n ch) {nm : ByteArray} {p : Nat × (Row → Int)} (hn : nm.size ≤ maxLen) (hR : ch nm = some p) :
    (Instr.lookup 77 (.map (some cb)) (.string nm) true).run Tryz.prog w = .ok (.tuple #[.map (some p.1), .bool true]) w := by
  obtain ⟨D, hown, hhas, hat⟩ := h.dir
  obtain ⟨v, ps, hrun, hv⟩ := hown.look_ok law9 Tryz.underlying77 (zero68 _) (zd := .lit (.int .i64 (-1))) (zp := []) rfl (keyOf_str hn)
  rw [hat nm p hn hR] at hv
  rw [mapElem_inv hv, hhas nm hn, hR] at hrun
  exact hrun

theorem ChgRep.miss (h : ChgRep w cb B n ch) {nm : ByteArray} (hn : nm.size ≤ maxLen) (hR : ch nm = none) :
    (Instr.lookup 77 (.map (some cb)) (.string nm) true).run Tryz.prog w = .ok (.tuple #[.map none, .bool false]) w := by
  obtain ⟨D, hown, hhas, hat⟩ := h.dir
  obtain ⟨v, ps, hrun, hv⟩ := hown.look_ok law9 Tryz.underlying77 (zero68 _) (zd := .lit (.int .i64 (-1))) (zp := []) rfl (keyOf_str hn)
  have h0 : Maps.has D (strLit nm) = false := by rw [hhas nm hn, hR]; rfl
  rw [atKey_of_not_has h0] at hv
  rw [mapElem_none hv, h0] at hrun
  exact hrun

def chSet (ch : Ch) (nm : ByteArray) (p : Nat × (Row → Int)) : Ch := fun m => if m = nm then some p else ch m

/-- Weights.Add on one of the changes. -/
theorem ChgRep.added (h : ChgRep w cb B n ch) {nm : ByteArray} {p : Nat × (Row → Int)} {g : Row → Int} (hR : ch nm = some p) (hg : w.grownBy w' (some p.1)) (hW : WMap w' p.1 (n + 1) g) : ChgRep w' cb B (n + 1) (chSet ch nm (p.1, g)) := by
  have hlt := h.lt
  have hp := h.each nm p hR
  obtain ⟨⟨D, ⟨es, clock, h1, h2⟩, hhas, hat⟩, ea, ap, ba⟩ := h
  have hcb : w'.heap[cb]? = w.heap[cb]? := hg.block _ hlt (fun e => hp.2.2 (by injection e with e; exact e.symm))
  refine ⟨⟨D, (show w'.ownsMap Tryz.prog 9 mapElem cb n D from ⟨es, clock, hcb.trans h1, h2⟩).mono (Nat.le_succ _), fun m hm => ?_, fun m q hm hq => ?_⟩, fun m q hq => ?_, fun m m' q q' hq hq' hne => ?_, ba⟩
  · rw [hhas m hm]; unfold chSet; by_cases e : m = nm <;> simp [e, hR]
  · unfold chSet at hq
    by_cases e : m = nm
    · subst e; simp at hq; subst hq; exact hat _ p hm hR
    · simp [e] at hq; exact hat m q hm hq
  · unfold chSet at hq
    by_cases e : m = nm
    · subst e; simp at hq; subst hq; exact ⟨hW, hp.2⟩
    · simp [e] at hq
      have hm := ea m q hq
      exact ⟨(hm.1.kept (hg.block _ hm.1.lt (fun e' => ap m nm q p hq hR e (by injection e')))).mono (Nat.le_succ _), hm.2⟩
  · unfold chSet at hq hq'
    by_cases e : m = nm
    · subst e
      have e' : ¬ m' = m := fun x => hne x.symm
      simp at hq; simp [e'] at hq'; subst hq
      exact ap m m' p q' hR hq' hne
    · simp [e] at hq
      by_cases e' : m' = nm
      · subst e'; simp at hq'; subst hq'; exact ap m m' q p hq hR hne
      · simp [e'] at hq'; exact ap m m' q q' hq hq' hne

/-- A new map among the changes. -/
theorem ChgRep.begun {D : DataW Unit} (h : ChgRep w cb B n ch) {nm : ByteArray} {b : Nat} (hnm : nm.size ≤ maxLen) (hR : ch nm = none) (hg : w.grownBy w' (some cb)) (hb : WMap w b 0 (fun _ => 0)) (hb2 : B ≤ b) (hb3 : b ≠ cb)
    (hfresh : ∀ m p, ch m = some p → p.1 ≠ b) (hhas : ∀ m, m.size ≤ maxLen → Maps.has D (strLit m) = (ch m).isSome) (hat : ∀ m p, m.size ≤ maxLen → ch m = some p → ∀ zd, D.atKey (strLit m) zd = .lit (.int .i64 p.1)) (hD : IsMap D)
    (hown : w'.ownsMap Tryz.prog 9 mapElem cb (n + 1) (D.put (strLit nm) (.lit (.int .i64 b)))) : ChgRep w' cb B (n + 1) (chSet ch nm (b, fun _ => 0)) := by
  refine ⟨⟨_, hown, fun m hm => ?_, fun m q hm hq => ?_⟩, fun m q hq => ?_, fun m m' q q' hq hq' hne => ?_, h.base⟩
  · unfold chSet
    by_cases e : m = nm
    · subst e; rw [has_put_same hD (strLit_isKey _)]; simp
    · rw [has_put_other (fun e' => e (strLit_inj e')), hhas m hm]; simp [e]
  · unfold chSet at hq
    intro zd
    by_cases e : m = nm
    · subst e; simp at hq; subst hq; exact atKey_put_same hD (strLit_isKey _) _ _
    · simp [e] at hq; rw [atKey_put_other (fun e' => e (strLit_inj e'))]; exact hat m q hm hq zd
  · unfold chSet at hq
    by_cases e : m = nm
    · subst e; simp at hq; subst hq; exact ⟨(hb.kept (hg.block _ hb.lt (fun e => hb3 (by injection e)))).mono (by omega), hb2, hb3⟩
    · simp [e] at hq
      have hm := h.each m q hq
      exact ⟨(hm.1.kept (hg.block _ hm.1.lt (fun e' => hm.2.2 (by injection e')))).mono (Nat.le_succ _), hm.2⟩
  · unfold chSet at hq hq'
    by_cases e : m = nm
    · subst e
      have e' : ¬ m' = m := fun x => hne x.symm
      simp at hq; simp [e'] at hq'; subst hq
      exact fun x => hfresh m' q' hq' x.symm
    · simp [e] at hq
      by_cases e' : m' = nm
      · subst e'; simp at hq'; subst hq'; exact hfresh m q hq
      · simp [e'] at hq'; exact h.apart m m' q q' hq hq' hne

end

theorem sumRel_hit {es : List Ent} {ch : Ch} {x : Ent} {p : Nat × (Row → Int)} (h : SumRel es ch) (hp : ch x.nm = some p) : SumRel (es ++ [x]) (chSet ch x.nm (p.1, upd p.2 (padRow x.row) (p.2 (padRow x.row) + x.wt))) := by
  intro nm
  have hf := ((h x.nm).2 p hp).2
  unfold chSet
  by_cases e : nm = x.nm
  · subst e
    refine ⟨fun hn => by simp at hn, fun q hq => ?_⟩
    simp at hq
    subst hq
    refine ⟨⟨x, by simp, rfl⟩, ?_⟩
    funext r
    rw [sumE_snoc, hf]
    unfold upd
    by_cases e : r = padRow x.row
    · subst e; simp
    · simp [e, Ne.symm e]
  · simp only [if_neg e]
    refine ⟨fun hn y hy => ?_, fun q hq => ?_⟩
    · rcases List.mem_append.1 hy with hy | hy
      · exact (h nm).1 hn y hy
      · simp at hy; subst hy; exact fun x => e x.symm
    · obtain ⟨⟨y, hy, hyn⟩, hq2⟩ := (h nm).2 q hq
      refine ⟨⟨y, by simp [hy], hyn⟩, ?_⟩
      funext r
      rw [sumE_snoc, hq2]
      simp [Ne.symm e]

theorem sumRel_miss {es : List Ent} {ch : Ch} {x : Ent} {b : Nat} (h : SumRel es ch) (hp : ch x.nm = none) : SumRel (es ++ [x]) (chSet ch x.nm (b, upd (fun _ => 0) (padRow x.row) (0 + x.wt))) := by
  intro nm
  have hno := (h x.nm).1 hp
  have h0 : ∀ (l : List Ent), (∀ y ∈ l, y.nm ≠ x.nm) → ∀ r, sumE l x.nm r = 0 := by
    intro l
    induction l with
    | nil => intro _ r; rfl
    | cons y ys ih =>
      intro hy r
      simp only [sumE]
      rw [ih (fun z hz => hy z (List.mem_cons_of_mem _ hz)) r]
      simp [hy y (List.mem_cons_self)]
  unfold chSet
  by_cases e : nm = x.nm
  · subst e
    refine ⟨fun hn => by simp at hn, fun q hq => ?_⟩
    simp at hq
    subst hq
    refine ⟨⟨x, by simp, rfl⟩, ?_⟩
    funext r
    rw [sumE_snoc, h0 es hno r]
    unfold upd
    by_cases e : r = padRow x.row
    · subst e; simp
    · simp [e, Ne.symm e]
  · simp only [if_neg e]
    refine ⟨fun hn y hy => ?_, fun q hq => ?_⟩
    · rcases List.mem_append.1 hy with hy | hy
      · exact (h nm).1 hn y hy
      · simp at hy; subst hy; exact fun x => e x.symm
    · obtain ⟨⟨y, hy, hyn⟩, hq2⟩ := (h nm).2 q hq
      refine ⟨⟨y, by simp [hy], hyn⟩, ?_⟩
      funext r
      rw [sumE_snoc, hq2]
      simp [Ne.symm e]

end Go.Proofs.YtgddkjhknlgbbaaGreatDoor
