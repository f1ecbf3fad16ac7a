import Derived.Deep.Fields
import Derived.Deep.Slices
import Derived.ChangeSlices
import Derived.ProofKit
import Derived.Test.YtgddkjhknlgbbaaGreatDoorRows
import Derived.Test.YtgddkjhknlgbbaaGreatDoorM32
set_option linter.unusedVariables false
set_option linter.unusedSimpArgs false

namespace Go.Proofs.YtgddkjhknlgbbaaGreatDoor
set_option linter.unusedVariables false
set_option linter.unusedSimpArgs false
open Go.RowKit Go.Maps


open Go.ChangeShapes Go.WideShapes Go.Deep

section
variable {H : Type} {enc : TypeId × Value → H} {w : World}

/-- What is read of a value is at least one thing. -/
theorem bulk_one (d : DataW H) : 1 ≤ Rows.uptoBulk d := by
  cases d with
  | lit l => cases l <;> simp [Rows.uptoBulk]
  | nil => simp [Rows.uptoBulk]
  | ptr d => simp [Rows.uptoBulk]
  | slice elems spare => simp [Rows.uptoBulk]
  | agg parts => simp [Rows.uptoBulk]
  | iface t d => simp [Rows.uptoBulk]
  | map entries => simp [Rows.uptoBulk]
  | held h => simp [Rows.uptoBulk]

/-- The bulk of a list by its indices. -/
theorem bulkAll_range (D : Nat → DataW H) (n : Nat) : Rows.uptoBulkAll ((List.range n).map D) = ((List.range n).map fun i => Rows.uptoBulk (D i)).sum := by
  generalize List.range n = l
  induction l with
  | nil => simp [Rows.uptoBulkAll]
  | cons x r ih => simp [Rows.uptoBulkAll, ih]

theorem sum_le_of {f g : Nat → Nat} (n : Nat) (h : ∀ i, i < n → f i ≤ g i) : ((List.range n).map f).sum ≤ ((List.range n).map g).sum := by
  induction n with
  | zero => simp
  | succ n ih =>
    have h1 := ih (fun i hi => h i (by omega))
    have h2 := h n (by omega)
    simp [List.range_succ]
    omega

theorem one_le_sum {f : Nat → Nat} (n i : Nat) (h : i < n) : f i ≤ ((List.range n).map f).sum := by
  induction n with
  | zero => omega
  | succ n ih =>
    simp [List.range_succ]
    rcases Nat.lt_succ_iff_lt_or_eq.1 h with hlt | rfl
    · have := ih hlt; omega
    · omega

theorem len_le_sum {f : Nat → Nat} (n : Nat) (h : ∀ i, 1 ≤ f i) : n ≤ ((List.range n).map f).sum := by
  induction n with
  | zero => omega
  | succ n ih =>
    have := h n
    simp [List.range_succ]
    omega

/-- A struct of one-cell fields, by value. -/
theorem open_fields {P : Program} {base : Nat} {spare : Nat → Bool} {held : Bool} {ts : TypeId} {fs : Array Field} {fuel : Nat} {cs : List Value} {x : DataW H × List MemPlace} (hs : P.underlying ts = some (.struct fs))
    (hone : ∀ (i : Nat) (f : Field), fs[i]? = some f → f.offset = i ∧ P.cellsOf f.type = 1) (hC : P.cellsOf ts = fs.size) (h : DataW.trod enc P w base spare held fuel ts cs = some x) :
    cs.length = fs.size ∧ ∃ (n : Nat) (Y : Nat → DataW H × List MemPlace), x.1 = .agg ((List.range fs.size).map fun i => (Y i).1) ∧
      ∀ (i : Nat) (f : Field), fs[i]? = some f → DataW.trod enc P w base spare held n f.type [cs.getD i undef] = some (Y i) := by
  obtain ⟨xs, n, _, rfl, hlen, hxl, hf⟩ := DataW.trod_struct hs h
  rw [hC] at hlen
  refine ⟨hlen, n, fun i => xs.getD i (.nil, []), ?_, fun i f hi => ?_⟩
  · show DataW.agg _ = _
    rw [map_by_index xs (.nil, []) (·.1), hxl]
  · have hlt : i < fs.size := (Array.getElem?_eq_some_iff.1 hi).1
    obtain ⟨ho, hc1⟩ := hone i f hi
    have g := hf i f hi
    rw [ho, hc1] at g
    rw [take1_drop cs i undef (by omega), List.getElem?_eq_getElem (by omega)] at g
    rw [g]
    simp [List.getD, List.getElem?_eq_getElem (show i < xs.length by omega)]

theorem pad_wf {zs : List Int} (h : ∀ n ∈ zs, (Lit.int .i64 n).wf = true) : WfRow (padRow zs) := by
  have key : ∀ i, wfI (zs[i]?.getD 0) := fun i => by
    by_cases hi : i < zs.length
    · rw [List.getElem?_eq_getElem hi]; exact h _ (List.getElem_mem hi)
    · rw [List.getElem?_eq_none (by omega)]; unfold wfI; decide
  exact ⟨key 0, key 1, key 2⟩

theorem lits_bulk (k : IntKind) (l : List Int) : l.length ≤ Rows.uptoBulkAll (H := H) (lits k l) := by
  unfold lits
  induction l with
  | nil => simp
  | cons x r ih => simp [Rows.uptoBulkAll, Rows.uptoBulk] at *; omega

/-- A row of numbers, read. -/
theorem read_row {fuel : Nat} {cs : List Value} {x : DataW H × List MemPlace} (h : DataW.trod enc Tryz.prog w 0 (fun _ => true) true fuel 73 cs = some x) :
    ∃ (sv : Value) (zs : List Int), cs = [sv] ∧ IntsAt w sv zs ∧ (∀ m c, sv = .slice none m c → m = 0 ∧ c = 0) ∧ WfRow (padRow zs) ∧ zs.length + 1 ≤ Rows.uptoBulk x.1 := by
  rcases open_ints Tryz.underlying73 Tryz.underlying2 (by kernel_rfl) h with ⟨rfl, rfl⟩ | ⟨a, len, cap, zs, rfl, _, hl, hm, hz, rfl, hcell, hwz⟩
  · refine ⟨_, [], rfl, ⟨none, 0, rfl, fun i hi => by simp at hi⟩, fun m c e => by cases e; exact ⟨rfl, rfl⟩, pad_wf (fun n hn => by cases hn), by simp [Rows.uptoBulk]⟩
  · have hlen : (zs.take len).length = len := by simp at hz ⊢; omega
    refine ⟨_, zs.take len, rfl, ⟨some a, cap, by rw [hlen], fun i hi => ?_⟩, fun m c e => by simp at e, pad_wf (fun n hn => hwz n (List.mem_of_mem_take hn)), ?_⟩
    · rw [hlen] at hi
      obtain ⟨b, off, spot⟩ := a
      have h0 := hcell 0 (by simp at hz; omega)
      have hspot : spot = none := by simpa [Addr.add] using World.cell?_spot h0
      subst hspot
      refine ⟨b, off, rfl, ?_⟩
      have h1 := hcell i (by simp at hz; omega)
      rw [add_plain] at h1
      rw [h1, List.getElem?_take_of_lt hi]
      simp
    · have := lits_bulk (H := H) .i64 (zs.take len)
      simp only [Rows.uptoBulk]
      omega

theorem Tryz.cells75 : Tryz.prog.cellsOf 75 = 3 := by kernel_rfl
theorem Tryz.cells34 : Tryz.prog.cellsOf 34 = 7 := by kernel_rfl

/-- An entry, read. -/
theorem read_ent {fuel : Nat} {cs : List Value} {x : DataW H × List MemPlace} (h : DataW.trod enc Tryz.prog w 0 (fun _ => true) true fuel 75 cs = some x) :
    ∃ (y : Ent × Value), cs = [.string y.1.nm, y.2, .int .i64 y.1.wt] ∧ IntsAt w y.2 y.1.row ∧ (∀ m c, y.2 = .slice none m c → m = 0 ∧ c = 0) ∧ WfRow (padRow y.1.row) ∧ y.1.nm.size + y.1.row.length + 1 ≤ Rows.uptoBulk x.1 := by
  obtain ⟨hl, n, Y, hx, hf⟩ := open_fields Tryz.underlying75 (hone_of (by kernel_rfl)) (by kernel_rfl) h
  have g0 := hf 0 _ rfl
  have g1 := hf 1 _ rfl
  have g2 := hf 2 _ rfl
  obtain ⟨s, e0, y0, hs⟩ := DataW.trod_string Tryz.underlying9 g0
  obtain ⟨sv, zs, e1, hz, hn, hwf, hb⟩ := read_row g1
  obtain ⟨c, e2, y2, _⟩ := DataW.trod_int Tryz.underlying3 g2
  refine ⟨(⟨s, zs, c⟩, sv), ?_, hz, hn, hwf, ?_⟩
  · match cs, hl with
    | [c0, c1, c2], _ =>
      have a0 : c0 = .string s := (List.cons.inj e0).1
      have a1 : c1 = sv := (List.cons.inj e1).1
      have a2 : c2 = .int .i64 c := (List.cons.inj e2).1
      rw [a0, a1, a2]
  · rw [hx]
    have : s.data.toList.length = s.size := by rw [Array.length_toList]; rfl
    simp [List.range_succ, Rows.uptoBulk, Rows.uptoBulkAll, y0, this]
    omega

/-- A batch, read. -/
theorem read_batch {fuel : Nat} {cs : List Value} {x : DataW H × List MemPlace} (h : DataW.trod enc Tryz.prog w 0 (fun _ => true) true fuel 32 cs = some x) :
    ∃ (p : Option Addr) (nb cb : Nat) (es : List Ent), cs = [.slice p nb cb] ∧ EntsAt w (.slice p nb cb) es ∧ EntsNil w (.slice p nb cb) ∧ WfEs es ∧ (∀ y ∈ es, y.nm.size + y.row.length ≤ Rows.uptoBulk x.1) ∧ es.length + 1 ≤ Rows.uptoBulk x.1 := by
  haveI : Inhabited Ent := ⟨zeroEnt⟩
  rcases open_slice Tryz.underlying32 h with ⟨rfl, rfl⟩ | ⟨a, len, cap, m, n, D, Pl, rfl, _, hl, hm, hmm, rfl, hx⟩
  · exact ⟨none, 0, 0, [], rfl, ⟨none, 0, rfl, fun i hi => by simp at hi⟩, fun b o n cap i e => by simp at e, fun y hy => (by cases hy), fun y hy => (by cases hy), by simp [Rows.uptoBulk]⟩
  · simp only [if_true] at hmm
    subst hmm
    rw [Tryz.cells75] at hx
    obtain ⟨E, hE⟩ := choose_lt (α := Ent × Value) (n := m) (p := fun i y => (∀ j, j < 3 → w.cell? ((a.add (i * 3)).add j) = [Value.string y.1.nm, y.2, .int .i64 y.1.wt][j]?) ∧ IntsAt w y.2 y.1.row ∧ (∀ m c, y.2 = .slice none m c → m = 0 ∧ c = 0) ∧ WfRow (padRow y.1.row) ∧ y.1.nm.size + y.1.row.length + 1 ≤ Rows.uptoBulk (D i)) (fun i hi => by
      obtain ⟨cs', h1, h2⟩ := hx i hi
      obtain ⟨y, rfl, g1, g2, g3, g4⟩ := read_ent h2
      obtain ⟨_, _, hc⟩ := World.cells?_some h1
      exact ⟨y, hc, g1, g2, g3, g4⟩)
    have hbulk : Rows.uptoBulkAll ((List.range len).map D) + 1 ≤ Rows.uptoBulk (DataW.slice ((List.range len).map D) ((List.range (m - len)).map fun j => D (len + j))) := by simp only [Rows.uptoBulk]; omega
    rw [bulkAll_range] at hbulk
    have hplain : 0 < len → ∃ b o, a = ⟨b, o, none⟩ := fun h0 => by
      obtain ⟨b, o, spot⟩ := a
      have h1 := (hE 0 (by omega)).1 0 (by omega)
      have hspot : spot = none := by simpa [Addr.add] using World.cell?_spot h1
      subst hspot
      exact ⟨b, o, rfl⟩
    refine ⟨some a, len, m, (List.range len).map fun i => (E i).1, rfl, ⟨some a, m, by simp, fun i hi => ?_⟩, fun b o n' cap' i e hi p m' c hp hnone => ?_, fun y hy => ?_, fun y hy => ?_, ?_⟩
    · simp at hi
      obtain ⟨b, o, rfl⟩ := hplain (by omega)
      obtain ⟨hc, hz, hnl, hwf, hb⟩ := hE i (by omega)
      have c0 := hc 0 (by omega)
      have c1 := hc 1 (by omega)
      have c2 := hc 2 (by omega)
      rw [add_add, add_plain] at c0 c1 c2
      have ee : ((List.range len).map fun i => (E i).1)[i]?.getD zeroEnt = (E i).1 := by simp [hi]
      rw [ee]
      exact ⟨b, o, (E i).2, rfl, by simpa using c0, by simpa [Nat.add_assoc] using c1, hz, by simpa [Nat.add_assoc] using c2⟩
    · cases e
      obtain ⟨hc, hz, hnl, hwf, hb⟩ := hE i (by omega)
      have c1 := hc 1 (by omega)
      rw [add_add, add_plain] at c1
      rw [← Nat.add_assoc, hp] at c1
      simp at c1
      subst hnone
      exact hnl m' c c1.symm
    · simp at hy
      obtain ⟨i, hi, rfl⟩ := hy
      exact (hE i (by omega)).2.2.2.1
    · simp at hy
      obtain ⟨i, hi, rfl⟩ := hy
      have h1 := (hE i (by omega)).2.2.2.2
      have h2 := one_le_sum (f := fun i => Rows.uptoBulk (D i)) len i hi
      exact Nat.le_trans (Nat.le_of_succ_le h1) (Nat.le_trans h2 (Nat.le_of_succ_le hbulk))
    · have := len_le_sum (f := fun i => Rows.uptoBulk (D i)) len (fun i => bulk_one _)
      simp only [List.length_map, List.length_range]
      omega

/-- An op, read. -/
theorem read_op {fuel : Nat} {cs : List Value} {x : DataW H × List MemPlace} (h : DataW.trod enc Tryz.prog w 0 (fun _ => true) true fuel 34 cs = some x) :
    ∃ (y : OpR), cs = opC y ∧ EntsAt w (.slice y.p y.nb y.cb) y.es ∧ EntsNil w (.slice y.p y.nb y.cb) ∧ WfEs y.es ∧ (∀ z ∈ y.es, z.nm.size + z.row.length ≤ Rows.uptoBulk x.1) ∧ y.es.length + y.s.size + 1 ≤ Rows.uptoBulk x.1 := by
  obtain ⟨hl, n, Y, hx, hf⟩ := open_fields Tryz.underlying34 (hone_of (by kernel_rfl)) (by kernel_rfl) h
  have g0 := hf 0 _ rfl
  have g1 := hf 1 _ rfl
  have g2 := hf 2 _ rfl
  have g3 := hf 3 _ rfl
  have g4 := hf 4 _ rfl
  have g5 := hf 5 _ rfl
  have g6 := hf 6 _ rfl
  obtain ⟨k, e0, y0, _⟩ := DataW.trod_int Tryz.underlying3 g0
  obtain ⟨m, e1, y1, _⟩ := DataW.trod_int Tryz.underlying3 g1
  obtain ⟨a, e2, y2, _⟩ := DataW.trod_int Tryz.underlying3 g2
  obtain ⟨s, e3, y3, hs⟩ := DataW.trod_string Tryz.underlying9 g3
  obtain ⟨t, e4, y4, ht⟩ := DataW.trod_string Tryz.underlying9 g4
  obtain ⟨u, e5, y5, hu⟩ := DataW.trod_string Tryz.underlying9 g5
  obtain ⟨p, nb, cb, es, e6, hE, hN, hW, hb, hlen⟩ := read_batch g6
  have hbig : Rows.uptoBulk (Y 6).1 + s.size + 1 ≤ Rows.uptoBulk x.1 := by
    rw [hx]
    have : s.data.toList.length = s.size := by rw [Array.length_toList]; rfl
    simp [List.range_succ, Rows.uptoBulk, Rows.uptoBulkAll, y3, this]
    omega
  refine ⟨⟨k, m, a, s, t, u, p, nb, cb, es⟩, ?_, hE, hN, hW, fun z hz => ?_, ?_⟩
  · match cs, hl with
    | [c0, c1, c2, c3, c4, c5, c6], _ =>
      have a0 : c0 = .int .i64 k := (List.cons.inj e0).1
      have a1 : c1 = .int .i64 m := (List.cons.inj e1).1
      have a2 : c2 = .int .i64 a := (List.cons.inj e2).1
      have a3 : c3 = .string s := (List.cons.inj e3).1
      have a4 : c4 = .string t := (List.cons.inj e4).1
      have a5 : c5 = .string u := (List.cons.inj e5).1
      have a6 : c6 = .slice p nb cb := (List.cons.inj e6).1
      rw [a0, a1, a2, a3, a4, a5, a6]
      rfl
  · have := hb z hz
    omega
  · dsimp only
    omega

/-- A script, read. -/
theorem read_script {fuel : Nat} {v : Value} {x : DataW H × List MemPlace} (h : DataW.trod enc Tryz.prog w 0 (fun _ => true) true fuel 22 [v] = some x) (hbd : Rows.uptoBulk x.1 ≤ 1048576) :
    ∃ ops : List OpR, ScriptAt w v ops ∧ ops.length ≤ 2000000 ∧ entSum ops ≤ 1000000000 := by
  haveI : Inhabited OpR := ⟨zeroOp⟩
  rcases open_slice Tryz.underlying22 h with ⟨hv, rfl⟩ | ⟨a, len, cap, m, n, D, Pl, hv, _, hl, hm, hmm, rfl, hx⟩
  · simp at hv
    exact ⟨[], ⟨none, 0, by simpa using hv, fun i hi => by simp at hi⟩, by simp, by simp [entSum]⟩
  · simp at hv
    subst hv
    simp only [if_true] at hmm
    subst hmm
    rw [Tryz.cells34] at hx
    obtain ⟨E, hE⟩ := choose_lt (α := OpR) (n := m) (p := fun i y => (∀ j, j < 7 → w.cell? ((a.add (i * 7)).add j) = (opC y)[j]?) ∧ EntsAt w (.slice y.p y.nb y.cb) y.es ∧ EntsNil w (.slice y.p y.nb y.cb) ∧ WfEs y.es ∧ (∀ z ∈ y.es, z.nm.size + z.row.length ≤ Rows.uptoBulk (D i)) ∧ y.es.length + y.s.size + 1 ≤ Rows.uptoBulk (D i)) (fun i hi => by
      obtain ⟨cs', h1, h2⟩ := hx i hi
      obtain ⟨y, rfl, g1, g2, g3, g4⟩ := read_op h2
      obtain ⟨_, _, hc⟩ := World.cells?_some h1
      exact ⟨y, hc, g1, g2, g3, g4⟩)
    have hbulk : Rows.uptoBulkAll ((List.range len).map D) + 1 ≤ Rows.uptoBulk (DataW.slice ((List.range len).map D) ((List.range (m - len)).map fun j => D (len + j))) := by simp only [Rows.uptoBulk]; omega
    rw [bulkAll_range] at hbulk
    have hall : ((List.range len).map fun i => Rows.uptoBulk (D i)).sum ≤ 1048576 := by dsimp only at hbd; omega
    have hplain : 0 < len → ∃ b o, a = ⟨b, o, none⟩ := fun h0 => by
      obtain ⟨b, o, spot⟩ := a
      have h1 := (hE 0 (by omega)).1 0 (by omega)
      have hspot : spot = none := by simpa [Addr.add, opC] using World.cell?_spot h1
      subst hspot
      exact ⟨b, o, rfl⟩
    refine ⟨(List.range len).map E, ⟨some a, m, by simp, fun i hi => ?_⟩, ?_, ?_⟩
    · simp at hi
      obtain ⟨b, o, rfl⟩ := hplain (by omega)
      obtain ⟨hc, h1, h2, h3, h4, h5⟩ := hE i (by omega)
      have ee : ((List.range len).map E)[i]?.getD zeroOp = E i := by simp [hi]
      have hone := one_le_sum (f := fun i => Rows.uptoBulk (D i)) len i hi
      rw [ee]
      refine ⟨⟨b, o, rfl, fun j hj => ?_⟩, h1, h2, ⟨h3, fun z hz => ?_, fun z hz => ?_, by omega⟩, by omega⟩
      · have := hc j hj
        rwa [add_add, add_plain, ← Nat.add_assoc] at this
      · have := h4 z hz; omega
      · have := h4 z hz; omega
    · have := len_le_sum (f := fun i => Rows.uptoBulk (D i)) len (fun i => bulk_one _)
      simp only [List.length_map, List.length_range]
      omega
    · unfold entSum
      rw [List.map_map]
      have := sum_le_of (f := fun i => (E i).es.length) (g := fun i => Rows.uptoBulk (D i)) len (fun i hi => by have := (hE i (by omega)).2.2.2.2.2; omega)
      have e : ((fun x : OpR => x.es.length) ∘ E) = fun i => (E i).es.length := rfl
      rw [e]
      omega

end

end Go.Proofs.YtgddkjhknlgbbaaGreatDoor

namespace Go.Proofs.YtgddkjhknlgbbaaGreatDoor
set_option linter.unusedVariables false
set_option linter.unusedSimpArgs false
open Go.RowKit Go.Maps


theorem walk_created (v : Value) (w : World) (ops : List OpR) (hv : ScriptAt w v ops) (hl : ops.length ≤ 2000000) (hsum : entSum ops ≤ 1000000000) :
    Calls Tryz.prog 3 #[v] w fun e w' => e = .returned (.bool true) ∧ Below w.heap.size w w' := by
  have Hp := hide (plays_any v ops 2 2 w hv hl hsum)
  clear hv
  go_enter Tryz.func3, Tryz.ntmps3
  go_wp2_with fail
  refine (unhide Hp).mono ?_
  rintro e w1 ⟨rfl, hb⟩
  have Hb := hide hb
  clear hb Hp
  go_wp2
  go_ret
  exact ⟨rfl, unhide Hb⟩

theorem walk_applied (v : Value) (w : World) (ops : List OpR) (hv : ScriptAt w v ops) (hl : ops.length ≤ 2000000) (hsum : entSum ops ≤ 1000000000) :
    Calls Tryz.prog 4 #[v] w fun e w' => e = .returned (.bool true) ∧ Below w.heap.size w w' := by
  have Hp := hide (plays_any v ops 3 3 w hv hl hsum)
  clear hv
  go_enter Tryz.func4, Tryz.ntmps4
  go_wp2_with fail
  refine (unhide Hp).mono ?_
  rintro e w1 ⟨rfl, hb⟩
  have Hb := hide hb
  clear hb Hp
  go_wp2
  go_ret
  exact ⟨rfl, unhide Hb⟩

theorem walk_rowed (v : Value) (w : World) (ops : List OpR) (hv : ScriptAt w v ops) (hl : ops.length ≤ 2000000) (hsum : entSum ops ≤ 1000000000) :
    Calls Tryz.prog 5 #[v] w fun e w' => e = .returned (.bool true) ∧ Below w.heap.size w w' := by
  have Hp := hide (plays_any v ops 4 4 w hv hl hsum)
  clear hv
  go_enter Tryz.func5, Tryz.ntmps5
  go_wp2_with fail
  refine (unhide Hp).mono ?_
  rintro e w1 ⟨rfl, hb⟩
  have Hb := hide hb
  clear hb Hp
  go_wp2
  go_ret
  exact ⟨rfl, unhide Hb⟩

end Go.Proofs.YtgddkjhknlgbbaaGreatDoor
