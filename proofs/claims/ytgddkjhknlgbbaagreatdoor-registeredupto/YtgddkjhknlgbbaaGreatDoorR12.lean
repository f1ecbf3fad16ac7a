import Derived.Test.YtgddkjhknlgbbaaGreatDoorR08
import Derived.Test.YtgddkjhknlgbbaaGreatDoorR09
import Derived.Test.YtgddkjhknlgbbaaGreatDoorR11
import Derived.Deep.CutRange
set_option linter.unusedVariables false
set_option linter.unusedSimpArgs false

namespace Go.Proofs.YtgddkjhknlgbbaaGreatDoor
set_option linter.unusedVariables false
set_option linter.unusedSimpArgs false

/-- What is left of a body, n atoms behind: does it stand as it should; its atoms. -/
def contT (f n : Nat) (S : List Tok) : Bool := if n = 0 then atomsT f 0 S.tail else match S with
  | [] => true
  | (Sum.inl (true, false)) :: r => atomsT f n r
  | _ => false
def contZ (f n : Nat) (S : List Tok) : List AtomZ := if n = 0 then atomsZ f S.tail else match S with
  | (Sum.inl (true, false)) :: r => atomsZ f r
  | _ => []

theorem contT_atom {f n : Nat} {t t' : Tok} {S : List Tok} (hs : n ≠ 0 → t = Sum.inl (true, false)) : contT f n (t :: t' :: S) = atomsT f n (t' :: S) := by
  unfold contT
  by_cases h : n = 0
  · rw [if_pos h, h]; rfl
  · rw [if_neg h, hs h]
theorem contZ_atom {f n : Nat} {t t' : Tok} {S : List Tok} (hs : n ≠ 0 → t = Sum.inl (true, false)) : contZ f n (t :: t' :: S) = atomsZ f (t' :: S) := by
  unfold contZ
  by_cases h : n = 0
  · rw [if_pos h]; rfl
  · rw [if_neg h, hs h]
theorem contT_sep {f n : Nat} {t : Tok} {S : List Tok} (hn : n ≠ 0) (ht : t ≠ Sum.inl (true, false)) : contT f n (t :: S) = false := by
  unfold contT
  rw [if_neg hn]
  cases t using Tok.el <;> simp_all
theorem contT_one {f n : Nat} {t : Tok} : contT f n [t] = false := by
  unfold contT
  by_cases h : n = 0
  · rw [if_pos h]
    cases f <;> simp [atomsT]
  · rw [if_neg h]
    cases t using Tok.el <;> try rfl
    cases f <;> simp [atomsT]
theorem atomsT_notn {f n : Nat} {t : Tok} {S : List Tok} (ht : ∀ s i, t ≠ Sum.inr (Sum.inr (Sum.inl (s, i)))) : atomsT f n (t :: S) = false := by
  cases f with
  | zero => rfl
  | succ f => cases t using Tok.el <;> simp_all [atomsT]
theorem contT_notn {f n : Nat} {t t' : Tok} {S : List Tok} (ht : ∀ s i, t' ≠ Sum.inr (Sum.inr (Sum.inl (s, i)))) : contT f n (t :: t' :: S) = false := by
  by_cases hs : n ≠ 0 → t = Sum.inl (true, false)
  · rw [contT_atom hs]; exact atomsT_notn ht
  · obtain ⟨h1, h2⟩ := Classical.not_imp.1 hs
    exact contT_sep h1 h2
theorem atomsT_four {f : Nat} {S : List Tok} : atomsT f 4 S = false := by
  cases f with
  | zero => rfl
  | succ f =>
    unfold atomsT
    split
    · rfl
    · cases itemsT true _ with
      | none => rfl
      | some x => simp
    · rfl
theorem contT_four {f : Nat} {t t' : Tok} {S : List Tok} : contT f 4 (t :: t' :: S) = false := by
  by_cases hs : (4 : Nat) ≠ 0 → t = Sum.inl (true, false)
  · rw [contT_atom hs]; exact atomsT_four
  · obtain ⟨h1, h2⟩ := Classical.not_imp.1 hs
    exact contT_sep h1 h2

/-- One atom more. -/
theorem atomsT_go {f n : Nat} {nm : List UInt8} {i : Nat} {r rest its : List Tok} (hn : n < 4) (h : itemsT true r = some (its, rest)) (h1 : 1 ≤ its.length) (h3 : its.length ≤ 3) : atomsT (f + 1) n (Sum.inr (Sum.inr (Sum.inl (nm, i))) :: Sum.inl (false, false) :: r) = contT f (n + 1) rest := by
  simp only [atomsT, h]
  rw [decide_eq_true hn, decide_eq_true h1, decide_eq_true h3]
  simp only [Bool.true_and]
  unfold contT
  rw [if_neg (by omega)]
  cases rest with
  | nil => rfl
  | cons t r => cases t using Tok.el <;> rfl
theorem atomsZ_go {f n : Nat} {nm : List UInt8} {i : Nat} {r rest its : List Tok} (h : itemsT true r = some (its, rest)) : atomsZ (f + 1) (Sum.inr (Sum.inr (Sum.inl (nm, i))) :: Sum.inl (false, false) :: r) = ⟨nm, i, its.map termZ⟩ :: contZ f (n + 1) rest := by
  simp only [atomsZ, h]
  unfold contZ
  rw [if_neg (by omega)]
  cases rest with
  | nil => rfl
  | cons t r => cases t using Tok.el <;> rfl
theorem atomsT_few {f n : Nat} {nm : List UInt8} {i : Nat} {r rest its : List Tok} (h : itemsT true r = some (its, rest)) (hb : ¬ (1 ≤ its.length ∧ its.length ≤ 3)) : atomsT f n (Sum.inr (Sum.inr (Sum.inl (nm, i))) :: Sum.inl (false, false) :: r) = false := by
  cases f with
  | zero => rfl
  | succ f =>
    simp only [atomsT, h]
    by_cases h1 : 1 ≤ its.length
    · have h3 : ¬ its.length ≤ 3 := fun h3 => hb ⟨h1, h3⟩
      simp [h3]
    · simp [h1]
theorem atomsT_noitems {f n : Nat} {nm : List UInt8} {i : Nat} {r : List Tok} (h : itemsT true r = none) : atomsT f n (Sum.inr (Sum.inr (Sum.inl (nm, i))) :: Sum.inl (false, false) :: r) = false := by
  cases f with
  | zero => rfl
  | succ f => simp only [atomsT, h]
theorem atomsT_nolp {f n : Nat} {nm : List UInt8} {i : Nat} {r : List Tok} (h : ∀ r', r ≠ Sum.inl (false, false) :: r') : atomsT f n (Sum.inr (Sum.inr (Sum.inl (nm, i))) :: r) = false := by
  cases f with
  | zero => rfl
  | succ f =>
    cases r with
    | nil => simp [atomsT]
    | cons t r =>
      cases t using Tok.el with
      | lp => exact absurd rfl (h r)
      | rp => simp [atomsT]
      | cm => simp [atomsT]
      | co => simp [atomsT]
      | v c i => simp [atomsT]
      | n s i => simp [atomsT]
      | d s => simp [atomsT]

end Go.Proofs.YtgddkjhknlgbbaaGreatDoor

namespace Go.Proofs.YtgddkjhknlgbbaaGreatDoor
set_option linter.unusedVariables false
set_option linter.unusedSimpArgs false
open Go.RowKit Go.Maps Go.Sort Go.Shelf

set_option maxRecDepth 100000 in
set_option maxHeartbeats 4000000 in
theorem number_pos (s : ByteArray) (h1 : 1 ≤ s.size) (h10 : s.size ≤ 10) (hm : byteAt s 0 ≠ 45) (W : World) :
    Calls Tryz.prog 80 #[.string s] W fun e w' => ∃ z, e = .returned (.int .i64 z) ∧ w' = W := by
  have h0 : (0 : Int) < (s.size : Int) := by omega
  have hb : ¬ ((s[0].toNat : Nat) : Int) = 45 := by have := byteAt_in (s := s) (p := 0) (by omega); omega
  have hb' : (((s[0].toNat : Nat) : Int) == 45) = false := by simpa using hb
  go_enter Tryz.func80, Tryz.ntmps80
  go_wp2
  go_loopw [3, 4] (fun n i wr => ∃ (k : Nat) (z : Int), k ≤ s.size ∧ n = .int .i64 z ∧ i = .int .i64 k ∧ wr = W) (fun _ i _ => s.size - (intOf i).toNat)
  case atStart => exact ⟨0, 0, Nat.zero_le _, rfl, rfl, rfl⟩
  case round =>
    obtain ⟨k, z, hk, rfl, rfl, hw⟩ := hrel
    subst hw
    by_cases hlt : k < s.size
    · have hkz : (k : Int) < (s.size : Int) := by omega
      go_wp2
      go_roundw
      case rel => exact ⟨k + 1, _, by omega, rfl, by go_num, by first | rfl | trivial⟩
      case measure => simp [intOf]; omega
    · have hkz : ¬ (k : Int) < (s.size : Int) := by omega
      go_wp2
      go_ret
      first
        | exact ⟨_, rfl, rfl⟩
        | exact rfl
        | exact ⟨⟨_, rfl⟩, rfl⟩

set_option maxRecDepth 100000 in
set_option maxHeartbeats 4000000 in
theorem number_any (s : ByteArray) (h : NumS s) (W : World) :
    Calls Tryz.prog 80 #[.string s] W fun e w' => ∃ z, e = .returned (.int .i64 z) ∧ w' = W := by
  obtain ⟨h1, h10, hm⟩ := h
  by_cases h45 : byteAt s 0 = 45
  · obtain ⟨h2, h3⟩ := hm h45
    have h0 : (0 : Int) < (s.size : Int) := by omega
    have hb : ((s[0].toNat : Nat) : Int) = 45 := by have := byteAt_in (s := s) (p := 0) (by omega); omega
    have hsz : (s.extract 1 s.size).size = s.size - 1 := by rw [ByteArray.size_extract]; omega
    have Hn := hide (number_pos (s.extract 1 s.size) (by omega) (by omega) (by rw [byteAt_extract (by omega) (Nat.le_refl _)]; exact h3) W)
    have hsl : ∀ w, (Instr.slice 9 (.string s) (some (.int .i64 1)) none none).run Tryz.prog w = .ok (.string (s.extract 1 s.size)) w := fun w => by
      have e3 : (1 : Int) ≤ (s.size : Int) := by omega
      simp [Instr.slice, run_underlying Tryz.underlying9, Instr.sliceBounds, run_sliceBound, e3, h1]
    clear hsz hm h45
    go_enter Tryz.func80, Tryz.ntmps80
    go_wp2_with fail
    refine (unhide Hn).mono ?_
    rintro e w1 ⟨z, rfl, hw⟩
    replace hw := hw.symm
    subst hw
    go_wp2
    go_ret
    exact ⟨_, rfl, rfl⟩
  · exact number_pos s h1 h10 h45 W

end Go.Proofs.YtgddkjhknlgbbaaGreatDoor

namespace Go.Proofs.YtgddkjhknlgbbaaGreatDoor
set_option linter.unusedVariables false
set_option linter.unusedSimpArgs false
open Go.RowKit Go.Maps Go.Sort Go.Shelf

theorem fin3 {w : World} {R : Nat} {x y z a b c : Value} (h : w.heap[R]? = some (.cells #[x, y, z] 105 (0, 0))) :
    (((w.setCell ⟨R, 0, none⟩ a).setCell ⟨R, 1, none⟩ b).setCell ⟨R, 2, none⟩ c).heap[R]? = some (.cells #[a, b, c] 105 (0, 0)) ∧ KeepX (fun k => k = R) w (((w.setCell ⟨R, 0, none⟩ a).setCell ⟨R, 1, none⟩ b).setCell ⟨R, 2, none⟩ c) := by
  have h1 := set_row (j := 0) h a
  have h2 := set_row (j := 1) h1 b
  have h3 := set_row (j := 2) h2 c
  exact ⟨h3, ((keepX_set1 w R 0 a).trans (keepX_set1 _ R 1 b)).trans (keepX_set1 _ R 2 c)⟩

/-- What whole says. -/
def WholeSaid (W : World) (s : ByteArray) (e : Ending) (w' : World) : Prop :=
  ∃ ha hn hc pa pn pc ba bn bc, e = .returned (.tuple #[.agg #[.slice ha hn hc, .slice pa pn pc, .slice ba bn bc], .bool (qAcc (bytesL s))]) ∧ Below W.heap.size W w' ∧
    (qAcc (bytesL s) = true → ∃ (l : List Tok) (hl pl : List Nat) (B : List AtomP), qToks 0 (bytesL s) = some l ∧ hl = (queryZ l).head.map (fun x => x.1.toNat) ∧ pl = (queryZ l).head.map (·.2) ∧ B.map (fun a : AtomP => (a.nm, a.pl, a.ts.map (·.1))) = (queryZ l).body.map (fun z => ((⟨z.nm.toArray⟩ : ByteArray), z.i, z.terms.map fun t => t.1.toNat)) ∧
      BytesAt w' (.slice ha hn hc) hl ∧ IntsAt w' (.slice pa pn pc) (pl.map fun x => ((x : Nat) : Int)) ∧ BodyAt w' (.slice ba bn bc) (B.map AtomP.q))

theorem QW.start (W : World) : QW W ((W.alloc (.cells #[.slice none 0 0, .slice none 0 0, .slice none 0 0] 105)).alloc (.cells #[.slice none 0 0, .slice none 0 0, .slice none 0 0] 105)) [] [] [] (.slice none 0 0) (.slice none 0 0) (.slice none 0 0) := by
  refine ⟨?_, ?_, World.ownsRow_nil _ _ _ _, World.ownsRow_nil _ _ _ _, World.ownsRow_nil _ _ _ _, by simp, ((Below.refl _ _).alloc (Nat.le_refl _) _).alloc (by simp) _⟩
  · have h0 : (W.alloc (.cells #[.slice none 0 0, .slice none 0 0, .slice none 0 0] 105)).heap[W.heap.size]? = some (.cells #[.slice none 0 0, .slice none 0 0, .slice none 0 0] 105 (0, 0)) := heap_last _ _ _ rfl
    exact (Below.heap_alloc _ _ _ (Array.getElem?_eq_some_iff.1 h0).1).trans h0
  · have := heap_last (W.alloc (.cells #[.slice none 0 0, .slice none 0 0, .slice none 0 0] 105)) (.cells #[.slice none 0 0, .slice none 0 0, .slice none 0 0] 105) (W.heap.size + 1) (by simp)
    exact this

theorem own_sl {w : World} {B e size n : Nat} {v : Value} {xs : List Value} (h : w.ownsRow B e size v n xs) : ∃ a c, v = .slice a n c := by
  obtain ⟨p, c, rfl, _⟩ := own_form h
  exact ⟨p, c, rfl⟩

/-- A text that is none. -/
theorem WholeSaid.bad {W w : World} {s : ByteArray} {hl pl : List Nat} {xs : List (AtomP × Value)} {ha pa ba : Option Addr} {hn hc pn pc bn bc : Nat} (h : QW W w hl pl xs (.slice ha hn hc) (.slice pa pn pc) (.slice ba bn bc)) (hq : qAcc (bytesL s) = false) :
    WholeSaid W s (.returned (.tuple #[.agg #[.slice ha hn hc, .slice pa pn pc, .slice ba bn bc], .bool false])) (((w.setCell ⟨W.heap.size, 0, none⟩ (.slice ha hn hc)).setCell ⟨W.heap.size, 1, none⟩ (.slice pa pn pc)).setCell ⟨W.heap.size, 2, none⟩ (.slice ba bn bc)) := by
  refine ⟨ha, hn, hc, pa, pn, pc, ba, bn, bc, by rw [hq], ?_, fun h => by rw [hq] at h; cases h⟩
  obtain ⟨_, hk⟩ := fin3 (a := .slice ha hn hc) (b := .slice pa pn pc) (c := .slice ba bn bc) h.res
  exact h.bel.trans (hk.below h.bel.size (fun k e => by omega))

theorem whole_ret {W w : World} {s : ByteArray} {hl pl : List Nat} {xs : List (AtomP × Value)} {ha pa ba : Option Addr} {hn hc pn pc bn bc : Nat} (tmps : Array Value) (h2 : tmps.getD 2 undef = .pointer (some ⟨W.heap.size, 0, none⟩)) (h3 : tmps.getD 3 undef = .bool false) (h : QW W w hl pl xs (.slice ha hn hc) (.slice pa pn pc) (.slice ba bn bc)) (hq : qAcc (bytesL s) = false) :
    bodyPost Tryz.prog Tryz.f47 (WholeSaid W s) Exit.ret { tmps := tmps, defers := [] } (((w.setCell ⟨W.heap.size, 0, none⟩ (.slice ha hn hc)).setCell ⟨W.heap.size, 1, none⟩ (.slice pa pn pc)).setCell ⟨W.heap.size, 2, none⟩ (.slice ba bn bc)) := by
  obtain ⟨hF, _⟩ := fin3 (a := .slice ha hn hc) (b := .slice pa pn pc) (c := .slice ba bn bc) h.res
  have g0 := cell_of_heap hF 0
  have g1 := cell_of_heap hF 1
  have g2 := cell_of_heap hF 2
  simp only [List.getElem?_toArray, List.getElem?_cons_zero, List.getElem?_cons_succ] at g0 g1 g2
  refine bodyPost_ret (v := .tuple #[.agg #[.slice ha hn hc, .slice pa pn pc, .slice ba bn bc], .bool false]) ?_ rfl (WholeSaid.bad h hq)
  rw [Array.getD_eq_getD_getElem?] at h2 h3
  simp [results, Tryz.results47, go_sem, h2, h3, g0, g1, g2]

/-- The query's cells. -/
theorem QW.cells {W w : World} {hl pl : List Nat} {xs : List (AtomP × Value)} {hv pv bv : Value} (h : QW W w hl pl xs hv pv bv) :
    w.cell? ⟨W.heap.size + 1, 0, none⟩ = some hv ∧ w.cell? ⟨W.heap.size + 1, 1, none⟩ = some pv ∧ w.cell? ⟨W.heap.size + 1, 2, none⟩ = some bv ∧
    w.cell? ⟨W.heap.size, 0, none⟩ = some (.slice none 0 0) ∧ w.cell? ⟨W.heap.size, 1, none⟩ = some (.slice none 0 0) ∧ w.cell? ⟨W.heap.size, 2, none⟩ = some (.slice none 0 0) ∧
    w.frozen? ⟨W.heap.size, 0, none⟩ = false ∧ w.frozen? ⟨W.heap.size, 1, none⟩ = false ∧ w.frozen? ⟨W.heap.size, 2, none⟩ = false ∧
    w.frozen? ⟨W.heap.size + 1, 0, none⟩ = false ∧ w.frozen? ⟨W.heap.size + 1, 1, none⟩ = false ∧ w.frozen? ⟨W.heap.size + 1, 2, none⟩ = false :=
  ⟨cell_of_heap h.q 0, cell_of_heap h.q 1, cell_of_heap h.q 2, cell_of_heap h.res 0, cell_of_heap h.res 1, cell_of_heap h.res 2, frozen_of_heap h.res 0, frozen_of_heap h.res 1, frozen_of_heap h.res 2, frozen_of_heap h.q 0, frozen_of_heap h.q 1, frozen_of_heap h.q 2⟩

/-- The query and the pieces. -/
structure PW (W w : World) (v v1 : Value) (ps out : List Pc) (hl pl : List Nat) (xs : List (AtomP × Value)) (hv pv bv : Value) : Prop where
  qw : QW W w hl pl xs hv pv bv
  ps : w.ownsRow (W.heap.size + 2) 147 3 v ps.length (pcCells ps)
  out : w.ownsRow (W.heap.size + 2) 147 3 v1 out.length (pcCells out)
theorem PW.below {W w w' : World} {v v1 : Value} {ps out : List Pc} {hl pl : List Nat} {xs : List (AtomP × Value)} {hv pv bv : Value} (h : PW W w v v1 ps out hl pl xs hv pv bv) (hb : Below w.heap.size w w') : PW W w' v v1 ps out hl pl xs hv pv bv := ⟨h.qw.below hb, own_below h.ps hb, own_below h.out hb⟩

section
variable {W w : World} {v v1 : Value} {ps out : List Pc} {hl pl : List Nat} {xs : List (AtomP × Value)} {hv pv bv : Value}

theorem PW.head (h : PW W w v v1 ps out hl pl xs hv pv bv) (c : Nat) (hlen : hl.length ≤ 1000) : ∃ g' cap' w6, (apSem #[101, 101] 101 #[hv, .slice (some ⟨w.heap.size, 0, none⟩) 1 1]).run Tryz.prog (w.alloc (.cells #[.int .u8 c] 5)).drew = .ok (.slice (some ⟨g', 0, none⟩) (hl.length + 1) cap') w6 ∧
    PW W (w6.setCell ⟨W.heap.size + 1, 0, none⟩ (.slice (some ⟨g', 0, none⟩) (hl.length + 1) cap')) v v1 ps out (hl ++ [c]) pl xs (.slice (some ⟨g', 0, none⟩) (hl.length + 1) cap') pv bv ∧ w6.cell? ⟨W.heap.size + 1, 0, none⟩ = some hv ∧ w6.frozen? ⟨W.heap.size + 1, 0, none⟩ = false := by
  have hq := h.qw
  have hql : W.heap.size + 1 < w.heap.size := (Array.getElem?_eq_some_iff.1 hq.q).1
  have hown' := own_below hq.head (belowD w.heap.size w)
  obtain ⟨g', cap', w6, hA6, hown6, hg6⟩ := apAny (w2 := w.drew) #[.int .u8 c] 101 5 Tryz.underlying101 Tryz.info5 rfl (by decide) rfl (by simp [Value.oneCell']) hown' (by show W.heap.size + 2 ≤ w.heap.size; omega) (by omega) (by omega)
  have hb : Below w.heap.size w (w.drew.alloc (.cells #[.int .u8 c] 5)) := (belowD _ _).alloc (Nat.le_refl _) _
  obtain ⟨hk, hX, hq6, _, _, _⟩ := hq.frame (j := 0) (rv' := .slice (some ⟨g', 0, none⟩) (hl.length + 1) cap') hq.head hb hg6
  exact ⟨g', cap', w6, hA6, ⟨hq.putHead hb hg6 hown6, row_other h.ps hk (by decide) hX, row_other h.out hk (by decide) hX⟩, cell_of_heap hq6 0, frozen_of_heap hq6 0⟩

theorem PW.place (h : PW W w v v1 ps out hl pl xs hv pv bv) (c : Nat) (hlen : pl.length ≤ 1000) : ∃ g' cap' w6, (apSem #[102, 102] 102 #[pv, .slice (some ⟨w.heap.size, 0, none⟩) 1 1]).run Tryz.prog (w.alloc (.cells #[.int .i64 c] 3)).drew = .ok (.slice (some ⟨g', 0, none⟩) (pl.length + 1) cap') w6 ∧
    PW W (w6.setCell ⟨W.heap.size + 1, 1, none⟩ (.slice (some ⟨g', 0, none⟩) (pl.length + 1) cap')) v v1 ps out hl (pl ++ [c]) xs hv (.slice (some ⟨g', 0, none⟩) (pl.length + 1) cap') bv ∧ w6.cell? ⟨W.heap.size + 1, 1, none⟩ = some pv ∧ w6.frozen? ⟨W.heap.size + 1, 1, none⟩ = false := by
  have hq := h.qw
  have hql : W.heap.size + 1 < w.heap.size := (Array.getElem?_eq_some_iff.1 hq.q).1
  have hown' := own_below hq.pla (belowD w.heap.size w)
  obtain ⟨g', cap', w6, hA6, hown6, hg6⟩ := apAny (w2 := w.drew) #[.int .i64 c] 102 3 Tryz.underlying102 Tryz.info3 rfl (by decide) rfl (by simp [Value.oneCell']) hown' (by show W.heap.size + 2 ≤ w.heap.size; omega) (by omega) (by omega)
  have hb : Below w.heap.size w (w.drew.alloc (.cells #[.int .i64 c] 3)) := (belowD _ _).alloc (Nat.le_refl _) _
  obtain ⟨hk, hX, hq6, _, _, _⟩ := hq.frame (j := 1) (rv' := .slice (some ⟨g', 0, none⟩) (pl.length + 1) cap') hq.pla hb hg6
  exact ⟨g', cap', w6, hA6, ⟨hq.putPlace hb hg6 hown6, row_other h.ps hk (by decide) hX, row_other h.out hk (by decide) hX⟩, cell_of_heap hq6 1, frozen_of_heap hq6 1⟩
end

/-! The reference's loops against wholeT. -/
theorem whole_nolist {ps : List Pc} (hw : ∀ x ∈ ps, WfPc x) (h : ps.length ≤ 0 ∨ (ps[0]?.getD zeroPc).m ≠ 40 ∨ itemsT true ((ps.map tokP).drop 1) = none) : wholeT (ps.map tokP) = false := by
  cases ps with
  | nil => rfl
  | cons x r =>
    rcases h with h | h | h
    · simp at h
    · have h : x.m ≠ 40 := by simpa using h
      rcases (hw x (by simp)).cases with ⟨m, e⟩ | ⟨m, e⟩ | ⟨m, e⟩ | ⟨m, e⟩ | ⟨m, e⟩ | ⟨m, e⟩ | ⟨m, e⟩
      · exact absurd m h
      all_goals (rw [List.map_cons, e]; rfl)
    · simp only [List.map_cons, List.drop_succ_cons, List.drop_zero] at h
      rw [List.map_cons]
      rcases (hw x (by simp)).cases with ⟨m, e⟩ | ⟨m, e⟩ | ⟨m, e⟩ | ⟨m, e⟩ | ⟨m, e⟩ | ⟨m, e⟩ | ⟨m, e⟩
      · rw [e]; simp only [wholeT, h]
      all_goals (rw [e]; rfl)
theorem whole_list {ps out : List Pc} {k : Nat} (hl : 0 < ps.length) (hm : (ps[0]?.getD zeroPc).m = 40) (h : itemsT true ((ps.map tokP).drop 1) = some (out.map tokP, (ps.map tokP).drop (k + 1))) : wholeT (ps.map tokP) = match (ps.map tokP).drop (k + 1) with
    | (Sum.inl (true, true)) :: r' => (out.map tokP).all isVT && decide (out.length ≤ 4) && atomsT (r'.length + 1) 0 r'
    | _ => false := by
  cases ps with
  | nil => simp at hl
  | cons x r =>
    have hm : x.m = 40 := by simpa using hm
    have h' : itemsT true (r.map tokP) = some (out.map tokP, (List.map tokP (x :: r)).drop (k + 1)) := h
    generalize hd : (List.map tokP (x :: r)).drop (k + 1) = D at h' ⊢
    rw [List.map_cons, tok40 hm]
    simp only [wholeT, h']
    cases D with
    | nil => rfl
    | cons t D => cases t using Tok.el <;> simp

theorem query_list {ps out : List Pc} {k : Nat} {r' : List Tok} (hl : 0 < ps.length) (hm : (ps[0]?.getD zeroPc).m = 40) (h : itemsT true ((ps.map tokP).drop 1) = some (out.map tokP, Sum.inl (true, true) :: r')) : queryZ (ps.map tokP) = ⟨headZ (out.map tokP), atomsZ (r'.length + 1) r'⟩ := by
  cases ps with
  | nil => simp at hl
  | cons x r =>
    have hm : x.m = 40 := by simpa using hm
    have h' : itemsT true (r.map tokP) = some (out.map tokP, Sum.inl (true, true) :: r') := h
    rw [List.map_cons, tok40 hm]
    simp only [queryZ, h']

def lettersO (out : List Pc) : List Nat := out.map fun x => byteAt x.s 0
def placesO (out : List Pc) : List Nat := out.map (·.i)
theorem headZ_out {out : List Pc} (hv : ∀ x ∈ out, x.m = 118) (hw : ∀ x ∈ out, WfPc x) : lettersO out = (headZ (out.map tokP)).map (fun x => x.1.toNat) ∧ placesO out = (headZ (out.map tokP)).map (·.2) := by
  induction out with
  | nil => exact ⟨rfl, rfl⟩
  | cons x out ih =>
    obtain ⟨h1, h2⟩ := ih (fun y hy => hv y (by simp [hy])) (fun y hy => hw y (by simp [hy]))
    have hm := hv x (by simp)
    have hs : x.s.size = 1 := by
      rcases hw x (by simp) with h | h | h | h | ⟨_, h⟩ | ⟨h, _⟩ | ⟨h, _⟩
      · omega
      · omega
      · omega
      · omega
      · exact h
      · omega
      · omega
    have hb : byteAt x.s 0 = ((bytesL x.s)[0]?.getD 0).toNat := by
      have h0 : (bytesL x.s)[0]? = some ((bytesL x.s)[0]'(by rw [bytesL_len]; omega)) := List.getElem?_eq_getElem _
      rw [byte_at h0, h0]; rfl
    rw [List.map_cons, tok118 hm]
    simp only [headZ, List.map_cons]
    exact ⟨by rw [← h1]; show byteAt x.s 0 :: _ = _; rw [hb]; rfl, by rw [← h2]; rfl⟩
theorem all_vt {out : List Pc} (hv : ∀ x ∈ out, x.m = 118) : (out.map tokP).all isVT = true := by
  rw [List.all_eq_true]
  intro t ht
  obtain ⟨x, hx, rfl⟩ := List.mem_map.1 ht
  rw [tok118 (hv x hx)]; rfl
theorem not_vt {out : List Pc} {j : Nat} (hj : j < out.length) (hw : WfPc (out[j]?.getD zeroPc)) (hm : (out[j]?.getD zeroPc).m ≠ 118) : (out.map tokP).all isVT = false := by
  rw [List.all_eq_false]
  refine ⟨tokP (out[j]?.getD zeroPc), List.mem_map_of_mem (by simp [hj]), ?_⟩
  rcases hw.cases with ⟨m, e⟩ | ⟨m, e⟩ | ⟨m, e⟩ | ⟨m, e⟩ | ⟨m, e⟩ | ⟨m, e⟩ | ⟨m, e⟩
  all_goals first
    | exact absurd m hm
    | (rw [e]; simp [isVT])

end Go.Proofs.YtgddkjhknlgbbaaGreatDoor

namespace Go.Proofs.YtgddkjhknlgbbaaGreatDoor
set_option linter.unusedVariables false
set_option linter.unusedSimpArgs false
open Go.RowKit Go.Maps Go.Sort Go.Shelf

/-- One atom of a body, by the pieces from p on. -/
theorem bstep {ps : List Pc} (hw : ∀ x ∈ ps, WfPc x) {p f n : Nat} (hp : p + 1 < ps.length) (hm : (ps[p + 1]?.getD zeroPc).m = 110) (hsep : n ≠ 0 → (ps[p]?.getD zeroPc).m = 44) (hn : n < 4) (hf : ((ps.map tokP).drop p).length ≤ f) :
    ((ps.length ≤ p + 2 ∨ (ps[p + 2]?.getD zeroPc).m ≠ 40 ∨ itemsT true ((ps.map tokP).drop (p + 2 + 1)) = none) → contT f n ((ps.map tokP).drop p) = false) ∧
    (∀ out k, p + 2 < ps.length → (ps[p + 2]?.getD zeroPc).m = 40 → itemsT true ((ps.map tokP).drop (p + 2 + 1)) = some (out, (ps.map tokP).drop (k + 1)) → ¬ (1 ≤ out.length ∧ out.length ≤ 3) → contT f n ((ps.map tokP).drop p) = false) ∧
    (∀ out k, p + 2 < ps.length → (ps[p + 2]?.getD zeroPc).m = 40 → itemsT true ((ps.map tokP).drop (p + 2 + 1)) = some (out, (ps.map tokP).drop (k + 1)) → (1 ≤ out.length ∧ out.length ≤ 3) → p < k →
      ∃ f', contT f n ((ps.map tokP).drop p) = contT f' (n + 1) ((ps.map tokP).drop (k + 1)) ∧ contZ f n ((ps.map tokP).drop p) = ⟨bytesL (ps[p + 1]?.getD zeroPc).s, (ps[p + 1]?.getD zeroPc).i, out.map termZ⟩ :: contZ f' (n + 1) ((ps.map tokP).drop (k + 1)) ∧ ((ps.map tokP).drop (k + 1)).length ≤ f') := by
  have hd : (ps.map tokP).drop p = tokP (ps[p]?.getD zeroPc) :: Sum.inr (Sum.inr (Sum.inl (bytesL (ps[p + 1]?.getD zeroPc).s, (ps[p + 1]?.getD zeroPc).i))) :: (ps.map tokP).drop (p + 2) := by
    rw [drop_pc (by omega), drop_pc hp, tok110 hm]
  have hsep' : n ≠ 0 → tokP (ps[p]?.getD zeroPc) = Sum.inl (true, false) := fun h => tok44 (hsep h)
  have hfl : (ps.map tokP).length - p ≤ f := by rw [List.length_drop] at hf; exact hf
  have hlen : (ps.map tokP).length = ps.length := by simp
  obtain ⟨f', rfl⟩ : ∃ f', f = f' + 1 := ⟨f - 1, by omega⟩
  refine ⟨fun h => ?_, fun out k h2 h40 hi hb => ?_, fun out k h2 h40 hi hb hpk => ⟨f', ?_, ?_, ?_⟩⟩
  · rw [hd, contT_atom hsep']
    rcases h with h | h | h
    · exact atomsT_nolp (fun r' e => by
        have := congrArg List.length e
        rw [List.length_drop, List.length_cons] at this
        omega)
    · by_cases h2 : p + 2 < ps.length
      · rw [drop_pc h2]
        refine atomsT_nolp (fun r' e => ?_)
        injection e with e _
        rcases (hw (ps[p + 2]?.getD zeroPc) (by simp [h2])).cases with ⟨m, e'⟩ | ⟨m, e'⟩ | ⟨m, e'⟩ | ⟨m, e'⟩ | ⟨m, e'⟩ | ⟨m, e'⟩ | ⟨m, e'⟩
        · exact h m
        all_goals (rw [e'] at e; cases e)
      · exact atomsT_nolp (fun r' e => by
          have := congrArg List.length e
          rw [List.length_drop, List.length_cons] at this
          omega)
    · by_cases h2 : p + 2 < ps.length
      · rw [drop_pc h2]
        rcases (hw (ps[p + 2]?.getD zeroPc) (by simp [h2])).cases with ⟨m, e'⟩ | ⟨m, e'⟩ | ⟨m, e'⟩ | ⟨m, e'⟩ | ⟨m, e'⟩ | ⟨m, e'⟩ | ⟨m, e'⟩
        · rw [e']; exact atomsT_noitems h
        all_goals (rw [e']; exact atomsT_nolp (fun r' e => by cases e))
      · exact atomsT_nolp (fun r' e => by
          have := congrArg List.length e
          rw [List.length_drop, List.length_cons] at this
          omega)
  · rw [hd, contT_atom hsep', drop_pc h2, tok40 h40]
    exact atomsT_few hi hb
  · rw [hd, contT_atom hsep', drop_pc h2, tok40 h40]
    exact atomsT_go hn hi hb.1 hb.2
  · rw [hd, contZ_atom hsep', drop_pc h2, tok40 h40]
    exact atomsZ_go hi
  · rw [List.length_drop]; omega

/-- An atom that is being built. -/
structure TW (wo w : World) (ys : ByteArray) (yi : Nat) (tv : Value) (ts : List Trm) (out : List Pc) (v2 : Value) : Prop where
  ab : w.heap[wo.heap.size]? = some (.cells #[.string ys, .int .i64 yi, tv] 150 (0, 0))
  tr : w.ownsRow (wo.heap.size + 1) 152 2 tv ts.length (termsC ts)
  pr : w.ownsRow (wo.heap.size + 1) 147 3 v2 out.length (pcCells out)
  bel : Below wo.heap.size wo w
theorem TW.below {wo w w' : World} {ys : ByteArray} {yi : Nat} {tv : Value} {ts : List Trm} {out : List Pc} {v2 : Value} (h : TW wo w ys yi tv ts out v2) (hb : Below w.heap.size w w') : TW wo w' ys yi tv ts out v2 :=
  ⟨blk_below hb h.ab, own_below h.tr hb, own_below h.pr hb, h.bel.trans (hb.mono h.bel.size)⟩
theorem TW.lt {wo w : World} {ys : ByteArray} {yi : Nat} {tv : Value} {ts : List Trm} {out : List Pc} {v2 : Value} (h : TW wo w ys yi tv ts out v2) : wo.heap.size < w.heap.size := (Array.getElem?_eq_some_iff.1 h.ab).1
theorem TW.put {wo w w1 w2 : World} {ys : ByteArray} {yi : Nat} {tv tv' : Value} {ts : List Trm} {out : List Pc} {v2 : Value} {x : Trm} (h : TW wo w ys yi tv ts out v2) (hb : Below w.heap.size w w1) (hg : w1.grownBy w2 tv.ownBlock) (ho : w2.ownsRow (wo.heap.size + 1) 152 2 tv' (ts.length + 1) (termsC ts ++ termC x)) : TW wo (w2.setCell ⟨wo.heap.size, 2, none⟩ tv') ys yi tv' (ts ++ [x]) out v2 := by
  have hl := h.lt
  have hne : ∀ k, tv.ownBlock = some k → wo.heap.size + 1 ≤ k := fun k hk => (own_block h.tr k hk).1
  have hk : KeepX (fun k => tv.ownBlock = some k ∨ k = wo.heap.size) w (w2.setCell ⟨wo.heap.size, 2, none⟩ tv') :=
    ((KeepX.ofBelow hb).trans ⟨hg.os, hg.tape, hg.output, hg.size, fun q hq hx => hg.block q hq (fun e => hx (.inl e.symm))⟩).trans ((keepX_set1 w2 wo.heap.size 2 tv').mono fun q _ e => .inr e)
  have h2 : w2.heap[wo.heap.size]? = some (.cells #[.string ys, .int .i64 yi, tv] 150 (0, 0)) := (hg.block _ (Nat.lt_of_lt_of_le hl hb.size) (fun e => by have := hne _ e.symm; omega)).trans (blk_below hb h.ab)
  refine ⟨by rw [set_row h2]; rfl, ?_, row_other (e' := 152) h.pr hk (by decide) (fun k hk' => ?_), h.bel.trans ⟨hk.os, hk.tape, hk.output, hk.size, fun k hk' => hk.blk k (by omega) (fun e => ?_)⟩⟩
  · have := own_keepX ho (keepX_set1 w2 wo.heap.size 2 tv') (fun g hg' e => by have := (own_block ho g hg').1; omega)
    simpa [termsC] using this
  · rcases hk' with h1 | h1
    · exact .inr (own_block h.tr k h1).2
    · exact .inl (by omega)
  · rcases e with e | e
    · have := hne _ e; omega
    · omega

theorem PW.body {W w w1 w2 : World} {v v1 : Value} {ps out : List Pc} {hl pl : List Nat} {xs : List (AtomP × Value)} {hv pv bv bv' tv : Value} {a : AtomP} (h : PW W w v v1 ps out hl pl xs hv pv bv) (ht : w.ownsRow (W.heap.size + 2) 152 2 tv a.ts.length (termsC a.ts)) (hb : Below w.heap.size w w1) (hg : w1.grownBy w2 bv.ownBlock) (ho : w2.ownsRow (W.heap.size + 2) 150 3 bv' (xs.length + 1) (atomsC xs ++ [.string a.nm, .int .i64 a.pl, tv])) : PW W (w2.setCell ⟨W.heap.size + 1, 2, none⟩ bv') v v1 ps out hl pl (xs ++ [(a, tv)]) hv pv bv' := by
  obtain ⟨hk, hX, _, _, _, _⟩ := h.qw.frame (j := 2) (rv' := bv') h.qw.body hb hg
  exact ⟨h.qw.putBody ht hb hg ho, row_other h.ps hk (by decide) hX, row_other h.out hk (by decide) hX⟩

theorem whole_good {W w : World} {s : ByteArray} {hl pl : List Nat} {xs : List (AtomP × Value)} {ha pa ba : Option Addr} {hn hc pn pc bn bc : Nat} {b : Bool} (tmps : Array Value) (h2 : tmps.getD 2 undef = .pointer (some ⟨W.heap.size, 0, none⟩)) (h3 : tmps.getD 3 undef = .bool b) (h : QW W w hl pl xs (.slice ha hn hc) (.slice pa pn pc) (.slice ba bn bc)) (hq : qAcc (bytesL s) = b)
    (hlk : b = true → ∃ l, qToks 0 (bytesL s) = some l ∧ hl = (queryZ l).head.map (fun x => x.1.toNat) ∧ pl = (queryZ l).head.map (·.2) ∧ xs.map (fun x => (x.1.nm, x.1.pl, x.1.ts.map (·.1))) = (queryZ l).body.map (fun z => ((⟨z.nm.toArray⟩ : ByteArray), z.i, z.terms.map fun t => t.1.toNat))) :
    bodyPost Tryz.prog Tryz.f47 (WholeSaid W s) Exit.ret { tmps := tmps, defers := [] } (((w.setCell ⟨W.heap.size, 0, none⟩ (.slice ha hn hc)).setCell ⟨W.heap.size, 1, none⟩ (.slice pa pn pc)).setCell ⟨W.heap.size, 2, none⟩ (.slice ba bn bc)) := by
  obtain ⟨hF, hk⟩ := fin3 (a := .slice ha hn hc) (b := .slice pa pn pc) (c := .slice ba bn bc) h.res
  have g0 := cell_of_heap hF 0
  have g1 := cell_of_heap hF 1
  have g2 := cell_of_heap hF 2
  simp only [List.getElem?_toArray, List.getElem?_cons_zero, List.getElem?_cons_succ] at g0 g1 g2
  have hX : ∀ g, W.heap.size + 2 ≤ g → ¬ (fun k => k = W.heap.size) g := fun g hg e => by have e : g = W.heap.size := e; omega
  refine bodyPost_ret (v := .tuple #[.agg #[.slice ha hn hc, .slice pa pn pc, .slice ba bn bc], .bool b]) ?_ rfl ⟨ha, hn, hc, pa, pn, pc, ba, bn, bc, by rw [hq], h.bel.trans (hk.below h.bel.size (fun k e => by omega)), fun hb => ?_⟩
  · rw [Array.getD_eq_getD_getElem?] at h2 h3
    simp [results, Tryz.results47, go_sem, h2, h3, g0, g1, g2]
  · obtain ⟨l, h5, h6, h7, h8⟩ := hlk (hq ▸ hb)
    refine ⟨l, hl, pl, xs.map (·.1), h5, h6, h7, by rw [← h8, List.map_map]; rfl, bytes_of_own (base := W.heap.size + 2) ?_, ints_of_own3 (base := W.heap.size + 2) ?_, bodyR_of_own (base := W.heap.size + 2) ?_ (fun x hx => own_keepR (h.terms x hx) hk hX)⟩
    · have hh := h.head
      obtain ⟨a, c, e⟩ := own_sl hh
      have := own_keepR hh hk hX
      exact this
    · exact own_keepR h.pla hk hX
    · exact own_keepR h.body hk hX

end Go.Proofs.YtgddkjhknlgbbaaGreatDoor
