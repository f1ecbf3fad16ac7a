import Derived.Test.YtgddkjhknlgbbaaGreatDoorM22
set_option linter.unusedVariables false
set_option linter.unusedSimpArgs false

namespace Go.Proofs.YtgddkjhknlgbbaaGreatDoor
set_option linter.unusedVariables false
set_option linter.unusedSimpArgs false
open Go.RowKit Go.Maps

theorem flat3_at (los : List Lo) (ys : List Value) : ∀ i, i < los.length → ∀ j, j < 3 → (los.flatMap entC ++ ys)[i * 3 + j]? = (entC (los[i]?.getD zeroLo))[j]? := by
  induction los with
  | nil => intro i hi; simp at hi
  | cons x xs ih =>
    intro i hi j hj
    cases i with
    | zero =>
      simp only [List.flatMap_cons, List.append_assoc, Nat.zero_mul, Nat.zero_add]
      rw [List.getElem?_append_left (by simp [entC]; omega)]
      rfl
    | succ i =>
      have e1 : (i + 1) * 3 + j = (i * 3 + j) + 3 := by omega
      have e2 : (entC x).length = 3 := rfl
      simp only [List.flatMap_cons, List.append_assoc]
      rw [e1, List.getElem?_append_right (by rw [e2]; omega), e2, Nat.add_sub_cancel]
      simpa using ih i (by simpa using hi) j hj

set_option maxRecDepth 100000 in
set_option maxHeartbeats 8000000 in
/-- unhurt: what was lent reads as it was lent. -/
theorem unhurt_any (B lb : Nat) (ev rv bv : Value) (los : List Lo) (es : List Ent) (w : World) (hL : LoanRep w B lb ev rv los) (hle : los.map (·.e) = es) (hb : EntsAt w bv es) (hl : es.length ≤ 10000000) (hrl : ∀ x ∈ es, x.row.length ≤ 10000000) :
    Calls Tryz.prog 17 #[.pointer (some ⟨lb, 0, none⟩), bv] w fun e w' => e = .returned (.bool true) ∧ Below w.heap.size w w' := by
  obtain ⟨a, cap, rfl, hcs⟩ := hb
  have hll : los.length = es.length := by rw [← hle]; simp
  have l0 : w.cell? ⟨lb, 0, none⟩ = some ev := cell_of_heap hL.box 0
  have l1 : w.cell? ⟨lb, 1, none⟩ = some rv := cell_of_heap hL.box 1
  have he := hL.ents
  have hr := hL.rows
  rw [hll] at he hr
  obtain ⟨pe, ce, hee, hce, hpen, hpes⟩ := own_form he
  subst hee
  obtain ⟨pr, cr, hre, hcr, hprn, hprs⟩ := own_form hr
  subst hre
  cases pe with
  | none => have := hpen rfl; omega
  | some ade =>
  obtain ⟨ge, rfl, _, _, hge⟩ := hpes ade rfl
  have Hge := hide hge
  have Hprs := hide hprs
  have HL := hide hL
  have Hc := hide hcs
  have Hle := hide hle
  have Hll := hide hll
  have Hrl := hide hrl
  have hfl : (los.flatMap entC).length = es.length * 3 := by rw [flat3_len, hll]
  have Hlast : Hid (w.cell? ⟨ge, es.length * 3, none⟩ = some (.string strangeS) ∧ w.cell? ⟨ge, es.length * 3 + 1, none⟩ = some (.slice none 0 0) ∧ w.cell? ⟨ge, es.length * 3 + 2, none⟩ = some (.int .i64 (-77))) := by
    refine ⟨?_, ?_, ?_⟩
    · rw [hge _ (by omega), List.getElem?_append_right (by omega), hfl, Nat.sub_self]; rfl
    · rw [hge _ (by omega), List.getElem?_append_right (by omega), hfl, Nat.add_sub_cancel_left]; rfl
    · rw [hge _ (by omega), List.getElem?_append_right (by omega), hfl, Nat.add_sub_cancel_left]; rfl
  clear hge hprs hL hcs hle hll hrl he hr hfl hpes
  go_enter Tryz.func17, Tryz.ntmps17
  go_wp2
  go_loopw [5] (fun i wr => ∃ k : Nat, k ≤ es.length ∧ i = .int .i64 k ∧ Drawn w wr) (fun i _ => es.length - (intOf i).toNat)
  case atStart => exact ⟨0, Nat.zero_le _, rfl, Drawn.refl _⟩
  case round =>
    obtain ⟨k, hk, rfl, hdr⟩ := hrel
    have d0 := (hdr.cell _).trans l0
    have d1 := (hdr.cell _).trans l1
    by_cases hlt : k < es.length
    · have hx : (k : Int) < (es.length : Int) := by omega
      have hx' : (k : Int) < ((es.length + 1 : Nat) : Int) := by omega
      have hx2 : (k : Int) < (es.length : Int) + 1 := by omega
      obtain ⟨b, o, sv, rfl, h1, h2, h3, h4⟩ := (unhide Hc) k hlt
      have hkl : k < los.length := by rw [unhide Hll]; exact hlt
      obtain ⟨y, hy⟩ : ∃ y, y = los[k]?.getD zeroLo := ⟨_, rfl⟩
      have hym : y ∈ los := by rw [hy]; simp [hkl]
      have hye : es[k]?.getD zeroEnt = y.e := by rw [← unhide Hle, hy]; simp [hkl]
      rw [hye] at h1 h3 h4
      have hyr : y.e.row.length ≤ 10000000 := (unhide Hrl) y.e (by rw [← unhide Hle]; exact List.mem_map_of_mem hym)
      have e0 := (unhide Hge) (k * 3 + 0) (by omega)
      have e1 := (unhide Hge) (k * 3 + 1) (by omega)
      have e2 := (unhide Hge) (k * 3 + 2) (by omega)
      rw [flat3_at los lastC k hkl _ (by omega), ← hy] at e0 e1 e2
      simp only [entC, Nat.add_zero, List.getElem?_cons_zero, List.getElem?_cons_succ] at e0 e1 e2
      have hrow := (unhide HL).each.row y hym
      obtain ⟨p2, c2, h2e, hc2, _, hs2⟩ := own_form hrow
      cases h2e
      obtain ⟨g2, hg2, _, _, hcell⟩ := hs2 _ rfl
      cases hg2
      have hy1 : IntsAt w (.slice (some ⟨y.g, 0, none⟩) y.e.row.length y.c) y.e.row := by
        refine ⟨_, y.c, rfl, fun i hi => ⟨y.g, 0, rfl, ?_⟩⟩
        rw [Nat.zero_add, hcell i (by omega), show rowI y = y.e.row.map (Value.int .i64) ++ [.int .i64 (-77)] from by simp [rowI], List.getElem?_append_left (by simpa using hi)]
        simp [hi]
      have hy2 : w.cell? ⟨y.g, y.e.row.length, none⟩ = some (.int .i64 (-77)) := by
        rw [hcell _ (by omega)]
        simp [rowI]
      have er : w.cell? ⟨(0 : Nat), 0, none⟩ = w.cell? ⟨(0 : Nat), 0, none⟩ := rfl
      cases pr with
      | none => have := hprn rfl; omega
      | some adr =>
        obtain ⟨gr, hgr, _, _, hcr2⟩ := (unhide Hprs) adr rfl
        subst hgr
        have r0 : w.cell? ⟨gr, k, none⟩ = some (.slice (some ⟨y.g, 0, none⟩) (y.e.row.length + 1) y.c) := by
          rw [hcr2 k (by omega)]
          have e9 : los[k]? = some y := by rw [hy]; simp [hkl]
          simp [e9, rowC]
        obtain ⟨a2, cap2, rfl, _⟩ := id h3
        have Hs1 : Hid (∀ w9, Drawn w w9 → Calls Tryz.prog 39 #[.slice (some ⟨y.g, 0, none⟩) y.e.row.length y.c, .slice a2 y.e.row.length cap2] w9 fun e w' => e = .returned (.bool true) ∧ Drawn w9 w') := fun w9 hd9 =>
          same_eq _ _ y.e.row w9 (hy1.drawn hd9) (h3.drawn hd9) (by omega)
        have Hdr := hide hdr
        obtain ⟨⟨nm, row, wt⟩, gy, cy⟩ := y
        dsimp only at h1 h2 h4 e0 e1 e2 r0 hy2 hyr Hs1 hc2
        have G := hide (And.intro h1 (And.intro h2 (And.intro h4 (And.intro e0 (And.intro e1 (And.intro e2 (And.intro r0 hy2)))))))
        have hcy : row.length ≤ cy := by omega
        have hse : (nm.toList == nm.toList) = true := by simp
        have hww : (wt != wt) = false := by simp
        have hl1 : (row.length : Int) < ((row.length + 1 : Nat) : Int) := by omega
        have GL := hide (And.intro l0 l1)
        rw [← hdr.cell] at h1 h2 h4 e0 e1 e2 r0 hy2
        clear hdr h3 hy1 hrow hs2 hcell hcr2 hy hym hye er l0 l1
        go_wp2
        go_quiet ((go_at_call 39; exact quiet_of_drawn ((unhide Hs1) _ ((unhide Hdr).thenN _))))
        obtain ⟨wq, hwq⟩ : ∃ wq, wq = wr.drewN nq := ⟨_, rfl⟩
        rw [← hwq]
        have hdq : Drawn w wq := by rw [hwq]; exact (unhide Hdr).thenN _
        clear h1 h2 h4 e0 e1 e2 r0 hy2 d0 d1 hwq
        obtain ⟨h1, h2, h4, e0, e1, e2, r0, hy2⟩ := unhide G
        obtain ⟨d0, d1⟩ := unhide GL
        rw [← hdq.cell] at h1 h2 h4 e0 e1 e2 r0 hy2 d0 d1
        have Hdq := hide hdq
        clear hdq
        go_wp2
        go_quiet ((go_at_call 39; exact quiet_of_drawn ((unhide Hs1) _ ((unhide Hdq).thenN _))))
        obtain ⟨wp, hwp⟩ : ∃ wp, wp = wq.drewN nq := ⟨_, rfl⟩
        rw [← hwp]
        have hdp : Drawn w wp := by rw [hwp]; exact (unhide Hdq).thenN _
        clear h1 h2 h4 e0 e1 e2 r0 hy2 d0 d1 hwp
        obtain ⟨h1, h2, h4, e0, e1, e2, r0, hy2⟩ := unhide G
        obtain ⟨d0, d1⟩ := unhide GL
        rw [← hdp.cell] at h1 h2 h4 e0 e1 e2 r0 hy2 d0 d1
        have Hdp := hide hdp
        clear hdp
        go_wp2
        go_quiet (fail)
        go_wp2
        go_roundw
        case rel => exact ⟨k + 1, by omega, by go_num, (unhide Hdp).thenN _⟩
        case measure => simp [intOf]; omega
    · have hx : ¬ (k : Int) < (es.length : Int) := by omega
      have hx' : (es.length : Int) < ((es.length + 1 : Nat) : Int) := by omega
      obtain ⟨e0, e1, e2⟩ := unhide Hlast
      rw [← hdr.cell] at e0 e1 e2
      have Hdr := hide hdr
      have hse : strangeS.toList = [115, 116, 114, 97, 110, 103, 101] := by rw [ByteArray.toList_eq]; rfl
      have hB9 : Below w.heap.size w (wr.alloc (Obj.cells #[.string strangeS, .slice none 0 0, .int .i64 (-77)] 75)) := (hdr.below _).alloc (hdr.below 0).size _
      have HB9 := hide hB9
      clear hdr hB9
      go_wp2
      go_ret
      exact ⟨rfl, unhide HB9⟩

end Go.Proofs.YtgddkjhknlgbbaaGreatDoor
