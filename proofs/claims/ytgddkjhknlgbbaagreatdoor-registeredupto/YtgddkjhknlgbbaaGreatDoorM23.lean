import Derived.Deep.RegionHeldLaw
import Derived.Deep.RegionLaw
import Derived.Test.YtgddkjhknlgbbaaGreatDoorM22
set_option linter.unusedVariables false
set_option linter.unusedSimpArgs false

namespace Go.Proofs.YtgddkjhknlgbbaaGreatDoor
set_option linter.unusedVariables false
set_option linter.unusedSimpArgs false
open Go.RowKit Go.Maps

/-- Behind one entry that was lent. -/
theorem lent_step {w w9 : World} {los : List Lo} {x : Lo} {k g9 c9 : Nat} {ev rv : Value} (hk : los.length = k) (hbox : w9.heap[w.heap.size]? = some (Obj.cells #[ev, rv] 52 (0, 0))) (ho : w9.ownsRow w.heap.size 75 3 (.slice (some ⟨g9, 0, none⟩) (k + 1) c9) (k + 1) (los.flatMap entC ++ entC x))
    (hr : w9.ownsRow w.heap.size 73 1 rv (k + 1) (los.map rowC ++ [rowC x])) (hl : LoRows w9 w.heap.size (los ++ [x])) (hB : Below w.heap.size w w9) :
    (w9.setCell ⟨w.heap.size, 0, none⟩ (.slice (some ⟨g9, 0, none⟩) (k + 1) c9)).heap[w.heap.size]? = some (Obj.cells #[.slice (some ⟨g9, 0, none⟩) (k + 1) c9, rv] 52 (0, 0)) ∧
    (w9.setCell ⟨w.heap.size, 0, none⟩ (.slice (some ⟨g9, 0, none⟩) (k + 1) c9)).ownsRow w.heap.size 75 3 (.slice (some ⟨g9, 0, none⟩) (k + 1) c9) (los ++ [x]).length ((los ++ [x]).flatMap entC) ∧
    (w9.setCell ⟨w.heap.size, 0, none⟩ (.slice (some ⟨g9, 0, none⟩) (k + 1) c9)).ownsRow w.heap.size 73 1 rv (los ++ [x]).length ((los ++ [x]).map rowC) ∧
    LoRows (w9.setCell ⟨w.heap.size, 0, none⟩ (.slice (some ⟨g9, 0, none⟩) (k + 1) c9)) w.heap.size (los ++ [x]) ∧ Below w.heap.size w (w9.setCell ⟨w.heap.size, 0, none⟩ (.slice (some ⟨g9, 0, none⟩) (k + 1) c9)) := by
  obtain ⟨w10, hw10⟩ : ∃ w10, w10 = w9.setCell ⟨w.heap.size, 0, none⟩ (.slice (some ⟨g9, 0, none⟩) (k + 1) c9) := ⟨_, rfl⟩
  rw [← hw10]
  have hg : w9.grownBy w10 (some w.heap.size) := by
    rw [hw10]
    exact ⟨rfl, rfl, rfl, by simp, fun k _ hk => heap_setCell_other w9 ⟨w.heap.size, 0, none⟩ k _ (fun e => hk (by rw [e]))⟩
  have hrow : ∀ g, some w.heap.size = some g → ∃ cur : Array Value, w9.heap[g]? = some (Obj.cells cur 52 (0, 0)) := fun g e => by cases e; exact ⟨_, hbox⟩
  have e1 : (los ++ [x]).length = k + 1 := by simp [hk]
  have e2 : (los ++ [x]).flatMap entC = los.flatMap entC ++ entC x := by simp
  have e3 : (los ++ [x]).map rowC = los.map rowC ++ [rowC x] := by simp
  rw [e1, e2, e3]
  refine ⟨?_, own_grown ho hg (other_type hrow (by decide)), own_grown hr hg (other_type hrow (by decide)), hl.grown hg (other_type hrow (by decide)), hB.grown hg hB.size (fun j e => by cases e; exact Nat.le_refl _)⟩
  rw [hw10, heap_setCell_same w9 w.heap.size 0 _ 52 _ hbox]; rfl

set_option maxRecDepth 100000 in
set_option maxHeartbeats 8000000 in
theorem lent_any (bv : Value) (es : List Ent) (w : World) (hb : EntsAt w bv es) (hnil : EntsNil w bv) (hl : es.length ≤ 10000000) (hrl : ∀ x ∈ es, x.row.length ≤ 10000000) :
    Calls Tryz.prog 14 #[bv] w fun e w' => ∃ ev rv los, e = .returned (.pointer (some ⟨w.heap.size, 0, none⟩)) ∧ LoanRep w' w.heap.size w.heap.size ev rv los ∧ los.map (·.e) = es ∧ Below w.heap.size w w' := by
  have Hnil := hide hnil
  obtain ⟨a, cap, rfl, hcs⟩ := hb
  have Hc := hide hcs
  have Hrl := hide hrl
  obtain ⟨i2, ji, jz0, jz1, jz2⟩ := info_parts Tryz.info2
  obtain ⟨i73, hi, hz0, hz1, hz2⟩ := info_parts Tryz.info73
  obtain ⟨i75, ki, kz0, kz1, kz2⟩ := info_parts Tryz.info75
  clear hcs hnil hrl
  go_enter Tryz.func14, Tryz.ntmps14
  go_wp2
  go_loopw [4] (fun i wr => ∃ (k : Nat) (los : List Lo) (ev rv : Value), k ≤ es.length ∧ i = .int .i64 k ∧ los.map (·.e) = es.take k ∧ wr.heap[w.heap.size]? = some (Obj.cells #[ev, rv] 52 (0, 0)) ∧ wr.ownsRow w.heap.size 75 3 ev los.length (los.flatMap entC) ∧ wr.ownsRow w.heap.size 73 1 rv los.length (los.map rowC) ∧ LoRows wr w.heap.size los ∧ Below w.heap.size w wr) (fun i _ => es.length - (intOf i).toNat)
  case atStart => exact ⟨0, [], _, _, Nat.zero_le _, rfl, by simp, heap_last _ _ _ rfl, World.ownsRow_nil _ _ _ _, World.ownsRow_nil _ _ _ _, ⟨fun x hx => by simp at hx, List.Pairwise.nil⟩, (Below.refl _ _).alloc (Nat.le_refl _) _⟩
  case round =>
    obtain ⟨k, los, ev, rv, hk, rfl, hle, hbox, hoe, hor, hlo, hB⟩ := hrel
    have hBs := hB.size
    have hll : los.length = k := by have := congrArg List.length hle; simp at this; omega
    have hsl : w.heap.size < wr.heap.size := heap_lt hbox
    rw [hll] at hoe hor
    have Hll := hide hll
    clear hll
    obtain ⟨pe, ce, rfl, _, _, _⟩ := own_form hoe
    obtain ⟨pv, cv, rfl, _, _, _⟩ := own_form hor
    by_cases hlt : k < es.length
    · have hx : (k : Int) < (es.length : Int) := by omega
      obtain ⟨b, o, sv, rfl, h1, h2, h3, h4⟩ := (unhide Hc) k hlt
      have hbl : b < w.heap.size := World.block_lt_of_cell? w _ h1
      have h3' := h3.below hB
      obtain ⟨a2, cap2, rfl, _⟩ := h3
      have hpu := (unhide Hnil) b o es.length cap k rfl hlt a2 _ cap2 h2
      obtain ⟨x, hxe⟩ : ∃ x, x = es[k]?.getD zeroEnt := ⟨_, rfl⟩
      have hxm : x ∈ es := by rw [hxe]; simp [hlt]
      have hxr := (unhide Hrl) x hxm
      have htk : es.take (k + 1) = es.take k ++ [x] := by rw [List.take_succ_eq_append_getElem hlt, hxe]; simp [hlt]
      rw [← hxe] at h1 h2 h4 h3' hpu
      have g1 := h1
      have g2 := h2
      have g4 := h4
      rw [← hB.cell (p := ⟨b, _, none⟩) hbl] at h1 h2 h4
      have hsrc : ∀ ad, a2 = some ad → ∀ j z, (x.row.map (Value.int .i64))[j]? = some z → wr.cell? (ad.add j) = some z := by
        intro ad hp j z hj
        obtain ⟨a9, c9, h9, hcs9⟩ := h3'
        cases h9
        have hjl : j < x.row.length := by have := (List.getElem?_eq_some_iff.1 hj).1; simpa using this
        obtain ⟨b', o', hbo, hcell⟩ := hcs9 j hjl
        rw [hp] at hbo
        cases hbo
        have ea : (⟨b', o', none⟩ : Addr).add j = ⟨b', o' + j, none⟩ := by by_cases h : j = 0 <;> simp [Addr.add, h]
        rw [ea, hcell]
        simp [hjl] at hj ⊢
        exact hj
      obtain ⟨nm, row, wt⟩ := x
      dsimp only at h1 h2 h4 hpu hsrc hxr g1 g2 g4
      have Hsrc := hide hsrc
      have Htk := hide htk
      have Hle := hide hle
      have Hbox := hide hbox
      have Hoe := hide hoe
      have Hor := hide hor
      have Hlo := hide hlo
      have HB := hide hB
      clear hsrc htk hle hbox hoe hor hlo hB h3' hxe hxm
      go_wp2_with (first
        | (at_builtin
           refine wpList_append_any _ rfl _ _ 50 rfl w.heap.size 73 i73 _ 1 24 Tryz.underlying50 hi hz0 hz1 hz2 rfl (by decide) (.slice pv k cv) k (los.map rowC) rfl ((unhide Hor2).alloc _) (some ⟨w2.heap.size, 0, none⟩) 1 1 [.slice (some ⟨gr, 0, none⟩) (row.length + 1) cr] rfl (fun e => by cases e) rfl (fun ad e => by cases e; exact cell_one_new w2 _ 73) (by simp [Value.oneCell']) (by unfold maxLen; omega) (by omega) (by simp; omega) ?_
           intro v3 w3 ho3 hg3
           have hgA : w2.grownBy (w2.alloc (.cells #[.slice (some ⟨gr, 0, none⟩) (row.length + 1) cr] 73)) none := World.grownBy_alloc _ _ _
           have hrow3 : ∀ g, Value.ownBlock (.slice pv k cv) = some g → ∃ cur : Array Value, (w2.alloc (.cells #[.slice (some ⟨gr, 0, none⟩) (row.length + 1) cr] 73)).heap[g]? = some (Obj.cells cur 73 (0, 0)) := fun g e => own_type ((unhide Hor2).alloc _) e
           have hg23 : w2.grownBy w3 (Value.ownBlock (.slice pv k cv)) := ⟨hg3.os, hg3.tape, hg3.output, Nat.le_trans hgA.size hg3.size, fun k hk e => (hg3.block k (Nat.lt_of_lt_of_le hk hgA.size) e).trans (hgA.block k hk (by simp))⟩
           have hrow3' : ∀ g, Value.ownBlock (.slice pv k cv) = some g → ∃ cur : Array Value, w2.heap[g]? = some (Obj.cells cur 73 (0, 0)) := fun g e => own_type (unhide Hor2) e
           have hbox3 : w3.heap[w.heap.size]? = some (Obj.cells #[.slice pe k ce, .slice pv k cv] 52 (0, 0)) := (hg23.block _ (heap_lt (unhide Hbox2)) (fun e => other_type hrow3' (by decide) _ _ e.symm (unhide Hbox2))).trans (unhide Hbox2)
           have hoe3 := own_grown (unhide Hoe2) hg23 (other_type hrow3' (by decide))
           have hlo3 := (unhide Hlo2).grown hg23 (other_type hrow3' (by decide))
           have hB3 : Below w.heap.size w w3 := (unhide HB2).grown hg23 hs2 (fun j e => (own_block (unhide Hor2) j e).1)
           have hs3 := hB3.size
           have c03 : w3.cell? ⟨w.heap.size, 0, none⟩ = some (.slice pe k ce) := cell_of_heap hbox3 0
           have c13 : w3.cell? ⟨w.heap.size, 1, none⟩ = some (.slice pv k cv) := cell_of_heap hbox3 1
           have f13 : w3.frozen? ⟨w.heap.size, 1, none⟩ = false := frozen_of_heap hbox3 1
           obtain ⟨g3, c3, rfl⟩ := own_succ ho3
           have Ho3 := hide ho3
           have Hbox3 := hide hbox3
           have Hoe3 := hide hoe3
           have Hlo3 := hide hlo3
           have HB3 := hide hB3
           clear hgA hrow3 hrow3' hg23 hbox3 hoe3 hlo3 hB3 ho3 hg3)
        | (at_builtin
           refine wpList_append_any _ rfl _ _ 73 rfl wr.heap.size 2 i2 _ 1 8 Tryz.underlying73 ji jz0 jz1 jz2 rfl (by decide) (.slice p1 row.length c1) row.length (row.map (Value.int .i64)) rfl ((unhide Ho1).alloc _) (some ⟨w1.heap.size, 0, none⟩) 1 1 [.int .i64 (-77)] rfl (fun e => by cases e) rfl (fun ad e => by cases e; exact cell_one_new w1 _ 2) (by simp [Value.oneCell']) (by unfold maxLen; omega) (by omega) (by simp; omega) ?_
           intro v2 w2 ho2 hg2
           have hb2 : Below wr.heap.size wr w2 := ((unhide Hb1).alloc hs1 _).grown hg2 (by simp; omega) (fun j e => (own_block (unhide Ho1) j e).1)
           obtain ⟨gr, cr, rfl⟩ := own_succ ho2
           have hgr : wr.heap.size ≤ gr := (own_block ho2 gr rfl).1
           have hcr : row.length ≤ cr := by obtain ⟨p', c', h', h'', _⟩ := own_form ho2; cases h'; omega
           have hnew : w2.ownsRow w.heap.size 2 1 (rowC ⟨⟨nm, row, wt⟩, gr, cr⟩) (row.length + 1) (rowI ⟨⟨nm, row, wt⟩, gr, cr⟩) := by
             have e9 : rowI ⟨⟨nm, row, wt⟩, gr, cr⟩ = row.map (Value.int .i64) ++ [.int .i64 (-77)] := by simp [rowI]
             rw [e9]
             exact own_lower ho2 hBs
           have hlo2 := ((unhide Hlo).below hb2).snoc (x := ⟨⟨nm, row, wt⟩, gr, cr⟩) hnew (fun y hy => by have := ((unhide Hlo).lt y hy).2; show y.g < gr; omega)
           have hbox2 : w2.heap[w.heap.size]? = some (Obj.cells #[.slice pe k ce, .slice pv k cv] 52 (0, 0)) := (hb2.block _ hsl).trans (unhide Hbox)
           have hoe2 := own_below (unhide Hoe) hb2
           have hor2 := own_below (unhide Hor) hb2
           have hB2 : Below w.heap.size w w2 := (unhide HB).trans (hb2.mono hBs)
           have hs2 := hB2.size
           have c12 : w2.cell? ⟨w.heap.size, 1, none⟩ = some (.slice pv k cv) := cell_of_heap hbox2 1
           have Hlo2 := hide hlo2
           have Hbox2 := hide hbox2
           have Hoe2 := hide hoe2
           have Hor2 := hide hor2
           have HB2 := hide hB2
           clear ho2 hg2 hb2 hnew hlo2 hbox2 hoe2 hor2 hB2 hgr)
        | (at_builtin
           refine wpList_append_any _ rfl _ _ 73 rfl wr.heap.size 2 i2 _ 1 8 Tryz.underlying73 ji jz0 jz1 jz2 rfl (by decide) (.slice none 0 0) 0 [] rfl (World.ownsRow_nil _ _ _ _) a2 row.length cap2 (row.map (Value.int .i64)) rfl hpu (by simp) (unhide Hsrc) (ints_oneCell _ _) (by unfold maxLen; omega) (by omega) (Nat.le_refl _) ?_
           intro v1 w1 ho1 hg1
           rw [Nat.zero_add, List.nil_append] at ho1
           have hb1 : Below wr.heap.size wr w1 := grown_none_below hg1
           have hs1 := hb1.size
           obtain ⟨p1, c1, rfl, _, _, _⟩ := own_form ho1
           have Ho1 := hide ho1
           have Hb1 := hide hb1
           clear ho1 hg1 hb1))
      obtain ⟨w4, hw4⟩ : ∃ w4, w4 = w3.setCell ⟨w.heap.size, 1, none⟩ (.slice (some ⟨g3, 0, none⟩) (k + 1) c3) := ⟨_, rfl⟩
      rw [← hw4]
      have hg34 : w3.grownBy w4 (some w.heap.size) := by
        rw [hw4]
        exact ⟨rfl, rfl, rfl, by simp, fun k _ hk => heap_setCell_other w3 ⟨w.heap.size, 1, none⟩ k _ (fun e => hk (by rw [e]))⟩
      have hrow3 : ∀ g, some w.heap.size = some g → ∃ cur : Array Value, w3.heap[g]? = some (Obj.cells cur 52 (0, 0)) := fun g e => by cases e; exact ⟨_, unhide Hbox3⟩
      have hbox4 : w4.heap[w.heap.size]? = some (Obj.cells #[.slice pe k ce, .slice (some ⟨g3, 0, none⟩) (k + 1) c3] 52 (0, 0)) := by
        rw [hw4, heap_setCell_same w3 w.heap.size 1 _ 52 _ (unhide Hbox3)]; rfl
      have hoe4 := own_grown (unhide Hoe3) hg34 (other_type hrow3 (by decide))
      have hor4 := own_grown (unhide Ho3) hg34 (other_type hrow3 (by decide))
      have hlo4 := (unhide Hlo3).grown hg34 (other_type hrow3 (by decide))
      have hB4 : Below w.heap.size w w4 := (unhide HB3).grown hg34 hs3 (fun j e => by cases e; exact Nat.le_refl _)
      have hs4 := hB4.size
      have e0 : w4.cell? ⟨w.heap.size, 0, none⟩ = some (.slice pe k ce) := cell_of_heap hbox4 0
      have ef : w4.frozen? ⟨w.heap.size, 0, none⟩ = false := frozen_of_heap hbox4 0
      have e1 := (hB4.cell (p := ⟨b, _, none⟩) hbl).trans g1
      have e2 := (hB4.cell (p := ⟨b, _, none⟩) hbl).trans g2
      have e4 := (hB4.cell (p := ⟨b, _, none⟩) hbl).trans g4
      have hlr : (row.length : Int) ≤ ((row.length + 1 : Nat) : Int) := by omega
      have Hbox4 := hide hbox4
      have Hoe4 : Hid (w4.drew.ownsRow w.heap.size 75 3 (.slice pe k ce) k (los.flatMap entC)) := hoe4
      have Hor4 := hide hor4
      have Hlo4 := hide hlo4
      have HB4 := hide hB4
      clear hw4 hg34 hrow3 hbox4 hoe4 hor4 hlo4 hB4 h1 h2 h4 c03 c13 f13 c12 Hbox3 Hoe3 Hlo3 HB3 Hbox2 Hoe2 Hor2 HB2 Hlo2 Ho3 Ho1 Hb1 Hsrc
      have hlt4 : w.heap.size < w4.heap.size := heap_lt (unhide Hbox4)
      have hbl4 : b < w4.heap.size := by omega
      have hbne : b ≠ w.heap.size := by omega
      have hbne2 : w.heap.size ≠ b := by omega
      go_region_law (first
        | (refine step_append_sharp rfl _ _ 32 rfl w.heap.size 75 i75 _ 3 48 Tryz.underlying32 ki kz0 kz1 kz2 rfl (by decide) (.slice pe k ce) k (los.flatMap entC) rfl ((unhide Hoe4).alloc _) _ 1 [.string nm, .slice (some ⟨gr, 0, none⟩) row.length cr, .int .i64 wt] rfl rfl (cells3_new w4.drew _ _ _ 75) (by simp [Value.oneCell']) (by unfold maxLen; omega) (by omega) (by simp; omega) ?_
           intro v9 w9 ho9 hg9 hs9
           have hgA : w4.grownBy (w4.drew.alloc (.cells #[.string nm, .slice (some ⟨gr, 0, none⟩) row.length cr, .int .i64 wt] 75)) none := ⟨rfl, rfl, rfl, by simp, fun k hk _ => Below.heap_alloc w4.drew _ k hk⟩
           have hg49 : w4.grownBy w9 (Value.ownBlock (.slice pe k ce)) := ⟨hg9.os, hg9.tape, hg9.output, Nat.le_trans hgA.size hg9.size, fun k hk e => (hg9.block k (Nat.lt_of_lt_of_le hk hgA.size) e).trans (hgA.block k hk (by simp))⟩
           have hrow9 : ∀ g, Value.ownBlock (.slice pe k ce) = some g → ∃ cur : Array Value, w4.heap[g]? = some (Obj.cells cur 75 (0, 0)) := fun g e => own_type (unhide Hoe4) e
           have hbox9 : w9.heap[w.heap.size]? = some (Obj.cells #[.slice pe k ce, .slice (some ⟨g3, 0, none⟩) (k + 1) c3] 52 (0, 0)) := (hg49.block _ (heap_lt (unhide Hbox4)) (fun e => other_type hrow9 (by decide) _ _ e.symm (unhide Hbox4))).trans (unhide Hbox4)
           have hor9 := own_grown (unhide Hor4) hg49 (other_type hrow9 (by decide))
           have hlo9 := (unhide Hlo4).grown hg49 (other_type hrow9 (by decide))
           have hB9 : Below w.heap.size w w9 := (unhide HB4).grown hg49 hs4 (fun j e => (own_block (unhide Hoe4) j e).1)
           have k0 : w9.cell? ⟨w.heap.size, 0, none⟩ = some (.slice pe k ce) := cell_of_heap hbox9 0
           have kf : w9.frozen? ⟨w.heap.size, 0, none⟩ = false := frozen_of_heap hbox9 0
           obtain ⟨g9, c9, rfl⟩ := own_succ ho9
           have kb9 : w9.heap[b]? = w4.heap[b]? := (hB9.block b hbl).trans ((unhide HB4).block b hbl).symm
           have Ho9 := hide ho9
           have Hbox9 := hide hbox9
           have Hor9 := hide hor9
           have Hlo9 := hide hlo9
           have HB9 := hide hB9
           clear ho9 hg9 hs9 hgA hg49 hrow9 hbox9 hor9 hlo9 hB9))
      all_goals
        have HF := hide (lent_step (x := ⟨⟨nm, row, wt⟩, gr, cr⟩) (unhide Hll) (unhide Hbox9) (unhide Ho9) (unhide Hor9) (unhide Hlo9) (unhide HB9))
        clear Ho9 Hbox9 Hor9 Hlo9 HB9 Hbox4 Hoe4 Hor4 Hlo4 HB4 Hbox Hoe Hor Hlo HB k0 kf kb9 e0 e1 e2 e4 ef
        go_wp2
        go_roundw
        case rel => exact ⟨k + 1, los ++ [⟨⟨nm, row, wt⟩, gr, cr⟩], _, _, by omega, by go_num, by rw [unhide Htk, List.map_append, unhide Hle]; rfl, (unhide HF).1, (unhide HF).2.1, (unhide HF).2.2.1, (unhide HF).2.2.2.1, (unhide HF).2.2.2.2⟩
        case measure => simp [intOf]; omega
    · have hx : ¬ (k : Int) < (es.length : Int) := by omega
      have hke : es.take k = es := List.take_of_length_le (by omega)
      rw [hke] at hle
      have c0 : wr.cell? ⟨w.heap.size, 0, none⟩ = some (.slice pe k ce) := cell_of_heap hbox 0
      have Hle := hide hle
      have Hbox := hide hbox
      have Hoe := hide hoe
      have Hor := hide hor
      have Hlo := hide hlo
      have HB := hide hB
      clear hle hbox hoe hor hlo hB hke
      go_wp2_with (first
        | (at_builtin
           refine wpList_append_any _ rfl _ _ 32 rfl w.heap.size 75 i75 _ 3 48 Tryz.underlying32 ki kz0 kz1 kz2 rfl (by decide) (.slice pe k ce) k (los.flatMap entC) rfl ((unhide Hoe).alloc _) (some ⟨wr.heap.size, 0, none⟩) 1 1 lastC rfl (fun e => by cases e) rfl (fun ad e => by cases e; exact cells3_new wr _ _ _ 75) (by simp [lastC, Value.oneCell']) (by unfold maxLen; omega) (by omega) (by simp; omega) ?_
           intro v9 w9 ho9 hg9
           have hgA : wr.grownBy (wr.alloc (.cells #[.string strangeS, .slice none 0 0, .int .i64 (-77)] 75)) none := World.grownBy_alloc _ _ _
           have hg49 : wr.grownBy w9 (Value.ownBlock (.slice pe k ce)) := ⟨hg9.os, hg9.tape, hg9.output, Nat.le_trans hgA.size hg9.size, fun k hk e => (hg9.block k (Nat.lt_of_lt_of_le hk hgA.size) e).trans (hgA.block k hk (by simp))⟩
           have hrow9 : ∀ g, Value.ownBlock (.slice pe k ce) = some g → ∃ cur : Array Value, wr.heap[g]? = some (Obj.cells cur 75 (0, 0)) := fun g e => own_type (unhide Hoe) e
           have hbox9 : w9.heap[w.heap.size]? = some (Obj.cells #[.slice pe k ce, .slice pv k cv] 52 (0, 0)) := (hg49.block _ (heap_lt (unhide Hbox)) (fun e => other_type hrow9 (by decide) _ _ e.symm (unhide Hbox))).trans (unhide Hbox)
           have hor9 := own_grown (unhide Hor) hg49 (other_type hrow9 (by decide))
           have hlo9 := (unhide Hlo).grown hg49 (other_type hrow9 (by decide))
           have hB9 : Below w.heap.size w w9 := (unhide HB).grown hg49 hBs (fun j e => (own_block (unhide Hoe) j e).1)
           have k0 : w9.cell? ⟨w.heap.size, 0, none⟩ = some (.slice pe k ce) := cell_of_heap hbox9 0
           have kf : w9.frozen? ⟨w.heap.size, 0, none⟩ = false := frozen_of_heap hbox9 0
           obtain ⟨g9, c9, rfl⟩ := own_succ ho9
           have Ho9 := hide ho9
           have Hbox9 := hide hbox9
           have Hor9 := hide hor9
           have Hlo9 := hide hlo9
           have HB9 := hide hB9
           clear ho9 hg9 hgA hg49 hrow9 hbox9 hor9 hlo9 hB9))
      obtain ⟨w10, hw10⟩ : ∃ w10, w10 = w9.setCell ⟨w.heap.size, 0, none⟩ (.slice (some ⟨g9, 0, none⟩) (k + 1) c9) := ⟨_, rfl⟩
      have hR : LoanRep w10 w.heap.size w.heap.size (.slice (some ⟨g9, 0, none⟩) (k + 1) c9) (.slice pv k cv) los ∧ Below w.heap.size w w10 := by
        have hg : w9.grownBy w10 (some w.heap.size) := by
          rw [hw10]
          exact ⟨rfl, rfl, rfl, by simp, fun k _ hk => heap_setCell_other w9 ⟨w.heap.size, 0, none⟩ k _ (fun e => hk (by rw [e]))⟩
        have hrow : ∀ g, some w.heap.size = some g → ∃ cur : Array Value, w9.heap[g]? = some (Obj.cells cur 52 (0, 0)) := fun g e => by cases e; exact ⟨_, unhide Hbox9⟩
        refine ⟨⟨?_, ?_, ?_, (unhide Hlo9).grown hg (other_type hrow (by decide))⟩, (unhide HB9).grown hg (unhide HB9).size (fun j e => by cases e; exact Nat.le_refl _)⟩
        · rw [hw10, heap_setCell_same w9 w.heap.size 0 _ 52 _ (unhide Hbox9)]; rfl
        · rw [unhide Hll]; exact own_grown (unhide Ho9) hg (other_type hrow (by decide))
        · rw [unhide Hll]; exact own_grown (unhide Hor9) hg (other_type hrow (by decide))
      rw [hw10] at hR
      have HR := hide hR
      clear hR hw10
      go_wp2
      go_ret
      exact ⟨rfl, _, _, los, (unhide HR).1, unhide Hle, (unhide HR).2⟩

end Go.Proofs.YtgddkjhknlgbbaaGreatDoor
