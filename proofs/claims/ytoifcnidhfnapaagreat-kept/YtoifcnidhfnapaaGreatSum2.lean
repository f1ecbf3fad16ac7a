import Derived.Test.YtoifcnidhfnapaaGreatSum
import Derived.Deep.DrawnRows
set_option linter.unusedVariables false
set_option linter.unusedSimpArgs false
namespace Go.Proofs.YtoifcnidhfnapaaGreat
open Go.RowKit Go.Maps
attribute [local go_sem ↓] Go.wp_at_zero Go.wp_at_succ

theorem chSet_chSet (ch : Ch) (nm : ByteArray) (p q : Nat × (Row → Int)) : chSet (chSet ch nm p) nm q = chSet ch nm q := by
  funext m
  unfold chSet
  by_cases e : m = nm <;> simp [e]

theorem Below.ofDrew {W w1 : World} (h : Below W.drew.heap.size W.drew w1) : Below W.heap.size W w1 := ⟨h.os, h.tape, h.output, h.size, h.block⟩

set_option maxRecDepth 100000 in
set_option maxHeartbeats 1000000 in
theorem sum_any (v : Value) (es : List Ent) (w : World) (hv : EntsAt w v es) (hg : ∀ x ∈ es, GoodEnt x) (hl : es.length ≤ 64) :
    Calls Tryz.prog 25 #[v] w fun e w' => ∃ ch, e = .returned (.map (some w.heap.size)) ∧ ChgRep w' w.heap.size w.heap.size (2 * es.length) ch ∧ SumRel es ch ∧ Below w.heap.size w w' := by
  have Hv := hide hv
  obtain ⟨a, cap, rfl, hc⟩ := hv
  have Hc := hide hc
  have Hg := hide hg
  clear hc hg
  have hmm := @run_makeMap Tryz.prog
  go_enter Tryz.func25, Tryz.ntmps25
  go_wp2
  go_loopw [11] (fun i wr => ∃ k : Nat, k ≤ es.length ∧ i = .int .i64 k ∧ ∃ ch, ChgRep wr w.heap.size w.heap.size (2 * k) ch ∧ SumRel (es.take k) ch ∧ Below w.heap.size w wr) (fun i _ => es.length - (intOf i).toNat)
  case atStart =>
    refine ⟨0, Nat.zero_le _, rfl, fun _ => none, ⟨⟨.map [], World.ownsMap_made _ _ _ _, fun _ _ => rfl, fun _ _ _ h => by cases h⟩, fun _ _ h => (by cases h), fun _ _ _ _ h => (by cases h), Nat.le_refl _⟩, ?_, (Below.refl _ _).alloc (Nat.le_refl _) _⟩
    intro nm
    exact ⟨fun _ x hx => by simp at hx, fun p h => by cases h⟩
  case round =>
    obtain ⟨k, hk, rfl, ch, hC, hS, hB⟩ := hrel
    by_cases hlt : k < es.length
    · obtain ⟨b, o, sv, rfl, h1, h2, h3, h4⟩ := (unhide Hc) k hlt
      have hx : (k : Int) < (es.length : Int) := by omega
      have hbl : b < w.heap.size := World.block_lt_of_cell? w _ h1
      have h3c := h3
      obtain ⟨a2, cap2, rfl, _⟩ := h3c
      obtain ⟨x, hxe⟩ : ∃ x, x = es[k]?.getD zeroEnt := ⟨_, rfl⟩
      rw [← hxe] at h1 h2 h3 h4
      have hgx : GoodEnt x := by rw [hxe]; simp [hlt]; exact (unhide Hg) _ (List.getElem_mem hlt)
      have htk : es.take (k + 1) = es.take k ++ [x] := by rw [List.take_succ_eq_append_getElem hlt, hxe]; simp [hlt]
      have Htk := hide htk
      clear hxe htk
      rw [← hB.cell (p := ⟨b, _, none⟩) hbl] at h1 h2 h4
      have h3' := (h3.below hB).below ((Below.refl wr.heap.size wr).alloc (Nat.le_refl _) (.cells #[.string x.nm, .slice a2 x.row.length cap2, .int .i64 x.wt] 39))
      obtain ⟨nm, row, wt⟩ := x
      dsimp only at h1 h2 h3 h3' h4
      have hnm : nm.size ≤ maxLen := Nat.le_trans hgx.1 (by unfold maxLen; omega)
      have hC1 : ChgRep (wr.alloc (.cells #[.string nm, .slice a2 row.length cap2, .int .i64 wt] 39)) w.heap.size w.heap.size (2 * k) ch := hC.below ((Below.refl _ _).alloc (Nat.le_refl _) _)
      have H3 := hide h3'
      have H3w := hide h3
      have HC := hide hC
      have HC1 := hide hC1
      have HS := hide hS
      have HB := hide hB
      have Hgx := hide hgx
      cases hch : ch nm with
      | some p =>
        have hrun := hC1.hit hnm hch
        have Hch := hide hch
        clear h3 h3' hC hC1 hS hB hgx hch hnm
        go_wp2
        have kE : (wr.alloc (.cells #[.string nm, .slice a2 row.length cap2, .int .i64 wt] 39)).heap[wr.heap.size]? = some (.cells #[.string nm, .slice a2 row.length cap2, .int .i64 wt] 39 (0, 0)) := heap_last wr _ _ rfl
        have HBW : Hid (Below wr.heap.size wr (wr.alloc (.cells #[.string nm, .slice a2 row.length cap2, .int .i64 wt] 39))) := (Below.refl _ _).alloc (Nat.le_refl _) _
        clear hrun h1 h2 h4
        generalize wr.alloc (.cells #[.string nm, .slice a2 row.length cap2, .int .i64 wt] 39) = W at *
        have e1 : W.cell? ⟨wr.heap.size, 1, none⟩ = some (.slice a2 row.length cap2) := cell_of_heap kE 1
        have e2 : W.cell? ⟨wr.heap.size, 2, none⟩ = some (.int .i64 wt) := cell_of_heap kE 2
        have hWs : wr.heap.size < W.heap.size := (Array.getElem?_eq_some_iff.1 kE).1
        have hp1 : p.1 < wr.heap.size := ((unhide HC).each nm p (unhide Hch)).1.lt
        have Hf : Hid (∀ r, -1000000 ≤ p.2 r ∧ p.2 r ≤ 1000000) := by
          intro r
          have h1 := ((unhide HS) nm).2 p (unhide Hch)
          have h2 := sumE_bd (es.take k) (fun y hy => (unhide Hg) y (List.mem_of_mem_take hy)) nm r
          have h3 : (es.take k).length ≤ 64 := Nat.le_trans (by simp; omega) hl
          rw [h1.2]
          omega
        clear kE
        go_region_held3 (fun W' => W'.cell? ⟨wr.heap.size, 1, none⟩ = some (.slice a2 row.length cap2) ∧ W'.cell? ⟨wr.heap.size, 2, none⟩ = some (.int .i64 wt))
          (first
            | go_keep
            | (go_split_ands; refine ⟨?_, ?_⟩ <;> (rw [hb1.cell (by simpa using hWs)]; assumption))
            | (go_split_ands; refine ⟨?_, ?_⟩ <;> (rw [World.cell?_of_block (hg2.block wr.heap.size (by have := hb1.size; simp at this; omega) (by simp; omega))]; assumption)))
          (first
            | (go_at_call 33; refine (rowOf_any _ row _ ?_ (unhide Hgx).2.1).mono ?_; exact (unhide H3); rintro e w1 ⟨rfl, hb1⟩)
            | (go_at_call 32; refine (add_any p.1 (2 * k) p.2 (padRow row) wt _ ?_ (by omega) (unhide Hgx).2.2.1 ((unhide Hf) _).1 ((unhide Hf) _).2 (by have := (unhide Hgx).2.2.2.1; dsimp only at this; omega) (by have := (unhide Hgx).2.2.2.2; dsimp only at this; omega)).mono ?_; exact ((unhide HC1).each nm p (unhide Hch)).1.kept (hb1.block _ (by simp; omega)); rintro e w2 ⟨rfl, hm2, hg2⟩))
        have hb1' : Below W.heap.size W w1 := Below.ofDrew hb1
        have hC1 := (unhide HC1).below hb1'
        have hC2 := hC1.added (unhide Hch) hg2 hm2
        have hpB := ((unhide HC).each nm p (unhide Hch)).2.1
        have hBB : Below w.heap.size w w2 := by
          have q1 := (unhide HB).trans ((unhide HBW).mono (unhide HB).size)
          have q2 := q1.trans (hb1'.mono q1.size)
          exact q2.grown hg2 q2.size (fun j hj => by cases hj; exact hpB)
        have HR := hide (And.intro hC2 hBB)
        clear hC2 hBB hC1 hb1 hb1' hg2 hm2 hpB
        go_wp2
        go_roundw
        case rel =>
          refine ⟨k + 1, by omega, by go_num, _, (unhide HR).1.mono (by omega), ?_, (unhide HR).2⟩
          rw [unhide Htk]
          exact sumRel_hit (x := ⟨nm, row, wt⟩) (unhide HS) (unhide Hch)
        case measure => simp [intOf]; omega
      | none =>
        have hrun := hC1.miss hnm hch
        obtain ⟨D, hown, hhas, hat⟩ := hC1.dir
        have hownA := hown.alloc (.map #[] 0)
        have Hhas := hide hhas
        have Hat := hide hat
        have hkey := keyOf_str hnm
        have Hch := hide hch
        have Hnm := hide hnm
        have hcbl : w.heap.size < wr.heap.size := hC.lt
        clear h3 h3' hC hC1 hS hB hgx hch hnm hhas hat
        go_wp2_with (first
          | (at_mapUpdate; refine wpList_mapUpdate_own _ rfl _ _ _ 67 rfl 9 75 law9 Tryz.underlying67 _ w.heap.size (2 * k) D rfl hownA (by unfold maxLen; omega) _ _ _ rfl rfl hkey _ [] (show mapElem (.map (some (wr.heap.size + 1))) = some (.lit (.int .i64 ((wr.heap.size + 1 : Nat) : Int)), []) from rfl) ?_; intro w3 hown3 hgrow3)
          | go_in)
        go_frame
        have hCA : ChgRep ((wr.alloc (.cells #[.string nm, .slice a2 row.length cap2, .int .i64 wt] 39)).alloc (.map #[] 0)) w.heap.size w.heap.size (2 * k) ch := (unhide HC1).below ((Below.refl _ _).alloc (Nat.le_refl _) _)
        have hmade : WMap ((wr.alloc (.cells #[.string nm, .slice a2 row.length cap2, .int .i64 wt] 39)).alloc (.map #[] 0)) (wr.heap.size + 1) 0 (fun _ => 0) :=
          ⟨.map [], by have := World.ownsMap_made (wr.alloc (.cells #[.string nm, .slice a2 row.length cap2, .int .i64 wt] 39)) Tryz.prog 62 (plainElem (H := Unit) Tryz.prog 2); simpa using this, ⟨fun _ _ => rfl, fun _ _ => by simp [Maps.has], fun _ h => by simp [Maps.has] at h⟩⟩
        have hC3 := hCA.begun (unhide Hnm) (unhide Hch) hgrow3 hmade (by omega) (by omega) (fun m q hq => by have := ((unhide HC).each m q hq).1.lt; omega) (unhide Hhas) (unhide Hat) hown.isMap hown3
        have q1 : Below w.heap.size w w3 := by
          have q0 := (((unhide HB).alloc (by omega) (.cells #[.string nm, .slice a2 row.length cap2, .int .i64 wt] 39)).alloc (by simp; omega) (.map #[] 0))
          exact q0.grown hgrow3 q0.size (fun j hj => by cases hj; exact Nat.le_refl _)
        have kE : w3.heap[wr.heap.size]? = some (.cells #[.string nm, .slice a2 row.length cap2, .int .i64 wt] 39 (0, 0)) := by
          rw [hgrow3.block wr.heap.size (by simp; omega) (by simp; omega), Below.heap_alloc _ _ _ (by simp)]
          exact heap_last wr _ _ rfl
        have h3' : IntsAt w3 (.slice a2 row.length cap2) row := ((unhide H3w).below q1)
        have H3' := hide h3'
        have HC3 := hide hC3
        have HBW := hide q1
        have hsz3 : wr.heap.size + 2 ≤ w3.heap.size := by have := hgrow3.size; simp at this; omega
        clear hrun h1 h2 h4 hown hownA hown3 hgrow3 hC3 hCA hmade q1 h3' H3 HC1 hkey Hhas Hat
        have e1 : w3.cell? ⟨wr.heap.size, 1, none⟩ = some (.slice a2 row.length cap2) := cell_of_heap kE 1
        have e2 : w3.cell? ⟨wr.heap.size, 2, none⟩ = some (.int .i64 wt) := cell_of_heap kE 2
        clear kE
        go_region_held3 (fun W' => W'.cell? ⟨wr.heap.size, 1, none⟩ = some (.slice a2 row.length cap2) ∧ W'.cell? ⟨wr.heap.size, 2, none⟩ = some (.int .i64 wt))
          (first
            | go_keep
            | (go_split_ands; refine ⟨?_, ?_⟩ <;> (rw [hb1.cell (by simp; omega)]; assumption))
            | (go_split_ands; refine ⟨?_, ?_⟩ <;> (rw [World.cell?_of_block (hg2.block wr.heap.size (by have := hb1.size; simp at this; omega) (by simp))]; assumption)))
          (first
            | (go_at_call 33; refine (rowOf_any _ row _ ?_ (unhide Hgx).2.1).mono ?_; exact (unhide H3'); rintro e w1 ⟨rfl, hb1⟩)
            | (go_at_call 32; refine (add_any (wr.heap.size + 1) (2 * k + 1) (fun _ => 0) (padRow row) wt _ ?_ (by omega) (unhide Hgx).2.2.1 (by omega) (by omega) (by have := (unhide Hgx).2.2.2.1; dsimp only at this; omega) (by have := (unhide Hgx).2.2.2.2; dsimp only at this; omega)).mono ?_; exact ((unhide HC3).each nm (wr.heap.size + 1, fun _ => 0) (by simp [chSet])).1.kept (hb1.block _ (by simp; omega)); rintro e w2 ⟨rfl, hm2, hg2⟩))
        have hb1' : Below w3.heap.size w3 w1 := Below.ofDrew hb1
        have hC1 := (unhide HC3).below hb1'
        have hC2 := hC1.added (nm := nm) (p := (wr.heap.size + 1, fun _ => 0)) (by simp [chSet]) hg2 hm2
        have hBB : Below w.heap.size w w2 := by
          have q2 := (unhide HBW).trans (hb1'.mono (unhide HBW).size)
          exact q2.grown hg2 q2.size (fun j hj => by cases hj; omega)
        have HR := hide (And.intro hC2 hBB)
        clear hC2 hBB hC1 hb1 hb1' hg2 hm2
        go_wp2
        go_roundw
        case rel =>
          refine ⟨k + 1, by omega, by go_num, _, (unhide HR).1.mono (by omega), ?_, (unhide HR).2⟩
          rw [unhide Htk, chSet_chSet]
          exact sumRel_miss (x := ⟨nm, row, wt⟩) (unhide HS) (unhide Hch)
        case measure => simp [intOf]; omega
    · go_wp2
      go_ret
      have : k = es.length := by omega
      subst this
      refine ⟨ch, rfl, hC, ?_, hB⟩
      rw [List.take_length] at hS
      exact hS

end Go.Proofs.YtoifcnidhfnapaaGreat
