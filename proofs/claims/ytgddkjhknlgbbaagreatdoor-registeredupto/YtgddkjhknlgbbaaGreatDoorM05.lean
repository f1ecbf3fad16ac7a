import Derived.Test.YtgddkjhknlgbbaaGreatDoorM04
import Derived.Deep.DrawnRows
set_option linter.unusedVariables false
set_option linter.unusedSimpArgs false

namespace Go.Proofs.YtgddkjhknlgbbaaGreatDoor
open Go.RowKit Go.Maps
attribute [local go_sem ↓] Go.wp_at_zero Go.wp_at_succ

theorem chSet_chSet (ch : Ch) (nm : ByteArray) (p q : Nat × (Row → Int)) : chSet (chSet ch nm p) nm q = chSet ch nm q := by
  funext m
  unfold chSet
  by_cases e : m = nm <;> simp [e]

theorem Below.ofDrew {W w1 : World} (h : Below W.drew.heap.size W.drew w1) : Below W.heap.size W w1 := ⟨h.os, h.tape, h.output, h.size, h.block⟩

set_option maxRecDepth 100000 in
set_option maxHeartbeats 1000000 in
theorem sum_any (v : Value) (es : List Ent) (w : World) (hv : EntsAt w v es) (hg : ∀ x ∈ es, GoodEnt x) (hl : es.length ≤ 64) :
    Calls Tryz.prog 33 #[v] w fun e w' => ∃ ch, e = .returned (.map (some w.heap.size)) ∧ ChgRep w' w.heap.size w.heap.size (2 * es.length) ch ∧ SumRel es ch ∧ Below w.heap.size w w' := by
  have Hv := hide hv
  obtain ⟨a, cap, rfl, hc⟩ := hv
  have Hc := hide hc
  have Hg := hide hg
  clear hc hg
  have hmm := @run_makeMap Tryz.prog
  go_enter Tryz.func33, Tryz.ntmps33
  go_wp2
  go_loopw [11] (fun i wr => ∃ k : Nat, k ≤ es.length ∧ i = .int .i64 k ∧ ∃ ch, ChgRep wr w.heap.size w.heap.size (2 * k) ch ∧ SumRel (es.take k) ch ∧ Below w.heap.size w wr) (fun i _ => es.length - (intOf i).toNat)
  case atStart =>
    refine ⟨0, Nat.zero_le _, rfl, fun _ => none, ⟨⟨.map [], World.ownsMap_made _ _ _ _, fun _ _ => rfl, fun _ _ _ h => by cases h⟩, fun _ _ h => (by cases h), fun _ _ _ _ h => (by cases h), Nat.le_refl _⟩, ?_, (Below.refl _ _).alloc (Nat.le_refl _) _⟩
    intro nm
    exact ⟨fun _ x hx => by simp at hx, fun p h => by cases h⟩
  case round =>
    obtain ⟨k, hk, rfl, ch, hC, hS, hB⟩ := hrel
    by_cases hlt : k < es.length
    · obtain ⟨b, o, sv, rfl, h1, h2, h3, h4⟩ := (unhide Hc) k hlt
      have hx : (k : Int) < (es.length : Int) := by omega
      have hbl : b < w.heap.size := World.block_lt_of_cell? w _ h1
      have h3c := h3
      obtain ⟨a2, cap2, rfl, _⟩ := h3c
      obtain ⟨x, hxe⟩ : ∃ x, x = es[k]?.getD zeroEnt := ⟨_, rfl⟩
      rw [← hxe] at h1 h2 h3 h4
      have hgx : GoodEnt x := by rw [hxe]; simp [hlt]; exact (unhide Hg) _ (List.getElem_mem hlt)
      have htk : es.take (k + 1) = es.take k ++ [x] := by rw [List.take_succ_eq_append_getElem hlt, hxe]; simp [hlt]
      have Htk := hide htk
      clear hxe htk
      rw [← hB.cell (p := ⟨b, _, none⟩) hbl] at h1 h2 h4
      have h3' := (h3.below hB).below ((Below.refl wr.heap.size wr).alloc (Nat.le_refl _) (.cells #[.string x.nm, .slice a2 x.row.length cap2, .int .i64 x.wt] 75))
      obtain ⟨nm, row, wt⟩ := x
      dsimp only at h1 h2 h3 h3' h4
      have hnm : nm.size ≤ maxLen := Nat.le_trans hgx.1 (by unfold maxLen; omega)
      have hC1 : ChgRep (wr.alloc (.cells #[.string nm, .slice a2 row.length cap2, .int .i64 wt] 75)) w.heap.size w.heap.size (2 * k) ch := hC.below ((Below.refl _ _).alloc (Nat.le_refl _) _)
      have H3 := hide h3'
      have H3w := hide h3
      have HC := hide hC
      have HC1 := hide hC1
      have HS := hide hS
      have HB := hide hB
      have Hgx := hide hgx
      cases hch : ch nm with
      | some p =>
        have hrun := hC1.hit hnm hch
        have Hch := hide hch
        clear h3 h3' hC hC1 hS hB hgx hch hnm
        go_wp2
        have kE : (wr.alloc (.cells #[.string nm, .slice a2 row.length cap2, .int .i64 wt] 75)).heap[wr.heap.size]? = some (.cells #[.string nm, .slice a2 row.length cap2, .int .i64 wt] 75 (0, 0)) := heap_last wr _ _ rfl
        have HBW : Hid (Below wr.heap.size wr (wr.alloc (.cells #[.string nm, .slice a2 row.length cap2, .int .i64 wt] 75))) := (Below.refl _ _).alloc (Nat.le_refl _) _
        clear hrun h1 h2 h4
        generalize wr.alloc (.cells #[.string nm, .slice a2 row.length cap2, .int .i64 wt] 75) = W at *
        have e1 : W.cell? ⟨wr.heap.size, 1, none⟩ = some (.slice a2 row.length cap2) := cell_of_heap kE 1
        have e2 : W.cell? ⟨wr.heap.size, 2, none⟩ = some (.int .i64 wt) := cell_of_heap kE 2
        have hWs : wr.heap.size < W.heap.size := (Array.getElem?_eq_some_iff.1 kE).1
        have hp1 : p.1 < wr.heap.size := ((unhide HC).each nm p (unhide Hch)).1.lt
        have Hf : Hid (∀ r, -1000000 ≤ p.2 r ∧ p.2 r ≤ 1000000) := by
          intro r
          have h1 := ((unhide HS) nm).2 p (unhide Hch)
          have h2 := sumE_bd (es.take k) (fun y hy => (unhide Hg) y (List.mem_of_mem_take hy)) nm r
          have h3 : (es.take k).length ≤ 64 := Nat.le_trans (by simp; omega) hl
          rw [h1.2]
          omega
        clear kE
        go_region_held3 (fun W' => W'.cell? ⟨wr.heap.size, 1, none⟩ = some (.slice a2 row.length cap2) ∧ W'.cell? ⟨wr.heap.size, 2, none⟩ = some (.int .i64 wt))
          (first
            | go_keep
            | (go_split_ands; refine ⟨?_, ?_⟩ <;> (rw [hb1.cell (by simpa using hWs)]; assumption))
            | (go_split_ands; refine ⟨?_, ?_⟩ <;> (rw [World.cell?_of_block (hg2.block wr.heap.size (by have := hb1.size; simp at this; omega) (by simp; omega))]; assumption)))
          (first
            | (go_at_call 66; refine (rowOf_any _ row _ ?_ (unhide Hgx).2.1).mono ?_; exact (unhide H3); rintro e w1 ⟨rfl, hb1⟩)
            | (go_at_call 65; refine (add_any p.1 (2 * k) p.2 (padRow row) wt _ ?_ (by omega) (unhide Hgx).2.2.1 ((unhide Hf) _).1 ((unhide Hf) _).2 (by have := (unhide Hgx).2.2.2.1; dsimp only at this; omega) (by have := (unhide Hgx).2.2.2.2; dsimp only at this; omega)).mono ?_; exact ((unhide HC1).each nm p (unhide Hch)).1.kept (hb1.block _ (by simp; omega)); rintro e w2 ⟨rfl, hm2, hg2⟩))
        have hb1' : Below W.heap.size W w1 := Below.ofDrew hb1
        have hC1 := (unhide HC1).below hb1'
        have hC2 := hC1.added (unhide Hch) hg2 hm2
        have hpB := ((unhide HC).each nm p (unhide Hch)).2.1
        have hBB : Below w.heap.size w w2 := by
          have q1 := (unhide HB).trans ((unhide HBW).mono (unhide HB).size)
          have q2 := q1.trans (hb1'.mono q1.size)
          exact q2.grown hg2 q2.size (fun j hj => by cases hj; exact hpB)
        have HR := hide (And.intro hC2 hBB)
        clear hC2 hBB hC1 hb1 hb1' hg2 hm2 hpB
        go_wp2
        go_roundw
        case rel =>
          refine ⟨k + 1, by omega, by go_num, _, (unhide HR).1.mono (by omega), ?_, (unhide HR).2⟩
          rw [unhide Htk]
          exact sumRel_hit (x := ⟨nm, row, wt⟩) (unhide HS) (unhide Hch)
        case measure => simp [intOf]; omega
      | none =>
        have hrun := hC1.miss hnm hch
        obtain ⟨D, hown, hhas, hat⟩ := hC1.dir
        have hownA := hown.alloc (.map #[] 0)
        have Hhas := hide hhas
        have Hat := hide hat
        have hkey := keyOf_str hnm
        have Hch := hide hch
        have Hnm := hide hnm
        have hcbl : w.heap.size < wr.heap.size := hC.lt
        clear h3 h3' hC hC1 hS hB hgx hch hnm hhas hat
        go_wp2_with (first
          | (at_mapUpdate; refine wpList_mapUpdate_own _ rfl _ _ _ 77 rfl 9 81 law9 Tryz.underlying77 _ w.heap.size (2 * k) D rfl hownA (by unfold maxLen; omega) _ _ _ rfl rfl hkey _ [] (show mapElem (.map (some (wr.heap.size + 1))) = some (.lit (.int .i64 ((wr.heap.size + 1 : Nat) : Int)), []) from rfl) ?_; intro w3 hown3 hgrow3)
          | go_in)
        go_frame
        have hCA : ChgRep ((wr.alloc (.cells #[.string nm, .slice a2 row.length cap2, .int .i64 wt] 75)).alloc (.map #[] 0)) w.heap.size w.heap.size (2 * k) ch := (unhide HC1).below ((Below.refl _ _).alloc (Nat.le_refl _) _)
        have hmade : WMap ((wr.alloc (.cells #[.string nm, .slice a2 row.length cap2, .int .i64 wt] 75)).alloc (.map #[] 0)) (wr.heap.size + 1) 0 (fun _ => 0) :=
          ⟨.map [], by have := World.ownsMap_made (wr.alloc (.cells #[.string nm, .slice a2 row.length cap2, .int .i64 wt] 75)) Tryz.prog 127 (plainElem (H := Unit) Tryz.prog 3); simpa using this, ⟨fun _ _ => rfl, fun _ _ => by simp [Maps.has], fun _ h => by simp [Maps.has] at h⟩⟩
        have hC3 := hCA.begun (unhide Hnm) (unhide Hch) hgrow3 hmade (by omega) (by omega) (fun m q hq => by have := ((unhide HC).each m q hq).1.lt; omega) (unhide Hhas) (unhide Hat) hown.isMap hown3
        have q1 : Below w.heap.size w w3 := by
          have q0 := (((unhide HB).alloc (by omega) (.cells #[.string nm, .slice a2 row.length cap2, .int .i64 wt] 75)).alloc (by simp; omega) (.map #[] 0))
          exact q0.grown hgrow3 q0.size (fun j hj => by cases hj; exact Nat.le_refl _)
        have kE : w3.heap[wr.heap.size]? = some (.cells #[.string nm, .slice a2 row.length cap2, .int .i64 wt] 75 (0, 0)) := by
          rw [hgrow3.block wr.heap.size (by simp; omega) (by simp; omega), Below.heap_alloc _ _ _ (by simp)]
          exact heap_last wr _ _ rfl
        have h3' : IntsAt w3 (.slice a2 row.length cap2) row := ((unhide H3w).below q1)
        have H3' := hide h3'
        have HC3 := hide hC3
        have HBW := hide q1
        have hsz3 : wr.heap.size + 2 ≤ w3.heap.size := by have := hgrow3.size; simp at this; omega
        clear hrun h1 h2 h4 hown hownA hown3 hgrow3 hC3 hCA hmade q1 h3' H3 HC1 hkey Hhas Hat
        have e1 : w3.cell? ⟨wr.heap.size, 1, none⟩ = some (.slice a2 row.length cap2) := cell_of_heap kE 1
        have e2 : w3.cell? ⟨wr.heap.size, 2, none⟩ = some (.int .i64 wt) := cell_of_heap kE 2
        clear kE
        go_region_held3 (fun W' => W'.cell? ⟨wr.heap.size, 1, none⟩ = some (.slice a2 row.length cap2) ∧ W'.cell? ⟨wr.heap.size, 2, none⟩ = some (.int .i64 wt))
          (first
            | go_keep
            | (go_split_ands; refine ⟨?_, ?_⟩ <;> (rw [hb1.cell (by simp; omega)]; assumption))
            | (go_split_ands; refine ⟨?_, ?_⟩ <;> (rw [World.cell?_of_block (hg2.block wr.heap.size (by have := hb1.size; simp at this; omega) (by simp))]; assumption)))
          (first
            | (go_at_call 66; refine (rowOf_any _ row _ ?_ (unhide Hgx).2.1).mono ?_; exact (unhide H3'); rintro e w1 ⟨rfl, hb1⟩)
            | (go_at_call 65; refine (add_any (wr.heap.size + 1) (2 * k + 1) (fun _ => 0) (padRow row) wt _ ?_ (by omega) (unhide Hgx).2.2.1 (by omega) (by omega) (by have := (unhide Hgx).2.2.2.1; dsimp only at this; omega) (by have := (unhide Hgx).2.2.2.2; dsimp only at this; omega)).mono ?_; exact ((unhide HC3).each nm (wr.heap.size + 1, fun _ => 0) (by simp [chSet])).1.kept (hb1.block _ (by simp; omega)); rintro e w2 ⟨rfl, hm2, hg2⟩))
        have hb1' : Below w3.heap.size w3 w1 := Below.ofDrew hb1
        have hC1 := (unhide HC3).below hb1'
        have hC2 := hC1.added (nm := nm) (p := (wr.heap.size + 1, fun _ => 0)) (by simp [chSet]) hg2 hm2
        have hBB : Below w.heap.size w w2 := by
          have q2 := (unhide HBW).trans (hb1'.mono (unhide HBW).size)
          exact q2.grown hg2 q2.size (fun j hj => by cases hj; omega)
        have HR := hide (And.intro hC2 hBB)
        clear hC2 hBB hC1 hb1 hb1' hg2 hm2
        go_wp2
        go_roundw
        case rel =>
          refine ⟨k + 1, by omega, by go_num, _, (unhide HR).1.mono (by omega), ?_, (unhide HR).2⟩
          rw [unhide Htk, chSet_chSet]
          exact sumRel_miss (x := ⟨nm, row, wt⟩) (unhide HS) (unhide Hch)
        case measure => simp [intOf]; omega
    · go_wp2
      go_ret
      have : k = es.length := by omega
      subst this
      refine ⟨ch, rfl, hC, ?_, hB⟩
      rw [List.take_length] at hS
      exact hS

end Go.Proofs.YtgddkjhknlgbbaaGreatDoor

namespace Go.Proofs.YtgddkjhknlgbbaaGreatDoor
open Go.RowKit Go.Maps
attribute [local go_sem ↓] Go.wp_at_zero Go.wp_at_succ

theorem invRow : ∀ key kl, keyOf Tryz.prog 127 key = some kl → ∃ x : Row, key = .agg #[.int .i64 x.1, .int .i64 x.2.1, .int .i64 x.2.2] := by
  intro key kl h
  obtain ⟨r, _, hv, _⟩ := keyOf_row_inv h
  exact ⟨r, hv⟩
theorem invInt : ∀ v y, plainElem (H := Unit) Tryz.prog 3 v = some y → ∃ c, v = Value.int .i64 c := by
  intro v y h
  obtain ⟨c, hc, _⟩ := plainElem_int_inv Tryz.underlying3 h
  exact ⟨c, hc⟩

/-- What has come of an entry of a map of weights. -/
theorem came {D : DataW Unit} {g : Row → Int} (hrep : Rep D g) {x : Row} {c : Int} {kl : Lit} {y : DataW Unit × List MemPlace} (hkey : keyOf Tryz.prog 127 (.agg #[.int .i64 x.1, .int .i64 x.2.1, .int .i64 x.2.2]) = some kl)
    (hv : plainElem (H := Unit) Tryz.prog 3 (.int .i64 c) = some y) (hat : ∀ zd, D.atKey kl zd = y.1) : WfRow x ∧ kl = rowLit x ∧ c = g x := by
  obtain ⟨r, hr, hv', rfl⟩ := keyOf_row_inv hkey
  simp only [rowVal, Value.agg.injEq] at hv'
  have e : x = r := by
    simp at hv'
    exact Prod.ext hv'.1 (Prod.ext hv'.2.1 hv'.2.2)
  subst e
  obtain ⟨c', hc', rfl, _⟩ := plainElem_int_inv Tryz.underlying3 hv
  have e1 := hrep.at_ x hr
  rw [hat] at e1
  refine ⟨hr, rfl, ?_⟩
  cases hc'
  exact lit_int_inj e1

theorem WMap.drewN {w : World} {b n : Nat} {f : Row → Int} (h : WMap w b n f) (q : Nat) : WMap (w.drewN q) b n f := h.kept rfl

theorem WMap.look {w : World} {b n : Nat} {f : Row → Int} (h : WMap w b n f) {x : Row} (hx : WfRow x) : (Instr.lookup 81 (.map (some b)) (.agg #[.int .i64 x.1, .int .i64 x.2.1, .int .i64 x.2.2]) false).run Tryz.prog w = .ok (.int .i64 (f x)) w := by
  obtain ⟨D, hown, hrep⟩ := h
  obtain ⟨c, hrun, hat, _⟩ := hown.lookup_int law60 Tryz.underlying81 Tryz.underlying3 (zero3 _) (keyOf_row hx)
  rw [hrep.at_ x hx] at hat
  rw [← lit_int_inj hat] at hrun
  exact hrun

set_option maxRecDepth 100000 in
set_option maxHeartbeats 1000000 in
theorem fit_any (rb mb ar n cb m : Nat) (f g : Row → Int) (w : World) (hr : w.heap[rb]? = some (.cells #[.int .i64 ar, .map (some mb)] 122 (0, 0))) (hf : WMap w mb n f) (hg : WMap w cb m g)
    (hfit : ∀ r, WfRow r → -1000 ≤ f r + g r ∧ f r + g r ≤ 1000) (hbf : ∀ r, WfRow r → -1000000 ≤ f r ∧ f r ≤ 1000000) (hbg : ∀ r, WfRow r → -1000000 ≤ g r ∧ g r ≤ 1000000) :
    Calls Tryz.prog 67 #[.pointer (some ⟨rb, 0, none⟩), .map (some cb)] w fun e w' => e = .returned (.bool true) ∧ Below w.heap.size w w' := by
  obtain ⟨D, hown, hrep⟩ := hg
  have Hr := hide hr
  have Hf := hide hf
  have Hrep := hide hrep
  have Hfit := hide hfit
  have Hbf := hide hbf
  have Hbg := hide hbg
  have hrl : rb < w.heap.size := (Array.getElem?_eq_some_iff.1 hr).1
  have hml : mb < w.heap.size := hf.lt
  clear hr hf hrep hfit hbf hbg
  go_enter Tryz.func67, Tryz.ntmps67
  go_wp2_with (first
    | (at_range; refine wpList_range_own _ rfl _ 81 rfl 127 3 law60 Tryz.underlying81 _ cb m D rfl hown ?_; intro w0 hrg0 hg0 hs0)
    | go_in)
  go_frame
  go_loopw [10] (fun _ wr => ∃ left cnt, wr.ranges Tryz.prog 127 (plainElem Tryz.prog 3) cb w.heap.size m D left cnt ∧ Below w.heap.size w wr) (fun _ wr => wr.rangeLeft cb w.heap.size)
  case atStart => exact ⟨_, _, hrg0, (Below.refl _ _).grown hg0 (Nat.le_refl _) (fun k e => by cases e)⟩
  case round =>
    obtain ⟨left, cnt, hrg, hB⟩ := hrel
    have HB := hide hB
    clear hB
    go_wp2_with (first
      | (at_next; refine wpList_next_ranges _ rfl _ rfl 127 law60 (plainElem Tryz.prog 3) (fun x : Row => .agg #[.int .i64 x.1, .int .i64 x.2.1, .int .i64 x.2.2]) (Value.int .i64) invRow invInt cb w.heap.size m D left cnt rfl hrg ?_ ?_)
      | go_in)
    · intro _ hl0
      go_wp2
      go_ret
      exact ⟨rfl, unhide HB⟩
    · intro x1 x2 x3 c kl y1 y2 w1 cnt1 hkey hlk hv hat hrg1 hlt hg1 hs1 hen
      obtain ⟨hwx, hkl, hc⟩ := came (unhide Hrep) (x := (x1, x2, x3)) (y := (y1, y2)) hkey hv hat
      have hfit := (unhide Hfit) _ hwx
      have hbf := (unhide Hbf) _ hwx
      have hbg := (unhide Hbg) _ hwx
      have hB1 : Below w.heap.size w w1 := (unhide HB).grown hg1 (unhide HB).size (fun k e => by cases e; exact Nat.le_refl _)
      have hBW : Below w.heap.size w (w1.alloc (.cells #[.int .i64 x1, .int .i64 x2, .int .i64 x3] 127)) := hB1.alloc hB1.size _
      have hfW : WMap (w1.alloc (.cells #[.int .i64 x1, .int .i64 x2, .int .i64 x3] 127)) mb n f := (unhide Hf).kept (hBW.block _ hml)
      have hrun : ∀ q, (Instr.lookup 81 (.map (some mb)) (.agg #[.int .i64 x1, .int .i64 x2, .int .i64 x3]) false).run Tryz.prog ((w1.alloc (.cells #[.int .i64 x1, .int .i64 x2, .int .i64 x3] 127)).drewN q) = .ok (.int .i64 (f (x1, x2, x3))) ((w1.alloc (.cells #[.int .i64 x1, .int .i64 x2, .int .i64 x3] 127)).drewN q) :=
        fun q => WMap.look (x := (x1, x2, x3)) (hfW.drewN q) hwx
      have c1 : w1.cell? ⟨rb, 1, none⟩ = some (.map (some mb)) := by rw [hB1.cell (p := ⟨rb, 1, none⟩) hrl]; exact cell_of_heap (unhide Hr) 1
      have hne : ¬ rb = w1.heap.size := by have := hB1.size; omega
      have hne2 : rb < w1.heap.size := by have := hB1.size; omega
      have Hrg1 := hide hrg1
      have Hrg := hide hrg
      have Hg1 := hide hg1
      have HBW := hide hBW
      generalize hfx : f (x1, x2, x3) = fx at *
      generalize hgx : g (x1, x2, x3) = gx at *
      subst hc
      have t1 : ¬ fx + c < -1000 := by omega
      have t2 : ¬ 1000 < fx + c := by omega
      clear hkey hlk hv hat hrg1 hrg hg1 hs1 hB1 hBW hfW hfit hfx hgx hkl
      go_wp2
      go_quiet (fail)
      go_wp2
      have hq := ((unhide Hrg1).alloc (.cells #[.int .i64 x1, .int .i64 x2, .int .i64 x3] 127))
      have hq' : ((w1.alloc (.cells #[.int .i64 x1, .int .i64 x2, .int .i64 x3] 127)).drewN nq).ranges Tryz.prog 127 (plainElem Tryz.prog 3) cb w.heap.size m D (fun z => left z && !z.sameKey kl) cnt1 := hq
      refine ⟨⟨_, _, hq', (unhide HBW).trans ((Drawn.ofN _ _).below _)⟩, ?_⟩
      rw [hq'.left_eq, (unhide Hrg).left_eq]
      exact hlt

end Go.Proofs.YtgddkjhknlgbbaaGreatDoor

namespace Go.Proofs.YtgddkjhknlgbbaaGreatDoor
open Go.RowKit Go.Maps
attribute [local go_sem ↓] Go.wp_at_zero Go.wp_at_succ

theorem length_le_of_apart {α : Type} : ∀ (l m : List α), l.Pairwise (· ≠ ·) → (∀ x ∈ l, x ∈ m) → l.length ≤ m.length
  | [], _, _, _ => Nat.zero_le _
  | a :: l, m, hp, hs => by
    obtain ⟨m1, m2, rfl⟩ := List.append_of_mem (hs a (List.mem_cons_self))
    have hp' := List.pairwise_cons.1 hp
    have ih := length_le_of_apart l (m1 ++ m2) hp'.2 (fun x hx => by
      have h1 := hs x (List.mem_cons_of_mem _ hx)
      have h2 : x ≠ a := fun e => hp'.1 x hx e.symm
      simp only [List.mem_append, List.mem_cons] at h1 ⊢
      rcases h1 with h | h | h
      · exact Or.inl h
      · exact absurd h h2
      · exact Or.inr h)
    simp only [List.length_append, List.length_cons] at ih ⊢
    omega

theorem has_of_mem {es : List (Lit × DataW Unit)} {p : Lit × DataW Unit} (hp : p ∈ es) (hk : WideAt.IsKeyLit p.1) : Maps.has (.map es) p.1 = true := by
  rw [has_eq]
  exact List.any_eq_true.2 ⟨p, hp, WideAt.sameKey_self hk⟩

/-- A map of weights has no more entries than there are rows that may be. -/
theorem size_le {D : DataW Unit} {h : Row → Int} (hT : Tidy D) (hK : ∀ es, D = .map es → ∀ p ∈ es, WideAt.IsKeyLit p.1) (hr : Rep D h) (G : List Row) (hG : ∀ r, WfRow r → h r ≠ 0 → r ∈ G) : Maps.size D ≤ G.length := by
  obtain ⟨es, rfl, hp⟩ := hT
  have hk := hK es rfl
  have h1 : (es.map (·.1)).length ≤ (G.map rowLit).length := by
    refine length_le_of_apart _ _ (List.pairwise_map.2 hp) (fun x hx => ?_)
    obtain ⟨p, hpm, rfl⟩ := List.mem_map.1 hx
    have hh := has_of_mem hpm (hk p hpm)
    obtain ⟨r, hw, e⟩ := hr.keys _ hh
    rw [e] at hh ⊢
    exact List.mem_map.2 ⟨r, hG r hw ((hr.has_ r hw).1 hh), rfl⟩
  simpa [size_eq] using h1

/-- Keys that are keys, kept by 'put' and 'del'. -/
def Keyish (D : DataW Unit) : Prop := ∀ es, D = .map es → ∀ p ∈ es, WideAt.IsKeyLit p.1

theorem insert_mem {x p : Lit × DataW Unit} : ∀ {l : List (Lit × DataW Unit)}, p ∈ DataW.insert x l → p = x ∨ p ∈ l
  | [], h => by simp [DataW.insert] at h; exact Or.inl h
  | y :: l, h => by
    unfold DataW.insert at h
    split at h
    · simp at h ⊢; exact h
    · simp at h ⊢
      rcases h with h | h
      · exact Or.inr (Or.inl h)
      · rcases insert_mem h with h | h
        · exact Or.inl h
        · exact Or.inr (Or.inr h)

theorem Keyish.put {D : DataW Unit} (h : Keyish D) (hD : IsMap D) (r : Row) (d : DataW Unit) : Keyish (D.put (rowLit r) d) := by
  obtain ⟨es, rfl⟩ := hD
  intro es' he p hp
  simp only [DataW.put, DataW.map.injEq] at he
  subst he
  rcases insert_mem hp with rfl | hp
  · exact rowLit_isKey r
  · exact h es rfl p (List.mem_filter.1 hp).1

theorem Keyish.del {D : DataW Unit} (h : Keyish D) (hD : IsMap D) (k : Lit) : Keyish (D.del k) := by
  obtain ⟨es, rfl⟩ := hD
  intro es' he p hp
  simp only [DataW.del, DataW.map.injEq] at he
  subst he
  exact h es rfl p (List.mem_filter.1 hp).1

theorem own_keyish {w : World} {b n : Nat} {D : DataW Unit} (h : w.ownsMap Tryz.prog 127 (plainElem Tryz.prog 3) b n D) : Keyish D := by
  intro es he
  obtain ⟨es', e1, _, e3⟩ := h.entries law60
  rw [he] at e1
  cases e1
  exact e3

/-- The relation with some of the changes added. -/
structure Part (D : DataW Unit) (f g : Row → Int) (done : Row → Prop) : Prop where
  tidy : Tidy D
  keyish : Keyish D
  rep : ∃ h, Rep D h ∧ (∀ r, WfRow r → done r → h r = f r + g r) ∧ ∀ r, WfRow r → ¬ done r → h r = f r

theorem Part.step {D : DataW Unit} {f g : Row → Int} {done : Row → Prop} (hp : Part D f g done) {x : Row} (hx : WfRow x) (hnd : ¬ done x) :
    ∃ D', Part D' f g (fun r => done r ∨ r = x) ∧
      (f x + g x ≠ 0 → f x = 0 → Maps.size D' = Maps.size D + 1) ∧ (f x + g x ≠ 0 → f x ≠ 0 → Maps.size D' = Maps.size D) ∧ (f x + g x = 0 → f x ≠ 0 → Maps.size D' + 1 = Maps.size D) := by
  obtain ⟨hT, hK, h, hr, hd, hn⟩ := hp
  have hfx := hn x hx hnd
  have hh := hr.has_ x hx
  rw [hfx] at hh
  by_cases hz : f x + g x = 0
  · refine ⟨D.del (rowLit x), ⟨hT.del _, hK.del hT.isMap _, _, hr.del hx, fun r hw hdr => ?_, fun r hw hdr => ?_⟩, fun h => absurd hz h, fun h => absurd hz h, fun _ h0 => ?_⟩
    · unfold upd
      by_cases e : r = x
      · subst e; rw [if_pos rfl, hz]
      · rw [if_neg e]; exact hd r hw (hdr.resolve_right e)
    · unfold upd
      have e : ¬ r = x := fun e => hdr (Or.inr e)
      rw [if_neg e]; exact hn r hw (fun h => hdr (Or.inl h))
    · have := size_del (k := rowLit x) hT
      rw [hh.2 h0] at this
      simpa using this
  · refine ⟨D.put (rowLit x) (.lit (.int .i64 (f x + g x))), ⟨hT.put (rowLit_isKey x) _, hK.put hT.isMap _ _, _, hr.put hT.isMap hx hz, fun r hw hdr => ?_, fun r hw hdr => ?_⟩, fun _ h0 => ?_, fun _ h0 => ?_, fun h => absurd h hz⟩
    · unfold upd
      by_cases e : r = x
      · subst e; rw [if_pos rfl]
      · rw [if_neg e]; exact hd r hw (hdr.resolve_right e)
    · unfold upd
      have e : ¬ r = x := fun e => hdr (Or.inr e)
      rw [if_neg e]; exact hn r hw (fun h => hdr (Or.inl h))
    · have hf : Maps.has D (rowLit x) = false := by
        by_cases e : Maps.has D (rowLit x) = true
        · exact absurd h0 (hh.1 e)
        · simpa using e
      rw [size_put hT, hf]; rfl
    · rw [size_put hT, hh.2 h0]; rfl

end Go.Proofs.YtgddkjhknlgbbaaGreatDoor

namespace Go.Proofs.YtgddkjhknlgbbaaGreatDoor
open Go.RowKit Go.Maps
attribute [local go_sem ↓] Go.wp_at_zero Go.wp_at_succ

theorem Part.congr {D : DataW Unit} {f g : Row → Int} {d d' : Row → Prop} (h : Part D f g d) (he : ∀ r, WfRow r → (d r ↔ d' r)) : Part D f g d' := by
  obtain ⟨hT, hK, k, hr, h1, h2⟩ := h
  exact ⟨hT, hK, k, hr, fun r hw hd => h1 r hw ((he r hw).2 hd), fun r hw hd => h2 r hw (fun x => hd ((he r hw).1 x))⟩

def doneOf (Dg : DataW Unit) (left : Lit → Bool) (r : Row) : Prop := Maps.has Dg (rowLit r) = true ∧ left (rowLit r) = false

theorem done_step {Dg : DataW Unit} {left : Lit → Bool} {x : Row} (hx : WfRow x) (hh : Maps.has Dg (rowLit x) = true) : ∀ r, WfRow r → ((doneOf Dg left r ∨ r = x) ↔ doneOf Dg (fun z => left z && !z.sameKey (rowLit x)) r) := by
  intro r hr
  unfold doneOf
  by_cases e : r = x
  · subst e
    simp [hh, WideAt.sameKey_self (rowLit_isKey r)]
  · have : (rowLit r).sameKey (rowLit x) = false := sameKey_ne (fun e' => e (rowLit_inj hr hx e'))
    simp [this, e]

theorem Part.start {D Dg : DataW Unit} {f g : Row → Int} (hT : Tidy D) (hK : Keyish D) (hr : Rep D f) : Part D f g (doneOf Dg (Maps.has Dg)) :=
  ⟨hT, hK, f, hr, fun r _ h => (by have h1 := h.1; rw [h.2] at h1; cases h1), fun _ _ _ => rfl⟩

/-- When nothing is left the relation is the sum. -/
theorem Part.end_ {D Dg : DataW Unit} {f g : Row → Int} {left : Lit → Bool} (h : Part D f g (doneOf Dg left)) (hg : Rep Dg g) (hl : ∀ kl, left kl = false) : ∃ k, Rep D k ∧ ∀ r, WfRow r → k r = f r + g r := by
  obtain ⟨_, _, k, hr, h1, h2⟩ := h
  refine ⟨k, hr, fun r hw => ?_⟩
  by_cases hh : Maps.has Dg (rowLit r) = true
  · exact h1 r hw ⟨hh, hl _⟩
  · have h0 : g r = 0 := by
      by_cases e : g r = 0
      · exact e
      · exact absurd ((hg.has_ r hw).2 e) hh
    rw [h2 r hw (fun d => hh d.1), h0]; omega

set_option maxRecDepth 100000 in
set_option maxHeartbeats 1000000 in
theorem rows_any (rb mb ar n cb m : Nat) (f g : Row → Int) (G : List Row) (w : World) (hr : w.heap[rb]? = some (.cells #[.int .i64 ar, .map (some mb)] 122 (0, 0))) (hf : WMap w mb n f) (hg : WMap w cb m g) (hnm : n + m ≤ 1000000)
    (hG : ∀ r, WfRow r → f r + g r ≠ 0 → r ∈ G) (hGl : G.length ≤ 16) (hbf : ∀ r, WfRow r → -1000000 ≤ f r ∧ f r ≤ 1000000) (hbg : ∀ r, WfRow r → -1000000 ≤ g r ∧ g r ≤ 1000000) :
    Calls Tryz.prog 68 #[.pointer (some ⟨rb, 0, none⟩), .map (some cb)] w fun e w' => e = .returned (.bool true) ∧ Below w.heap.size w w' := by
  have Hf := hide hf
  obtain ⟨Df, hownf, hrepf⟩ := hf
  obtain ⟨D, hown, hrep⟩ := hg
  have Hr := hide hr
  have Hrepf := hide hrepf
  have Hrep := hide hrep
  have HG := hide hG
  have Hbf := hide hbf
  have Hbg := hide hbg
  have hrl : rb < w.heap.size := (Array.getElem?_eq_some_iff.1 hr).1
  have hml : mb < w.heap.size := hownf.lt
  have d1 : w.cell? ⟨rb, 1, none⟩ = some (.map (some mb)) := cell_of_heap hr 1
  have HP := hide (Part.start (Dg := D) (g := g) (hownf.tidy law60) (own_keyish hownf) hrepf)
  have hsz := hownf.size_le
  have hszg := hown.size_le
  clear hr hrep hrepf hG hbf hbg
  go_enter Tryz.func68, Tryz.ntmps68
  go_wp2_with (first
    | (at_len; refine wpList_len_own _ rfl _ 81 rfl 127 3 Tryz.underlying81 _ mb n Df rfl hownf ?_)
    | (at_range; refine wpList_range_own _ rfl _ 81 rfl 127 3 law60 Tryz.underlying81 _ cb m D rfl hown ?_; intro w0 hrg0 hg0 hs0)
    | go_in)
  go_frame
  go_loopw [5] (fun t wr => ∃ left cnt Dk, wr.ranges Tryz.prog 127 (plainElem Tryz.prog 3) cb w.heap.size m D left cnt ∧ Below w.heap.size w wr ∧ Part Dk f g (doneOf D left) ∧ Maps.size Dk + cnt ≤ n + m ∧ t = .int .i64 (Maps.size Dk)) (fun _ wr => wr.rangeLeft cb w.heap.size)
  case atStart => exact ⟨_, _, Df, hrg0, (Below.refl _ _).grown hg0 (Nat.le_refl _) (fun k e => by cases e), unhide HP, by omega, rfl⟩
  case round =>
    obtain ⟨left, cnt, Dk, hrg, hB, hP, hcnt, rfl⟩ := hrel
    have HB := hide hB
    have HPk := hide hP
    clear hB hP
    obtain ⟨sz, hsk⟩ : ∃ sz, sz = Maps.size Dk := ⟨_, rfl⟩
    rw [← hsk] at hcnt ⊢
    have Hsk := hide hsk
    clear hsk
    go_wp2_with (first
      | (at_next; refine wpList_next_ranges _ rfl _ rfl 127 law60 (plainElem Tryz.prog 3) (fun x : Row => .agg #[.int .i64 x.1, .int .i64 x.2.1, .int .i64 x.2.2]) (Value.int .i64) invRow invInt cb w.heap.size m D left cnt rfl hrg ?_ ?_)
      | go_in)
    · intro _ hl0
      have hle : sz ≤ 16 := by
        obtain ⟨k, hk, hkv⟩ := (unhide HPk).end_ (unhide Hrep) hl0
        have h := size_le (unhide HPk).tidy (unhide HPk).keyish hk G (fun r hw h0 => (unhide HG) r hw (by rw [← hkv r hw]; exact h0))
        rw [unhide Hsk]
        omega
      go_wp2
      go_ret
      exact ⟨by simp; omega, unhide HB⟩
    · intro x1 x2 x3 c kl y1 y2 w1 cnt1 hkey hlk hv hat hrg1 hlt hg1 hs1 hen
      obtain ⟨hwx, hkl, hc⟩ := came (unhide Hrep) (x := (x1, x2, x3)) (y := (y1, y2)) hkey hv hat
      have hhas : Maps.has D (rowLit (x1, x2, x3)) = true := by rw [← hkl]; exact has_true_of_atKey hat
      have hnz : g (x1, x2, x3) ≠ 0 := ((unhide Hrep).has_ _ hwx).1 hhas
      have hnd : ¬ doneOf D left (x1, x2, x3) := fun h => by have h2 := h.2; rw [hkl] at hlk; rw [hlk] at h2; cases h2
      obtain ⟨D', hP', s1, s2, s3⟩ := (unhide HPk).step hwx hnd
      have hP'' := hP'.congr (done_step hwx hhas)
      rw [← hkl] at hP''
      rw [← unhide Hsk] at s1 s2 s3
      have hbf := (unhide Hbf) _ hwx
      have hbg := (unhide Hbg) _ hwx
      have hB1 : Below w.heap.size w w1 := (unhide HB).grown hg1 (unhide HB).size (fun k e => by cases e; exact Nat.le_refl _)
      have hBW : Below w.heap.size w (w1.alloc (.cells #[.int .i64 x1, .int .i64 x2, .int .i64 x3] 127)) := hB1.alloc hB1.size _
      have hfW : WMap (w1.alloc (.cells #[.int .i64 x1, .int .i64 x2, .int .i64 x3] 127)) mb n f := (unhide Hf).kept (hBW.block _ hml)
      have hrun : ∀ q, (Instr.lookup 81 (.map (some mb)) (.agg #[.int .i64 x1, .int .i64 x2, .int .i64 x3]) false).run Tryz.prog ((w1.alloc (.cells #[.int .i64 x1, .int .i64 x2, .int .i64 x3] 127)).drewN q) = .ok (.int .i64 (f (x1, x2, x3))) ((w1.alloc (.cells #[.int .i64 x1, .int .i64 x2, .int .i64 x3] 127)).drewN q) :=
        fun q => WMap.look (x := (x1, x2, x3)) (hfW.drewN q) hwx
      have c1 : w1.cell? ⟨rb, 1, none⟩ = some (.map (some mb)) := by rw [hB1.cell (p := ⟨rb, 1, none⟩) hrl]; exact cell_of_heap (unhide Hr) 1
      have hne : ¬ rb = w1.heap.size := by have := hB1.size; omega
      have hne2 : rb < w1.heap.size := by have := hB1.size; omega
      have hq' : ∀ nq, ((w1.alloc (.cells #[.int .i64 x1, .int .i64 x2, .int .i64 x3] 127)).drewN nq).ranges Tryz.prog 127 (plainElem Tryz.prog 3) cb w.heap.size m D (fun z => left z && !z.sameKey kl) cnt1 := fun _ => hrg1.alloc _
      have Hq := hide hq'
      have Hrg := hide hrg
      have HBW := hide hBW
      have HP'' := hide hP''
      generalize hfx : f (x1, x2, x3) = fx at *
      generalize hgx : g (x1, x2, x3) = gx at *
      subst hc
      clear hkey hlk hv hat hrg1 hrg hg1 hs1 hB1 hBW hfW hfx hgx hkl hP' hP'' hq' hnd
      obtain ⟨sz', hS'⟩ : ∃ sz', sz' = Maps.size D' := ⟨_, rfl⟩
      rw [← hS'] at s1 s2 s3
      have HS' := hide hS'
      clear hS'
      have Hlt := hide hlt
      by_cases h0 : fx = 0
      · have b1 : (fx == 0) = true := by simp [h0]
        have b2 : (c != 0) = true := by simpa using hnz
        have hsz' : Hid (sz' = sz + 1) := s1 (by omega) h0
        clear s1 s2 s3 h0 hnz
        go_wp2
        go_quiet (fail)
        go_wp2
        refine ⟨⟨_, cnt1, D', (unhide Hq) _, (unhide HBW).trans ((Drawn.ofN _ _).below _), unhide HP'', by rw [← unhide HS']; have := unhide hsz'; omega, ?_⟩, ?_⟩
        · rw [← unhide HS']; exact congrArg (Value.int .i64) (by have := unhide hsz'; omega)
        · rw [((unhide Hq) _).left_eq, (unhide Hrg).left_eq]
          exact unhide Hlt
      · by_cases h1 : fx + c = 0
        · have b1 : (fx == 0) = false := by simp [h0]
          have b2 : (fx != 0) = true := by simp [h0]
          have b3 : (fx + c == 0) = true := by simp [h1]
          have hsz' : Hid (sz' + 1 = sz) := s3 h1 h0
          clear s1 s2 s3 h0 h1 hnz
          go_wp2
          go_quiet (fail)
          go_wp2
          refine ⟨⟨_, cnt1, D', (unhide Hq) _, (unhide HBW).trans ((Drawn.ofN _ _).below _), unhide HP'', by rw [← unhide HS']; have := unhide hsz'; omega, ?_⟩, ?_⟩
          · rw [← unhide HS']; exact congrArg (Value.int .i64) (by have := unhide hsz'; omega)
          · rw [((unhide Hq) _).left_eq, (unhide Hrg).left_eq]
            exact unhide Hlt
        · have b1 : (fx == 0) = false := by simp [h0]
          have b2 : (fx != 0) = true := by simp [h0]
          have b3 : (fx + c == 0) = false := by simp [h1]
          have hsz' : Hid (sz' = sz) := s2 h1 h0
          clear s1 s2 s3 h0 h1 hnz
          go_wp2
          go_quiet (fail)
          go_wp2
          refine ⟨⟨_, cnt1, D', (unhide Hq) _, (unhide HBW).trans ((Drawn.ofN _ _).below _), unhide HP'', by rw [← unhide HS']; have := unhide hsz'; omega, ?_⟩, ?_⟩
          · rw [← unhide HS']; exact congrArg (Value.int .i64) (by have := unhide hsz'; omega)
          · rw [((unhide Hq) _).left_eq, (unhide Hrg).left_eq]
            exact unhide Hlt

end Go.Proofs.YtgddkjhknlgbbaaGreatDoor

namespace Go.Proofs.YtgddkjhknlgbbaaGreatDoor
open Go.RowKit Go.Maps
attribute [local go_sem ↓] Go.wp_at_zero Go.wp_at_succ

theorem Rep.congr {D : DataW Unit} {f g : Row → Int} (h : Rep D f) (he : ∀ r, WfRow r → f r = g r) : Rep D g :=
  ⟨fun r hr => by rw [← he r hr]; exact h.at_ r hr, fun r hr => by rw [← he r hr]; exact h.has_ r hr, h.keys⟩

theorem WMap.congr {w : World} {b n : Nat} {f g : Row → Int} (h : WMap w b n f) (he : ∀ r, WfRow r → f r = g r) : WMap w b n g := by
  obtain ⟨D, h1, h2⟩ := h
  exact ⟨D, h1, h2.congr he⟩

structure Half (h f g : Row → Int) (done : Row → Prop) : Prop where
  yes : ∀ r, WfRow r → done r → h r = f r + g r
  no : ∀ r, WfRow r → ¬ done r → h r = f r

theorem Half.step {h f g : Row → Int} {done : Row → Prop} (hh : Half h f g done) {x : Row} (hx : WfRow x) (hnd : ¬ done x) : Half (upd h x (h x + g x)) f g (fun r => done r ∨ r = x) := by
  refine ⟨fun r hw hd => ?_, fun r hw hd => ?_⟩
  · unfold upd
    by_cases e : r = x
    · subst e; rw [if_pos rfl, hh.no r hx hnd]
    · rw [if_neg e]; exact hh.yes r hw (hd.resolve_right e)
  · unfold upd
    have e : ¬ r = x := fun e => hd (Or.inr e)
    rw [if_neg e]; exact hh.no r hw (fun h => hd (Or.inl h))

theorem Half.congr {h f g : Row → Int} {d d' : Row → Prop} (hh : Half h f g d) (he : ∀ r, WfRow r → (d r ↔ d' r)) : Half h f g d' :=
  ⟨fun r hw hd => hh.yes r hw ((he r hw).2 hd), fun r hw hd => hh.no r hw (fun x => hd ((he r hw).1 x))⟩

theorem below_grown {w w' : World} (h : Below w.heap.size w w') (row : Option Nat) : w.grownBy w' row := ⟨h.os, h.tape, h.output, h.size, fun k hk _ => h.block k hk⟩

theorem add_agg (b n : Nat) (f : Row → Int) (x1 x2 x3 : Int) (x : Int) (w : World) (h : WMap w b n f) (hn : n < 2000000000) (hr : WfRow (x1, x2, x3)) (h1 : -1000000 ≤ f (x1, x2, x3)) (h2 : f (x1, x2, x3) ≤ 1000000) (h3 : -1000000 ≤ x) (h4 : x ≤ 1000000) :
    Calls Tryz.prog 65 #[.map (some b), .agg #[.int .i64 x1, .int .i64 x2, .int .i64 x3], .int .i64 x] w fun e w' => e = .returned (.tuple #[]) ∧ WMap w' b (n + 1) (upd f (x1, x2, x3) (f (x1, x2, x3) + x)) ∧ w.grownBy w' (some b) :=
  add_any b n f (x1, x2, x3) x w h hn hr h1 h2 h3 h4

set_option maxRecDepth 100000 in
set_option maxHeartbeats 1000000 in
theorem relAdd_any (rb mb ar n cb m : Nat) (f g : Row → Int) (w : World) (hr : w.heap[rb]? = some (.cells #[.int .i64 ar, .map (some mb)] 122 (0, 0))) (hf : WMap w mb n f) (hg : WMap w cb m g) (hnm : n + m ≤ 1000000000) (hcm : cb ≠ mb)
    (hbf : ∀ r, WfRow r → -100000 ≤ f r ∧ f r ≤ 100000) (hbg : ∀ r, WfRow r → -100000 ≤ g r ∧ g r ≤ 100000) :
    Calls Tryz.prog 35 #[.pointer (some ⟨rb, 0, none⟩), .map (some cb)] w fun e w' => e = .returned (.tuple #[]) ∧ WMap w' mb (n + m) (fun r => f r + g r) ∧ w.grownBy w' (some mb) := by
  have Hf := hide hf
  obtain ⟨D, hown, hrep⟩ := hg
  have Hr := hide hr
  have Hrep := hide hrep
  have Hbf := hide hbf
  have Hbg := hide hbg
  have hrl : rb < w.heap.size := (Array.getElem?_eq_some_iff.1 hr).1
  have hml : mb < w.heap.size := hf.lt
  have hcl : cb < w.heap.size := hown.lt
  have hszg := hown.size_le
  have hrm : rb ≠ mb := fun e => by
    obtain ⟨_, ⟨_, _, h1, _⟩, _⟩ := hf
    rw [e, h1] at hr
    cases hr
  clear hr hrep hbf hbg hf
  go_enter Tryz.func35, Tryz.ntmps35
  go_wp2_with (first
    | (at_range; refine wpList_range_own _ rfl _ 81 rfl 127 3 law60 Tryz.underlying81 _ cb m D rfl hown ?_; intro w0 hrg0 hg0 hs0)
    | go_in)
  go_frame
  go_loopw [8] (fun _ wr => ∃ left cnt N h, wr.ranges Tryz.prog 127 (plainElem Tryz.prog 3) cb w.heap.size m D left cnt ∧ w.grownBy wr (some mb) ∧ WMap wr mb N h ∧ Half h f g (doneOf D left) ∧ N + cnt ≤ n + m) (fun _ wr => wr.rangeLeft cb w.heap.size)
  case atStart =>
    refine ⟨_, _, n, f, hrg0, hg0.but _, (unhide Hf).kept (hg0.block _ hml (by simp)), ⟨fun r _ h => (by have h1 := h.1; rw [h.2] at h1; cases h1), fun _ _ _ => rfl⟩, by omega⟩
  case round =>
    obtain ⟨left, cnt, N, h, hrg, hB, hW, hH, hcnt⟩ := hrel
    have HB := hide hB
    have HW := hide hW
    have HH := hide hH
    clear hB hW hH
    go_wp2_with (first
      | (at_next; refine wpList_next_ranges _ rfl _ rfl 127 law60 (plainElem Tryz.prog 3) (fun x : Row => .agg #[.int .i64 x.1, .int .i64 x.2.1, .int .i64 x.2.2]) (Value.int .i64) invRow invInt cb w.heap.size m D left cnt rfl hrg ?_ ?_)
      | go_in)
    · intro _ hl0
      go_wp2
      go_end0
      refine ⟨rfl, ((unhide HW).mono (by omega)).congr (fun r hw => ?_), unhide HB⟩
      by_cases hh : Maps.has D (rowLit r) = true
      · exact (unhide HH).yes r hw ⟨hh, hl0 _⟩
      · have h0 : g r = 0 := by
          by_cases e : g r = 0
          · exact e
          · exact absurd (((unhide Hrep).has_ r hw).2 e) hh
        rw [(unhide HH).no r hw (fun d => hh d.1), h0]; omega
    · intro x1 x2 x3 c kl y1 y2 w1 cnt1 hkey hlk hv hat hrg1 hlt hg1 hs1 hen
      obtain ⟨hwx, hkl, hc⟩ := came (unhide Hrep) (x := (x1, x2, x3)) (y := (y1, y2)) hkey hv hat
      have hhas : Maps.has D (rowLit (x1, x2, x3)) = true := by rw [← hkl]; exact has_true_of_atKey hat
      have hnd : ¬ doneOf D left (x1, x2, x3) := fun h => by have h2 := h.2; rw [hkl] at hlk; rw [hlk] at h2; cases h2
      have hH' := ((unhide HH).step hwx hnd).congr (done_step hwx hhas)
      rw [← hkl] at hH'
      have hbf := (unhide Hbf) _ hwx
      have hbg := (unhide Hbg) _ hwx
      have hhx := (unhide HH).no _ hwx hnd
      have hx1 : -1000000 ≤ h (x1, x2, x3) := by omega
      have hx2 : h (x1, x2, x3) ≤ 1000000 := by omega
      have hx3 : -1000000 ≤ c := by omega
      have hx4 : c ≤ 1000000 := by omega
      have Hc := hide hc
      clear hc hhx hbf hbg
      have hsz1 : w.heap.size ≤ w1.heap.size := Nat.le_trans (unhide HB).size hg1.size
      have hB1 : w.grownBy w1 (some mb) := (unhide HB).andThen hg1 (fun j e => by cases e; exact Or.inl (Nat.le_refl _))
      have hBW : w.grownBy (w1.alloc (.cells #[.int .i64 x1, .int .i64 x2, .int .i64 x3] 127)) (some mb) := hB1.andThen (World.grownBy_alloc _ _ none) (fun j e => by cases e)
      have hWW : WMap (w1.alloc (.cells #[.int .i64 x1, .int .i64 x2, .int .i64 x3] 127)) mb N h := ((unhide HW).kept (hg1.block _ (unhide HW).lt (by simp; omega))).kept (Below.heap_alloc _ _ _ (by omega))
      have c1 : w1.cell? ⟨rb, 1, none⟩ = some (.map (some mb)) := by rw [World.cell?_of_block (a := ⟨rb, 1, none⟩) (hB1.block rb hrl (by simpa using hrm))]; exact cell_of_heap (unhide Hr) 1
      have hne : ¬ rb = w1.heap.size := by omega
      have hne2 : rb < w1.heap.size := by omega
      have hq' : (w1.alloc (.cells #[.int .i64 x1, .int .i64 x2, .int .i64 x3] 127)).ranges Tryz.prog 127 (plainElem Tryz.prog 3) cb w.heap.size m D (fun z => left z && !z.sameKey kl) cnt1 := hrg1.alloc _
      have Hq := hide hq'
      have Hrg := hide hrg
      have HBW := hide hBW
      have HH' := hide hH'
      have HWW := hide hWW
      have Hlt := hide hlt
      clear hkey hlk hv hat hrg1 hrg hg1 hs1 hBW hkl hH' hq' hnd hWW hB1 hlt
      go_wp2
      have kE : (w1.alloc (.cells #[.int .i64 x1, .int .i64 x2, .int .i64 x3] 127)).heap[w1.heap.size]? = some (.cells #[.int .i64 x1, .int .i64 x2, .int .i64 x3] 127 (0, 0)) := heap_last w1 _ _ rfl
      have c1' : (w1.alloc (.cells #[.int .i64 x1, .int .i64 x2, .int .i64 x3] 127)).cell? ⟨rb, 1, none⟩ = some (.map (some mb)) := by rw [World.cell?_of_block (a := ⟨rb, 1, none⟩) (Below.heap_alloc _ _ _ (by omega))]; exact c1
      have hsW : w1.heap.size < (w1.alloc (.cells #[.int .i64 x1, .int .i64 x2, .int .i64 x3] 127)).heap.size := by simp
      clear hen c1
      generalize w1.alloc (.cells #[.int .i64 x1, .int .i64 x2, .int .i64 x3] 127) = W at *
      have e0 : W.cell? ⟨w1.heap.size, 0, none⟩ = some (.int .i64 x1) := cell_of_heap kE 0
      have e1 : W.cell? ⟨w1.heap.size, 1, none⟩ = some (.int .i64 x2) := cell_of_heap kE 1
      have e2 : W.cell? ⟨w1.heap.size, 2, none⟩ = some (.int .i64 x3) := cell_of_heap kE 2
      clear kE
      go_region_held3 (fun W' => W'.cell? ⟨rb, 1, none⟩ = some (.map (some mb)) ∧ W'.cell? ⟨w1.heap.size, 0, none⟩ = some (.int .i64 x1) ∧ W'.cell? ⟨w1.heap.size, 1, none⟩ = some (.int .i64 x2) ∧ W'.cell? ⟨w1.heap.size, 2, none⟩ = some (.int .i64 x3))
        (first
          | go_keep
          | (go_split_ands; refine ⟨?_, ?_, ?_, ?_⟩ <;> (rw [World.cell?_of_block (hg2.block _ (by simp; omega) (by simp; omega))]; assumption)))
        (first
          | (go_at_call 65; refine (add_agg mb N h x1 x2 x3 c _ ?_ (by omega) hwx hx1 hx2 hx3 hx4).mono ?_; exact (unhide HWW); rintro e w2 ⟨rfl, hm2, hg2⟩))
      have hg2' : W.grownBy w2 (some mb) := ⟨hg2.os, hg2.tape, hg2.output, hg2.size, hg2.block⟩
      have hR := (unhide Hq).kept hg2' (by simpa using hcm) (by simp; omega)
      have HR := hide hR
      have Hg2 := hide hg2'
      have Hm2 := hide hm2
      clear hR hg2 hg2' hm2 e0 e1 e2 c1'
      go_wp2
      refine ⟨⟨_, cnt1, N + 1, _, unhide HR, (unhide HBW).andThen (unhide Hg2) (fun j e => Or.inr e), unhide Hm2, ?_, by have := unhide Hlt; omega⟩, ?_⟩
      · rw [unhide Hc]; exact unhide HH'
      · rw [(unhide HR).left_eq, (unhide Hrg).left_eq]; exact unhide Hlt

end Go.Proofs.YtgddkjhknlgbbaaGreatDoor
