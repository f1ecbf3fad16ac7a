import Derived.Test.YtgddkjhknlgbbaaGreatDoorM10
import Derived.RangeFuncNested
import Derived.RangeFuncBound
import Derived.RangeFuncCalls
import Derived.RangeFuncLeaves
import Derived.Shelf.Abstract
import Derived.Shelf.RegionOpen
import Derived.OwnWalkIn
import Derived.TacticsInMore
import Derived.LoopNIn
import Derived.LoopIn
import Derived.Maps.OwnIn
import Derived.Sort.MapsRangeIn
import Derived.Test.YtgddkjhknlgbbaaGreatDoorM07
set_option linter.unusedVariables false
set_option linter.unusedSimpArgs false

namespace Go.Proofs.YtgddkjhknlgbbaaGreatDoor
open Go.RowKit Go.Maps Go.Sort Go.Shelf

/-- The rows of a map of weights, each once, in some order. -/
structure KeysOf (D : DataW Unit) (left : Lit → Bool) (xs : List Row) : Prop where
  wf : ∀ x ∈ xs, WfRow x
  apart : xs.Pairwise (· ≠ ·)
  mem : ∀ r, WfRow r → (r ∈ xs ↔ Maps.has D (rowLit r) = true ∧ left (rowLit r) = false)

theorem KeysOf.start (D : DataW Unit) : KeysOf D (Maps.has D) [] :=
  ⟨fun x hx => by simp at hx, List.Pairwise.nil, fun r _ => by simp⟩

theorem KeysOf.step {D : DataW Unit} {left : Lit → Bool} {xs : List Row} (h : KeysOf D left xs) {x : Row} (hx : WfRow x) (hh : Maps.has D (rowLit x) = true) (hl : left (rowLit x) = true) : KeysOf D (fun z => left z && !z.sameKey (rowLit x)) (xs ++ [x]) := by
  have hnx : x ∉ xs := fun hm => by have := ((h.mem x hx).1 hm).2; rw [hl] at this; cases this
  refine ⟨fun y hy => ?_, ?_, fun r hr => ?_⟩
  · rcases List.mem_append.1 hy with hy | hy
    · exact h.wf y hy
    · simp at hy; subst hy; exact hx
  · refine List.pairwise_append.2 ⟨h.apart, by simp, fun a ha b hb => ?_⟩
    simp at hb
    subst hb
    exact fun e => hnx (e ▸ ha)
  · simp only [List.mem_append, List.mem_singleton]
    rw [h.mem r hr]
    have := done_step (Dg := D) (left := left) hx hh r hr
    unfold doneOf at this
    exact this

set_option maxRecDepth 100000 in
set_option maxHeartbeats 1000000 in
theorem keys1_in (n : Nat) (hn : 1 ≤ n) (l Bm b nn : Nat) (D : DataW Unit) (g : Row → Int) (hrep : Rep D g) (J Jx : List Row → World → Prop)
    (hY : ∀ pre x W, J pre W → pre.length < Maps.size D → YieldAt Fence.wide (n - 1) Tryz.prog l #[.agg #[.int .i64 x.1, .int .i64 x.2.1, .int .i64 x.2.2]] W fun e W' =>
      (e = .returned (.bool true) ∧ J (pre ++ [x]) W' ∧ KeepsWalks W W') ∨ (e = .returned (.bool false) ∧ Jx (pre ++ [x]) W'))
    (W : World) (hJ : AbidesFrom W.heap.size J) (hm : W.cell? ⟨Bm, 0, none⟩ = some (.map (some b))) (hown : W.ownsMap Tryz.prog 127 (plainElem Tryz.prog 3) b nn D) (h0 : J [] W) :
    CallsIn Fence.wide n Tryz.prog 121 #[.func (.yield l) #[] #[], .pointer (some ⟨Bm, 0, none⟩)] W fun e W' => (∃ v, e = .returned v) ∧
      ((∃ xs, KeysOf D (fun _ => false) xs ∧ J xs W') ∨ (∃ pre, True ∧ Jx pre W')) := by
  refine callsIn_of_wp Tryz.func121 rfl trivial ?_ rfl
  simp only [Tryz.ntmps121, List.size_toArray, List.length_cons, List.length_nil, Nat.reduceAdd, Nat.reduceSub, Array.replicate_succ, Array.replicate_zero, List.push_toArray, List.append_toArray, List.nil_append, List.cons_append]
  gi_wp2_with (first
    | (gi_at_range; refine wpListIn_range_own _ rfl _ 81 rfl 127 3 law60 Tryz.underlying81 _ b nn _ rfl hown ?_; intro w0 hrg0 hg0 hs0)
    | gi_in)
  go_frame
  gi_loopw [6] (fun _ wr => ∃ (left : Lit → Bool) (cnt : Nat) (ss : List Row), wr.ranges Tryz.prog 127 (plainElem Tryz.prog 3) b W.heap.size nn D left cnt ∧ ss.length + cnt ≤ Maps.size D ∧ KeysOf D left ss ∧ J ss wr) (fun _ wr => wr.rangeLeft b W.heap.size)
  case atStart => exact ⟨_, _, [], hrg0, by simp, KeysOf.start D, hJ [] W w0 none h0 hg0 (fun r e => by cases e)⟩
  case round =>
    obtain ⟨left, cnt, ss, hrg, hcs, hC, hJs⟩ := hrel
    gi_wp2_with (first
      | (gi_at_next; refine wpListIn_next_ranges _ rfl _ rfl 127 law60 (plainElem Tryz.prog 3) (fun x : Row => .agg #[.int .i64 x.1, .int .i64 x.2.1, .int .i64 x.2.2]) (Value.int .i64) invRow invInt b W.heap.size nn D left cnt rfl hrg ?_ ?_)
      | gi_in)
    · intro _ hl0
      gi_wp2
      go_end0
      exact ⟨⟨_, rfl⟩, .inl ⟨ss, ⟨hC.wf, hC.apart, fun r hr => by rw [hC.mem r hr, hl0]⟩, hJs⟩⟩
    · intro x1 x2 x3 c kl y1 y2 w1 cnt1 hkey hlk hv hat hrg1 hlt hg1 hs1 hen
      obtain ⟨hwx, hkl, hc⟩ := came hrep (x := (x1, x2, x3)) (y := (y1, y2)) hkey hv hat
      have hhas : Maps.has D (rowLit (x1, x2, x3)) = true := by rw [← hkl]; exact has_true_of_atKey hat
      have hJ1 : J ss w1 := hJ ss wr w1 (some W.heap.size) hJs hg1 (fun r e => by cases e; exact ⟨Nat.le_refl _, hrg.iter_walk⟩)
      have hJ2 : J ss (w1.alloc (.cells #[.int .i64 x1, .int .i64 x2, .int .i64 x3] 127)) := hJ ss w1 _ none hJ1 (World.grownBy_alloc _ _ none) (fun r e => by cases e)
      obtain ⟨fn, tmps, assign, body, hy, hR⟩ := hY ss (x1, x2, x3) _ hJ2 (by omega)
      rw [hkl] at hlk hrg1
      have hC2 := hC.step hwx hhas hlk
      have hrg2 := hrg1.alloc (.cells #[.int .i64 x1, .int .i64 x2, .int .i64 x3] 127)
      dsimp only at hy
      clear hkey hv hat hs1 hc hkl
      gi_wp2
      refine hR.mono ?_
      rintro e W3 (⟨rfl, hJ3, hk3⟩ | ⟨rfl, hJx3⟩)
      · gi_wp2
        have hrg3 := hrg2.of_walks hk3
        go_roundw
        case rel => exact ⟨_, cnt1, ss ++ [(x1, x2, x3)], hrg3, by simp; omega, hC2, hJ3⟩
        case measure => rw [hrg3.left_eq, hrg.left_eq]; exact hlt
      · gi_wp2
        refine bodyPost_ret (results_none rfl _ _ _) rfl ?_
        exact ⟨⟨_, rfl⟩, .inr ⟨ss ++ [(x1, x2, x3)], trivial, hJx3⟩⟩

end Go.Proofs.YtgddkjhknlgbbaaGreatDoor

namespace Go.Proofs.YtgddkjhknlgbbaaGreatDoor
open Go.RowKit Go.Maps Go.Sort Go.Shelf
attribute [local go_sem] Oper.semAt_some

theorem Tryz.info127 : (Tryz.prog.info? 127).map (fun i => (i.zero, i.size, i.bytes)) = some (some (.agg #[.int .i64 0, .int .i64 0, .int .i64 0]), 3, 24) := by kernel_rfl

def flatR (xs : List Row) : List Value := xs.flatMap encR

set_option maxRecDepth 100000 in
set_option maxHeartbeats 2000000 in
theorem appendSeq_in (n : Nat) (hn : 3 ≤ n) (Bm b nn : Nat) (D : DataW Unit) (g : Row → Int) (hrep : Rep D g) (w : World) (hm : w.cell? ⟨Bm, 0, none⟩ = some (.map (some b))) (hown : w.ownsMap Tryz.prog 127 (plainElem Tryz.prog 3) b nn D) (hnn : nn ≤ 1000000000) :
    CallsIn Fence.wide n Tryz.prog 127 #[.slice none 0 0, .func (.func 121) #[] #[.pointer (some ⟨Bm, 0, none⟩)]] w fun e w' => ∃ v xs, e = .returned v ∧ KeysOf D (fun _ => false) xs ∧ w'.ownsRow w.heap.size 127 3 v xs.length (flatR xs) ∧ Below w.heap.size w w' := by
  have h1 : 1 ≤ n := by omega
  refine callsIn_of_wp_marks Tryz.func127 rfl trivial ?_ rfl
  simp only [Tryz.ntmps127, List.size_toArray, List.length_cons, List.length_nil, Nat.reduceAdd, Nat.reduceSub, Array.replicate_succ, Array.replicate_zero, List.push_toArray, List.append_toArray, List.nil_append, List.cons_append]
  gi_wp2
  have bS0 := Boxed.new w 190 (.slice none 0 0)
  have hB0 : Below w.heap.size w (w.alloc (.cells #[.slice none 0 0] 190)) := (Below.refl _ w).alloc (Nat.le_refl _) _
  have hm0 : (w.alloc (.cells #[.slice none 0 0] 190)).cell? ⟨Bm, 0, none⟩ = some (.map (some b)) := (hB0.cell (p := ⟨Bm, 0, none⟩) (World.block_lt_of_cell? w _ hm)).trans hm
  have hBm : Bm < w.heap.size := World.block_lt_of_cell? w _ hm
  have hown0 := hown.alloc (.cells #[.slice none 0 0] 190)
  have hsz : (w.alloc (.cells #[.slice none 0 0] 190)).heap.size = w.heap.size + 1 := by simp
  obtain ⟨W0, hW0⟩ : ∃ W0, w.alloc (.cells #[.slice none 0 0] 190) = W0 := ⟨_, rfl⟩
  rw [hW0] at bS0 hB0 hm0 hown0 hsz ⊢
  clear hW0
  have hsD : Maps.size D ≤ nn := hown.size_le
  have hseq : SeqStopsK Fence.wide (n - 1) Tryz.prog 121 #[.pointer (some ⟨Bm, 0, none⟩)] (fun x : Row => #[Value.agg #[.int .i64 x.1, .int .i64 x.2.1, .int .i64 x.2.2]]) KeepsWalks (KeysOf D (fun _ => false)) (fun _ => True) (Maps.size D) W0 := fun l J Jx W hW hJ _ hY h0 => by
    refine keys1_in (n - 1) (by omega) l Bm b nn D g hrep J Jx hY W hJ ((hW.cell (p := ⟨Bm, 0, none⟩) (show Bm < _ by omega)).trans hm0) ?_ h0
    have hbl := hown0.lt
    obtain ⟨es, clock, hb, Ft, hs, hD⟩ := hown0
    exact ⟨es, clock, (hW.block b hbl).trans hb, Ft, hs, hD⟩
  obtain ⟨i60, hi, hz0, hz1, hz2⟩ := info_parts Tryz.info127
  refine wpIn_rangeFunc_ownH rfl h1 (gf := 121) (lb := #[.pointer (some ⟨Bm, 0, none⟩)]) rfl trivial (enters_of Tryz.func121 (by kernel_rfl) rfl) hseq walksK_t walksK_b (Below.refl _ _) (fun _ => rfl)
    (fun pre W => (∃ v, Boxed W w.heap.size 190 v ∧ W.ownsRow w.heap.size 127 3 v pre.length (flatR pre) ∧ True) ∧ Below w.heap.size w W)
    (fun _ _ _ => False)
    (OwnFrom.and (Own.from (holdsRow_own w.heap.size w.heap.size 190 127 3 (fun pre : List Row => pre.length) flatR (fun _ _ => True)) _) (ownFrom_below (Nat.le_refl _) (by omega)))
    (fun _ _ _ _ _ hs _ _ => hs)
    ⟨⟨_, bS0, World.ownsRow_nil _ _ _ _, trivial⟩, hB0⟩
    (fun x a' W => ∃ Bx, w.heap.size < Bx ∧ W.heap[Bx]? = some (.cells #[.int .i64 x.1, .int .i64 x.2.1, .int .i64 x.2.2] 127 (0, 0)) ∧
      a' = { tmps := #[.slice none 0 0, .func (.func 121) #[] #[.pointer (some ⟨Bm, 0, none⟩)], .pointer (some ⟨w.heap.size, 0, none⟩), undef, .slice none 0 0, .pointer (some ⟨Bx, 0, none⟩), .func (.func 121) #[] #[.pointer (some ⟨Bm, 0, none⟩)], .agg #[.int .i64 x.1, .int .i64 x.2.1, .int .i64 x.2.2], undef, undef, undef, undef, undef], defers := [] })
    (fun x a' _ X Y row hs hg hr => by
      obtain ⟨Bx, h1, h2, h3⟩ := hs
      refine ⟨Bx, h1, (hg.block Bx (Array.getElem?_eq_some_iff.1 h2).1 (fun e => ?_)).trans h2, h3⟩
      obtain ⟨_, o, ho, hc⟩ := hr Bx e.symm
      rw [h2] at ho
      cases ho
      cases hc)
    ?assign ?body ?done ?stop
  case assign =>
    rintro l pre x W K ⟨⟨v, bS, hrow, _⟩, hB⟩ hK
    gi_wp2
    exact hK _ _ ((KeepsOthers.alloc _ _).from _) (KeepsWalks.alloc _ _) ⟨⟨v, bS.alloc _, hrow.alloc _, trivial⟩, hB.alloc hB.size _⟩ ⟨W.heap.size, bS.lt, heap_last _ _ _ rfl, rfl⟩
  case body =>
    rintro l pre x a' W hl ⟨r, hr⟩ ⟨⟨v, bS, hrow, _⟩, hB⟩ ⟨Bx, hBx, hX, rfl⟩ hlt
    obtain ⟨x1, x2, x3⟩ := x
    dsimp only at hX ⊢
    have c0 : W.cell? ⟨Bx, 0, none⟩ = some (.int .i64 x1) := cell_of_heap hX 0
    have c1 : W.cell? ⟨Bx, 1, none⟩ = some (.int .i64 x2) := cell_of_heap hX 1
    have c2 : W.cell? ⟨Bx, 2, none⟩ = some (.int .i64 x3) := cell_of_heap hX 2
    have cS := bS.cell
    have hBs := hB.size
    have hnew := cells3_new W (.int .i64 x1) (.int .i64 x2) (.int .i64 x3) 127
    gi_wp2_with (first
      | (gi_at_builtin; refine wpListIn_append_own _ rfl _ _ 190 rfl w.heap.size 127 i60 _ 3 24 Tryz.underlying190 hi hz0 hz1 hz2 rfl (by decide) _ _ _ rfl (hrow.alloc _) ⟨W.heap.size, 0, none⟩ 1 1 [.int .i64 x1, .int .i64 x2, .int .i64 x3] rfl rfl hnew (by simp [Value.oneCell']) (by unfold maxLen; omega) (by omega) (by simp; omega) ?_; intro v' w1 hown' hgrow _; obtain ⟨g', cap', rfl⟩ := own_succ hown'; obtain ⟨hv1, hv2, hr2, hk2, hb2⟩ := bS.appended (by decide) hrow hB.size (Nat.le_refl _) hown' hgrow; have hc1 := hv1.cell; have hf1 := hv1.frozen))
    refine ⟨hk2.from _, ⟨hk2.size, fun k o hk ho => hk2.same k o hk (Obj.not_cells_of_walk ho)⟩, ⟨_, hv2, ?_, trivial⟩, hB.trans hb2⟩
    have e : flatR (pre ++ [(x1, x2, x3)]) = flatR pre ++ [.int .i64 x1, .int .i64 x2, .int .i64 x3] := by simp [flatR, encR]
    rw [e]
    simpa using hr2
  case done =>
    rintro D ys W hD hS ⟨⟨v, bS, hrow, _⟩, hB⟩ hK
    have cS := bS.cell
    gi_wp2
    refine ⟨by simp, .inl ⟨_, _, rfl, run_takeDeferred hK, ?_⟩⟩
    exact ⟨_, results_tmp rfl _ _ _, v, ys, rfl, hS, ownsRow_putObj hrow _ hK rfl, hB.trans (belowK_b (w := w) (Nat.le_refl _) W D _ _ (by omega) hK rfl rfl)⟩
  case stop =>
    rintro D c pre W _ _ h _
    exact h.elim

end Go.Proofs.YtgddkjhknlgbbaaGreatDoor

namespace Go.Proofs.YtgddkjhknlgbbaaGreatDoor
open Go.RowKit Go.Maps Go.Sort Go.Shelf

theorem collect_any (Bm b nn : Nat) (D : DataW Unit) (g : Row → Int) (hrep : Rep D g) (w : World) (hm : w.cell? ⟨Bm, 0, none⟩ = some (.map (some b))) (hown : w.ownsMap Tryz.prog 127 (plainElem Tryz.prog 3) b nn D) (hnn : nn ≤ 1000000000) :
    Calls Tryz.prog 119 #[.func (.func 121) #[] #[.pointer (some ⟨Bm, 0, none⟩)]] w fun e w' => ∃ v xs, e = .returned v ∧ KeysOf D (fun _ => false) xs ∧ w'.ownsRow w.heap.size 127 3 v xs.length (flatR xs) ∧ RowKit.Below w.heap.size w w' := by
  have H := hide ((callsIn_wide (n := 3)).1 (appendSeq_in 3 (by omega) Bm b nn D g hrep w hm hown hnn))
  clear hrep hm hown
  go_enter Tryz.func119, Tryz.ntmps119
  go_wp2_with fail
  refine (unhide H).mono ?_
  rintro e w1 ⟨v, xs, rfl, hK, ho, hb⟩
  clear H
  go_wp2
  go_ret
  exact ⟨v, xs, rfl, hK, ho, hb⟩

theorem mapsKeys_any (b : Nat) (w : World) : Calls Tryz.prog 100 #[.map (some b)] w fun e w' => e = .returned (.func (.func 121) #[] #[.pointer (some ⟨w.heap.size, 0, none⟩)]) ∧ w' = w.alloc (.cells #[.map (some b)] 81) := by
  go_enter Tryz.func100, Tryz.ntmps100
  go_wp2
  go_ret
  exact ⟨rfl, rfl⟩

theorem grown_sort (w : World) (blk n : Nat) (d : Array Row) (os : Array Obj) : w.grownBy (sortWorldK encR 3 w blk 0 n d os) (some blk) := by
  refine ⟨rfl, rfl, rfl, by simp [sortWorldK, grow, putRowK, putRow, mapBlock, Sort.ahead], fun k hk hne => ?_⟩
  have hk' : k ≠ blk := fun e => hne (by rw [e])
  simp only [sortWorldK, grow, putRowK, putRow, mapBlock, Sort.ahead]
  rw [Array.getElem?_append_left (by simpa using hk), Array.getElem?_modify, if_neg (fun e => hk' e.symm)]

/-- The slice v reads as the rows ys, three cells each. -/
def TripsAt (w : World) (v : Value) (ys : List Row) : Prop :=
  ∃ a cap, v = .slice a ys.length cap ∧ ∀ i, i < ys.length → ∃ b, a = some ⟨b, 0, none⟩ ∧ w.cell? ⟨b, i * 3, none⟩ = some (.int .i64 (ys[i]?.getD (0, 0, 0)).1) ∧
    w.cell? ⟨b, i * 3 + 1, none⟩ = some (.int .i64 (ys[i]?.getD (0, 0, 0)).2.1) ∧ w.cell? ⟨b, i * 3 + 2, none⟩ = some (.int .i64 (ys[i]?.getD (0, 0, 0)).2.2)

theorem flatR_len (xs : List Row) : (flatR xs).length = xs.length * 3 := by
  induction xs with
  | nil => rfl
  | cons p ps ih => simp only [flatR, List.flatMap_cons, List.length_append, List.length_cons] at ih ⊢; rw [ih]; simp [encR]; omega

theorem flatR_at (xs : List Row) (i j : Nat) (hi : i < xs.length) (hj : j < 3) : (flatR xs)[i * 3 + j]? = (encR xs[i])[j]? := by
  induction xs generalizing i with
  | nil => simp at hi
  | cons p ps ih =>
    have hl : (encR p).length = 3 := rfl
    have e : flatR (p :: ps) = encR p ++ flatR ps := rfl
    rw [e]
    cases i with
    | zero => rw [List.getElem?_append_left (by rw [hl]; omega)]; simp
    | succ i =>
      have h2 : (i + 1) * 3 + j - 3 = i * 3 + j := by omega
      rw [List.getElem?_append_right (by rw [hl]; omega), hl, h2, ih i (by simpa using hi)]
      simp

theorem holds_of_own {w : World} {base g cap : Nat} {xs : List Row} (h : w.ownsRow base 127 3 (.slice (some ⟨g, 0, none⟩) xs.length cap) xs.length (flatR xs)) : HoldsK encR 3 w g 0 xs.toArray := by
  intro j hj
  rw [size_flatK] at hj
  have hj' : j < xs.length * 3 := by simpa using hj
  rw [get_flatK _ _ _ _ hj, Nat.zero_add, h.cellAt j hj', h.frozenAt j]
  refine ⟨?_, rfl⟩
  have hd : j / 3 < xs.length := by omega
  have hm : j % 3 < 3 := Nat.mod_lt _ (by omega)
  have e : j = j / 3 * 3 + j % 3 := by omega
  have := flatR_at xs (j / 3) (j % 3) hd hm
  rw [← e] at this
  rw [this]
  have e2 : xs.toArray[j / 3]! = xs[j / 3] := by simp [hd]
  rw [e2]
  have hl : j % 3 < (encR xs[j / 3]).length := by simp [encR]; omega
  simp [hl]

theorem trips_of_holds {w : World} {g cap : Nat} {d : Array Row} (h : HoldsK encR 3 w g 0 d) : TripsAt w (.slice (some ⟨g, 0, none⟩) d.size cap) d.toList := by
  refine ⟨some ⟨g, 0, none⟩, cap, by simp, fun i hi => ⟨g, rfl, ?_⟩⟩
  have hi' : i < d.size := by simpa using hi
  have e : d.toList[i]?.getD (0, 0, 0) = d[i]! := by simp [hi']
  rw [e]
  have h0 := (h.cell (i := i) (c := 0) hi' (by omega)).1
  have h1 := (h.cell (i := i) (c := 1) hi' (by omega)).1
  have h2 := (h.cell (i := i) (c := 2) hi' (by omega)).1
  simp only [Nat.zero_add, Nat.add_zero] at h0 h1 h2
  exact ⟨h0, h1, h2⟩

/-- Rows in strict order. -/
def Rising (ys : List Row) : Prop := ys.Pairwise ltR

theorem ltR_total (x y : Row) (h : ¬ ltR y x) (hne : x ≠ y) : ltR x y := by
  unfold ltR at *
  by_cases h1 : x.1 = y.1
  · by_cases h2 : x.2.1 = y.2.1
    · by_cases h3 : x.2.2 = y.2.2
      · exact absurd (Prod.ext h1 (Prod.ext h2 h3)) hne
      · omega
    · omega
  · omega

theorem rising_of_sorted {d : Array Row} (h : SortedIn (ltOf cmpR) 0 d.size d) (hp : d.toList.Pairwise (· ≠ ·)) : Rising d.toList := by
  unfold Rising
  rw [List.pairwise_iff_getElem] at hp ⊢
  intro i j hi hj hij
  have h1 := h i j (Nat.zero_le _) hij (by simpa using hj)
  rw [ltOf_R_false] at h1
  have e1 : d[i]! = d.toList[i] := by simp at hi; simp [hi]
  have e2 : d[j]! = d.toList[j] := by simp at hj; simp [hj]
  rw [e1, e2] at h1
  exact ltR_total _ _ h1 (hp i j hi hj hij)

end Go.Proofs.YtgddkjhknlgbbaaGreatDoor

namespace Go.Proofs.YtgddkjhknlgbbaaGreatDoor
open Go.RowKit Go.Maps Go.Sort Go.Shelf

set_option maxRecDepth 100000 in
set_option maxHeartbeats 2000000 in
theorem ins0 (p : Option Addr) (cap : Nat) (fv : Value) (w : World) : Calls Tryz.prog 133 #[.slice p 0 cap, .int .i64 0, .int .i64 0, fv] w fun e w' => e = .returned (.tuple #[]) ∧ w' = w := by
  go_enter Tryz.func133, Tryz.ntmps133
  go_wp2
  refine wp_loop_rounds 1 ?_
  rw [rounds_succ]
  go_wp2
  go_end0
  exact ⟨rfl, rfl⟩

set_option maxRecDepth 100000 in
set_option maxHeartbeats 2000000 in
theorem pdq0 (p : Option Addr) (cap : Nat) (lim : Int) (fv : Value) (w : World) : Calls Tryz.prog 128 #[.slice p 0 cap, .int .i64 0, .int .i64 0, .int .i64 lim, fv] w fun e w' => e = .returned (.tuple #[]) ∧ w' = w := by
  go_enter Tryz.func128, Tryz.ntmps128
  go_wp2
  refine wp_loop_rounds 1 ?_
  rw [rounds_succ]
  go_wp2_with (go_at_call 133; refine (ins0 _ _ _ _).mono ?_; rintro e w' ⟨rfl, rfl⟩)
  (try simp only [Exit.inBlock, Exit.then])
  refine bodyPost_ret (results_none rfl _ _ _) rfl ?_
  exact ⟨rfl, rfl⟩

theorem bitsLen0 (w : World) : Calls Tryz.prog 129 #[.int .u64 0] w fun e w' => e = .returned (.int .i64 (Lib.bitLen 0 : Nat)) ∧ w' = w :=
  Any.bits_Len (SlLaysF0.n15.bits (P := Tryz.prog) (ρ := Tryz.sortRow_ren) { Tryz.sortRow with }) 0 w (by omega) (by omega)

set_option maxHeartbeats 2000000 in
theorem sortFunc0 (p : Option Addr) (cap : Nat) (fv : Value) (w : World) : Calls Tryz.prog 120 #[.slice p 0 cap, fv] w fun e w' => e = .returned (.tuple #[]) ∧ w' = w := by
  go_enter Tryz.func120, Tryz.ntmps120
  go_wp2_with (first | (go_at_call 129; refine (bitsLen0 _).mono ?_; rintro e w' ⟨rfl, rfl⟩) | (go_at_call 128; refine (pdq0 _ _ _ _ _).mono ?_; rintro e w' ⟨rfl, rfl⟩))
  go_end0
  exact ⟨rfl, rfl⟩

theorem sortFunc1 (blk cap : Nat) (d : Array Row) (w : World) (hH : HoldsK encR 3 w blk 0 d) (hblk : blk < w.heap.size) (hsz : d.size < 4611686018427387904) :
    Calls Tryz.prog 120 #[.slice (some ⟨blk, 0, none⟩) d.size cap, .func (.func 101) #[] #[]] w fun e w' => e = .returned (.tuple #[]) ∧ ∃ d' n os, PermIn 0 d.size d d' ∧ SortedIn (ltOf cmpR) 0 d.size d' ∧ w' = sortWorldK encR 3 w blk 0 n d' os := by
  have eg : ∀ args w, (callFunc 101 args).run Tryz.prog w = .ok (.enter 101 args) w := enters_of Tryz.func101 (by kernel_rfl) rfl
  exact AnyQ.slices_SortFunc Tryz.sortRow 3 Tryz.isAgg127 Tryz.sizeOf127 encR (fun _ => rfl) (fun x v hv => by simp [encR] at hv; rcases hv with rfl | rfl | rfl <;> rfl) cmpR swoR 101 #[] blk 0 cap d w eg (cmpLays33 blk 0 d.size w) hH hblk hsz

/-- The rows of a map of weights, in order. -/
structure RowsOf (D : DataW Unit) (ys : List Row) : Prop where
  rising : Rising ys
  wf : ∀ y ∈ ys, WfRow y
  mem : ∀ r, WfRow r → (r ∈ ys ↔ Maps.has D (rowLit r) = true)

theorem len_le_size {D : DataW Unit} (hT : Tidy D) {xs : List Row} (hwf : ∀ x ∈ xs, WfRow x) (hap : xs.Pairwise (· ≠ ·)) (hm : ∀ x ∈ xs, Maps.has D (rowLit x) = true) : xs.length ≤ Maps.size D := by
  obtain ⟨es, rfl, hp⟩ := hT
  have h1 : (xs.map rowLit).length ≤ (es.map (·.1)).length := by
    refine length_le_of_apart _ _ ?_ (fun l hl => ?_)
    · rw [List.pairwise_map]
      exact hap.imp_of_mem (fun {a b} ha hb hne e => hne (rowLit_inj (hwf a ha) (hwf b hb) e))
    · obtain ⟨x, hx, rfl⟩ := List.mem_map.1 hl
      have h := hm x hx
      rw [has_eq] at h
      obtain ⟨p, hp1, hp2⟩ := List.any_eq_true.1 h
      exact List.mem_map.2 ⟨p, hp1, WideAt.sameKey_eq hp2⟩
  simpa [size_eq] using h1

set_option maxHeartbeats 2000000 in
theorem sortedFunc_any (Bm b nn : Nat) (D : DataW Unit) (g : Row → Int) (hrep : Rep D g) (w : World) (hm : w.cell? ⟨Bm, 0, none⟩ = some (.map (some b))) (hown : w.ownsMap Tryz.prog 127 (plainElem Tryz.prog 3) b nn D) (hnn : nn ≤ 1000000000) :
    Calls Tryz.prog 99 #[.func (.func 121) #[] #[.pointer (some ⟨Bm, 0, none⟩)], .func (.func 101) #[] #[]] w fun e w' => ∃ v ys, e = .returned v ∧ RowsOf D ys ∧ TripsAt w' v ys ∧ RowKit.Below w.heap.size w w' ∧ ys.length ≤ nn ∧ ∀ gb ln cap, v = .slice (some ⟨gb, 0, none⟩) ln cap → w.heap.size ≤ gb := by
  have H := hide (collect_any Bm b nn D g hrep w hm hown hnn)
  have hszD := hown.size_le
  have hT := hown.tidy law60
  have HT := hide hT
  have HK := hide (own_keyish hown)
  have Hrep := hide hrep
  clear hrep hm hown hT
  go_enter Tryz.func99, Tryz.ntmps99
  go_wp2_with fail
  refine (unhide H).mono ?_
  rintro e w1 ⟨v, xs, rfl, hK, ho, hb⟩
  have hmem : ∀ r, WfRow r → (r ∈ xs ↔ Maps.has D (rowLit r) = true) := fun r hr => by rw [hK.mem r hr]; simp
  have hxl : xs.length ≤ nn := Nat.le_trans (len_le_size (unhide HT) hK.wf hK.apart (fun x hx => (hmem x (hK.wf x hx)).1 hx)) hszD
  rcases ho.2 with ⟨rfl, h0⟩ | ⟨gb, cap, cur, rfl, hbg, hgh, _⟩
  · have hx0 : xs = [] := List.eq_nil_of_length_eq_zero h0
    subst hx0
    have HR : Hid (RowsOf D []) := ⟨List.Pairwise.nil, fun y hy => by simp at hy, hmem⟩
    have Hb := hide hb
    clear H hK hmem ho hb
    go_wp2_with (first | (go_at_call 120; refine (sortFunc0 _ _ _ _).mono ?_; rintro e w' ⟨rfl, rfl⟩))
    go_ret
    exact ⟨_, [], rfl, unhide HR, ⟨none, 0, rfl, fun i hi => by simp at hi⟩, unhide Hb, by simp, fun gb ln cap e => by simp at e⟩
  · have hH := holds_of_own ho
    have hgl : gb < w1.heap.size := (Array.getElem?_eq_some_iff.1 hgh).1
    have Hs := hide (sortFunc1 gb cap xs.toArray w1 hH hgl (by simp; omega))
    have HH := hide hH
    have Hb := hide hb
    have Hmem := hide hmem
    have HKo := hide hK
    clear H hK hmem ho hb hgh hH
    go_wp2_with fail
    refine (unhide Hs).mono ?_
    rintro e w2 ⟨rfl, d', n, os, hp, hsrt, rfl⟩
    have hsz : d'.size = xs.length := by have := hp.1; simpa using this
    have hperm : d'.toList.Perm xs := by
      have h := hp.2.2
      have e1 : (d'.extract 0 xs.toArray.size) = d' := by rw [Array.extract_eq_self_of_le (by simp; omega)]
      have e2 : (xs.toArray.extract 0 xs.toArray.size) = xs.toArray := Array.extract_eq_self_of_le (by simp)
      rw [e1, e2] at h
      simpa using h
    have hHd : HoldsK encR 3 (sortWorldK encR 3 w1 gb 0 n d' os) gb 0 d' := holdsK_sortWorldK_c encR 3 w1 gb 0 xs.toArray d' n os (unhide HH) hgl (by simpa using hsz)
    have hR : RowsOf D d'.toList := by
      refine ⟨rising_of_sorted ?_ ?_, fun y hy => (unhide HKo).wf y (hperm.mem_iff.1 hy), fun r hr => by rw [hperm.mem_iff]; exact (unhide Hmem) r hr⟩
      · rw [hsz]; simpa using hsrt
      · exact (hperm.pairwise_iff (fun {a b} (h : a ≠ b) => h.symm)).2 (unhide HKo).apart
    have hTr := trips_of_holds (cap := cap) hHd
    have hBe : RowKit.Below w.heap.size w (sortWorldK encR 3 w1 gb 0 n d' os) := (unhide Hb).grown (grown_sort w1 gb n d' os) (unhide Hb).size (fun k e => by cases e; exact hbg)
    rw [hsz] at hTr
    have HF := hide (And.intro hR (And.intro hTr hBe))
    clear hR hTr hBe hHd hperm hp hsrt Hs
    generalize sortWorldK encR 3 w1 gb 0 n d' os = w3 at *
    go_wp2
    go_ret
    exact ⟨_, _, rfl, (unhide HF).1, (unhide HF).2.1, (unhide HF).2.2, by simp [hsz]; omega, fun g' ln cap' e => by simp at e; omega⟩

end Go.Proofs.YtgddkjhknlgbbaaGreatDoor
