import Derived.Test.YtoifcnidhfnapaaGreatCmpRow
import Derived.RangeFuncNested
import Derived.RangeFuncBound
import Derived.RangeFuncCalls
import Derived.RangeFuncLeaves
import Derived.Shelf.Abstract
import Derived.Shelf.RegionOpen
import Derived.OwnWalkIn
import Derived.TacticsInMore
import Derived.LoopNIn
import Derived.LoopIn
import Derived.Maps.OwnIn
import Derived.Sort.MapsRangeIn
set_option linter.unusedVariables false
set_option linter.unusedSimpArgs false
namespace Go.Proofs.YtoifcnidhfnapaaGreat
open Go.RowKit Go.Maps Go.Sort Go.Shelf

/-- The rows of a map of weights, each once, in some order. -/
structure KeysOf (D : DataW Unit) (left : Lit → Bool) (xs : List Row) : Prop where
  wf : ∀ x ∈ xs, WfRow x
  apart : xs.Pairwise (· ≠ ·)
  mem : ∀ r, WfRow r → (r ∈ xs ↔ Maps.has D (rowLit r) = true ∧ left (rowLit r) = false)

theorem KeysOf.start (D : DataW Unit) : KeysOf D (Maps.has D) [] :=
  ⟨fun x hx => by simp at hx, List.Pairwise.nil, fun r _ => by simp⟩

theorem KeysOf.step {D : DataW Unit} {left : Lit → Bool} {xs : List Row} (h : KeysOf D left xs) {x : Row} (hx : WfRow x) (hh : Maps.has D (rowLit x) = true) (hl : left (rowLit x) = true) : KeysOf D (fun z => left z && !z.sameKey (rowLit x)) (xs ++ [x]) := by
  have hnx : x ∉ xs := fun hm => by have := ((h.mem x hx).1 hm).2; rw [hl] at this; cases this
  refine ⟨fun y hy => ?_, ?_, fun r hr => ?_⟩
  · rcases List.mem_append.1 hy with hy | hy
    · exact h.wf y hy
    · simp at hy; subst hy; exact hx
  · refine List.pairwise_append.2 ⟨h.apart, by simp, fun a ha b hb => ?_⟩
    simp at hb
    subst hb
    exact fun e => hnx (e ▸ ha)
  · simp only [List.mem_append, List.mem_singleton]
    rw [h.mem r hr]
    have := done_step (Dg := D) (left := left) hx hh r hr
    unfold doneOf at this
    exact this

set_option maxRecDepth 100000 in
set_option maxHeartbeats 1000000 in
theorem keys1_in (n : Nat) (hn : 1 ≤ n) (l Bm b nn : Nat) (D : DataW Unit) (g : Row → Int) (hrep : Rep D g) (J Jx : List Row → World → Prop)
    (hY : ∀ pre x W, J pre W → pre.length < Maps.size D → YieldAt Fence.wide (n - 1) Tryz.prog l #[.agg #[.int .i64 x.1, .int .i64 x.2.1, .int .i64 x.2.2]] W fun e W' =>
      (e = .returned (.bool true) ∧ J (pre ++ [x]) W' ∧ KeepsWalks W W') ∨ (e = .returned (.bool false) ∧ Jx (pre ++ [x]) W'))
    (W : World) (hJ : AbidesFrom W.heap.size J) (hm : W.cell? ⟨Bm, 0, none⟩ = some (.map (some b))) (hown : W.ownsMap Tryz.prog 62 (plainElem Tryz.prog 2) b nn D) (h0 : J [] W) :
    CallsIn Fence.wide n Tryz.prog 54 #[.func (.yield l) #[] #[], .pointer (some ⟨Bm, 0, none⟩)] W fun e W' => (∃ v, e = .returned v) ∧
      ((∃ xs, KeysOf D (fun _ => false) xs ∧ J xs W') ∨ (∃ pre, True ∧ Jx pre W')) := by
  refine callsIn_of_wp Tryz.func54 rfl trivial ?_ rfl
  simp only [Tryz.ntmps54, List.size_toArray, List.length_cons, List.length_nil, Nat.reduceAdd, Nat.reduceSub, Array.replicate_succ, Array.replicate_zero, List.push_toArray, List.append_toArray, List.nil_append, List.cons_append]
  gi_wp2_with (first
    | (gi_at_range; refine wpListIn_range_own _ rfl _ 75 rfl 62 2 law60 Tryz.underlying75 _ b nn _ rfl hown ?_; intro w0 hrg0 hg0 hs0)
    | gi_in)
  go_frame
  gi_loopw [6] (fun _ wr => ∃ (left : Lit → Bool) (cnt : Nat) (ss : List Row), wr.ranges Tryz.prog 62 (plainElem Tryz.prog 2) b W.heap.size nn D left cnt ∧ ss.length + cnt ≤ Maps.size D ∧ KeysOf D left ss ∧ J ss wr) (fun _ wr => wr.rangeLeft b W.heap.size)
  case atStart => exact ⟨_, _, [], hrg0, by simp, KeysOf.start D, hJ [] W w0 none h0 hg0 (fun r e => by cases e)⟩
  case round =>
    obtain ⟨left, cnt, ss, hrg, hcs, hC, hJs⟩ := hrel
    gi_wp2_with (first
      | (gi_at_next; refine wpListIn_next_ranges _ rfl _ rfl 62 law60 (plainElem Tryz.prog 2) (fun x : Row => .agg #[.int .i64 x.1, .int .i64 x.2.1, .int .i64 x.2.2]) (Value.int .i64) invRow invInt b W.heap.size nn D left cnt rfl hrg ?_ ?_)
      | gi_in)
    · intro _ hl0
      gi_wp2
      go_end0
      exact ⟨⟨_, rfl⟩, .inl ⟨ss, ⟨hC.wf, hC.apart, fun r hr => by rw [hC.mem r hr, hl0]⟩, hJs⟩⟩
    · intro x1 x2 x3 c kl y1 y2 w1 cnt1 hkey hlk hv hat hrg1 hlt hg1 hs1 hen
      obtain ⟨hwx, hkl, hc⟩ := came hrep (x := (x1, x2, x3)) (y := (y1, y2)) hkey hv hat
      have hhas : Maps.has D (rowLit (x1, x2, x3)) = true := by rw [← hkl]; exact has_true_of_atKey hat
      have hJ1 : J ss w1 := hJ ss wr w1 (some W.heap.size) hJs hg1 (fun r e => by cases e; exact ⟨Nat.le_refl _, hrg.iter_walk⟩)
      have hJ2 : J ss (w1.alloc (.cells #[.int .i64 x1, .int .i64 x2, .int .i64 x3] 62)) := hJ ss w1 _ none hJ1 (World.grownBy_alloc _ _ none) (fun r e => by cases e)
      obtain ⟨fn, tmps, assign, body, hy, hR⟩ := hY ss (x1, x2, x3) _ hJ2 (by omega)
      rw [hkl] at hlk hrg1
      have hC2 := hC.step hwx hhas hlk
      have hrg2 := hrg1.alloc (.cells #[.int .i64 x1, .int .i64 x2, .int .i64 x3] 62)
      dsimp only at hy
      clear hkey hv hat hs1 hc hkl
      gi_wp2
      refine hR.mono ?_
      rintro e W3 (⟨rfl, hJ3, hk3⟩ | ⟨rfl, hJx3⟩)
      · gi_wp2
        have hrg3 := hrg2.of_walks hk3
        go_roundw
        case rel => exact ⟨_, cnt1, ss ++ [(x1, x2, x3)], hrg3, by simp; omega, hC2, hJ3⟩
        case measure => rw [hrg3.left_eq, hrg.left_eq]; exact hlt
      · gi_wp2
        refine bodyPost_ret (results_none rfl _ _ _) rfl ?_
        exact ⟨⟨_, rfl⟩, .inr ⟨ss ++ [(x1, x2, x3)], trivial, hJx3⟩⟩

end Go.Proofs.YtoifcnidhfnapaaGreat
