import Derived.Test.YtoifcnidhfnapaaGreatKeys
set_option linter.unusedVariables false
set_option linter.unusedSimpArgs false
namespace Go.Proofs.YtoifcnidhfnapaaGreat
open Go.RowKit Go.Maps Go.Sort Go.Shelf
attribute [local go_sem] Oper.semAt_some

theorem Tryz.info62 : (Tryz.prog.info? 62).map (fun i => (i.zero, i.size, i.bytes)) = some (some (.agg #[.int .i64 0, .int .i64 0, .int .i64 0]), 3, 24) := by kernel_rfl

def flatR (xs : List Row) : List Value := xs.flatMap encR

set_option maxRecDepth 100000 in
set_option maxHeartbeats 2000000 in
theorem appendSeq_in (n : Nat) (hn : 3 ≤ n) (Bm b nn : Nat) (D : DataW Unit) (g : Row → Int) (hrep : Rep D g) (w : World) (hm : w.cell? ⟨Bm, 0, none⟩ = some (.map (some b))) (hown : w.ownsMap Tryz.prog 62 (plainElem Tryz.prog 2) b nn D) (hnn : nn ≤ 100000) :
    CallsIn Fence.wide n Tryz.prog 66 #[.slice none 0 0, .func (.func 54) #[] #[.pointer (some ⟨Bm, 0, none⟩)]] w fun e w' => ∃ v xs, e = .returned v ∧ KeysOf D (fun _ => false) xs ∧ w'.ownsRow w.heap.size 62 3 v xs.length (flatR xs) ∧ Below w.heap.size w w' := by
  have h1 : 1 ≤ n := by omega
  refine callsIn_of_wp_marks Tryz.func66 rfl trivial ?_ rfl
  simp only [Tryz.ntmps66, List.size_toArray, List.length_cons, List.length_nil, Nat.reduceAdd, Nat.reduceSub, Array.replicate_succ, Array.replicate_zero, List.push_toArray, List.append_toArray, List.nil_append, List.cons_append]
  gi_wp2
  have bS0 := Boxed.new w 90 (.slice none 0 0)
  have hB0 : Below w.heap.size w (w.alloc (.cells #[.slice none 0 0] 90)) := (Below.refl _ w).alloc (Nat.le_refl _) _
  have hm0 : (w.alloc (.cells #[.slice none 0 0] 90)).cell? ⟨Bm, 0, none⟩ = some (.map (some b)) := (hB0.cell (p := ⟨Bm, 0, none⟩) (World.block_lt_of_cell? w _ hm)).trans hm
  have hBm : Bm < w.heap.size := World.block_lt_of_cell? w _ hm
  have hown0 := hown.alloc (.cells #[.slice none 0 0] 90)
  have hsz : (w.alloc (.cells #[.slice none 0 0] 90)).heap.size = w.heap.size + 1 := by simp
  obtain ⟨W0, hW0⟩ : ∃ W0, w.alloc (.cells #[.slice none 0 0] 90) = W0 := ⟨_, rfl⟩
  rw [hW0] at bS0 hB0 hm0 hown0 hsz ⊢
  clear hW0
  have hsD : Maps.size D ≤ nn := hown.size_le
  have hseq : SeqStopsK Fence.wide (n - 1) Tryz.prog 54 #[.pointer (some ⟨Bm, 0, none⟩)] (fun x : Row => #[Value.agg #[.int .i64 x.1, .int .i64 x.2.1, .int .i64 x.2.2]]) KeepsWalks (KeysOf D (fun _ => false)) (fun _ => True) (Maps.size D) W0 := fun l J Jx W hW hJ _ hY h0 => by
    refine keys1_in (n - 1) (by omega) l Bm b nn D g hrep J Jx hY W hJ ((hW.cell (p := ⟨Bm, 0, none⟩) (show Bm < _ by omega)).trans hm0) ?_ h0
    have hbl := hown0.lt
    obtain ⟨es, clock, hb, Ft, hs, hD⟩ := hown0
    exact ⟨es, clock, (hW.block b hbl).trans hb, Ft, hs, hD⟩
  obtain ⟨i60, hi, hz0, hz1, hz2⟩ := info_parts Tryz.info62
  refine wpIn_rangeFunc_ownH rfl h1 (gf := 54) (lb := #[.pointer (some ⟨Bm, 0, none⟩)]) rfl trivial (enters_of Tryz.func54 (by kernel_rfl) rfl) hseq walksK_t walksK_b (Below.refl _ _) (fun _ => rfl)
    (fun pre W => (∃ v, Boxed W w.heap.size 90 v ∧ W.ownsRow w.heap.size 62 3 v pre.length (flatR pre) ∧ True) ∧ Below w.heap.size w W)
    (fun _ _ _ => False)
    (OwnFrom.and (Own.from (holdsRow_own w.heap.size w.heap.size 90 62 3 (fun pre : List Row => pre.length) flatR (fun _ _ => True)) _) (ownFrom_below (Nat.le_refl _) (by omega)))
    (fun _ _ _ _ _ hs _ _ => hs)
    ⟨⟨_, bS0, World.ownsRow_nil _ _ _ _, trivial⟩, hB0⟩
    (fun x a' W => ∃ Bx, w.heap.size < Bx ∧ W.heap[Bx]? = some (.cells #[.int .i64 x.1, .int .i64 x.2.1, .int .i64 x.2.2] 62 (0, 0)) ∧
      a' = { tmps := #[.slice none 0 0, .func (.func 54) #[] #[.pointer (some ⟨Bm, 0, none⟩)], .pointer (some ⟨w.heap.size, 0, none⟩), undef, .slice none 0 0, .pointer (some ⟨Bx, 0, none⟩), .func (.func 54) #[] #[.pointer (some ⟨Bm, 0, none⟩)], .agg #[.int .i64 x.1, .int .i64 x.2.1, .int .i64 x.2.2], undef, undef, undef, undef, undef], defers := [] })
    (fun x a' _ X Y row hs hg hr => by
      obtain ⟨Bx, h1, h2, h3⟩ := hs
      refine ⟨Bx, h1, (hg.block Bx (Array.getElem?_eq_some_iff.1 h2).1 (fun e => ?_)).trans h2, h3⟩
      obtain ⟨_, o, ho, hc⟩ := hr Bx e.symm
      rw [h2] at ho
      cases ho
      cases hc)
    ?assign ?body ?done ?stop
  case assign =>
    rintro l pre x W K ⟨⟨v, bS, hrow, _⟩, hB⟩ hK
    gi_wp2
    exact hK _ _ ((KeepsOthers.alloc _ _).from _) (KeepsWalks.alloc _ _) ⟨⟨v, bS.alloc _, hrow.alloc _, trivial⟩, hB.alloc hB.size _⟩ ⟨W.heap.size, bS.lt, heap_last _ _ _ rfl, rfl⟩
  case body =>
    rintro l pre x a' W hl ⟨r, hr⟩ ⟨⟨v, bS, hrow, _⟩, hB⟩ ⟨Bx, hBx, hX, rfl⟩ hlt
    obtain ⟨x1, x2, x3⟩ := x
    dsimp only at hX ⊢
    have c0 : W.cell? ⟨Bx, 0, none⟩ = some (.int .i64 x1) := cell_of_heap hX 0
    have c1 : W.cell? ⟨Bx, 1, none⟩ = some (.int .i64 x2) := cell_of_heap hX 1
    have c2 : W.cell? ⟨Bx, 2, none⟩ = some (.int .i64 x3) := cell_of_heap hX 2
    have cS := bS.cell
    have hBs := hB.size
    have hnew := cells3_new W (.int .i64 x1) (.int .i64 x2) (.int .i64 x3) 62
    gi_wp2_with (first
      | (gi_at_builtin; refine wpListIn_append_own _ rfl _ _ 90 rfl w.heap.size 62 i60 _ 3 24 Tryz.underlying90 hi hz0 hz1 hz2 rfl (by decide) _ _ _ rfl (hrow.alloc _) ⟨W.heap.size, 0, none⟩ 1 1 [.int .i64 x1, .int .i64 x2, .int .i64 x3] rfl rfl hnew (by simp [Value.oneCell']) (by unfold maxLen; omega) (by omega) (by simp; omega) ?_; intro v' w1 hown' hgrow _; obtain ⟨g', cap', rfl⟩ := own_succ hown'; obtain ⟨hv1, hv2, hr2, hk2, hb2⟩ := bS.appended (by decide) hrow hB.size (Nat.le_refl _) hown' hgrow; have hc1 := hv1.cell; have hf1 := hv1.frozen))
    refine ⟨hk2.from _, ⟨hk2.size, fun k o hk ho => hk2.same k o hk (Obj.not_cells_of_walk ho)⟩, ⟨_, hv2, ?_, trivial⟩, hB.trans hb2⟩
    have e : flatR (pre ++ [(x1, x2, x3)]) = flatR pre ++ [.int .i64 x1, .int .i64 x2, .int .i64 x3] := by simp [flatR, encR]
    rw [e]
    simpa using hr2
  case done =>
    rintro D ys W hD hS ⟨⟨v, bS, hrow, _⟩, hB⟩ hK
    have cS := bS.cell
    gi_wp2
    refine ⟨by simp, .inl ⟨_, _, rfl, run_takeDeferred hK, ?_⟩⟩
    exact ⟨_, results_tmp rfl _ _ _, v, ys, rfl, hS, ownsRow_putObj hrow _ hK rfl, hB.trans (belowK_b (w := w) (Nat.le_refl _) W D _ _ (by omega) hK rfl rfl)⟩
  case stop =>
    rintro D c pre W _ _ h _
    exact h.elim

end Go.Proofs.YtoifcnidhfnapaaGreat
