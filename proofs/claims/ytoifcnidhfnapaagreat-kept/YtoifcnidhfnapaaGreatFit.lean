import Derived.Test.YtoifcnidhfnapaaGreatSum2
set_option linter.unusedVariables false
set_option linter.unusedSimpArgs false
namespace Go.Proofs.YtoifcnidhfnapaaGreat
open Go.RowKit Go.Maps
attribute [local go_sem ↓] Go.wp_at_zero Go.wp_at_succ

theorem invRow : ∀ key kl, keyOf Tryz.prog 62 key = some kl → ∃ x : Row, key = .agg #[.int .i64 x.1, .int .i64 x.2.1, .int .i64 x.2.2] := by
  intro key kl h
  obtain ⟨r, _, hv, _⟩ := keyOf_row_inv h
  exact ⟨r, hv⟩
theorem invInt : ∀ v y, plainElem (H := Unit) Tryz.prog 2 v = some y → ∃ c, v = Value.int .i64 c := by
  intro v y h
  obtain ⟨c, hc, _⟩ := plainElem_int_inv Tryz.underlying2 h
  exact ⟨c, hc⟩

/-- What has come of an entry of a map of weights. -/
theorem came {D : DataW Unit} {g : Row → Int} (hrep : Rep D g) {x : Row} {c : Int} {kl : Lit} {y : DataW Unit × List MemPlace} (hkey : keyOf Tryz.prog 62 (.agg #[.int .i64 x.1, .int .i64 x.2.1, .int .i64 x.2.2]) = some kl)
    (hv : plainElem (H := Unit) Tryz.prog 2 (.int .i64 c) = some y) (hat : ∀ zd, D.atKey kl zd = y.1) : WfRow x ∧ kl = rowLit x ∧ c = g x := by
  obtain ⟨r, hr, hv', rfl⟩ := keyOf_row_inv hkey
  simp only [rowVal, Value.agg.injEq] at hv'
  have e : x = r := by
    simp at hv'
    exact Prod.ext hv'.1 (Prod.ext hv'.2.1 hv'.2.2)
  subst e
  obtain ⟨c', hc', rfl, _⟩ := plainElem_int_inv Tryz.underlying2 hv
  have e1 := hrep.at_ x hr
  rw [hat] at e1
  refine ⟨hr, rfl, ?_⟩
  cases hc'
  exact lit_int_inj e1

theorem WMap.drewN {w : World} {b n : Nat} {f : Row → Int} (h : WMap w b n f) (q : Nat) : WMap (w.drewN q) b n f := h.kept rfl

theorem WMap.look {w : World} {b n : Nat} {f : Row → Int} (h : WMap w b n f) {x : Row} (hx : WfRow x) : (Instr.lookup 75 (.map (some b)) (.agg #[.int .i64 x.1, .int .i64 x.2.1, .int .i64 x.2.2]) false).run Tryz.prog w = .ok (.int .i64 (f x)) w := by
  obtain ⟨D, hown, hrep⟩ := h
  obtain ⟨c, hrun, hat, _⟩ := hown.lookup_int law60 Tryz.underlying75 Tryz.underlying2 (zero3 _) (keyOf_row hx)
  rw [hrep.at_ x hx] at hat
  rw [← lit_int_inj hat] at hrun
  exact hrun

set_option maxRecDepth 100000 in
set_option maxHeartbeats 1000000 in
theorem fit_any (rb mb ar n cb m : Nat) (f g : Row → Int) (w : World) (hr : w.heap[rb]? = some (.cells #[.int .i64 ar, .map (some mb)] 77 (0, 0))) (hf : WMap w mb n f) (hg : WMap w cb m g)
    (hfit : ∀ r, WfRow r → -1000 ≤ f r + g r ∧ f r + g r ≤ 1000) (hbf : ∀ r, WfRow r → -1000000 ≤ f r ∧ f r ≤ 1000000) (hbg : ∀ r, WfRow r → -1000000 ≤ g r ∧ g r ≤ 1000000) :
    Calls Tryz.prog 34 #[.pointer (some ⟨rb, 0, none⟩), .map (some cb)] w fun e w' => e = .returned (.bool true) ∧ Below w.heap.size w w' := by
  obtain ⟨D, hown, hrep⟩ := hg
  have Hr := hide hr
  have Hf := hide hf
  have Hrep := hide hrep
  have Hfit := hide hfit
  have Hbf := hide hbf
  have Hbg := hide hbg
  have hrl : rb < w.heap.size := (Array.getElem?_eq_some_iff.1 hr).1
  have hml : mb < w.heap.size := hf.lt
  clear hr hf hrep hfit hbf hbg
  go_enter Tryz.func34, Tryz.ntmps34
  go_wp2_with (first
    | (at_range; refine wpList_range_own _ rfl _ 75 rfl 62 2 law60 Tryz.underlying75 _ cb m D rfl hown ?_; intro w0 hrg0 hg0 hs0)
    | go_in)
  go_frame
  go_loopw [10] (fun _ wr => ∃ left cnt, wr.ranges Tryz.prog 62 (plainElem Tryz.prog 2) cb w.heap.size m D left cnt ∧ Below w.heap.size w wr) (fun _ wr => wr.rangeLeft cb w.heap.size)
  case atStart => exact ⟨_, _, hrg0, (Below.refl _ _).grown hg0 (Nat.le_refl _) (fun k e => by cases e)⟩
  case round =>
    obtain ⟨left, cnt, hrg, hB⟩ := hrel
    have HB := hide hB
    clear hB
    go_wp2_with (first
      | (at_next; refine wpList_next_ranges _ rfl _ rfl 62 law60 (plainElem Tryz.prog 2) (fun x : Row => .agg #[.int .i64 x.1, .int .i64 x.2.1, .int .i64 x.2.2]) (Value.int .i64) invRow invInt cb w.heap.size m D left cnt rfl hrg ?_ ?_)
      | go_in)
    · intro _ hl0
      go_wp2
      go_ret
      exact ⟨rfl, unhide HB⟩
    · intro x1 x2 x3 c kl y1 y2 w1 cnt1 hkey hlk hv hat hrg1 hlt hg1 hs1 hen
      obtain ⟨hwx, hkl, hc⟩ := came (unhide Hrep) (x := (x1, x2, x3)) (y := (y1, y2)) hkey hv hat
      have hfit := (unhide Hfit) _ hwx
      have hbf := (unhide Hbf) _ hwx
      have hbg := (unhide Hbg) _ hwx
      have hB1 : Below w.heap.size w w1 := (unhide HB).grown hg1 (unhide HB).size (fun k e => by cases e; exact Nat.le_refl _)
      have hBW : Below w.heap.size w (w1.alloc (.cells #[.int .i64 x1, .int .i64 x2, .int .i64 x3] 62)) := hB1.alloc hB1.size _
      have hfW : WMap (w1.alloc (.cells #[.int .i64 x1, .int .i64 x2, .int .i64 x3] 62)) mb n f := (unhide Hf).kept (hBW.block _ hml)
      have hrun : ∀ q, (Instr.lookup 75 (.map (some mb)) (.agg #[.int .i64 x1, .int .i64 x2, .int .i64 x3]) false).run Tryz.prog ((w1.alloc (.cells #[.int .i64 x1, .int .i64 x2, .int .i64 x3] 62)).drewN q) = .ok (.int .i64 (f (x1, x2, x3))) ((w1.alloc (.cells #[.int .i64 x1, .int .i64 x2, .int .i64 x3] 62)).drewN q) :=
        fun q => WMap.look (x := (x1, x2, x3)) (hfW.drewN q) hwx
      have c1 : w1.cell? ⟨rb, 1, none⟩ = some (.map (some mb)) := by rw [hB1.cell (p := ⟨rb, 1, none⟩) hrl]; exact cell_of_heap (unhide Hr) 1
      have hne : ¬ rb = w1.heap.size := by have := hB1.size; omega
      have hne2 : rb < w1.heap.size := by have := hB1.size; omega
      have Hrg1 := hide hrg1
      have Hrg := hide hrg
      have Hg1 := hide hg1
      have HBW := hide hBW
      generalize hfx : f (x1, x2, x3) = fx at *
      generalize hgx : g (x1, x2, x3) = gx at *
      subst hc
      have t1 : ¬ fx + c < -1000 := by omega
      have t2 : ¬ 1000 < fx + c := by omega
      clear hkey hlk hv hat hrg1 hrg hg1 hs1 hB1 hBW hfW hfit hfx hgx hkl
      go_wp2
      go_quiet (fail)
      go_wp2
      have hq := ((unhide Hrg1).alloc (.cells #[.int .i64 x1, .int .i64 x2, .int .i64 x3] 62))
      have hq' : ((w1.alloc (.cells #[.int .i64 x1, .int .i64 x2, .int .i64 x3] 62)).drewN nq).ranges Tryz.prog 62 (plainElem Tryz.prog 2) cb w.heap.size m D (fun z => left z && !z.sameKey kl) cnt1 := hq
      refine ⟨⟨_, _, hq', (unhide HBW).trans ((Drawn.ofN _ _).below _)⟩, ?_⟩
      rw [hq'.left_eq, (unhide Hrg).left_eq]
      exact hlt

end Go.Proofs.YtoifcnidhfnapaaGreat
