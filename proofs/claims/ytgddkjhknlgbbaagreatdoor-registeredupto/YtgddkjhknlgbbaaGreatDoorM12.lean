import Derived.Test.YtgddkjhknlgbbaaGreatDoorM11
import Derived.Stop.RegionWithIn
set_option linter.unusedVariables false
set_option linter.unusedSimpArgs false

namespace Go.Proofs.YtgddkjhknlgbbaaGreatDoor
set_option linter.unusedVariables false
set_option linter.unusedSimpArgs false
open Go.RowKit Go.Maps Go.Sort Go.Shelf

/-- What the rounds keep: all cells and walks' objects but those of X. -/
structure KeepsBut (X : Nat → Prop) (W W' : World) : Prop where
  size : W.heap.size ≤ W'.heap.size
  same : ∀ k o, W.heap[k]? = some o → (o.isCells = true ∨ o.isWalk = true) → ¬ X k → W'.heap[k]? = some o

theorem KeepsBut.refl (X : Nat → Prop) (W : World) : KeepsBut X W W := ⟨Nat.le_refl _, fun _ _ h _ _ => h⟩
theorem KeepsBut.trans {X : Nat → Prop} {A B C : World} (h : KeepsBut X A B) (k : KeepsBut X B C) : KeepsBut X A C :=
  ⟨Nat.le_trans h.size k.size, fun i o hi ho hx => k.same i o (h.same i o hi ho hx) ho hx⟩
theorem KeepsBut.of_grown {X : Nat → Prop} {A B : World} {row : Option Nat} (h : A.grownBy B row) (hr : ∀ j, row = some j → X j) : KeepsBut X A B :=
  ⟨h.size, fun k o hk _ hx => (h.block k (Array.getElem?_eq_some_iff.1 hk).1 (fun e => hx (hr k e.symm))).trans hk⟩
theorem KeepsBut.put {X : Nat → Prop} (W : World) (l : Nat) (o o' : Obj) (h : W.heap[l]? = some o) (h1 : o.isCells = false) (h2 : o.isWalk = false) : KeepsBut X W (W.putObj l o') := by
  refine ⟨by simp, fun k p hk hp _ => ?_⟩
  have hne : k ≠ l := fun e => by
    subst e
    rw [h] at hk
    cases hk
    rcases hp with hp | hp
    · rw [h1] at hp; cases hp
    · rw [h2] at hp; cases hp
  rw [World.putObj_heap_other hne]; exact hk
theorem KeepsBut.drew (X : Nat → Prop) (W : World) : KeepsBut X W W.drew := ⟨Nat.le_refl _, fun _ _ h _ _ => h⟩

theorem KeepsBut.cellOf {X : Nat → Prop} {W W' : World} (h : KeepsBut X W W') {b o : Nat} {v : Value} (hc : W.cell? ⟨b, o, none⟩ = some v) (hx : ¬ X b) : W'.cell? ⟨b, o, none⟩ = some v := by
  have hlt := World.block_lt_of_cell? W _ hc
  cases hb : W.heap[b]? with
  | none => rw [Array.getElem?_eq_none_iff] at hb; simp at hlt; omega
  | some ob =>
    cases ob with
    | cells cs t fr =>
      have h2 := h.same b _ hb (Or.inl rfl) hx
      rw [cell_of_heap hb] at hc
      rw [cell_of_heap h2]; exact hc
    | _ => simp [World.cell?, hb] at hc

theorem KeepsBut.wmap {X : Nat → Prop} {W W' : World} (h : KeepsBut X W W') {b n : Nat} {f : Row → Int} (hm : WMap W b n f) (hx : ¬ X b) : WMap W' b n f := by
  obtain ⟨D, ⟨es, cl, hb, h2⟩, hr⟩ := hm
  exact ⟨D, ⟨es, cl, h.same b _ hb (Or.inr rfl) hx, h2⟩, hr⟩

/-- The rows with their weights. -/
def withW (g : Row → Int) (ys : List Row) : List (Row × Int) := ys.map fun y => (y, g y)

theorem grown_drew (W : World) : W.grownBy W.drew none := ⟨rfl, rfl, rfl, Nat.le_refl _, fun _ _ _ => rfl⟩

set_option maxRecDepth 100000 in
set_option maxHeartbeats 4000000 in
theorem all1_in (n : Nat) (hn : 1 ≤ n) (l Bn rb ar mb nn : Nat) (g : Row → Int) (X : Nat → Prop) (J Jx : List (Row × Int) → World → Prop) (N : Nat)
    (hY : ∀ pre x W, J pre W → pre.length < N → YieldAt Fence.wide (n - 1) Tryz.prog l #[.agg #[.int .i64 x.1.1, .int .i64 x.1.2.1, .int .i64 x.1.2.2], .int .i64 x.2] W fun e W' =>
      (e = .returned (.bool true) ∧ J (pre ++ [x]) W' ∧ KeepsBut X W W') ∨ (e = .returned (.bool false) ∧ Jx (pre ++ [x]) W'))
    (W : World) (hJ : AbidesFrom W.heap.size J) (hX : ∀ k, X k → k < W.heap.size) (hBn : W.cell? ⟨Bn, 0, none⟩ = some (.pointer (some ⟨rb, 0, none⟩))) (hBX : ¬ X Bn)
    (hrel : W.heap[rb]? = some (.cells #[.int .i64 ar, .map (some mb)] 122 (0, 0))) (hrX : ¬ X rb) (hmX : ¬ X mb) (D : DataW Unit) (hown : W.ownsMap Tryz.prog 127 (plainElem Tryz.prog 3) mb nn D) (hrep : Rep D g) (hnn : nn ≤ 1000000000) (hN : ∀ ys, RowsOf D ys → ys.length ≤ N) (h0 : J [] W) :
    CallsIn Fence.wide n Tryz.prog 98 #[.func (.yield l) #[] #[], .pointer (some ⟨Bn, 0, none⟩)] W fun e W' => (∃ v, e = .returned v) ∧
      ((∃ xs, (∃ ys, RowsOf D ys ∧ xs = withW g ys) ∧ J xs W') ∨ (∃ pre, True ∧ Jx pre W')) := by
  have c1 : W.cell? ⟨rb, 1, none⟩ = some (.map (some mb)) := cell_of_heap hrel 1
  have hBl := World.block_lt_of_cell? W _ hBn
  have hrl := World.block_lt_of_cell? W _ c1
  have hml := hown.lt
  dsimp only at hBl hrl
  have hkeys : (w : World) → (hw : w = W.alloc (.cells #[.map (some mb)] 81)) → Calls Tryz.prog 99 #[.func (.func 121) #[] #[.pointer (some ⟨W.heap.size, 0, none⟩)], .func (.func 101) #[] #[]] w fun e w' => ∃ v ys, e = .returned v ∧ RowsOf D ys ∧ TripsAt w' v ys ∧ RowKit.Below w.heap.size w w' ∧ ys.length ≤ nn ∧ ∀ gb ln cap, v = .slice (some ⟨gb, 0, none⟩) ln cap → w.heap.size ≤ gb :=
    fun w hw => sortedFunc_any W.heap.size mb nn D g hrep w (by rw [hw]; exact cell_of_heap (heap_last _ _ _ rfl) 0) (by rw [hw]; exact hown.alloc _) hnn
  have Hkeys := hide (hkeys _ rfl)
  clear hkeys
  refine callsIn_of_wp Tryz.func98 rfl trivial ?_ rfl
  simp only [Tryz.ntmps98, List.size_toArray, List.length_cons, List.length_nil, Nat.reduceAdd, Nat.reduceSub, Array.replicate_succ, Array.replicate_zero, List.push_toArray, List.append_toArray, List.nil_append, List.cons_append]
  gi_wp2_with (first
    | (refine ⟨trivial, ?_⟩; gi_at_call 100; refine (callsIn_wide.2 (mapsKeys_any _ _)).mono ?_; rintro e w' ⟨rfl, rfl⟩)
    | (refine ⟨trivial, ?_⟩; gi_at_call 99; refine (callsIn_wide.2 (unhide Hkeys)).mono ?_; rintro e w1 ⟨v, ys, rfl, hR, hT, hb, hyl, hgb⟩; obtain ⟨a, cap, rfl, hcs⟩ := hT))
  have hg1 : W.grownBy w1 none := (World.grownBy_alloc W (.cells #[.map (some mb)] 81) none).trans (below_grown hb none)
  have hJ1 : J [] w1 := hJ [] W w1 none h0 hg1 (fun r e => by cases e)
  have hk1 : KeepsBut X W w1 := KeepsBut.of_grown hg1 (fun j e => by cases e)
  have hB1 := hk1.cellOf hBn hBX
  have hr1 := hk1.same rb _ hrel (.inl rfl) hrX
  have hm1 : WMap w1 mb nn g := hk1.wmap ⟨D, hown, hrep⟩ hmX
  have hys := hN ys hR
  have hwf := hR.wf
  have hfr : ∀ gb ln cap', Value.slice a ys.length cap = .slice (some ⟨gb, 0, none⟩) ln cap' → ¬ X gb := fun gb ln cap' e hx => by
    have h1 := hgb gb ln cap' e
    have h2 := hX gb hx
    simp at h1
    omega
  have Hcs := hide hcs
  have HR := hide hR
  have HJ1 := hide hJ1
  clear hcs hR hJ1 Hkeys hN hgb hrel hown hrep h0
  try go_frame
  gi_loopw [12] (fun i wr => ∃ k : Nat, k ≤ ys.length ∧ i = .int .i64 k ∧ J (withW g (ys.take k)) wr ∧ KeepsBut X w1 wr ∧ W.heap.size ≤ wr.heap.size) (fun i _ => ys.length - (intOf i).toNat)
  case atStart => exact ⟨0, Nat.zero_le _, rfl, unhide HJ1, KeepsBut.refl _ _, hg1.size⟩
  case round =>
    obtain ⟨k, hk, rfl, hJk, hkk, hsk⟩ := hrel
    by_cases hlt : k < ys.length
    · obtain ⟨gb, rfl, d0, d1, d2⟩ := (unhide Hcs) k hlt
      have hx : (k : Int) < (ys.length : Int) := by omega
      have hgX : ¬ X gb := hfr gb _ _ rfl
      replace d0 := hkk.cellOf d0 hgX
      replace d1 := hkk.cellOf d1 hgX
      replace d2 := hkk.cellOf d2 hgX
      obtain ⟨y, hy⟩ : ∃ y, y = ys[k]?.getD (0, 0, 0) := ⟨_, rfl⟩
      have hye : y = ys[k] := by rw [hy]; simp [hlt]
      have hwy : WfRow y := by rw [hye]; exact hwf _ (List.getElem_mem hlt)
      have htk : ys.take (k + 1) = ys.take k ++ [y] := by rw [List.take_succ_eq_append_getElem hlt, hye]
      rw [← hy] at d0 d1 d2
      obtain ⟨y1, y2, y3⟩ := y
      dsimp only at d0 d1 d2
      have hBr := hkk.cellOf hB1 hBX
      have hrr := hkk.same rb _ hr1 (.inl rfl) hrX
      have hmr := hkk.wmap hm1 hmX
      have e1 : wr.cell? ⟨rb, 1, none⟩ = some (.map (some mb)) := cell_of_heap hrr 1
      have Htk := hide htk
      have HJk := hide hJk
      have Hkk := hide hkk
      have Hmr := hide hmr
      clear hy hye htk hJk hkk hmr hrr
      gi_wp2_with fail
      have hJa : J (withW g (ys.take k)) (wr.alloc (.cells #[.int .i64 y1, .int .i64 y2, .int .i64 y3] 127)).drew :=
        hJ _ wr _ none (unhide HJk) ((World.grownBy_alloc _ _ none).trans (grown_drew _)) (fun r e => by cases e)
      have hka : KeepsBut X wr (wr.alloc (.cells #[.int .i64 y1, .int .i64 y2, .int .i64 y3] 127)).drew := KeepsBut.of_grown ((World.grownBy_alloc _ _ none).trans (grown_drew _)) (fun j e => by cases e)
      have hsa : wr.heap.size < (wr.alloc (.cells #[.int .i64 y1, .int .i64 y2, .int .i64 y3] 127)).drew.heap.size := by
        show wr.heap.size < (wr.alloc _).heap.size
        simp
      obtain ⟨fn, tmps, assign, body, hy, hR⟩ := hY _ ((y1, y2, y3), g (y1, y2, y3)) _ hJa (by simp [withW]; omega)
      have hR' := hR.mono (R' := fun e W' => ∃ r : Bool, e = .returned (.bool r) ∧ ((r = true ∧ J (withW g (ys.take k) ++ [((y1, y2, y3), g (y1, y2, y3))]) W' ∧ KeepsBut X (wr.alloc (.cells #[.int .i64 y1, .int .i64 y2, .int .i64 y3] 127)).drew W') ∨ (r = false ∧ Jx (withW g (ys.take k) ++ [((y1, y2, y3), g (y1, y2, y3))]) W'))) (by
        rintro e W3 (⟨rfl, h1, h2⟩ | ⟨rfl, h1⟩)
        · exact ⟨true, rfl, .inl ⟨rfl, h1, h2⟩⟩
        · exact ⟨false, rfl, .inr ⟨rfl, h1⟩⟩)
      have hlk : (Instr.lookup 81 (.map (some mb)) (.agg #[.int .i64 y1, .int .i64 y2, .int .i64 y3]) false).run Tryz.prog (wr.alloc (.cells #[.int .i64 y1, .int .i64 y2, .int .i64 y3] 127)).drew = .ok (.int .i64 (g (y1, y2, y3))) (wr.alloc (.cells #[.int .i64 y1, .int .i64 y2, .int .i64 y3] 127)).drew := (hka.wmap (unhide Hmr) hmX).look hwy
      have f0 : (wr.alloc (.cells #[.int .i64 y1, .int .i64 y2, .int .i64 y3] 127)).drew.cell? ⟨wr.heap.size, 0, none⟩ = some (.int .i64 y1) := cell_of_heap (heap_last _ _ _ rfl) 0
      have f1 : (wr.alloc (.cells #[.int .i64 y1, .int .i64 y2, .int .i64 y3] 127)).drew.cell? ⟨wr.heap.size, 1, none⟩ = some (.int .i64 y2) := cell_of_heap (heap_last _ _ _ rfl) 1
      have f2 : (wr.alloc (.cells #[.int .i64 y1, .int .i64 y2, .int .i64 y3] 127)).drew.cell? ⟨wr.heap.size, 2, none⟩ = some (.int .i64 y3) := cell_of_heap (heap_last _ _ _ rfl) 2
      have fB := hka.cellOf hBr hBX
      have fr := hka.cellOf e1 hrX
      dsimp only at hy
      have HR' := hide hR'
      have Hka := hide hka
      have HJa := hide hJa
      clear hR hR' hka hJa hBr e1 d0 d1 d2 hB1 hr1 hm1 hBn c1 hJ hY
      gi_region_with (refine (unhide HR').mono ?_; rintro e W3 ⟨r, rfl, hor⟩)
      all_goals (rcases hor with ⟨rfl, hJ3, hk3⟩ | ⟨rfl, hx3⟩)
      all_goals first
        | (gi_wp2
           go_roundw
           case rel => exact ⟨k + 1, by omega, by simp, by rw [unhide Htk]; simpa [withW] using hJ3, ((unhide Hkk).trans (unhide Hka)).trans hk3, by have := hk3.size; omega⟩
           case measure => simp [intOf]; omega)
        | (gi_wp2
           refine bodyPost_ret (results_none rfl _ _ _) rfl ?_
           exact ⟨⟨_, rfl⟩, .inr ⟨_, trivial, hx3⟩⟩)
    · have hke : k = ys.length := by omega
      subst hke
      rw [List.take_length] at hJk
      gi_wp2
      go_end0
      exact ⟨⟨_, rfl⟩, .inl ⟨_, ⟨ys, unhide HR, rfl⟩, hJk⟩⟩

end Go.Proofs.YtgddkjhknlgbbaaGreatDoor
