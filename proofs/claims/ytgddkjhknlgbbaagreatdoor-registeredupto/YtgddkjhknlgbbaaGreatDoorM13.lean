import Derived.Test.YtgddkjhknlgbbaaGreatDoorM12
import Derived.Test.YtgddkjhknlgbbaaGreatDoorM09
import Derived.Test.YtgddkjhknlgbbaaGreatDoorM01
import Derived.Laws.CopyRow
import Derived.Test.YtgddkjhknlgbbaaGreatDoorM08
set_option linter.unusedVariables false
set_option linter.unusedSimpArgs false

namespace Go.Proofs.YtgddkjhknlgbbaaGreatDoor
open Go.RowKit Go.Maps Go.Sort Go.Shelf
attribute [local go_sem] Oper.semAt_some

theorem Tryz.info86 : (Tryz.prog.info? 86).map (fun i => (i.zero, i.size, i.bytes)) = some (some (.agg #[.slice none 0 0, .int .i64 0]), 2, 32) := by kernel_rfl

theorem all_any (p : Option Addr) (w : World) : Calls Tryz.prog 84 #[.pointer p] w fun e w' => e = .returned (.func (.func 98) #[] #[.pointer (some ⟨w.heap.size, 0, none⟩)]) ∧ w' = w.alloc (.cells #[.pointer p] 65) := by
  go_enter Tryz.func84, Tryz.ntmps84
  go_wp2
  go_ret
  exact ⟨rfl, rfl⟩

theorem wpListIn_copy_own {F : Fence} {n : Nat} {P : Program} {w : World} {ops : Array Oper} {rest : List Oper} {o : Oper} {a : Act} {Q : Exit → Act → World → Prop} (hgd : o.guard = none) (d s : Operand) (dT sT : TypeId)
    (ho : o.op = .call { callee := .builtin .copy, args := #[d, s], argTypes := #[dT, sT] }) (elem : TypeId) (hu : P.underlying dT = some (.slice elem)) (hsz : (P.info? elem).map (·.size) = some 1)
    (g dLen dCap : Nat) (ad : Addr) (sLen sCap : Nat) (hd : a.eval d = .slice (some ⟨g, 0, none⟩) dLen dCap) (hs : a.eval s = .slice (some ad) sLen sCap)
    (cur : Array Value) (t : TypeId) (hg : w.heap[g]? = some (.cells cur t (0, 0))) (cs : List Value) (hn : cs.length = Nat.min sLen dLen)
    (hsrc : ∀ j v, cs[j]? = some v → w.cell? (ad.add j) = some v) (hfit : cs.length = cur.size) (h1 : ∀ v ∈ cs, v.oneCell' = true)
    (h : ∀ w', w'.heap[g]? = some (.cells cs.toArray t (0, 0)) → w.grownBy w' (some g) → wpListIn F n P ops Q rest (a.put o.dst (goInt cs.length)) w') : wpListIn F n P ops Q (o :: rest) a w := by
  refine wpListIn_plain hgd fun K hK' => ?_
  have hrun := run_copy_row (P := P) w dT sT o.type elem g 0 dLen dCap ad sLen sCap cur t cs hu hsz hg hn hsrc (by omega) h1
  unfold Oper.wpIn
  refine ⟨?_, ?_⟩
  · simp [Oper.about, ho, resolve, Target.leads, Sem.run_pure]
  · rw [Oper.semAt_plain F _ _ (by rw [ho]; intro c hc'; cases hc')]
    simp [execOp, ho, resolve, invoke, builtin, hd, hs, hrun, Result.andThen]
    refine hK' _ _ (h _ ?_ ⟨rfl, rfl, rfl, by simp [World.setRow], fun k hk hne => setRow_other w g k _ (fun e => hne (by rw [e]))⟩)
    rw [setRow_heap w g _ _ t _ hg]
    simp [hfit]

def valsR (ar : Nat) (y : Row) : List Value := (encR y).take ar
def cellsV (ar : Nat) (xs : List ((Row × Int) × Nat)) : List Value := xs.flatMap fun p => [.slice (some ⟨p.2, 0, none⟩) ar ar, .int .i64 p.1.2]
def ValsIn (W : World) (B ar : Nat) (xs : List ((Row × Int) × Nat)) : Prop := (xs.Pairwise fun p q => p.2 < q.2) ∧ ∀ p ∈ xs, W.heap[p.2]? = some (.cells (valsR ar p.1.1).toArray 2 (0, 0)) ∧ B ≤ p.2

/-- What the caller has built of the rows. -/
def Built (w : World) (ar Br g cap Bp rb : Nat) (pre : List (Row × Int)) (W : World) : Prop :=
  ∃ xs, xs.map (·.1) = pre ∧ Boxed W Br 70 (.slice (some ⟨g, 0, none⟩) pre.length cap) ∧ W.ownsRow w.heap.size 86 2 (.slice (some ⟨g, 0, none⟩) pre.length cap) pre.length (cellsV ar xs) ∧ ValsIn W w.heap.size ar xs ∧
    Boxed W Bp 65 (.pointer (some ⟨rb, 0, none⟩)) ∧ Below w.heap.size w W

theorem ValsIn.kept {W W' : World} {B ar : Nat} {xs : List ((Row × Int) × Nat)} {row : Option Nat} (h : ValsIn W B ar xs) (hg : W.grownBy W' row) (hrow : ∀ j, row = some j → ∀ cur, W.heap[j]? ≠ some (.cells cur 2 (0, 0))) : ValsIn W' B ar xs := ⟨h.1, fun p hp => by
  obtain ⟨h1, h2⟩ := h.2 p hp
  refine ⟨(hg.block p.2 (Array.getElem?_eq_some_iff.1 h1).1 (fun e => ?_)).trans h1, h2⟩
  exact hrow p.2 e.symm _ h1⟩

theorem Built.own (w : World) (ar Br g cap Bp rb B : Nat) (hB : w.heap.size ≤ B) : OwnFrom B (Built w ar Br g cap Bp rb) := by
  rintro pre W W' row ⟨xs, hm, b1, ho, hv, b2, hb⟩ hg hr
  have hno : ∀ k cs t, W.heap[k]? = some (.cells cs t (0, 0)) → some k ≠ row := fun k cs t hk e => by
    obtain ⟨_, o, h1, h2⟩ := hr k e.symm
    rw [hk] at h1; cases h1; cases h2
  refine ⟨xs, hm, b1.kept hg (hno _ _ _ b1), ho.kept hg (.inr ?_), hv.kept hg (fun j e cur hj => hno j _ _ hj e.symm), b2.kept hg (hno _ _ _ b2), hb.grown hg hb.size (fun k e => Nat.le_trans hB (hr k e).1)⟩
  rcases ho.2 with ⟨h, _⟩ | ⟨g', cap', cur, h, _, hgh, _⟩
  · cases h
  · simp at h
    obtain ⟨rfl, _⟩ := h
    exact fun e => hno _ _ _ hgh (by simpa [Value.ownBlock] using e)

theorem built_step {w W w2 w3 : World} {ar Br g cap Bp rb B : Nat} {pre : List (Row × Int)} {x : Row × Int} {xs : List ((Row × Int) × Nat)} {tmp : Obj}
    (hm : xs.map (·.1) = pre) (bS : Boxed W Br 70 (.slice (some ⟨g, 0, none⟩) pre.length cap)) (hrow : W.ownsRow w.heap.size 86 2 (.slice (some ⟨g, 0, none⟩) pre.length cap) pre.length (cellsV ar xs)) (hvs : ValsIn W w.heap.size ar xs)
    (bP : Boxed W Bp 65 (.pointer (some ⟨rb, 0, none⟩))) (hB : Below w.heap.size w W) (hg2 : W.grownBy w2 none) (hv2 : w2.heap[W.heap.size]? = some (.cells (valsR ar x.1).toArray 2 (0, 0)))
    (hrow3 : w3.ownsRow w.heap.size 86 2 (.slice (some ⟨g, 0, none⟩) (pre.length + 1) cap) (pre.length + 1) (cellsV ar xs ++ [.slice (some ⟨W.heap.size, 0, none⟩) ar ar, .int .i64 x.2])) (hg3 : (w2.alloc tmp).grownBy w3 (some g))
    (hgB : g < B) (hBB : Br < B) (hwg : w.heap.size ≤ g) (hwB : w.heap.size ≤ Br) :
    KeepsFrom B W (w3.setCell ⟨Br, 0, none⟩ (.slice (some ⟨g, 0, none⟩) (pre.length + 1) cap)) ∧ KeepsBut (fun k => k = Br ∨ k = g) W (w3.setCell ⟨Br, 0, none⟩ (.slice (some ⟨g, 0, none⟩) (pre.length + 1) cap)) ∧
      Built w ar Br g cap Bp rb (pre ++ [x]) (w3.setCell ⟨Br, 0, none⟩ (.slice (some ⟨g, 0, none⟩) (pre.length + 1) cap)) := by
  have hA : W.grownBy (w2.alloc tmp) none := hg2.trans (World.grownBy_alloc _ _ none)
  have hC := grownBy_setCell' w3 Br (.slice (some ⟨g, 0, none⟩) (pre.length + 1) cap)
  obtain ⟨cur, hgh⟩ : ∃ cur, W.heap[g]? = some (.cells cur 86 (0, 0)) := by
    rcases hrow.2 with ⟨h, _⟩ | ⟨g', cap', cur, h, _, hgh, _⟩
    · cases h
    · simp at h; obtain ⟨rfl, _⟩ := h; exact ⟨cur, hgh⟩
  have hne : Br ≠ g := fun e => by rw [e] at bS; rw [show W.heap[g]? = _ from bS] at hgh; simp at hgh
  have hnP : Bp ≠ g := fun e => by rw [e] at bP; rw [show W.heap[g]? = _ from bP] at hgh; simp at hgh
  have hnP2 : Bp ≠ Br := fun e => by rw [e] at bP; have h9 : W.heap[Br]? = _ := bS; rw [show W.heap[Br]? = _ from bP] at h9; simp at h9
  have bS3 : Boxed w3 Br 70 (.slice (some ⟨g, 0, none⟩) pre.length cap) := (bS.kept hA (by simp)).kept hg3 (by simp [hne])
  have hghA : (w2.alloc tmp).heap[g]? = some (.cells cur 86 (0, 0)) := (hA.block g (Array.getElem?_eq_some_iff.1 hgh).1 (by simp)).trans hgh
  refine ⟨((KeepsFrom.of_grownBy hA (fun j e => by cases e)).trans (KeepsFrom.of_grownBy hg3 (fun j e => by cases e; exact hgB))).trans (KeepsFrom.of_grownBy hC (fun j e => by cases e; exact hBB)),
    ((KeepsBut.of_grown hA (fun j e => by cases e)).trans (KeepsBut.of_grown hg3 (fun j e => by cases e; exact .inr rfl))).trans (KeepsBut.of_grown hC (fun j e => by cases e; exact .inl rfl)), ?_⟩
  have hl : (pre ++ [x]).length = pre.length + 1 := by simp
  refine ⟨xs ++ [(x, W.heap.size)], by simp [hm], ?_, ?_, ?_, ?_, ?_⟩
  · rw [hl]; exact bS3.set _
  · rw [hl]
    have e : cellsV ar (xs ++ [(x, W.heap.size)]) = cellsV ar xs ++ [.slice (some ⟨W.heap.size, 0, none⟩) ar ar, .int .i64 x.2] := by simp [cellsV]
    rw [e]
    exact hrow3.kept hC (.inr (by simp [Value.ownBlock]; omega))
  · have h2 : ValsIn w2 w.heap.size ar (xs ++ [(x, W.heap.size)]) := by
      refine ⟨List.pairwise_append.2 ⟨hvs.1, List.pairwise_singleton _ _, fun p hp q hq => ?_⟩, fun p hp => ?_⟩
      · simp at hq; subst hq; exact (Array.getElem?_eq_some_iff.1 (hvs.2 p hp).1).1
      · rcases List.mem_append.1 hp with hp | hp
        · exact (hvs.kept hg2 (fun j e => by cases e)).2 p hp
        · simp at hp; subst hp; exact ⟨hv2, hB.size⟩
    refine ((h2.kept (World.grownBy_alloc _ tmp none) (fun j e => by cases e)).kept hg3 (fun j e c hj => ?_)).kept hC (fun j e c hj => ?_)
    · cases e; rw [hghA] at hj; simp at hj
    · cases e; rw [show w3.heap[Br]? = _ from bS3] at hj; simp at hj
  · exact ((bP.kept hA (by simp)).kept hg3 (by simp [hnP])).kept hC (by simp [hnP2])
  · refine ((hB.grown hA hB.size (fun k e => by cases e)).grown hg3 (Nat.le_trans hB.size hA.size) (fun k e => by cases e; exact hwg)).grown hC (Nat.le_trans (Nat.le_trans hB.size hA.size) hg3.size) (fun k e => by cases e; exact hwB)

theorem grown_fresh {W w2 : World} {o : Obj} (h : (W.alloc o).grownBy w2 (some W.heap.size)) : W.grownBy w2 none :=
  ⟨h.os, h.tape, h.output, by have := h.size; simp at this; omega, fun k hk _ => (h.block k (by simp; omega) (by simp; omega)).trans (Below.heap_alloc W o k hk)⟩

theorem cells2_new (W : World) (a b : Value) (t : TypeId) : ∀ j u, [a, b][j]? = some u → (W.alloc (.cells #[a, b] t)).cell? ((⟨W.heap.size, 0, none⟩ : Addr).add j) = some u := by
  intro j u hj
  match j, hj with
  | 0, hj => cases hj; exact cell_of_heap (heap_last _ _ _ rfl) 0
  | 1, hj => cases hj; exact cell_of_heap (heap_last _ _ _ rfl) 1

set_option maxRecDepth 100000 in
set_option maxHeartbeats 4000000 in
theorem rows_in (n : Nat) (hn : 5 ≤ n) (nm : ByteArray) (w : World) {eb db nD S0 E : Nat} {st : St} {R : Rel} (hE : EngRep w eb db nD S0 E st) (hnm : nm.size ≤ maxLen) (hR : st nm = some R) (har : R.ar = 1 ∨ R.ar = 2 ∨ R.ar = 3) (hnn : R.n ≤ 1000000000) (D : DataW Unit) (hown : w.ownsMap Tryz.prog 127 (plainElem Tryz.prog 3) R.mb R.n D) (hrep : Rep D R.f) :
    CallsIn Fence.wide n Tryz.prog 52 #[.pointer (some ⟨eb, 0, none⟩), .string nm] w fun e w' => ∃ v ys xs, e = .returned (.tuple #[v, .int .i64 0]) ∧ RowsOf D ys ∧ xs.map (·.1) = withW R.f ys ∧ w'.ownsRow w.heap.size 86 2 v xs.length (cellsV R.ar xs) ∧ ValsIn w' w.heap.size R.ar xs ∧ Below w.heap.size w w' := by
  have h1 : 1 ≤ n := by omega
  have hlk := hE.hit hnm hR
  have hrel := (hE.rel nm R hR).1
  have hce : w.cell? ⟨eb, 0, none⟩ = some (.map (some db)) := hE.c0
  have hszD := hown.size_le
  obtain ⟨rb, mb, ar, nn, f⟩ := R
  dsimp only at *
  obtain ⟨i62, hi, hz0, hz1, hz2⟩ := info_parts Tryz.info86
  have hrl : rb < w.heap.size := (Array.getElem?_eq_some_iff.1 hrel).1
  have Hrel := hide hrel
  have Hown := hide hown
  have Hrep := hide hrep
  have HE := hide hE
  clear hrel hown hrep hE hR
  refine callsIn_of_wp_marks Tryz.func52 rfl trivial ?_ rfl
  simp only [Tryz.ntmps52, List.size_toArray, List.length_cons, List.length_nil, Nat.reduceAdd, Nat.reduceSub, Array.replicate_succ, Array.replicate_zero, List.push_toArray, List.append_toArray, List.nil_append, List.cons_append]
  gi_wp2_with (first
    | (refine ⟨trivial, ?_⟩; gi_at_call 83; refine (callsIn_wide.2 (len_any rb ar mb nn _ ((Below.heap_alloc _ _ rb hrl).trans (unhide Hrel)) ((unhide Hown).alloc _))).mono ?_; rintro e w' ⟨rfl, rfl⟩)
    | (gi_at_make; refine wpListIn_make_own _ rfl _ _ _ rfl w.heap.size 86 i62 _ 2 Tryz.underlying70 hi hz0 hz1 _ _ _ (Maps.size D) rfl rfl rfl (by rw [hz2]; omega) (by unfold maxLen; omega) (by simp) ?_; intro w1 hrow1 hg1; have bP1 : Boxed w1 w.heap.size 65 (.pointer (some ⟨rb, 0, none⟩)) := (Boxed.new w 65 _).kept hg1 (by simp); have cP1 := (bP1.alloc (.cells #[Value.slice (some ⟨w.heap.size + 1, 0, none⟩) 0 (Maps.size D)] 70)).cell)
    | (refine ⟨trivial, ?_⟩; gi_at_call 84; refine (callsIn_wide.2 (all_any _ _)).mono ?_; rintro e w' ⟨rfl, rfl⟩))
  have hb1 : Below w.heap.size w w1 := ((Below.refl _ w).alloc (Nat.le_refl _) _).grown hg1 (by simp) (fun k e => by cases e)
  have hs1 : w.heap.size + 2 ≤ w1.heap.size := by
    rcases hrow1.2 with ⟨h, _⟩ | ⟨g, cap, cur, h, _, hgh, _⟩
    · simp at h
    · have := (Array.getElem?_eq_some_iff.1 hgh).1
      simp at h
      omega
  have hrow1' : w1.ownsRow w.heap.size 86 2 (.slice (some ⟨w.heap.size + 1, 0, none⟩) 0 (Maps.size D)) 0 [] := by simpa using hrow1
  clear hrow1 cP1 hg1
  obtain ⟨Bp, hBp⟩ : ∃ Bp, Bp = w.heap.size := ⟨_, rfl⟩
  obtain ⟨g, hgE⟩ : ∃ g, g = w.heap.size + 1 := ⟨_, rfl⟩
  obtain ⟨Br, hBr⟩ : ∃ Br, Br = w1.heap.size := ⟨_, rfl⟩
  have hseq : SeqStopsK Fence.wide (n - 1) Tryz.prog 98 #[.pointer (some ⟨w1.heap.size + 1, 0, none⟩)] (fun x : Row × Int => #[Value.agg #[.int .i64 x.1.1, .int .i64 x.1.2.1, .int .i64 x.1.2.2], .int .i64 x.2]) (KeepsBut fun k => k = Br ∨ k = g) (fun xs => ∃ ys, RowsOf D ys ∧ xs = withW f ys) (fun _ => True) (Maps.size D) ((w1.alloc (.cells #[.slice (some ⟨w.heap.size + 1, 0, none⟩) 0 (Maps.size D)] 70)).alloc (.cells #[.pointer (some ⟨rb, 0, none⟩)] 65)) := fun l J Jx W hW hJ _ hY h0 => by
    have hsW := hW.size
    simp at hsW
    have hml := (unhide Hown).lt
    have hbW : Below w.heap.size w W := (((hb1.alloc hb1.size _).alloc (by simp; omega) _)).trans (hW.mono (by simp; omega))
    refine all1_in (n - 1) (by omega) l (w1.heap.size + 1) rb ar mb nn f _ J Jx (Maps.size D) hY W hJ (fun k hk => by omega) ?_ (by omega) ((hbW.block rb hrl).trans (unhide Hrel)) (by omega) (by omega) D ?_ (unhide Hrep) hnn (fun ys hR => ?_) h0
    · rw [hW.cell (p := ⟨w1.heap.size + 1, 0, none⟩) (by simp)]
      exact cell_of_heap (heap_last _ _ _ (by simp)) 0
    · obtain ⟨es, clock, hb, Ft, hs, hD⟩ := (unhide Hown)
      exact ⟨es, clock, (hbW.block mb hml).trans hb, Ft, hs, hD⟩
    · exact len_le_size ((unhide Hown).tidy law60) hR.wf (hR.rising.imp (fun {a b} h e => by subst e; unfold ltR at h; omega)) (fun x hx => (hR.mem x (hR.wf x hx)).1 hx)
  refine wpIn_rangeFunc_ownH rfl h1 (gf := 98) (lb := #[.pointer (some ⟨w1.heap.size + 1, 0, none⟩)]) rfl trivial (enters_of Tryz.func98 (by kernel_rfl) rfl) hseq KeepsBut.trans (fun W l o o' _ h1 h2 h3 => KeepsBut.put W l o o' h1 h2 h3) (Below.refl _ _) (fun _ => rfl)
    (Built w ar Br g (Maps.size D) Bp rb)
    (fun _ _ _ => False)
    (Built.own w ar Br g (Maps.size D) Bp rb _ (by simp; omega))
    (fun _ _ _ _ _ hs _ _ => hs)
    ?start
    (fun x a' W => ∃ Bx, W.heap[Bx]? = some (.cells #[.int .i64 x.1.1, .int .i64 x.1.2.1, .int .i64 x.1.2.2] 127 (0, 0)) ∧
      a' = { tmps := #[.pointer (some ⟨eb, 0, none⟩), .string nm, undef, undef, .slice none 0 0, .int .i64 0, .pointer (some ⟨w.heap.size, 0, none⟩), .bool true, .pointer (some ⟨w1.heap.size, 0, none⟩), .pointer (some ⟨Bx, 0, none⟩), .int .i64 x.2, undef,
        .tuple #[.pointer (some ⟨rb, 0, none⟩), .bool true], .pointer (some ⟨eb, 0, none⟩), .pointer (some ⟨eb, 0, none⟩), .pointer (some ⟨eb, 0, none⟩), .map (some db), .string nm, .tuple #[.pointer (some ⟨rb, 0, none⟩), .bool true], .pointer (some ⟨rb, 0, none⟩), .bool true, .bool true, .bool false, .pointer (some ⟨rb, 0, none⟩), .int .i64 (Maps.size D), .slice (some ⟨w.heap.size + 1, 0, none⟩) 0 (Maps.size D), .pointer (some ⟨rb, 0, none⟩), .func (.func 98) #[] #[.pointer (some ⟨w1.heap.size + 1, 0, none⟩)], .agg #[.int .i64 x.1.1, .int .i64 x.1.2.1, .int .i64 x.1.2.2], .int .i64 x.2, undef, undef, undef, undef, undef, undef, undef, undef, undef, undef, undef, undef, undef], defers := [] })
    (fun x a' _ X Y row hs hg hr => by
      obtain ⟨Bx, h2, h3⟩ := hs
      refine ⟨Bx, (hg.block Bx (Array.getElem?_eq_some_iff.1 h2).1 (fun e => ?_)).trans h2, h3⟩
      obtain ⟨_, o, ho, hc⟩ := hr Bx e.symm
      rw [h2] at ho
      cases ho
      cases hc)
    ?assign ?body ?done ?stop
  case start =>
    subst hBr hgE hBp
    refine ⟨[], rfl, (Boxed.new w1 70 _).alloc _, (hrow1'.alloc _).alloc _, ⟨List.Pairwise.nil, fun p hp => by simp at hp⟩, (bP1.alloc _).alloc _, (hb1.alloc hb1.size _).alloc (by simp; omega) _⟩
  case assign =>
    rintro l pre x W K hI hK
    gi_wp2
    refine hK _ _ ((KeepsOthers.alloc _ _).from _) (KeepsBut.of_grown (World.grownBy_alloc _ _ none) (fun j e => by cases e)) ?_ ⟨W.heap.size, heap_last _ _ _ rfl, rfl⟩
    exact (Built.own w ar Br g (Maps.size D) Bp rb _ (Nat.le_refl _)).alloc _ hI
  case body =>
    rintro l pre x a' W hl ⟨r, hr⟩ ⟨xs, hm, bS, hrow, hvs, bP, hB⟩ ⟨Bx, hX, rfl⟩ hlt
    obtain ⟨⟨x1, x2, x3⟩, xw⟩ := x
    dsimp only at hX ⊢
    subst hBr hgE hBp
    have c0 : W.cell? ⟨Bx, 0, none⟩ = some (.int .i64 x1) := cell_of_heap hX 0
    have c1 : W.cell? ⟨Bx, 1, none⟩ = some (.int .i64 x2) := cell_of_heap hX 1
    have c2 : W.cell? ⟨Bx, 2, none⟩ = some (.int .i64 x3) := cell_of_heap hX 2
    have cS := bS.cell
    have cP := bP.cell
    have hBs := hB.size
    have hrW : W.heap[rb]? = some (.cells #[.int .i64 ar, .map (some mb)] 122 (0, 0)) := (hB.block rb hrl).trans (unhide Hrel)
    rcases har with rfl | rfl | rfl
    · have hmk : ∀ w, (Instr.makeSlice 73 (.int .i64 1) (.int .i64 1)).run Tryz.prog w = .ok (.slice (some ⟨w.heap.size, 0, none⟩) 1 1) (w.alloc (.cells #[.int .i64 0] 2)) := fun _ => by kernel_rfl
      have hsrc : ∀ j v, [Value.int .i64 x1][j]? = some v → (W.alloc (.cells #[.int .i64 0] 2)).cell? ((⟨Bx, 0, none⟩ : Addr).add j) = some v := by
        have hX' := (Below.heap_alloc W (.cells #[.int .i64 0] 2) Bx (Array.getElem?_eq_some_iff.1 hX).1).trans hX
        intro j v hj
        match j, hj with
        | 0, hj => cases hj; exact cell_of_heap hX' 0
      gi_wp2_with (first
        | (refine ⟨trivial, fun _ => by omega, ?_⟩; gi_at_call 64; refine (show CallsIn Fence.wide _ _ _ _ _ _ from (callsIn_wide.2 (arity_any rb _ mb _ hrW))).mono ?_; rintro e w' ⟨rfl, hw'⟩; replace hw' := hw'.symm; subst hw')
        | (refine wpListIn_copy_own rfl (.tmp 33) (.tmp 34) 73 73 rfl 2 Tryz.underlying73 Tryz.infoSize2 W.heap.size 1 1 ⟨Bx, 0, none⟩ 3 3 rfl rfl #[.int .i64 0] 2 (heap_last _ _ _ rfl) [.int .i64 x1] rfl hsrc rfl (by simp [Value.oneCell']) ?_; intro w2 hv2 hg2; replace hg2 := grown_fresh hg2; have bS2 := bS.kept hg2 (by simp); have cS2 := (bS2.alloc (.cells #[.slice (some ⟨W.heap.size, 0, none⟩) 1 1, .int .i64 xw] 86)).cell; have cS0 := bS2.cell; have hrow2 := hrow.kept hg2 (.inr (by simp [Value.ownBlock])); have hnew := cells2_new w2 (.slice (some ⟨W.heap.size, 0, none⟩) 1 1) (.int .i64 xw) 86)
        | (gi_at_builtin; refine wpListIn_append_fits _ rfl _ _ 70 rfl w.heap.size 86 i62 2 Tryz.underlying70 hi hz1 (w.heap.size + 1) pre.length (Maps.size D) _ rfl (hrow2.alloc _) ⟨w2.heap.size, 0, none⟩ 1 1 [.slice (some ⟨W.heap.size, 0, none⟩) 1 1, .int .i64 xw] rfl rfl hnew (by simp [Value.oneCell']) (by omega) ?_; intro w3 hrow3 hg3; have hc3 := ((bS2.alloc _).kept hg3 (by simp; omega)).cell; have hf3 := ((bS2.alloc _).kept hg3 (by simp; omega)).frozen))
      exact built_step hm bS hrow hvs bP hB hg2 (x := ((x1, x2, x3), xw)) hv2 hrow3 hg3 (by simp; omega) (by simp; omega) (by omega) (by omega)
    · have hmk : ∀ w, (Instr.makeSlice 73 (.int .i64 2) (.int .i64 2)).run Tryz.prog w = .ok (.slice (some ⟨w.heap.size, 0, none⟩) 2 2) (w.alloc (.cells #[.int .i64 0, .int .i64 0] 2)) := fun _ => by kernel_rfl
      have hsrc : ∀ j v, [Value.int .i64 x1, .int .i64 x2][j]? = some v → (W.alloc (.cells #[.int .i64 0, .int .i64 0] 2)).cell? ((⟨Bx, 0, none⟩ : Addr).add j) = some v := by
        have hX' := (Below.heap_alloc W (.cells #[.int .i64 0, .int .i64 0] 2) Bx (Array.getElem?_eq_some_iff.1 hX).1).trans hX
        intro j v hj
        match j, hj with
        | 0, hj => cases hj; exact cell_of_heap hX' 0
        | 1, hj => cases hj; exact cell_of_heap hX' 1
      gi_wp2_with (first
        | (refine ⟨trivial, fun _ => by omega, ?_⟩; gi_at_call 64; refine (show CallsIn Fence.wide _ _ _ _ _ _ from (callsIn_wide.2 (arity_any rb _ mb _ hrW))).mono ?_; rintro e w' ⟨rfl, hw'⟩; replace hw' := hw'.symm; subst hw')
        | (refine wpListIn_copy_own rfl (.tmp 33) (.tmp 34) 73 73 rfl 2 Tryz.underlying73 Tryz.infoSize2 W.heap.size 2 2 ⟨Bx, 0, none⟩ 3 3 rfl rfl #[.int .i64 0, .int .i64 0] 2 (heap_last _ _ _ rfl) [.int .i64 x1, .int .i64 x2] rfl hsrc rfl (by simp [Value.oneCell']) ?_; intro w2 hv2 hg2; replace hg2 := grown_fresh hg2; have bS2 := bS.kept hg2 (by simp); have cS2 := (bS2.alloc (.cells #[.slice (some ⟨W.heap.size, 0, none⟩) 2 2, .int .i64 xw] 86)).cell; have cS0 := bS2.cell; have hrow2 := hrow.kept hg2 (.inr (by simp [Value.ownBlock])); have hnew := cells2_new w2 (.slice (some ⟨W.heap.size, 0, none⟩) 2 2) (.int .i64 xw) 86)
        | (gi_at_builtin; refine wpListIn_append_fits _ rfl _ _ 70 rfl w.heap.size 86 i62 2 Tryz.underlying70 hi hz1 (w.heap.size + 1) pre.length (Maps.size D) _ rfl (hrow2.alloc _) ⟨w2.heap.size, 0, none⟩ 1 1 [.slice (some ⟨W.heap.size, 0, none⟩) 2 2, .int .i64 xw] rfl rfl hnew (by simp [Value.oneCell']) (by omega) ?_; intro w3 hrow3 hg3; have hc3 := ((bS2.alloc _).kept hg3 (by simp; omega)).cell; have hf3 := ((bS2.alloc _).kept hg3 (by simp; omega)).frozen))
      exact built_step hm bS hrow hvs bP hB hg2 (x := ((x1, x2, x3), xw)) hv2 hrow3 hg3 (by simp; omega) (by simp; omega) (by omega) (by omega)
    · have hmk : ∀ w, (Instr.makeSlice 73 (.int .i64 3) (.int .i64 3)).run Tryz.prog w = .ok (.slice (some ⟨w.heap.size, 0, none⟩) 3 3) (w.alloc (.cells #[.int .i64 0, .int .i64 0, .int .i64 0] 2)) := fun _ => by kernel_rfl
      have hsrc : ∀ j v, [Value.int .i64 x1, .int .i64 x2, .int .i64 x3][j]? = some v → (W.alloc (.cells #[.int .i64 0, .int .i64 0, .int .i64 0] 2)).cell? ((⟨Bx, 0, none⟩ : Addr).add j) = some v := by
        have hX' := (Below.heap_alloc W (.cells #[.int .i64 0, .int .i64 0, .int .i64 0] 2) Bx (Array.getElem?_eq_some_iff.1 hX).1).trans hX
        intro j v hj
        match j, hj with
        | 0, hj => cases hj; exact cell_of_heap hX' 0
        | 1, hj => cases hj; exact cell_of_heap hX' 1
        | 2, hj => cases hj; exact cell_of_heap hX' 2
      gi_wp2_with (first
        | (refine ⟨trivial, fun _ => by omega, ?_⟩; gi_at_call 64; refine (show CallsIn Fence.wide _ _ _ _ _ _ from (callsIn_wide.2 (arity_any rb _ mb _ hrW))).mono ?_; rintro e w' ⟨rfl, hw'⟩; replace hw' := hw'.symm; subst hw')
        | (refine wpListIn_copy_own rfl (.tmp 33) (.tmp 34) 73 73 rfl 2 Tryz.underlying73 Tryz.infoSize2 W.heap.size 3 3 ⟨Bx, 0, none⟩ 3 3 rfl rfl #[.int .i64 0, .int .i64 0, .int .i64 0] 2 (heap_last _ _ _ rfl) [.int .i64 x1, .int .i64 x2, .int .i64 x3] rfl hsrc rfl (by simp [Value.oneCell']) ?_; intro w2 hv2 hg2; replace hg2 := grown_fresh hg2; have bS2 := bS.kept hg2 (by simp); have cS2 := (bS2.alloc (.cells #[.slice (some ⟨W.heap.size, 0, none⟩) 3 3, .int .i64 xw] 86)).cell; have cS0 := bS2.cell; have hrow2 := hrow.kept hg2 (.inr (by simp [Value.ownBlock])); have hnew := cells2_new w2 (.slice (some ⟨W.heap.size, 0, none⟩) 3 3) (.int .i64 xw) 86)
        | (gi_at_builtin; refine wpListIn_append_fits _ rfl _ _ 70 rfl w.heap.size 86 i62 2 Tryz.underlying70 hi hz1 (w.heap.size + 1) pre.length (Maps.size D) _ rfl (hrow2.alloc _) ⟨w2.heap.size, 0, none⟩ 1 1 [.slice (some ⟨W.heap.size, 0, none⟩) 3 3, .int .i64 xw] rfl rfl hnew (by simp [Value.oneCell']) (by omega) ?_; intro w3 hrow3 hg3; have hc3 := ((bS2.alloc _).kept hg3 (by simp; omega)).cell; have hf3 := ((bS2.alloc _).kept hg3 (by simp; omega)).frozen))
      exact built_step hm bS hrow hvs bP hB hg2 (x := ((x1, x2, x3), xw)) hv2 hrow3 hg3 (by simp; omega) (by simp; omega) (by omega) (by omega)
  case done =>
    rintro Dk zs W hD ⟨ys, hR, rfl⟩ ⟨xs, hm, bS, hrow, hvs, bP, hB⟩ hK
    have cS := bS.cell
    subst hBr hgE hBp
    gi_wp2
    refine ⟨by simp, .inl ⟨_, _, rfl, run_takeDeferred hK, ?_⟩⟩
    have hlen : (withW f ys).length = xs.length := by rw [← hm]; simp
    have hpg := grownBy_putObj' W Dk (.deferred none)
    refine ⟨_, results_tmp2 rfl _ _ _, _, ys, xs, rfl, hR, hm, ?_, ?_, ?_⟩
    · rw [← hlen]; exact ownsRow_putObj hrow _ hK rfl
    · exact hvs.kept hpg (fun j e cur hj => by cases e; rw [hK] at hj; cases hj)
    · exact hB.trans (belowK_b (w := w) (Nat.le_refl _) W Dk _ _ (by simp at hD; omega) hK rfl rfl)
  case stop =>
    rintro D c pre W _ _ h _
    exact h.elim

def numsR (ar : Nat) (y : Row) : List Int := [y.1, y.2.1, y.2.2].take ar
theorem valsR_eq (ar : Nat) (y : Row) : valsR ar y = (numsR ar y).map (Value.int .i64) := by simp [valsR, numsR, encR]

theorem cellsV_at (ar : Nat) (xs : List ((Row × Int) × Nat)) (i j : Nat) (hi : i < xs.length) (hj : j < 2) : (cellsV ar xs)[i * 2 + j]? = [Value.slice (some ⟨xs[i].2, 0, none⟩) ar ar, .int .i64 xs[i].1.2][j]? := by
  induction xs generalizing i with
  | nil => simp at hi
  | cons p ps ih =>
    have e : cellsV ar (p :: ps) = [Value.slice (some ⟨p.2, 0, none⟩) ar ar, .int .i64 p.1.2] ++ cellsV ar ps := rfl
    rw [e]
    cases i with
    | zero => rw [List.getElem?_append_left (by simp; omega)]; simp
    | succ i =>
      have h2 : (i + 1) * 2 + j - 2 = i * 2 + j := by omega
      rw [List.getElem?_append_right (by simp; omega)]
      simp only [List.length_cons, List.length_nil, Nat.zero_add, Nat.reduceAdd, h2]
      rw [ih i (by simpa using hi)]
      simp

theorem rows_of_own {w : World} {m ar : Nat} {v : Value} {xs : List ((Row × Int) × Nat)} (har : ar ≤ 3) (h : w.ownsRow m 86 2 v xs.length (cellsV ar xs)) (hr : ValsIn w m ar xs) : RowsAt w v (xs.map fun p => (numsR ar p.1.1, p.1.2)) := by
  rcases h.2 with ⟨rfl, h0⟩ | ⟨g, cap, cur, rfl, _, hg, _, _, _, ht⟩
  · have : xs = [] := List.eq_nil_of_length_eq_zero h0
    subst this
    exact ⟨none, 0, rfl, fun i hi => by simp at hi⟩
  · refine ⟨some ⟨g, 0, none⟩, cap, by simp, fun i hi => ?_⟩
    have hi' : i < xs.length := by simpa using hi
    have hx : ((xs.map fun p => (numsR ar p.1.1, p.1.2))[i]?.getD ([], 0)) = (numsR ar xs[i].1.1, xs[i].1.2) := by simp [hi']
    rw [hx]
    have hcell : ∀ j, j < 2 → cur[i * 2 + j]? = [Value.slice (some ⟨xs[i].2, 0, none⟩) ar ar, .int .i64 xs[i].1.2][j]? := by
      intro j hj
      rw [← cellsV_at ar xs i j hi' hj, ← ht, List.getElem?_take_of_lt (by omega)]
      simp
    refine ⟨g, 0, .slice (some ⟨xs[i].2, 0, none⟩) ar ar, rfl, ?_, ?_, ?_⟩
    · rw [cell_of_heap hg, Nat.zero_add]; exact hcell 0 (by omega)
    · have hb := (hr.2 _ (List.getElem_mem hi')).1
      rw [valsR_eq] at hb
      have hl : (numsR ar xs[i].1.1).length = ar := by simp [numsR]; omega
      have := ints_of_block hb ar
      rwa [hl] at this
    · rw [cell_of_heap hg, Nat.zero_add]; exact hcell 1 (by omega)

/-- The rows of a relation whose weights are f, in order. -/
structure RowsF (f : Row → Int) (ys : List Row) : Prop where
  rising : Rising ys
  wf : ∀ y ∈ ys, WfRow y
  mem : ∀ r, WfRow r → (r ∈ ys ↔ f r ≠ 0)

theorem rising_unique : ∀ (xs ys : List Row), Rising xs → Rising ys → (∀ r, r ∈ xs ↔ r ∈ ys) → xs = ys
  | [], [], _, _, _ => rfl
  | [], y :: ys, _, _, h => by have := (h y).2 (by simp); simp at this
  | x :: xs, [], _, _, h => by have := (h x).1 (by simp); simp at this
  | x :: xs, y :: ys, hx, hy, h => by
    have hx1 := List.pairwise_cons.1 hx
    have hy1 := List.pairwise_cons.1 hy
    have irr : ∀ a : Row, ¬ ltR a a := fun a h => by unfold ltR at h; omega
    have asym : ∀ a b : Row, ltR a b → ltR b a → False := fun a b h1 h2 => by unfold ltR at *; omega
    have e : x = y := by
      rcases List.mem_cons.1 ((h x).1 (by simp)) with e | e
      · exact e
      · rcases List.mem_cons.1 ((h y).2 (by simp)) with e2 | e2
        · exact e2.symm
        · exact (asym _ _ (hy1.1 x e) (hx1.1 y e2)).elim
    subst e
    congr 1
    refine rising_unique xs ys hx1.2 hy1.2 (fun r => ⟨fun hr => ?_, fun hr => ?_⟩)
    · rcases List.mem_cons.1 ((h r).1 (List.mem_cons_of_mem _ hr)) with e | e
      · subst e; exact (irr _ (hx1.1 _ hr)).elim
      · exact e
    · rcases List.mem_cons.1 ((h r).2 (List.mem_cons_of_mem _ hr)) with e | e
      · subst e; exact (irr _ (hy1.1 _ hr)).elim
      · exact e

theorem RowsF.unique {f : Row → Int} {xs ys : List Row} (h : RowsF f xs) (k : RowsF f ys) : xs = ys :=
  rising_unique xs ys h.rising k.rising fun r => ⟨fun hr => (k.mem r (h.wf r hr)).2 ((h.mem r (h.wf r hr)).1 hr), fun hr => (h.mem r (k.wf r hr)).2 ((k.mem r (k.wf r hr)).1 hr)⟩

def rowsZ (ar : Nat) (f : Row → Int) (ys : List Row) : List (List Int × Int) := ys.map fun y => (numsR ar y, f y)

theorem relRows_any (nm : ByteArray) (w : World) {eb db nD S0 E : Nat} {st : St} {R : Rel} (hE : EngRep w eb db nD S0 E st) (hnm : nm.size ≤ maxLen) (hR : st nm = some R) (har : R.ar = 1 ∨ R.ar = 2 ∨ R.ar = 3) (hnn : R.n ≤ 1000000000) :
    Calls Tryz.prog 52 #[.pointer (some ⟨eb, 0, none⟩), .string nm] w fun e w' => ∃ v ys, e = .returned (.tuple #[v, .int .i64 0]) ∧ RowsF R.f ys ∧ RowsAt w' v (rowsZ R.ar R.f ys) ∧ ys.length ≤ R.n ∧ Below w.heap.size w w' := by
  obtain ⟨D, hown, hrep⟩ := (hE.rel nm R hR).2
  refine ((callsIn_wide (n := 5)).1 (rows_in 5 (by omega) nm w hE hnm hR har hnn D hown hrep)).mono ?_
  rintro e w' ⟨v, ys, xs, rfl, hRo, hm, ho, hv, hb⟩
  have hro : RowsF R.f ys := ⟨hRo.rising, hRo.wf, fun r hr => (hRo.mem r hr).trans (hrep.has_ r hr)⟩
  have hz : (xs.map fun p => (numsR R.ar p.1.1, p.1.2)) = rowsZ R.ar R.f ys := by
    have e1 : (xs.map fun p => (numsR R.ar p.1.1, p.1.2)) = (xs.map (·.1)).map fun q => (numsR R.ar q.1, q.2) := by simp
    rw [e1, hm]; simp [withW, rowsZ]
  have hlen : ys.length ≤ R.n := Nat.le_trans (len_le_size (hown.tidy law60) hRo.wf (hRo.rising.imp (fun {a b} h e => by subst e; unfold ltR at h; omega)) (fun x hx => (hRo.mem x (hRo.wf x hx)).1 hx)) hown.size_le
  exact ⟨v, ys, rfl, hro, hz ▸ rows_of_own (by omega) ho hv, hlen, hb⟩

theorem relRows_own (nm : ByteArray) (w : World) {eb db nD S0 E : Nat} {st : St} {R : Rel} (hE : EngRep w eb db nD S0 E st) (hnm : nm.size ≤ maxLen) (hR : st nm = some R) (har : R.ar = 1 ∨ R.ar = 2 ∨ R.ar = 3) (hnn : R.n ≤ 1000000000) :
    Calls Tryz.prog 52 #[.pointer (some ⟨eb, 0, none⟩), .string nm] w fun e w' => ∃ v ys xs, e = .returned (.tuple #[v, .int .i64 0]) ∧ RowsF R.f ys ∧ (xs.map fun p : (Row × Int) × Nat => (numsR R.ar p.1.1, p.1.2)) = rowsZ R.ar R.f ys ∧ w'.ownsRow w.heap.size 86 2 v xs.length (cellsV R.ar xs) ∧ ValsIn w' w.heap.size R.ar xs ∧ Below w.heap.size w w' := by
  obtain ⟨D, hown, hrep⟩ := (hE.rel nm R hR).2
  refine ((callsIn_wide (n := 5)).1 (rows_in 5 (by omega) nm w hE hnm hR har hnn D hown hrep)).mono ?_
  rintro e w' ⟨v, ys, xs, rfl, hRo, hm, ho, hv, hb⟩
  have hro : RowsF R.f ys := ⟨hRo.rising, hRo.wf, fun r hr => (hRo.mem r hr).trans (hrep.has_ r hr)⟩
  have hz : (xs.map fun p => (numsR R.ar p.1.1, p.1.2)) = rowsZ R.ar R.f ys := by
    have e1 : (xs.map fun p => (numsR R.ar p.1.1, p.1.2)) = (xs.map (·.1)).map fun q => (numsR R.ar q.1, q.2) := by simp
    rw [e1, hm]; simp [withW, rowsZ]
  exact ⟨v, ys, xs, rfl, hro, hz, ho, hv, hb⟩

theorem RowsAt.below {w w' : World} {v : Value} {rs : List (List Int × Int)} (h : RowsAt w v rs) (hb : Below w.heap.size w w') : RowsAt w' v rs := by
  obtain ⟨a, cap, rfl, hc⟩ := h
  exact ⟨a, cap, rfl, fun i hi => by
    obtain ⟨b, o, sv, ha, h1, h2, h3⟩ := hc i hi
    exact ⟨b, o, sv, ha, (hb.cell (p := ⟨b, _, none⟩) (World.block_lt_of_cell? w _ h1)).trans h1, h2.below hb, (hb.cell (p := ⟨b, _, none⟩) (World.block_lt_of_cell? w _ h3)).trans h3⟩⟩

end Go.Proofs.YtgddkjhknlgbbaaGreatDoor

namespace Go.Proofs.YtgddkjhknlgbbaaGreatDoor
set_option linter.unusedVariables false
set_option linter.unusedSimpArgs false
open Go.RowKit Go.Maps

set_option maxRecDepth 100000 in
/-- A name that is none. -/
theorem create_name (p : Option Addr) (s : ByteArray) (ar : Int) (w : World) (hs : nameB s = false) (hn : s.size ≤ 9223372036854775807) :
    Calls Tryz.prog 12 #[.pointer p, .string s, .int .i64 ar] w fun e w' => e = .returned (.int .i64 1) ∧ w' = w := by
  have Hs := hide hs
  clear hs
  go_enter Tryz.func12, Tryz.ntmps12
  go_wp2_with (first | (go_at_call 27; refine (isName_any s _ hn).mono ?_; rintro e w1 ⟨rfl, rfl⟩; rw [unhide Hs]))
  go_ret
  exact ⟨rfl, rfl⟩

set_option maxRecDepth 100000 in
/-- Too few columns, or too many. -/
theorem create_arity (p : Option Addr) (s : ByteArray) (ar : Int) (w : World) (hs : nameB s = true) (hn : s.size ≤ 9223372036854775807) (ha : ar < 1 ∨ 3 < ar) :
    Calls Tryz.prog 12 #[.pointer p, .string s, .int .i64 ar] w fun e w' => e = .returned (.int .i64 2) ∧ w' = w := by
  have Hs := hide hs
  clear hs
  by_cases h1 : ar < 1
  · go_enter Tryz.func12, Tryz.ntmps12
    go_wp2_with (first | (go_at_call 27; refine (isName_any s _ hn).mono ?_; rintro e w1 ⟨rfl, rfl⟩; rw [unhide Hs]))
    go_ret
    exact ⟨rfl, rfl⟩
  · have h3 : 3 < ar := by omega
    go_enter Tryz.func12, Tryz.ntmps12
    go_wp2_with (first | (go_at_call 27; refine (isName_any s _ hn).mono ?_; rintro e w1 ⟨rfl, rfl⟩; rw [unhide Hs]))
    go_ret
    exact ⟨rfl, rfl⟩

set_option maxRecDepth 100000 in
/-- A batch that is too long. -/
theorem apply_long (p : Option Addr) (a : Option Addr) (n cap : Nat) (w : World) (hl : 64 < n) :
    Calls Tryz.prog 15 #[.pointer p, .slice a n cap] w fun e w' => e = .returned (.tuple #[.int .i64 4, .int .i64 0]) ∧ w' = w := by
  have h1 : (64 : Int) < (n : Int) := by omega
  go_enter Tryz.func15, Tryz.ntmps15
  go_wp2
  go_ret2
  exact ⟨rfl, rfl⟩

end Go.Proofs.YtgddkjhknlgbbaaGreatDoor

namespace Go.Proofs.YtgddkjhknlgbbaaGreatDoor
set_option linter.unusedVariables false
set_option linter.unusedSimpArgs false
open Go.RowKit Go.Maps

/-- The reference's 'small'. -/
theorem small_any (c : Nat) (w : World) (hc : c ≤ 255) : Calls Tryz.prog 63 #[.int .u8 c] w fun e w' => e = .returned (.bool (decide (97 ≤ c) && decide (c ≤ 122))) ∧ w' = w := by
  by_cases h1 : 97 ≤ c
  · by_cases h2 : c ≤ 122
    · have g1 : (97 : Int) ≤ (c : Int) := by omega
      have g2 : (c : Int) ≤ 122 := by omega
      go_enter Tryz.func63, Tryz.ntmps63
      go_wp2
      go_ret
      exact ⟨by simp [h1, h2], rfl⟩
    · have g1 : (97 : Int) ≤ (c : Int) := by omega
      have g2 : ¬ (c : Int) ≤ 122 := by omega
      go_enter Tryz.func63, Tryz.ntmps63
      go_wp2
      go_ret
      exact ⟨by simp [h1, h2], rfl⟩
  · have g1 : ¬ (97 : Int) ≤ (c : Int) := by omega
    go_enter Tryz.func63, Tryz.ntmps63
    go_wp2
    go_ret
    exact ⟨by simp [h1], rfl⟩

set_option maxHeartbeats 400000 in
/-- The reference's 'isName' answers as the program's. -/
theorem refName_any (s : ByteArray) (w : World) (hs : s.size ≤ 9223372036854775807) :
    Calls Tryz.prog 30 #[.string s] w fun e w' => e = .returned (.bool (nameB s)) ∧ w' = w := by
  by_cases h1 : s.size < 1
  · have hf : nameB s = false := by unfold nameB; simp [show ¬ 1 ≤ s.size by omega]
    go_enter Tryz.func30, Tryz.ntmps30
    go_wp2
    go_ret
    exact ⟨by simp [hf], rfl⟩
  · by_cases h2 : 8 < s.size
    · have hf : nameB s = false := by unfold nameB; simp [show ¬ s.size ≤ 8 by omega]
      go_enter Tryz.func30, Tryz.ntmps30
      go_wp2
      go_ret
      exact ⟨by simp [hf], rfl⟩
    · go_enter Tryz.func30, Tryz.ntmps30
      go_wp2
      go_loop [3] (fun i => ∃ k : Nat, k ≤ s.size ∧ i = .int .i64 k ∧ (s.data.toList.take k).all lowB = true) (fun i => s.size - (intOf i).toNat)
      case atStart => exact ⟨0, Nat.zero_le _, rfl, by simp⟩
      case round =>
        obtain ⟨k, hk, rfl, hall⟩ := hrel
        have Hall := hide hall
        clear hall
        by_cases hlt : k < s.size
        · have hx : (k : Int) < (s.size : Int) := by omega
          have hb255 : s[k].toNat ≤ 255 := by have := s[k].toNat_lt; omega
          go_wp2_with fail
          refine (small_any s[k].toNat _ hb255).mono ?_
          rintro e w1 ⟨rfl, rfl⟩
          by_cases hl : lowB s[k] = true
          · have Hn : Hid ((s.data.toList.take (k + 1)).all lowB = true) := by
              unfold Hid; rw [all_snoc s k hlt, unhide Hall, hl]; rfl
            unfold lowB at hl
            rw [hl]
            go_wp2
            go_round
            case rel => exact ⟨k + 1, by omega, by go_num, unhide Hn⟩
            case measure => simp [intOf]; omega
          · have hf : Hid (nameB s = false) := nameB_bad hlt (by simpa using hl)
            have hl2 : (decide (97 ≤ s[k].toNat) && decide (s[k].toNat ≤ 122)) = false := by unfold lowB at hl; simpa using hl
            rw [hl2]
            clear hl
            go_wp2
            go_ret
            exact ⟨by rw [hf.out]; rfl, rfl⟩
        · have hx : ¬ (k : Int) < (s.size : Int) := by omega
          have hf : Hid (nameB s = true) := by
            have : k = s.size := by omega
            subst this
            exact nameB_good (by omega) (by omega) (unhide Hall)
          go_wp2
          go_ret
          exact ⟨by rw [hf.out]; rfl, rfl⟩

end Go.Proofs.YtgddkjhknlgbbaaGreatDoor

namespace Go.Proofs.YtgddkjhknlgbbaaGreatDoor
set_option linter.unusedVariables false
set_option linter.unusedSimpArgs false
open Go.RowKit Go.Maps

/-- A relation of the reference's: its name, its arity, its rows (a slice's value). -/
structure RRel where
  nm : ByteArray
  ar : Int
  rows : Value

def zeroRR : RRel := ⟨⟨#[]⟩, 0, .slice none 0 0⟩

/-- The slice v reads as the relations rs. -/
def RelsAt (w : World) (v : Value) (rs : List RRel) : Prop :=
  ∃ a cap, v = .slice a rs.length cap ∧ ∀ i, i < rs.length → ∃ b, a = some ⟨b, 0, none⟩ ∧ w.cell? ⟨b, i * 3, none⟩ = some (.string (rs[i]?.getD zeroRR).nm) ∧
    w.cell? ⟨b, i * 3 + 1, none⟩ = some (.int .i64 (rs[i]?.getD zeroRR).ar) ∧ w.cell? ⟨b, i * 3 + 2, none⟩ = some (rs[i]?.getD zeroRR).rows

/-- The first place of a name; -1: there is none. -/
def placeZ : List RRel → ByteArray → Int → Int
  | [], _, _ => -1
  | r :: rs, nm, i => if r.nm = nm then i else placeZ rs nm (i + 1)

theorem placeZ_at {rs : List RRel} {nm : ByteArray} {k : Nat} (h : placeZ rs nm 0 = placeZ (rs.drop k) nm k) (hlt : k < rs.length) (x : RRel) (hx : x = rs[k]?.getD zeroRR) :
    (x.nm = nm → placeZ rs nm 0 = k) ∧ (x.nm ≠ nm → placeZ rs nm 0 = placeZ (rs.drop (k + 1)) nm ((k + 1 : Nat) : Int)) := by
  have hxe : x = rs[k] := by rw [hx]; simp [hlt]
  rw [h, List.drop_eq_getElem_cons hlt, ← hxe]
  simp only [placeZ]
  exact ⟨fun e => by rw [if_pos e], fun e => by rw [if_neg e]; push_cast; rfl⟩

theorem strEq (a b : ByteArray) : (a.toList == b.toList) = decide (a = b) := by
  rw [ByteArray.toList_eq, ByteArray.toList_eq]
  by_cases h : a = b
  · simp [h]
  · have : a.data.toList ≠ b.data.toList := fun e => h (by cases a; cases b; simp at e; rw [e])
    simp only [h, decide_false]
    exact beq_false_of_ne this

set_option maxRecDepth 100000 in
set_option maxHeartbeats 1000000 in
theorem relation_any (fb : Nat) (v u : Value) (rs : List RRel) (nm : ByteArray) (w : World) (c0 : w.cell? ⟨fb, 0, none⟩ = some v) (hv : RelsAt w v rs) (hl : rs.length ≤ 1000000000) :
    Calls Tryz.prog 31 #[.pointer (some ⟨fb, 0, none⟩), .string nm] w fun e w' => e = .returned (.int .i64 (placeZ rs nm 0)) ∧ w' = w := by
  obtain ⟨a, cap, rfl, hc⟩ := hv
  have Hc := hide hc
  clear hc
  go_enter Tryz.func31, Tryz.ntmps31
  go_wp2
  go_loop [5] (fun i => ∃ k : Nat, k ≤ rs.length ∧ i = .int .i64 k ∧ placeZ rs nm 0 = placeZ (rs.drop k) nm k) (fun i => rs.length - (intOf i).toNat)
  case atStart => exact ⟨0, Nat.zero_le _, rfl, by simp⟩
  case round =>
    obtain ⟨k, hk, rfl, hpl⟩ := hrel
    by_cases hlt : k < rs.length
    · have hx : (k : Int) < (rs.length : Int) := by omega
      obtain ⟨b, rfl, d0, d1, d2⟩ := (unhide Hc) k hlt
      obtain ⟨x, hxe⟩ : ∃ x, x = rs[k]?.getD zeroRR := ⟨_, rfl⟩
      have hp := placeZ_at hpl hlt x hxe
      rw [← hxe] at d0 d1 d2
      obtain ⟨xn, xa, xr⟩ := x
      dsimp only at d0 d1 d2 hp
      have hse := strEq xn nm
      have Hp := hide hp
      clear hpl hxe hp
      by_cases hN : xn = nm
      · rw [decide_eq_true hN] at hse
        have hv := (unhide Hp).1 hN
        have Hv := hide hv
        clear hv hN Hp
        go_wp2
        go_ret
        exact ⟨ret_int (unhide Hv).symm, rfl⟩
      · rw [decide_eq_false hN] at hse
        have hv := (unhide Hp).2 hN
        have Hv := hide hv
        clear hv hN Hp
        go_wp2
        go_round
        case rel => exact ⟨k + 1, by omega, by go_num, unhide Hv⟩
        case measure => simp [intOf]; omega
    · have hx : ¬ (k : Int) < (rs.length : Int) := by omega
      have hv : placeZ rs nm 0 = -1 := by rw [hpl, List.drop_eq_nil_of_le (by omega)]; rfl
      have Hv := hide hv
      clear hv hpl
      go_wp2
      go_ret
      exact ⟨ret_int (unhide Hv).symm, rfl⟩

end Go.Proofs.YtgddkjhknlgbbaaGreatDoor
