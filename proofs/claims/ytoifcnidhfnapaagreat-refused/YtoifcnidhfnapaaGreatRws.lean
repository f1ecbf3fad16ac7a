import Derived.Test.YtoifcnidhfnapaaGreatNRow
import Derived.Test.YtoifcnidhfnapaaGreatApplies
import Derived.Test.YtoifcnidhfnapaaGreatRows2
import Derived.Laws.CopyRow
set_option linter.unusedVariables false
set_option linter.unusedSimpArgs false
namespace Go.Proofs.YtoifcnidhfnapaaGreat
open Go.RowKit Go.Maps Go.Sort Go.Shelf
attribute [local go_sem] Oper.semAt_some

theorem Tryz.info64 : (Tryz.prog.info? 64).map (fun i => (i.zero, i.size, i.bytes)) = some (some (.agg #[.slice none 0 0, .int .i64 0]), 2, 32) := by kernel_rfl

theorem sumsAll_any (mb : Nat) (w : World) : Calls Tryz.prog 31 #[.map (some mb)] w fun e w' => e = .returned (.func (.func 41) #[] #[.pointer (some ⟨w.heap.size, 0, none⟩)]) ∧ w' = w.alloc (.cells #[.map (some mb)] 75) := by
  go_enter Tryz.func31, Tryz.ntmps31
  go_wp2
  go_ret
  exact ⟨rfl, rfl⟩

theorem all_any (rb ar mb : Nat) (w : World) (h : w.heap[rb]? = some (.cells #[.int .i64 ar, .map (some mb)] 77 (0, 0))) : Calls Tryz.prog 21 #[.pointer (some ⟨rb, 0, none⟩)] w fun e w' => e = .returned (.func (.func 41) #[] #[.pointer (some ⟨w.heap.size, 0, none⟩)]) ∧ w' = w.alloc (.cells #[.map (some mb)] 75) := by
  have c1 : w.cell? ⟨rb, 1, none⟩ = some (.map (some mb)) := cell_of_heap h 1
  clear h
  go_enter Tryz.func21, Tryz.ntmps21
  go_wp2_with fail
  refine (sumsAll_any mb w).mono ?_
  rintro e w' ⟨rfl, rfl⟩
  go_wp2
  go_ret
  exact ⟨rfl, rfl⟩

def cellsV (ar : Nat) (xs : List ((Row × Int) × Nat)) : List Value := xs.flatMap fun p => [.slice (some ⟨p.2, 0, none⟩) ar ar, .int .i64 p.1.2]
def ValsIn (W : World) (B ar : Nat) (xs : List ((Row × Int) × Nat)) : Prop := ∀ p ∈ xs, W.heap[p.2]? = some (.cells (valsR ar p.1.1).toArray 2 (0, 0)) ∧ B ≤ p.2

/-- What the caller has built of the rows. -/
def Built (w : World) (ar Br g cap Bp rb : Nat) (pre : List (Row × Int)) (W : World) : Prop :=
  ∃ xs, xs.map (·.1) = pre ∧ Boxed W Br 29 (.slice (some ⟨g, 0, none⟩) pre.length cap) ∧ W.ownsRow w.heap.size 64 2 (.slice (some ⟨g, 0, none⟩) pre.length cap) pre.length (cellsV ar xs) ∧ ValsIn W w.heap.size ar xs ∧
    Boxed W Bp 50 (.pointer (some ⟨rb, 0, none⟩)) ∧ Below w.heap.size w W

theorem ValsIn.kept {W W' : World} {B ar : Nat} {xs : List ((Row × Int) × Nat)} {row : Option Nat} (h : ValsIn W B ar xs) (hg : W.grownBy W' row) (hrow : ∀ j, row = some j → ∀ cur, W.heap[j]? ≠ some (.cells cur 2 (0, 0))) : ValsIn W' B ar xs := fun p hp => by
  obtain ⟨h1, h2⟩ := h p hp
  refine ⟨(hg.block p.2 (Array.getElem?_eq_some_iff.1 h1).1 (fun e => ?_)).trans h1, h2⟩
  exact hrow p.2 e.symm _ h1

theorem Built.own (w : World) (ar Br g cap Bp rb B : Nat) (hB : w.heap.size ≤ B) : OwnFrom B (Built w ar Br g cap Bp rb) := by
  rintro pre W W' row ⟨xs, hm, b1, ho, hv, b2, hb⟩ hg hr
  have hno : ∀ k cs t, W.heap[k]? = some (.cells cs t (0, 0)) → some k ≠ row := fun k cs t hk e => by
    obtain ⟨_, o, h1, h2⟩ := hr k e.symm
    rw [hk] at h1; cases h1; cases h2
  refine ⟨xs, hm, b1.kept hg (hno _ _ _ b1), ho.kept hg (.inr ?_), hv.kept hg (fun j e cur hj => hno j _ _ hj e.symm), b2.kept hg (hno _ _ _ b2), hb.grown hg hb.size (fun k e => Nat.le_trans hB (hr k e).1)⟩
  rcases ho.2 with ⟨h, _⟩ | ⟨g', cap', cur, h, _, hgh, _⟩
  · cases h
  · simp at h
    obtain ⟨rfl, _⟩ := h
    exact fun e => hno _ _ _ hgh (by simpa [Value.ownBlock] using e)

theorem built_step {w W w2 w3 : World} {ar Br g cap Bp rb B vb : Nat} {pre : List (Row × Int)} {x : Row × Int} {xs : List ((Row × Int) × Nat)} {tmp : Obj}
    (hm : xs.map (·.1) = pre) (bS : Boxed W Br 29 (.slice (some ⟨g, 0, none⟩) pre.length cap)) (hrow : W.ownsRow w.heap.size 64 2 (.slice (some ⟨g, 0, none⟩) pre.length cap) pre.length (cellsV ar xs)) (hvs : ValsIn W w.heap.size ar xs)
    (bP : Boxed W Bp 50 (.pointer (some ⟨rb, 0, none⟩))) (hB : Below w.heap.size w W) (hg2 : W.grownBy w2 none) (hv2 : w2.heap[vb]? = some (.cells (valsR ar x.1).toArray 2 (0, 0)))
    (hrow3 : w3.ownsRow w.heap.size 64 2 (.slice (some ⟨g, 0, none⟩) (pre.length + 1) cap) (pre.length + 1) (cellsV ar xs ++ [.slice (some ⟨vb, 0, none⟩) ar ar, .int .i64 x.2])) (hg3 : (w2.alloc tmp).grownBy w3 (some g))
    (hgB : g < B) (hBB : Br < B) (hwg : w.heap.size ≤ g) (hwB : w.heap.size ≤ Br) (hvb : w.heap.size ≤ vb) :
    KeepsFrom B W (w3.setCell ⟨Br, 0, none⟩ (.slice (some ⟨g, 0, none⟩) (pre.length + 1) cap)) ∧ KeepsBut (fun k => k = Br ∨ k = g) W (w3.setCell ⟨Br, 0, none⟩ (.slice (some ⟨g, 0, none⟩) (pre.length + 1) cap)) ∧
      Built w ar Br g cap Bp rb (pre ++ [x]) (w3.setCell ⟨Br, 0, none⟩ (.slice (some ⟨g, 0, none⟩) (pre.length + 1) cap)) := by
  have hA : W.grownBy (w2.alloc tmp) none := hg2.trans (World.grownBy_alloc _ _ none)
  have hC := grownBy_setCell' w3 Br (.slice (some ⟨g, 0, none⟩) (pre.length + 1) cap)
  obtain ⟨cur, hgh⟩ : ∃ cur, W.heap[g]? = some (.cells cur 64 (0, 0)) := by
    rcases hrow.2 with ⟨h, _⟩ | ⟨g', cap', cur, h, _, hgh, _⟩
    · cases h
    · simp at h; obtain ⟨rfl, _⟩ := h; exact ⟨cur, hgh⟩
  have hne : Br ≠ g := fun e => by rw [e] at bS; rw [show W.heap[g]? = _ from bS] at hgh; simp at hgh
  have hnP : Bp ≠ g := fun e => by rw [e] at bP; rw [show W.heap[g]? = _ from bP] at hgh; simp at hgh
  have hnP2 : Bp ≠ Br := fun e => by rw [e] at bP; have h9 : W.heap[Br]? = _ := bS; rw [show W.heap[Br]? = _ from bP] at h9; simp at h9
  have bS3 : Boxed w3 Br 29 (.slice (some ⟨g, 0, none⟩) pre.length cap) := (bS.kept hA (by simp)).kept hg3 (by simp [hne])
  have hghA : (w2.alloc tmp).heap[g]? = some (.cells cur 64 (0, 0)) := (hA.block g (Array.getElem?_eq_some_iff.1 hgh).1 (by simp)).trans hgh
  refine ⟨((KeepsFrom.of_grownBy hA (fun j e => by cases e)).trans (KeepsFrom.of_grownBy hg3 (fun j e => by cases e; exact hgB))).trans (KeepsFrom.of_grownBy hC (fun j e => by cases e; exact hBB)),
    ((KeepsBut.of_grown hA (fun j e => by cases e)).trans (KeepsBut.of_grown hg3 (fun j e => by cases e; exact .inr rfl))).trans (KeepsBut.of_grown hC (fun j e => by cases e; exact .inl rfl)), ?_⟩
  have hl : (pre ++ [x]).length = pre.length + 1 := by simp
  refine ⟨xs ++ [(x, vb)], by simp [hm], ?_, ?_, ?_, ?_, ?_⟩
  · rw [hl]; exact bS3.set _
  · rw [hl]
    have e : cellsV ar (xs ++ [(x, vb)]) = cellsV ar xs ++ [.slice (some ⟨vb, 0, none⟩) ar ar, .int .i64 x.2] := by simp [cellsV]
    rw [e]
    exact hrow3.kept hC (.inr (by simp [Value.ownBlock]; omega))
  · have h2 : ValsIn w2 w.heap.size ar (xs ++ [(x, vb)]) := fun p hp => by
      rcases List.mem_append.1 hp with hp | hp
      · exact hvs.kept hg2 (fun j e => by cases e) p hp
      · simp at hp; subst hp; exact ⟨hv2, hvb⟩
    refine ((h2.kept (World.grownBy_alloc _ tmp none) (fun j e => by cases e)).kept hg3 (fun j e c hj => ?_)).kept hC (fun j e c hj => ?_)
    · cases e; rw [hghA] at hj; simp at hj
    · cases e; rw [show w3.heap[Br]? = _ from bS3] at hj; simp at hj
  · exact ((bP.kept hA (by simp)).kept hg3 (by simp [hnP])).kept hC (by simp [hnP2])
  · refine ((hB.grown hA hB.size (fun k e => by cases e)).grown hg3 (Nat.le_trans hB.size hA.size) (fun k e => by cases e; exact hwg)).grown hC (Nat.le_trans (Nat.le_trans hB.size hA.size) hg3.size) (fun k e => by cases e; exact hwB)

theorem cells2_new (W : World) (a b : Value) (t : TypeId) : ∀ j u, [a, b][j]? = some u → (W.alloc (.cells #[a, b] t)).cell? ((⟨W.heap.size, 0, none⟩ : Addr).add j) = some u := by
  intro j u hj
  match j, hj with
  | 0, hj => cases hj; exact cell_of_heap (heap_last _ _ _ rfl) 0
  | 1, hj => cases hj; exact cell_of_heap (heap_last _ _ _ rfl) 1

theorem relA {w w1 : World} {rb ar mb : Nat} {o : Obj} (hrl : rb < w.heap.size) (h : w.heap[rb]? = some (.cells #[.int .i64 ar, .map (some mb)] 77 (0, 0))) (hg1 : (w.alloc o).grownBy w1 none) (n : Nat) :
    (w1.alloc (.cells #[Value.slice (some ⟨w.heap.size + 1, 0, none⟩) 0 n] 29)).heap[rb]? = some (.cells #[.int .i64 ar, .map (some mb)] 77 (0, 0)) :=
  (Below.heap_alloc _ _ rb (by have := hg1.size; simp at this; omega)).trans ((hg1.block rb (by simp; omega) (by simp)).trans ((Below.heap_alloc _ _ rb hrl).trans h))

theorem rowGrown (W : World) {Bx : Nat} {cs : Array Value} (h : W.heap[Bx]? = some (.cells cs 62 (0, 0))) : Bx < W.heap.size := (Array.getElem?_eq_some_iff.1 h).1

theorem sliceAr (ar : Nat) (har : ar = 1 ∨ ar = 2 ∨ ar = 3) (Bx : Nat) (q : World) : (Instr.sliceAt 62 (.pointer (some ⟨Bx, 0, none⟩)) none (some (.int .i64 ar)) none).run Tryz.prog q = .ok (.slice (some ⟨Bx, 0, none⟩) ar 3) q := by
  rcases har with rfl | rfl | rfl <;> kernel_rfl

theorem hg2w {W w2 : World} (h : W.drew.grownBy w2 none) : W.grownBy w2 none := ⟨h.os, h.tape, h.output, h.size, h.block⟩

/-- append, as the walk meets it in a region that draws. -/
def apSem (ts : Array TypeId) (ty : TypeId) (args : Array Value) : Sem Value := Builtin.append_ ts ty args
theorem inv_ap (ts : Array TypeId) (ty : TypeId) (args : Array Value) : Builtin.append_ ts ty args = apSem ts ty args := rfl

theorem apFits {w W w2 : World} {g cap k : Nat} {xs : List Value} {i62 : TypeInfo} (hrow : W.ownsRow w.heap.size 64 2 (.slice (some ⟨g, 0, none⟩) k cap) k xs) (hg2 : W.grownBy w2 none) (hi : Tryz.prog.info? 64 = some i62) (hz1 : i62.size = 2) (vb ar : Nat) (xw : Int) (b1 : k + 1 ≤ cap) :
    ∃ w3, (apSem #[29, 29] 29 #[.slice (some ⟨g, 0, none⟩) k cap, .slice (some ⟨w2.heap.size, 0, none⟩) 1 1]).run Tryz.prog (w2.alloc (.cells #[.slice (some ⟨vb, 0, none⟩) ar ar, .int .i64 xw] 64)) = .ok (.slice (some ⟨g, 0, none⟩) (k + 1) cap) w3 ∧
      w3.ownsRow w.heap.size 64 2 (.slice (some ⟨g, 0, none⟩) (k + 1) cap) (k + 1) (xs ++ [.slice (some ⟨vb, 0, none⟩) ar ar, .int .i64 xw]) ∧ (w2.alloc (.cells #[.slice (some ⟨vb, 0, none⟩) ar ar, .int .i64 xw] 64)).grownBy w3 (some g) := by
  have hrow2 := hrow.kept hg2 (.inr (by simp [Value.ownBlock]))
  obtain ⟨w3, hrun, r1, r2⟩ := run_append_fits (P := Tryz.prog) (w2.alloc (.cells #[.slice (some ⟨vb, 0, none⟩) ar ar, .int .i64 xw] 64)) w.heap.size 29 29 64 i62 2 Tryz.underlying29 hi hz1 g k cap xs (hrow2.alloc _) ⟨w2.heap.size, 0, none⟩ 1 1 [.slice (some ⟨vb, 0, none⟩) ar ar, .int .i64 xw] rfl (cells2_new w2 _ _ 64) (by simp [Value.oneCell']) (by omega)
  exact ⟨w3, hrun, r1, r2⟩

section
attribute [local go_sem ↓] inv_ap

set_option maxRecDepth 100000 in
set_option maxHeartbeats 4000000 in
theorem rows_in (n : Nat) (hn : 5 ≤ n) (nm : ByteArray) (w : World) {eb db nD S0 E : Nat} {st : St} {R : Rel} (hE : EngRep w eb db nD S0 E st) (hnm : nm.size ≤ maxLen) (hR : st nm = some R) (har : R.ar = 1 ∨ R.ar = 2 ∨ R.ar = 3) (hnn : R.n ≤ 100000) (D : DataW Unit) (hown : w.ownsMap Tryz.prog 62 (plainElem Tryz.prog 2) R.mb R.n D) (hrep : Rep D R.f) :
    CallsIn Fence.wide n Tryz.prog 8 #[.pointer (some ⟨eb, 0, none⟩), .string nm] w fun e w' => ∃ v ys xs, e = .returned (.tuple #[v, .int .i64 0]) ∧ RowsOf D ys ∧ xs.map (·.1) = withW R.f ys ∧ w'.ownsRow w.heap.size 64 2 v xs.length (cellsV R.ar xs) ∧ ValsIn w' w.heap.size R.ar xs ∧ Below w.heap.size w w' := by
  have h1 : 1 ≤ n := by omega
  have hlk := hE.hit hnm hR
  have hrel := (hE.rel nm R hR).1
  have hce : w.cell? ⟨eb, 0, none⟩ = some (.map (some db)) := hE.c0
  have hszD := hown.size_le
  obtain ⟨rb, mb, ar, nn, f⟩ := R
  dsimp only at *
  obtain ⟨i62, hi, hz0, hz1, hz2⟩ := info_parts Tryz.info64
  have hrl : rb < w.heap.size := (Array.getElem?_eq_some_iff.1 hrel).1
  have Hrel := hide hrel
  have Hown := hide hown
  have Hrep := hide hrep
  have HE := hide hE
  clear hrel hown hrep hE hR
  refine callsIn_of_wp_marks Tryz.func8 rfl trivial ?_ rfl
  simp only [Tryz.ntmps8, List.size_toArray, List.length_cons, List.length_nil, Nat.reduceAdd, Nat.reduceSub, Array.replicate_succ, Array.replicate_zero, List.push_toArray, List.append_toArray, List.nil_append, List.cons_append]
  gi_wp2_with (first
    | (refine ⟨trivial, ?_⟩; gi_at_call 20; refine (callsIn_wide.2 (len_any rb ar mb nn _ ((Below.heap_alloc _ _ rb hrl).trans (unhide Hrel)) ((unhide Hown).alloc _))).mono ?_; rintro e w' ⟨rfl, rfl⟩)
    | (gi_at_make; refine wpListIn_make_own _ rfl _ _ _ rfl w.heap.size 64 i62 _ 2 Tryz.underlying29 hi hz0 hz1 _ _ _ (Maps.size D) rfl rfl rfl (by rw [hz2]; omega) (by unfold maxLen; omega) (by simp) ?_; intro w1 hrow1 hg1; have bP1 : Boxed w1 w.heap.size 50 (.pointer (some ⟨rb, 0, none⟩)) := (Boxed.new w 50 _).kept hg1 (by simp); have cP1 := (bP1.alloc (.cells #[Value.slice (some ⟨w.heap.size + 1, 0, none⟩) 0 (Maps.size D)] 29)).cell; have HrelA := hide (relA hrl (unhide Hrel) hg1 (Maps.size D)))
    | (refine ⟨trivial, ?_⟩; gi_at_call 21; refine (callsIn_wide.2 (all_any rb ar mb _ (unhide HrelA))).mono ?_; rintro e w' ⟨rfl, rfl⟩))
  have hb1 : Below w.heap.size w w1 := ((Below.refl _ w).alloc (Nat.le_refl _) _).grown hg1 (by simp) (fun k e => by cases e)
  have hs1 : w.heap.size + 2 ≤ w1.heap.size := by
    rcases hrow1.2 with ⟨h, _⟩ | ⟨g, cap, cur, h, _, hgh, _⟩
    · simp at h
    · have := (Array.getElem?_eq_some_iff.1 hgh).1
      simp at h
      omega
  have hrow1' : w1.ownsRow w.heap.size 64 2 (.slice (some ⟨w.heap.size + 1, 0, none⟩) 0 (Maps.size D)) 0 [] := by simpa using hrow1
  clear hrow1 cP1 hg1
  obtain ⟨Bp, hBp⟩ : ∃ Bp, Bp = w.heap.size := ⟨_, rfl⟩
  obtain ⟨g, hgE⟩ : ∃ g, g = w.heap.size + 1 := ⟨_, rfl⟩
  obtain ⟨Br, hBr⟩ : ∃ Br, Br = w1.heap.size := ⟨_, rfl⟩
  have hseq : SeqStopsK Fence.wide (n - 1) Tryz.prog 41 #[.pointer (some ⟨w1.heap.size + 1, 0, none⟩)] (fun x : Row × Int => #[Value.agg #[.int .i64 x.1.1, .int .i64 x.1.2.1, .int .i64 x.1.2.2], .int .i64 x.2]) (KeepsBut fun k => k = Br ∨ k = g) (fun xs => ∃ ys, RowsOf D ys ∧ xs = withW f ys) (fun _ => True) (Maps.size D) ((w1.alloc (.cells #[.slice (some ⟨w.heap.size + 1, 0, none⟩) 0 (Maps.size D)] 29)).alloc (.cells #[.map (some mb)] 75)) := fun l J Jx W hW hJ _ hY h0 => by
    have hsW := hW.size
    simp at hsW
    have hml := (unhide Hown).lt
    have hbW : Below w.heap.size w W := (((hb1.alloc hb1.size _).alloc (by simp; omega) _)).trans (hW.mono (by simp; omega))
    refine all1_in (n - 1) (by omega) l (w1.heap.size + 1) mb nn f _ J Jx (Maps.size D) hY W hJ (fun k hk => by omega) ?_ (by omega) (by omega) D ?_ (unhide Hrep) hnn (fun ys hR => ?_) h0
    · rw [hW.cell (p := ⟨w1.heap.size + 1, 0, none⟩) (by simp)]
      exact cell_of_heap (heap_last _ _ _ (by simp)) 0
    · obtain ⟨es, clock, hb, Ft, hs, hD⟩ := (unhide Hown)
      exact ⟨es, clock, (hbW.block mb hml).trans hb, Ft, hs, hD⟩
    · exact len_le_size ((unhide Hown).tidy law60) hR.wf (hR.rising.imp (fun {a b} h e => by subst e; unfold ltR at h; omega)) (fun x hx => (hR.mem x (hR.wf x hx)).1 hx)
  refine wpIn_rangeFunc_ownH rfl h1 (gf := 41) (lb := #[.pointer (some ⟨w1.heap.size + 1, 0, none⟩)]) rfl trivial (enters_of Tryz.func41 (by kernel_rfl) rfl) hseq KeepsBut.trans (fun W l o o' _ h1 h2 h3 => KeepsBut.put W l o o' h1 h2 h3) (Below.refl _ _) (fun _ => rfl)
    (Built w ar Br g (Maps.size D) Bp rb)
    (fun _ _ _ => False)
    (Built.own w ar Br g (Maps.size D) Bp rb _ (by simp; omega))
    (fun _ _ _ _ _ hs _ _ => hs)
    ?start
    (fun x a' W => ∃ Bx, W.heap[Bx]? = some (.cells #[.int .i64 x.1.1, .int .i64 x.1.2.1, .int .i64 x.1.2.2] 62 (0, 0)) ∧
      a' = { tmps := #[.pointer (some ⟨eb, 0, none⟩), .string nm, undef, undef, .slice none 0 0, .int .i64 0, .pointer (some ⟨w.heap.size, 0, none⟩), .bool true, .pointer (some ⟨w1.heap.size, 0, none⟩), .pointer (some ⟨Bx, 0, none⟩), .int .i64 x.2,
        .tuple #[.pointer (some ⟨rb, 0, none⟩), .bool true], .pointer (some ⟨eb, 0, none⟩), .pointer (some ⟨eb, 0, none⟩), .pointer (some ⟨eb, 0, none⟩), .map (some db), .string nm, .tuple #[.pointer (some ⟨rb, 0, none⟩), .bool true], .pointer (some ⟨rb, 0, none⟩), .bool true, .bool true, .bool false, .pointer (some ⟨rb, 0, none⟩), .int .i64 (Maps.size D), .slice (some ⟨w.heap.size + 1, 0, none⟩) 0 (Maps.size D), .pointer (some ⟨rb, 0, none⟩), .func (.func 41) #[] #[.pointer (some ⟨w1.heap.size + 1, 0, none⟩)], .agg #[.int .i64 x.1.1, .int .i64 x.1.2.1, .int .i64 x.1.2.2], .int .i64 x.2, undef, undef, undef, undef, undef, undef, undef, undef, undef], defers := [] })
    (fun x a' _ X Y row hs hg hr => by
      obtain ⟨Bx, h2, h3⟩ := hs
      refine ⟨Bx, (hg.block Bx (Array.getElem?_eq_some_iff.1 h2).1 (fun e => ?_)).trans h2, h3⟩
      obtain ⟨_, o, ho, hc⟩ := hr Bx e.symm
      rw [h2] at ho
      cases ho
      cases hc)
    ?assign ?body ?done ?stop
  case start =>
    subst hBr hgE hBp
    refine ⟨[], rfl, (Boxed.new w1 29 _).alloc _, (hrow1'.alloc _).alloc _, fun p hp => by simp at hp, (bP1.alloc _).alloc _, (hb1.alloc hb1.size _).alloc (by simp; omega) _⟩
  case assign =>
    rintro l pre x W K hI hK
    gi_wp2
    refine hK _ _ ((KeepsOthers.alloc _ _).from _) (KeepsBut.of_grown (World.grownBy_alloc _ _ none) (fun j e => by cases e)) ?_ ⟨W.heap.size, heap_last _ _ _ rfl, rfl⟩
    exact (Built.own w ar Br g (Maps.size D) Bp rb _ (Nat.le_refl _)).alloc _ hI
  case body =>
    rintro l pre x a' W hl ⟨r, hr⟩ ⟨xs, hm, bS, hrow, hvs, bP, hB⟩ ⟨Bx, hX, rfl⟩ hlt
    obtain ⟨⟨x1, x2, x3⟩, xw⟩ := x
    dsimp only at hX ⊢
    subst hBr hgE hBp
    have c0 : W.cell? ⟨Bx, 0, none⟩ = some (.int .i64 x1) := cell_of_heap hX 0
    have c1 : W.cell? ⟨Bx, 1, none⟩ = some (.int .i64 x2) := cell_of_heap hX 1
    have c2 : W.cell? ⟨Bx, 2, none⟩ = some (.int .i64 x3) := cell_of_heap hX 2
    have cS := bS.cell
    have cP := bP.cell
    have hBs := hB.size
    have hrW : W.heap[rb]? = some (.cells #[.int .i64 ar, .map (some mb)] 77 (0, 0)) := (hB.block rb hrl).trans (unhide Hrel)
    have hcopy := hide (rowGrown W (Bx := Bx) hX)
    have hsl : ∀ q, (Instr.sliceAt 62 (.pointer (some ⟨Bx, 0, none⟩)) none (some (.int .i64 ar)) none).run Tryz.prog q = .ok (.slice (some ⟨Bx, 0, none⟩) ar 3) q := sliceAr ar har Bx
    have Har := hide har
    have HX := hide hX
    have HW : Hid (W.heap[rb]? = some (.cells #[.int .i64 ar, .map (some mb)] 77 (0, 0))) := hrW
    have HbS := hide bS
    have Hrow := hide hrow
    have hltB : pre.length + 1 ≤ Maps.size D := by omega
    clear hX hrW har
    gi_wp2_with fail
    gi_region_with (first
      | (refine ⟨trivial, fun _ => by omega, ?_⟩; gi_at_call 23; refine (show CallsIn Fence.wide _ _ _ _ _ _ from (callsIn_wide.2 (arity_any rb _ mb _ (by exact unhide HW)))).mono ?_; rintro e w' ⟨rfl, hw'⟩; replace hw' := hw'.symm; subst hw')
      | (refine ⟨trivial, fun _ => by omega, ?_⟩; gi_at_call 22; refine (show CallsIn Fence.wide _ _ _ _ _ _ from (callsIn_wide.2 (newRow_any ar (unhide Har) x1 x2 x3 xw Bx W.drew (by exact unhide HX)))).mono ?_; rintro e w2 ⟨rfl, hv2, hg2⟩; have bS2 := (unhide HbS).kept (hg2w hg2) (by simp); have cS0 := bS2.cell; have cS2 := (bS2.alloc (.cells #[.slice (some ⟨W.heap.size + 1, 0, none⟩) ar ar, .int .i64 xw] 64)).cell; obtain ⟨w3, hA, hrow3, hg3⟩ := apFits (unhide Hrow) (hg2w hg2) hi hz1 (W.heap.size + 1) ar xw hltB; have hc3 := ((bS2.alloc (.cells #[.slice (some ⟨W.heap.size + 1, 0, none⟩) ar ar, .int .i64 xw] 64)).kept hg3 (by simp; omega)).cell; have hf3 := ((bS2.alloc (.cells #[.slice (some ⟨W.heap.size + 1, 0, none⟩) ar ar, .int .i64 xw] 64)).kept hg3 (by simp; omega)).frozen))
    all_goals exact built_step hm (unhide HbS) (unhide Hrow) hvs bP hB (hg2w hg2) (vb := W.heap.size + 1) (x := ((x1, x2, x3), xw)) hv2 hrow3 hg3 (by simp; omega) (by simp; omega) (by omega) (by omega) (by omega)
  case done =>
    rintro Dk zs W hD ⟨ys, hR, rfl⟩ ⟨xs, hm, bS, hrow, hvs, bP, hB⟩ hK
    have cS := bS.cell
    subst hBr hgE hBp
    gi_wp2
    refine ⟨by simp, .inl ⟨_, _, rfl, run_takeDeferred hK, ?_⟩⟩
    have hlen : (withW f ys).length = xs.length := by rw [← hm]; simp
    have hpg := grownBy_putObj' W Dk (.deferred none)
    refine ⟨_, results_tmp2 rfl _ _ _, _, ys, xs, rfl, hR, hm, ?_, ?_, ?_⟩
    · rw [← hlen]; exact ownsRow_putObj hrow _ hK rfl
    · exact hvs.kept hpg (fun j e cur hj => by cases e; rw [hK] at hj; cases hj)
    · exact hB.trans (belowK_b (w := w) (Nat.le_refl _) W Dk _ _ (by simp at hD; omega) hK rfl rfl)
  case stop =>
    rintro D c pre W _ _ h _
    exact h.elim

end

def numsR (ar : Nat) (y : Row) : List Int := [y.1, y.2.1, y.2.2].take ar
theorem valsR_eq (ar : Nat) (y : Row) : valsR ar y = (numsR ar y).map (Value.int .i64) := by simp [valsR, numsR, encR]

theorem cellsV_at (ar : Nat) (xs : List ((Row × Int) × Nat)) (i j : Nat) (hi : i < xs.length) (hj : j < 2) : (cellsV ar xs)[i * 2 + j]? = [Value.slice (some ⟨xs[i].2, 0, none⟩) ar ar, .int .i64 xs[i].1.2][j]? := by
  induction xs generalizing i with
  | nil => simp at hi
  | cons p ps ih =>
    have e : cellsV ar (p :: ps) = [Value.slice (some ⟨p.2, 0, none⟩) ar ar, .int .i64 p.1.2] ++ cellsV ar ps := rfl
    rw [e]
    cases i with
    | zero => rw [List.getElem?_append_left (by simp; omega)]; simp
    | succ i =>
      have h2 : (i + 1) * 2 + j - 2 = i * 2 + j := by omega
      rw [List.getElem?_append_right (by simp; omega)]
      simp only [List.length_cons, List.length_nil, Nat.zero_add, Nat.reduceAdd, h2]
      rw [ih i (by simpa using hi)]
      simp

theorem rows_of_own {w : World} {m ar : Nat} {v : Value} {xs : List ((Row × Int) × Nat)} (har : ar ≤ 3) (h : w.ownsRow m 64 2 v xs.length (cellsV ar xs)) (hr : ValsIn w m ar xs) : RowsAt w v (xs.map fun p => (numsR ar p.1.1, p.1.2)) := by
  rcases h.2 with ⟨rfl, h0⟩ | ⟨g, cap, cur, rfl, _, hg, _, _, _, ht⟩
  · have : xs = [] := List.eq_nil_of_length_eq_zero h0
    subst this
    exact ⟨none, 0, rfl, fun i hi => by simp at hi⟩
  · refine ⟨some ⟨g, 0, none⟩, cap, by simp, fun i hi => ?_⟩
    have hi' : i < xs.length := by simpa using hi
    have hx : ((xs.map fun p => (numsR ar p.1.1, p.1.2))[i]?.getD ([], 0)) = (numsR ar xs[i].1.1, xs[i].1.2) := by simp [hi']
    rw [hx]
    have hcell : ∀ j, j < 2 → cur[i * 2 + j]? = [Value.slice (some ⟨xs[i].2, 0, none⟩) ar ar, .int .i64 xs[i].1.2][j]? := by
      intro j hj
      rw [← cellsV_at ar xs i j hi' hj, ← ht, List.getElem?_take_of_lt (by omega)]
      simp
    refine ⟨g, 0, .slice (some ⟨xs[i].2, 0, none⟩) ar ar, rfl, ?_, ?_, ?_⟩
    · rw [cell_of_heap hg, Nat.zero_add]; exact hcell 0 (by omega)
    · have hb := (hr _ (List.getElem_mem hi')).1
      rw [valsR_eq] at hb
      have hl : (numsR ar xs[i].1.1).length = ar := by simp [numsR]; omega
      have := ints_of_block hb ar
      rwa [hl] at this
    · rw [cell_of_heap hg, Nat.zero_add]; exact hcell 1 (by omega)

/-- The rows of a relation whose weights are f, in order. -/
structure RowsF (f : Row → Int) (ys : List Row) : Prop where
  rising : Rising ys
  wf : ∀ y ∈ ys, WfRow y
  mem : ∀ r, WfRow r → (r ∈ ys ↔ f r ≠ 0)

theorem rising_unique : ∀ (xs ys : List Row), Rising xs → Rising ys → (∀ r, r ∈ xs ↔ r ∈ ys) → xs = ys
  | [], [], _, _, _ => rfl
  | [], y :: ys, _, _, h => by have := (h y).2 (by simp); simp at this
  | x :: xs, [], _, _, h => by have := (h x).1 (by simp); simp at this
  | x :: xs, y :: ys, hx, hy, h => by
    have hx1 := List.pairwise_cons.1 hx
    have hy1 := List.pairwise_cons.1 hy
    have irr : ∀ a : Row, ¬ ltR a a := fun a h => by unfold ltR at h; omega
    have asym : ∀ a b : Row, ltR a b → ltR b a → False := fun a b h1 h2 => by unfold ltR at *; omega
    have e : x = y := by
      rcases List.mem_cons.1 ((h x).1 (by simp)) with e | e
      · exact e
      · rcases List.mem_cons.1 ((h y).2 (by simp)) with e2 | e2
        · exact e2.symm
        · exact (asym _ _ (hy1.1 x e) (hx1.1 y e2)).elim
    subst e
    congr 1
    refine rising_unique xs ys hx1.2 hy1.2 (fun r => ⟨fun hr => ?_, fun hr => ?_⟩)
    · rcases List.mem_cons.1 ((h r).1 (List.mem_cons_of_mem _ hr)) with e | e
      · subst e; exact (irr _ (hx1.1 _ hr)).elim
      · exact e
    · rcases List.mem_cons.1 ((h r).2 (List.mem_cons_of_mem _ hr)) with e | e
      · subst e; exact (irr _ (hy1.1 _ hr)).elim
      · exact e

theorem RowsF.unique {f : Row → Int} {xs ys : List Row} (h : RowsF f xs) (k : RowsF f ys) : xs = ys :=
  rising_unique xs ys h.rising k.rising fun r => ⟨fun hr => (k.mem r (h.wf r hr)).2 ((h.mem r (h.wf r hr)).1 hr), fun hr => (h.mem r (k.wf r hr)).2 ((k.mem r (k.wf r hr)).1 hr)⟩

def rowsZ (ar : Nat) (f : Row → Int) (ys : List Row) : List (List Int × Int) := ys.map fun y => (numsR ar y, f y)

theorem relRows_any (nm : ByteArray) (w : World) {eb db nD S0 E : Nat} {st : St} {R : Rel} (hE : EngRep w eb db nD S0 E st) (hnm : nm.size ≤ maxLen) (hR : st nm = some R) (har : R.ar = 1 ∨ R.ar = 2 ∨ R.ar = 3) (hnn : R.n ≤ 100000) :
    Calls Tryz.prog 8 #[.pointer (some ⟨eb, 0, none⟩), .string nm] w fun e w' => ∃ v ys, e = .returned (.tuple #[v, .int .i64 0]) ∧ RowsF R.f ys ∧ RowsAt w' v (rowsZ R.ar R.f ys) ∧ ys.length ≤ R.n ∧ Below w.heap.size w w' := by
  obtain ⟨D, hown, hrep⟩ := (hE.rel nm R hR).2
  refine ((callsIn_wide (n := 5)).1 (rows_in 5 (by omega) nm w hE hnm hR har hnn D hown hrep)).mono ?_
  rintro e w' ⟨v, ys, xs, rfl, hRo, hm, ho, hv, hb⟩
  have hro : RowsF R.f ys := ⟨hRo.rising, hRo.wf, fun r hr => (hRo.mem r hr).trans (hrep.has_ r hr)⟩
  have hz : (xs.map fun p => (numsR R.ar p.1.1, p.1.2)) = rowsZ R.ar R.f ys := by
    have e1 : (xs.map fun p => (numsR R.ar p.1.1, p.1.2)) = (xs.map (·.1)).map fun q => (numsR R.ar q.1, q.2) := by simp
    rw [e1, hm]; simp [withW, rowsZ]
  have hlen : ys.length ≤ R.n := Nat.le_trans (len_le_size (hown.tidy law60) hRo.wf (hRo.rising.imp (fun {a b} h e => by subst e; unfold ltR at h; omega)) (fun x hx => (hRo.mem x (hRo.wf x hx)).1 hx)) hown.size_le
  exact ⟨v, ys, rfl, hro, hz ▸ rows_of_own (by omega) ho hv, hlen, hb⟩

theorem RowsAt.below {w w' : World} {v : Value} {rs : List (List Int × Int)} (h : RowsAt w v rs) (hb : Below w.heap.size w w') : RowsAt w' v rs := by
  obtain ⟨a, cap, rfl, hc⟩ := h
  exact ⟨a, cap, rfl, fun i hi => by
    obtain ⟨b, o, sv, ha, h1, h2, h3⟩ := hc i hi
    exact ⟨b, o, sv, ha, (hb.cell (p := ⟨b, _, none⟩) (World.block_lt_of_cell? w _ h1)).trans h1, h2.below hb, (hb.cell (p := ⟨b, _, none⟩) (World.block_lt_of_cell? w _ h3)).trans h3⟩⟩

end Go.Proofs.YtoifcnidhfnapaaGreat
