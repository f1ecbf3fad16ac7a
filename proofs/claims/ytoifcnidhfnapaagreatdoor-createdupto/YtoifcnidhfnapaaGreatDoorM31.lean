import Derived.Test.YtoifcnidhfnapaaGreatDoorM30
set_option linter.unusedVariables false
set_option linter.unusedSimpArgs false

namespace Go.Proofs.YtoifcnidhfnapaaGreatDoor
set_option linter.unusedVariables false
set_option linter.unusedSimpArgs false
open Go.RowKit Go.Maps

theorem cellsP_len (ps : List (Nat × Nat)) : (cellsP ps).length = ps.length * 2 := by
  induction ps with
  | nil => rfl
  | cons p ps ih => simp only [cellsP, List.flatMap_cons, List.length_append, List.length_cons] at ih ⊢; rw [ih]; simp; omega

set_option maxRecDepth 100000 in
set_option maxHeartbeats 4000000 in
theorem begin_any (o : Nat → Nat) (W : World) (wb : Nat) (ps : List (Nat × Nat)) (zss : List (List ZRel)) (hs : List Nat) (N B0 : Nat) (h : Law o W wb ps zss hs N B0) (hB : B0 ≤ W.heap.size) (hpl : ps.length ≤ 1000000000) :
    Calls Tryz.prog 30 #[.pointer (some ⟨wb, 0, none⟩)] W fun e w' => e = .returned (.bool true) ∧ ∃ o' eb fb, Law o' w' wb (ps ++ [(eb, fb)]) (zss ++ [[]]) hs N B0 ∧ Mid (fun b => o b ≠ 0) W w' := by
  obtain ⟨pv, hv, base, hS, hpv, hwb, hcp, hch⟩ := h.ex
  have hpl' : ∀ g, pv.ownBlock = some g → g < W.heap.size := fun g hg => by obtain ⟨c, h9⟩ := own_type hpv hg; exact heap_lt h9
  obtain ⟨pp, cp, hpe, _⟩ := own_form hpv
  have H := hide h
  have HS := hide hS
  have Hpv := hide hpv
  have Hcp := hide hcp
  have Hch := hide hch
  have Hwb := hide hwb
  have Hpl := hide hpl'
  have Hpe := hide hpe
  have hwbl : wb < W.heap.size := heap_lt hS.box
  obtain ⟨i43, ki, kz0, kz1, kz2⟩ := info_parts Tryz.info104
  clear h hS hpv hcp hch hwb hpl' hpe
  go_enter Tryz.func30, Tryz.ntmps30
  go_wp2_with fail
  refine (new_any _).mono ?_
  rintro e w1 ⟨rfl, hE1, hb1⟩
  have hs1 := hb1.size
  have hi1 := hE1.inn
  have ht1 := hE1.top
  have hbox1 : w1.heap[wb]? = some (Obj.cells #[pv, hv] 56 (0, 0)) := (hb1.block wb hwbl).trans (unhide HS).box
  have hpv1 : w1.ownsRow 0 104 2 pv ps.length (cellsP ps) := own_lower (own_below (unhide Hpv) hb1) (Nat.zero_le _)
  have c1 : w1.cell? ⟨wb, 0, none⟩ = some (.slice pp ps.length cp) := by rw [← unhide Hpe]; exact cell_of_heap hbox1 0
  have hwl1 : wb < w1.heap.size := heap_lt hbox1
  have hwne : wb ≠ w1.heap.size := by omega
  have hwne2 : w1.heap.size ≠ wb := by omega
  have Hpv1 := hide hpv1
  rw [unhide Hpe] at Hpv1
  have hcell : ∀ j u, [Value.pointer (some ⟨W.heap.size + 3, 0, none⟩), Value.pointer (some ⟨w1.heap.size, 0, none⟩)][j]? = some u → ((w1.alloc (.cells #[.slice none 0 0, .slice none 0 0] 102)).alloc (.cells #[.pointer (some ⟨W.heap.size + 3, 0, none⟩), .pointer (some ⟨w1.heap.size, 0, none⟩)] 104)).cell? ((⟨w1.heap.size + 1, 0, none⟩ : Addr).add j) = some u := by
    have q := cells2_new (w1.alloc (.cells #[.slice none 0 0, .slice none 0 0] 102)) (.pointer (some ⟨W.heap.size + 3, 0, none⟩)) (.pointer (some ⟨w1.heap.size, 0, none⟩)) 104
    rw [show (w1.alloc (.cells #[.slice none 0 0, .slice none 0 0] 102)).heap.size = w1.heap.size + 1 from by simp] at q
    exact q
  have Hcell := hide hcell
  clear hcell
  have HE1 := hide hE1
  have Hb1 := hide hb1
  have Hbox1 := hide hbox1
  clear hE1 hb1 hbox1 hpv1
  go_wp2_with (first
    | (at_builtin
       refine wpList_append_sharp _ rfl _ _ 53 rfl 0 104 i43 _ 2 16 Tryz.underlying53 ki kz0 kz1 kz2 rfl (by decide) (.slice pp ps.length cp) ps.length (cellsP ps) rfl (((unhide Hpv1).alloc _).alloc _) _ 1 [.pointer (some ⟨W.heap.size + 3, 0, none⟩), .pointer (some ⟨w1.heap.size, 0, none⟩)] rfl rfl (unhide Hcell) (by simp [Value.oneCell']) (by unfold maxLen; omega) (by omega) (Nat.zero_le _) ?_
       intro v2 w2 ho2 hg2 hat2
       have hgA : w1.grownBy ((w1.alloc (.cells #[.slice none 0 0, .slice none 0 0] 102)).alloc (.cells #[.pointer (some ⟨W.heap.size + 3, 0, none⟩), .pointer (some ⟨w1.heap.size, 0, none⟩)] 104)) none := (World.grownBy_alloc _ _ _).trans (World.grownBy_alloc _ _ _)
       have hg12 : w1.grownBy w2 (Value.ownBlock (.slice pp ps.length cp)) := ⟨hg2.os, hg2.tape, hg2.output, Nat.le_trans hgA.size hg2.size, fun k hk e => (hg2.block k (Nat.lt_of_lt_of_le hk hgA.size) e).trans (hgA.block k hk (by simp))⟩
       have hrow2 : ∀ g, Value.ownBlock (.slice pp ps.length cp) = some g → ∃ cur : Array Value, w1.heap[g]? = some (Obj.cells cur 104 (0, 0)) := fun g e => own_type (unhide Hpv1) e
       have hbox2 : w2.heap[wb]? = some (Obj.cells #[pv, hv] 56 (0, 0)) := (hg12.block _ hwl1 (fun e => other_type hrow2 (by decide) _ _ e.symm (unhide Hbox1))).trans (unhide Hbox1)
       have hF0 : ((w1.alloc (.cells #[.slice none 0 0, .slice none 0 0] 102)).alloc (.cells #[.pointer (some ⟨W.heap.size + 3, 0, none⟩), .pointer (some ⟨w1.heap.size, 0, none⟩)] 104)).heap[w1.heap.size]? = some (Obj.cells #[.slice none 0 0, .slice none 0 0] 102 (0, 0)) := by
         have h0 : (w1.alloc (.cells #[.slice none 0 0, .slice none 0 0] 102)).heap[w1.heap.size]? = some (Obj.cells #[.slice none 0 0, .slice none 0 0] 102 (0, 0)) := heap_last _ _ _ rfl
         exact (Below.heap_alloc _ _ _ (heap_lt h0)).trans h0
       have hF2 : w2.heap[w1.heap.size]? = some (Obj.cells #[.slice none 0 0, .slice none 0 0] 102 (0, 0)) := (hg2.block _ (heap_lt hF0) (fun e => by
         obtain ⟨c, h9⟩ := hrow2 _ e.symm
         have := heap_lt h9
         omega)).trans hF0
       have d2 : w2.cell? ⟨wb, 0, none⟩ = some (.slice pp ps.length cp) := by rw [← unhide Hpe]; exact cell_of_heap hbox2 0
       have f2 : w2.frozen? ⟨wb, 0, none⟩ = false := frozen_of_heap hbox2 0
       have hs2 : w1.heap.size < w2.heap.size := heap_lt hF2
       obtain ⟨p2, c2, rfl, _⟩ := own_form ho2
       have Ho2 := hide ho2
       have Hg12 := hide hg12
       have Hrow2 := hide hrow2
       have Hbox2 := hide hbox2
       have HF2 := hide hF2
       have Hat2 := hide hat2
       clear ho2 hg2 hat2 hgA hg12 hrow2 hbox2 hF0 hF2))
  have hfin : ∃ o' eb fb, Law o' (w2.setCell ⟨wb, 0, none⟩ (.slice p2 (ps.length + 1) c2)) wb (ps ++ [(eb, fb)]) (zss ++ [[]]) hs N B0 ∧ Mid (fun b => o b ≠ 0) W (w2.setCell ⟨wb, 0, none⟩ (.slice p2 (ps.length + 1) c2)) := by
    obtain ⟨w3, hw3⟩ : ∃ w3, w3 = w2.setCell ⟨wb, 0, none⟩ (.slice p2 (ps.length + 1) c2) := ⟨_, rfl⟩
    rw [← hw3]
    have hg23 : w2.grownBy w3 (some wb) := by rw [hw3]; exact grownBy_setCell' w2 wb _
    have hrowb : ∀ g, some wb = some g → ∃ cur : Array Value, w2.heap[g]? = some (Obj.cells cur 56 (0, 0)) := fun g e => by cases e; exact ⟨_, unhide Hbox2⟩
    have hg12 := unhide Hg12
    have hrow2 := unhide Hrow2
    obtain ⟨bh, hoh⟩ := (unhide HS).own
    have hoh3 : w3.ownsRow bh 114 1 hv hs.length (ptrs hs) := own_grown (own_grown (own_below hoh (unhide Hb1)) hg12 (other_type hrow2 (by decide))) hg23 (other_type hrowb (by decide))
    have hbox3 : w3.heap[wb]? = some (Obj.cells #[.slice p2 (ps.length + 1) c2, hv] 56 (0, 0)) := by
      rw [hw3, heap_setCell_same w2 wb 0 _ 56 _ (unhide Hbox2)]; rfl
    have ho3 := own_grown (unhide Ho2) hg23 (other_type hrowb (by decide))
    have hF3 : w3.heap[w1.heap.size]? = some (Obj.cells #[.slice none 0 0, .slice none 0 0] 102 (0, 0)) := (hg23.block _ (heap_lt (unhide HF2)) (by simpa using hwne2)).trans (unhide HF2)
    have hkp : ∀ b, W.heap.size ≤ b → b < w1.heap.size → w3.heap[b]? = w1.heap[b]? := fun b h1 h2 =>
      (hg23.block b (Nat.lt_of_lt_of_le h2 hg12.size) (fun e => by cases e; omega)).trans (hg12.block b h2 (fun e => by
        rw [← unhide Hpe] at e
        have := (unhide Hpl) b e.symm
        omega))
    have hE3 : EngSide (fun b => W.heap.size ≤ b ∧ b < w1.heap.size) w3 (W.heap.size + 3) [] N := by
      have hE := unhide HE1
      refine ⟨W.heap.size, w1.heap.size, fun _ => none, ?_, ⟨by omega, by omega⟩, ⟨⟨by omega, by omega⟩, ⟨by omega, by omega⟩, ⟨by omega, by omega⟩⟩, fun nm R hR => (by cases hR), fun nm => by simp, fun z hz => by simp at hz⟩
      have q : EngRep w1 (W.heap.size + 3) W.heap.size ([] : List ZRel).length 0 w1.heap.size (fun _ => none) := by
        obtain ⟨e, d, r, ap, inn, inr, top⟩ := hE
        exact ⟨e, d, r, ap, ⟨Nat.zero_le _, inn.2.1, Nat.zero_le _, inn.2.2.2⟩, fun nm R hR => (by cases hR), top⟩
      exact q.keptT (Nat.le_trans hg12.size hg23.size) (hkp _ (by omega) (by omega)) (hkp _ (by omega) (by omega)) (hkp _ (by omega) (by omega)) (hkp _ (by omega) (by omega)) (fun nm R hR => by cases hR)
    have hR3 : RefSide (fun b => b = w1.heap.size) w3 w1.heap.size [] := ⟨.slice none 0 0, [], ⟨⟨_, hF3⟩, rfl, ⟨⟨0, World.ownsRow_nil _ _ _ _⟩, fun g hg => by cases hg⟩, rfl, fun i hi => by simp at hi⟩⟩
    have hM : Mid (fun b => b = wb ∨ pv.ownBlock = some b) W w3 := by
      have hb1 := unhide Hb1
      refine ⟨hg23.os.trans (hg12.os.trans hb1.os), hg23.tape.trans (hg12.tape.trans hb1.tape), hg23.output.trans (hg12.output.trans hb1.output), Nat.le_trans hs1 (Nat.le_trans hg12.size hg23.size), fun b hb hq => ?_⟩
      have q1 := Nat.lt_of_lt_of_le hb hs1
      exact (hg23.block b (Nat.lt_of_lt_of_le q1 hg12.size) (fun e => hq (.inl (by cases e; rfl)))).trans ((hg12.block b q1 (fun e => hq (.inr (by rw [unhide Hpe]; exact e.symm)))).trans (hb1.block b hb))
    have e5 : cellsP (ps ++ [(W.heap.size + 3, w1.heap.size)]) = cellsP ps ++ [.pointer (some ⟨W.heap.size + 3, 0, none⟩), .pointer (some ⟨w1.heap.size, 0, none⟩)] := by simp [cellsP]
    obtain ⟨o', h1, h2⟩ := (unhide H).born (unhide HS) (unhide Hwb) (unhide Hch) (unhide Hcp) hs1 rfl (Nat.lt_of_lt_of_le hs2 hg23.size) hE3 hR3 hM ⟨hbox3, ⟨bh, hoh3⟩⟩ (by rw [e5]; exact ho3) (by
      rcases unhide Hat2 with q | ⟨_, q⟩
      · left; rw [q, unhide Hpe]
      · right; intro g hg; rw [q] at hg; cases hg; simp; omega) hB (unhide Hpl)
    exact ⟨o', _, _, h1, h2⟩
  have Hfin := hide hfin
  clear hfin
  go_wp2
  go_ret
  exact ⟨rfl, unhide Hfin⟩

end Go.Proofs.YtoifcnidhfnapaaGreatDoor

namespace Go.Proofs.YtoifcnidhfnapaaGreatDoor
set_option linter.unusedVariables false
set_option linter.unusedSimpArgs false
open Go.RowKit Go.Maps

def opV (k m a : Int) (s t u : ByteArray) (bv : Value) : Value := .agg #[.int .i64 k, .int .i64 m, .int .i64 a, .string s, .string t, .string u, bv]

theorem set_same {zss : List (List ZRel)} {j : Nat} (hj : j < zss.length) : zss.set j (zss[j]?.getD []) = zss := by
  apply List.ext_getElem?
  intro i
  by_cases e : j = i
  · subst e; rw [List.getElem?_set_self hj]; simp [hj]
  · rw [List.getElem?_set_ne e]

/-- Behind an ask: what came out is kept. -/
theorem Law.asked {o : Nat → Nat} {W w3 w4 : World} {wb : Nat} {ps : List (Nat × Nat)} {zss : List (List ZRel)} {hs hs2 : List Nat} {N B0 j base : Nat} {pv hv hv' : Value} {L : Nat → Prop} (h : Law o W wb ps zss hs N B0) (hj : j < ps.length) (hS : Spine W wb pv hv hs) (hpv : W.ownsRow base 104 2 pv ps.length (cellsP ps)) (hwb : o wb = 1) (hcp : ∀ g, pv.ownBlock = some g → o g = 1) (hch : ∀ g, hv.ownBlock = some g → o g = 1) (hB : B0 ≤ W.heap.size)
    (hb : Below W.heap.size W w3) (hK : KeptMany w3 w4 wb pv hv hs L hv' hs2) (hL : ∀ b, L b → W.heap.size ≤ b ∧ b < w3.heap.size) : ∃ o', Law o' w4 wb ps zss (hs ++ hs2) N B0 ∧ Mid (fun b => o b ≠ 0) W w4 := by
  have hk : ∀ b, b < W.heap.size → w3.heap[b]? = W.heap[b]? := fun b hb' => hb.block b hb'
  have key := h.keep (lo := w3.heap.size) (hi := w3.heap.size) (zs' := zss[j]?.getD []) (N' := N) hj hpv hcp hS hwb hch (Mid.of_below hb) hK (fun b hb' => ⟨(hL b hb').1, (hL b hb').2, by omega⟩) hb.size (Nat.le_refl _) (Nat.le_refl _) ((h.eng j hj).kept hb.size (fun b _ hlt => hk b hlt)) (((h.ref j hj).kept (fun b _ hlt => hk b hlt)).imp (fun b hb' => .inl hb')) (h.ok j hj) hB
  rw [set_same (by rw [← h.len]; exact hj)] at key
  exact key

set_option maxRecDepth 100000 in
set_option maxHeartbeats 8000000 in
/-- asks, of a relation that is there. -/
theorem asks_hit (o : Nat → Nat) (W : World) (wb : Nat) (ps : List (Nat × Nat)) (zss : List (List ZRel)) (hs : List Nat) (N B0 j : Nat) (h : Law o W wb ps zss hs N B0) (hj : j < ps.length) (hB : B0 ≤ W.heap.size) (hhl : hs.length ≤ 10000000000) (hN : N ≤ 900000000) (m a : Int) (s t u : ByteArray) (p : Option Addr) (nb cb : Nat) (z : ZRel) (hf : findZ (zss[j]?.getD []) s = some z) :
    Calls Tryz.prog 55 #[.pointer (some ⟨wb, 0, none⟩), .agg #[.pointer (some ⟨(ps[j]?.getD (0, 0)).1, 0, none⟩), .pointer (some ⟨(ps[j]?.getD (0, 0)).2, 0, none⟩)], opV 4 m a s t u (.slice p nb cb)] W fun e w' => e = .returned (.bool true) ∧ ∃ o' hs2, Law o' w' wb ps zss (hs ++ hs2) N B0 ∧ Mid (fun b => o b ≠ 0) W w' ∧ hs2.length ≤ 17 := by
  obtain ⟨pv, hv, base, hS, hpv, hwb, hcp, hch⟩ := h.ex
  obtain ⟨eb, heb⟩ : ∃ eb, eb = (ps[j]?.getD (0, 0)).1 := ⟨_, rfl⟩
  obtain ⟨fb, hfb⟩ : ∃ fb, fb = (ps[j]?.getD (0, 0)).2 := ⟨_, rfl⟩
  have hE := h.eng j hj
  have hR := h.ref j hj
  have hz := h.ok j hj
  rw [← heb] at hE ⊢
  rw [← hfb] at hR ⊢
  obtain ⟨zs, hzs⟩ : ∃ zs, zs = zss[j]?.getD [] := ⟨_, rfl⟩
  rw [← hzs] at hE hR hz hf
  have hgs := hz.each z (findZ_some hf).1
  obtain ⟨w1, hw1⟩ : ∃ w1, w1 = (W.alloc (.cells #[.pointer (some ⟨eb, 0, none⟩), .pointer (some ⟨fb, 0, none⟩)] 104)).alloc (.cells #[.int .i64 4, .int .i64 m, .int .i64 a, .string s, .string t, .string u, .slice p nb cb] 59) := ⟨_, rfl⟩
  have hb1 : Below W.heap.size W w1 := by rw [hw1]; exact ((Below.refl _ _).alloc (Nat.le_refl _) _).alloc (by simp) _
  have x0 : w1.heap[W.heap.size]? = some (Obj.cells #[.pointer (some ⟨eb, 0, none⟩), .pointer (some ⟨fb, 0, none⟩)] 104 (0, 0)) := by
    rw [hw1]
    have h0 : (W.alloc (.cells #[.pointer (some ⟨eb, 0, none⟩), .pointer (some ⟨fb, 0, none⟩)] 104)).heap[W.heap.size]? = some (Obj.cells #[.pointer (some ⟨eb, 0, none⟩), .pointer (some ⟨fb, 0, none⟩)] 104 (0, 0)) := heap_last _ _ _ rfl
    exact (Below.heap_alloc _ _ _ (heap_lt h0)).trans h0
  have x1 : w1.heap[W.heap.size + 1]? = some (Obj.cells #[.int .i64 4, .int .i64 m, .int .i64 a, .string s, .string t, .string u, .slice p nb cb] 59 (0, 0)) := by rw [hw1]; exact heap_last _ _ _ (by simp)
  have hk1 : ∀ b, b < W.heap.size → w1.heap[b]? = W.heap[b]? := fun b hb => hb1.block b hb
  have Heng := hide (engRows _ w1 eb zs N s z (hE.kept hb1.size (fun b _ hlt => hk1 b hlt)) hz hf hN)
  have HR1 := hide (hR.kept (W' := w1) (fun b _ hlt => hk1 b hlt))
  have X := hide (And.intro x0 x1)
  have Hb1 := hide hb1
  have Hw1 := hide hw1
  have HS := hide hS
  have Hk : Hid (∀ (w3 w4 : World) (hs2 : List Nat) (hv' : Value) (L : Nat → Prop), Below W.heap.size W w3 → KeptMany w3 w4 wb pv hv hs L hv' hs2 → (∀ b, L b → W.heap.size ≤ b ∧ b < w3.heap.size) → ∃ o', Law o' w4 wb ps zss (hs ++ hs2) N B0 ∧ Mid (fun b => o b ≠ 0) W w4) := fun w3 w4 hs2 hv' L q1 q2 q3 => h.asked hj hS hpv hwb hcp hch hB q1 q2 q3
  have Hz := hide hz
  have Hf := hide hf
  have Hgs := hide hgs
  have hs1 := hb1.size
  clear heb hfb hzs hE hR hz hw1 hb1 x0 x1 hk1 hS hpv hwb hcp hch h hf hgs
  unfold opV
  go_enter Tryz.func55, Tryz.ntmps55
  go_upto_region 5 with fail
  rw [← unhide Hw1]
  have y0 : w1.cell? ⟨W.heap.size, 0, none⟩ = some (.pointer (some ⟨eb, 0, none⟩)) := cell_of_heap (unhide X).1 0
  have y1 : w1.cell? ⟨W.heap.size, 1, none⟩ = some (.pointer (some ⟨fb, 0, none⟩)) := cell_of_heap (unhide X).1 1
  have y3 : w1.cell? ⟨W.heap.size + 1, 3, none⟩ = some (.string s) := cell_of_heap (unhide X).2 3
  go_wp2_with fail
  refine (unhide Heng).mono ?_
  rintro e w2 ⟨lv, rsx, rfl, ho2, hr2, hrl, hvals, hap, hb2⟩
  have hs2 := hb2.size
  have hx0l : W.heap.size < w1.heap.size := heap_lt (unhide X).1
  have hx1l : W.heap.size + 1 < w1.heap.size := heap_lt (unhide X).2
  have z0 := (hb2.cell (p := ⟨W.heap.size, 0, none⟩) hx0l).trans y0
  have z1 := (hb2.cell (p := ⟨W.heap.size, 1, none⟩) hx0l).trans y1
  have z3 := (hb2.cell (p := ⟨W.heap.size + 1, 3, none⟩) hx1l).trans y3
  have Href := hide (refRows _ w2 fb zs s z ((unhide HR1).kept (fun b _ hlt => hb2.block b hlt)) (unhide Hz) (unhide Hf))
  obtain ⟨pl, cl, rfl, _⟩ := own_form ho2
  have Ho2 := hide ho2
  have Hr2 := hide hr2
  have Hvals := hide hvals
  have Hap := hide hap
  have Hb2 := hide hb2
  clear y0 y1 y3 ho2 hr2 hvals hap hb2 Heng
  go_wp2_with fail
  refine (unhide Href).mono ?_
  rintro e w9 ⟨mv, rfl, hmr, hw9⟩
  replace hw9 := hw9.symm
  subst hw9
  have Hsame := hide (sameRows_eq _ _ z.L w2 (unhide Hr2) hmr (by have := (unhide Hgs).2.2.2.2.1; omega) (fun p hp => by have h1 := (unhide Hgs).2.2.2.1.len p hp; have h2 := (unhide Hgs).2.2.1; omega))
  obtain ⟨am, cm, hme, _⟩ := id hmr
  subst hme
  clear hmr Href
  go_wp2_with fail
  refine (unhide Hsame).mono ?_
  rintro e w3 ⟨rfl, hd3⟩
  have hB3 : Below W.heap.size W w3 := ((unhide Hb1).trans ((unhide Hb2).mono hs1)).trans (hd3.below _)
  have hd3b := hd3.below w2.heap.size
  have hs3 : w2.heap.size ≤ w3.heap.size := hd3b.size
  have ho3 := own_below (unhide Ho2) hd3b
  have Hkeep := hide (keepRows_any wb pv hv hs w1.heap.size (.slice pl rsx.length cl) rsx w3 ((unhide HS).below hB3) hhl ho3 (by omega) (by omega) (fun r hr => by
    obtain ⟨xs, h1, h2⟩ := (unhide Hvals) r hr
    exact ⟨w1.heap.size, xs, own_below h1 hd3b, by omega, by omega⟩) (unhide Hap))
  have Hbl : Hid (∀ b, (Value.ownBlock (.slice pl rsx.length cl) = some b ∨ ∃ r ∈ rsx, (valS r).ownBlock = some b) → W.heap.size ≤ b ∧ b < w3.heap.size) := fun b hb => by
    rcases hb with hb | ⟨r, hr, hb⟩
    · have h1 := (own_block ho3 b hb).1
      obtain ⟨c, h2⟩ := own_type ho3 hb
      exact ⟨by omega, heap_lt h2⟩
    · obtain ⟨xs, h1, h2⟩ := (unhide Hvals) r hr
      have h3 := own_below h1 hd3b
      have h4 := (own_block h3 b hb).1
      obtain ⟨c, h5⟩ := own_type h3 hb
      exact ⟨by omega, heap_lt h5⟩
  have HB3 := hide hB3
  clear hd3 hB3 hd3b ho3 Hsame
  go_wp2_with fail
  refine (unhide Hkeep).mono ?_
  rintro e w4 ⟨hv', hs2', rfl, hK, hlen⟩
  have hfin := (unhide Hk) _ _ _ _ _ (unhide HB3) hK (unhide Hbl)
  have Hfin := hide hfin
  have Hlen := hide hlen
  clear hfin hK hlen Hkeep
  go_wp2
  go_ret
  obtain ⟨o', q1, q2⟩ := unhide Hfin
  exact ⟨rfl, o', hs2', q1, q2, by have := unhide Hlen; omega⟩

end Go.Proofs.YtoifcnidhfnapaaGreatDoor

namespace Go.Proofs.YtoifcnidhfnapaaGreatDoor
set_option linter.unusedVariables false
set_option linter.unusedSimpArgs false
open Go.RowKit Go.Maps

set_option maxRecDepth 100000 in
set_option maxHeartbeats 8000000 in
/-- asks, of a relation that is not there. -/
theorem asks_miss (o : Nat → Nat) (W : World) (wb : Nat) (ps : List (Nat × Nat)) (zss : List (List ZRel)) (hs : List Nat) (N B0 j : Nat) (h : Law o W wb ps zss hs N B0) (hj : j < ps.length) (hB : B0 ≤ W.heap.size) (hhl : hs.length ≤ 10000000000) (hN : N ≤ 900000000) (m a : Int) (s t u : ByteArray) (p : Option Addr) (nb cb : Nat) (hsz : s.size ≤ maxLen) (hf : findZ (zss[j]?.getD []) s = none) :
    Calls Tryz.prog 55 #[.pointer (some ⟨wb, 0, none⟩), .agg #[.pointer (some ⟨(ps[j]?.getD (0, 0)).1, 0, none⟩), .pointer (some ⟨(ps[j]?.getD (0, 0)).2, 0, none⟩)], opV 4 m a s t u (.slice p nb cb)] W fun e w' => e = .returned (.bool true) ∧ ∃ o' hs2, Law o' w' wb ps zss (hs ++ hs2) N B0 ∧ Mid (fun b => o b ≠ 0) W w' ∧ hs2.length ≤ 17 := by
  obtain ⟨pv, hv, base, hS, hpv, hwb, hcp, hch⟩ := h.ex
  obtain ⟨eb, heb⟩ : ∃ eb, eb = (ps[j]?.getD (0, 0)).1 := ⟨_, rfl⟩
  obtain ⟨fb, hfb⟩ : ∃ fb, fb = (ps[j]?.getD (0, 0)).2 := ⟨_, rfl⟩
  have hE := h.eng j hj
  have hR := h.ref j hj
  have hz := h.ok j hj
  rw [← heb] at hE ⊢
  rw [← hfb] at hR ⊢
  obtain ⟨zs, hzs⟩ : ∃ zs, zs = zss[j]?.getD [] := ⟨_, rfl⟩
  rw [← hzs] at hE hR hz hf
  obtain ⟨w1, hw1⟩ : ∃ w1, w1 = (W.alloc (.cells #[.pointer (some ⟨eb, 0, none⟩), .pointer (some ⟨fb, 0, none⟩)] 104)).alloc (.cells #[.int .i64 4, .int .i64 m, .int .i64 a, .string s, .string t, .string u, .slice p nb cb] 59) := ⟨_, rfl⟩
  have hb1 : Below W.heap.size W w1 := by rw [hw1]; exact ((Below.refl _ _).alloc (Nat.le_refl _) _).alloc (by simp) _
  have x0 : w1.heap[W.heap.size]? = some (Obj.cells #[.pointer (some ⟨eb, 0, none⟩), .pointer (some ⟨fb, 0, none⟩)] 104 (0, 0)) := by
    rw [hw1]
    have h0 : (W.alloc (.cells #[.pointer (some ⟨eb, 0, none⟩), .pointer (some ⟨fb, 0, none⟩)] 104)).heap[W.heap.size]? = some (Obj.cells #[.pointer (some ⟨eb, 0, none⟩), .pointer (some ⟨fb, 0, none⟩)] 104 (0, 0)) := heap_last _ _ _ rfl
    exact (Below.heap_alloc _ _ _ (heap_lt h0)).trans h0
  have x1 : w1.heap[W.heap.size + 1]? = some (Obj.cells #[.int .i64 4, .int .i64 m, .int .i64 a, .string s, .string t, .string u, .slice p nb cb] 59 (0, 0)) := by rw [hw1]; exact heap_last _ _ _ (by simp)
  have hk1 : ∀ b, b < W.heap.size → w1.heap[b]? = W.heap[b]? := fun b hb => hb1.block b hb
  have Heng := hide (engRows_miss _ w1 eb zs N s (hE.kept hb1.size (fun b _ hlt => hk1 b hlt)) hf hsz)
  have HR1 := hide (hR.kept (W' := w1) (fun b _ hlt => hk1 b hlt))
  have X := hide (And.intro x0 x1)
  have Hb1 := hide hb1
  have Hw1 := hide hw1
  have HS := hide hS
  have Hk : Hid (∀ (w3 w4 : World) (hs2 : List Nat) (hv' : Value) (L : Nat → Prop), Below W.heap.size W w3 → KeptMany w3 w4 wb pv hv hs L hv' hs2 → (∀ b, L b → W.heap.size ≤ b ∧ b < w3.heap.size) → ∃ o', Law o' w4 wb ps zss (hs ++ hs2) N B0 ∧ Mid (fun b => o b ≠ 0) W w4) := fun w3 w4 hs2 hv' L q1 q2 q3 => h.asked hj hS hpv hwb hcp hch hB q1 q2 q3
  have Hz := hide hz
  have Hf := hide hf
  have hs1 := hb1.size
  clear heb hfb hzs hE hR hz hw1 hb1 x0 x1 hk1 hS hpv hwb hcp hch h hf
  unfold opV
  go_enter Tryz.func55, Tryz.ntmps55
  go_upto_region 5 with fail
  rw [← unhide Hw1]
  have y0 : w1.cell? ⟨W.heap.size, 0, none⟩ = some (.pointer (some ⟨eb, 0, none⟩)) := cell_of_heap (unhide X).1 0
  have y1 : w1.cell? ⟨W.heap.size, 1, none⟩ = some (.pointer (some ⟨fb, 0, none⟩)) := cell_of_heap (unhide X).1 1
  have y3 : w1.cell? ⟨W.heap.size + 1, 3, none⟩ = some (.string s) := cell_of_heap (unhide X).2 3
  go_wp2_with fail
  refine (unhide Heng).mono ?_
  rintro e w2 ⟨rfl, hb2⟩
  have hs2 := hb2.size
  have hx0l : W.heap.size < w1.heap.size := heap_lt (unhide X).1
  have hx1l : W.heap.size + 1 < w1.heap.size := heap_lt (unhide X).2
  have z0 := (hb2.cell (p := ⟨W.heap.size, 0, none⟩) hx0l).trans y0
  have z1 := (hb2.cell (p := ⟨W.heap.size, 1, none⟩) hx0l).trans y1
  have z3 := (hb2.cell (p := ⟨W.heap.size + 1, 3, none⟩) hx1l).trans y3
  have Href := hide (refRows_none _ w2 fb zs s ((unhide HR1).kept (fun b _ hlt => hb2.block b hlt)) (unhide Hz) (unhide Hf))
  have hs2W : W.heap.size ≤ w2.heap.size := by omega
  have HB2 := hide ((unhide Hb1).trans (hb2.mono hs1))
  clear y0 y1 y3 hb2 Heng
  go_wp2_with fail
  refine (unhide Href).mono ?_
  rintro e w9 ⟨rfl, hw9⟩
  replace hw9 := hw9.symm
  subst hw9
  clear Href
  have Hsame := hide (sameRows_eq (.slice none 0 0) (.slice none 0 0) [] w2 ⟨none, 0, rfl, fun i hi => by simp at hi⟩ ⟨none, 0, rfl, fun i hi => by simp at hi⟩ (by simp) (fun p hp => by simp at hp))
  go_wp2_with fail
  refine (unhide Hsame).mono ?_
  rintro e w3 ⟨rfl, hd3⟩
  have hB3 : Below W.heap.size W w3 := (unhide HB2).trans ((hd3.below _).mono hs2W)
  have Hkeep := hide (keepRows_any wb pv hv hs 0 (.slice none 0 0) [] w3 ((unhide HS).below hB3) hhl (World.ownsRow_nil _ _ _ _) (by simp) (Nat.zero_le _) (fun r hr => by simp at hr) List.Pairwise.nil)
  have Hbl : Hid (∀ b, (Value.ownBlock (.slice none 0 0) = some b ∨ ∃ r ∈ ([] : List Raw), (valS r).ownBlock = some b) → W.heap.size ≤ b ∧ b < w3.heap.size) := fun b hb => by
    rcases hb with hb | ⟨r, hr, hb⟩
    · cases hb
    · simp at hr
  have HB3 := hide hB3
  clear hd3 hB3 Hsame
  go_wp2_with fail
  refine (unhide Hkeep).mono ?_
  rintro e w4 ⟨hv', hs2', rfl, hK, hlen⟩
  have hfin := (unhide Hk) _ _ _ _ _ (unhide HB3) hK (unhide Hbl)
  have Hfin := hide hfin
  have Hlen := hide hlen
  clear hfin hK hlen Hkeep
  go_wp2
  go_ret
  obtain ⟨o', q1, q2⟩ := unhide Hfin
  exact ⟨rfl, o', hs2', q1, q2, by have := unhide Hlen; simp at this; omega⟩

set_option maxRecDepth 100000 in
set_option maxHeartbeats 8000000 in
/-- asks nothing. -/
theorem asks_other (o : Nat → Nat) (W : World) (wb : Nat) (ps : List (Nat × Nat)) (zss : List (List ZRel)) (hs : List Nat) (N B0 j : Nat) (h : Law o W wb ps zss hs N B0) (hj : j < ps.length) (hB : B0 ≤ W.heap.size) (hhl : hs.length ≤ 10000000000) (hN : N ≤ 900000000) (m a : Int) (s t u : ByteArray) (p : Option Addr) (nb cb : Nat) (k : Int) (hk4 : k ≠ 4) (hk7 : k ≠ 7) (hk8 : k ≠ 8) :
    Calls Tryz.prog 55 #[.pointer (some ⟨wb, 0, none⟩), .agg #[.pointer (some ⟨(ps[j]?.getD (0, 0)).1, 0, none⟩), .pointer (some ⟨(ps[j]?.getD (0, 0)).2, 0, none⟩)], opV k m a s t u (.slice p nb cb)] W fun e w' => e = .returned (.bool true) ∧ ∃ o' hs2, Law o' w' wb ps zss (hs ++ hs2) N B0 ∧ Mid (fun b => o b ≠ 0) W w' ∧ hs2.length ≤ 17 := by
  obtain ⟨pv, hv, base, hS, hpv, hwb, hcp, hch⟩ := h.ex
  obtain ⟨eb, heb⟩ : ∃ eb, eb = (ps[j]?.getD (0, 0)).1 := ⟨_, rfl⟩
  obtain ⟨fb, hfb⟩ : ∃ fb, fb = (ps[j]?.getD (0, 0)).2 := ⟨_, rfl⟩
  have hE := h.eng j hj
  have hR := h.ref j hj
  have hz := h.ok j hj
  rw [← heb] at hE ⊢
  rw [← hfb] at hR ⊢
  obtain ⟨zs, hzs⟩ : ∃ zs, zs = zss[j]?.getD [] := ⟨_, rfl⟩
  rw [← hzs] at hE hR hz
  obtain ⟨w1, hw1⟩ : ∃ w1, w1 = (W.alloc (.cells #[.pointer (some ⟨eb, 0, none⟩), .pointer (some ⟨fb, 0, none⟩)] 104)).alloc (.cells #[.int .i64 k, .int .i64 m, .int .i64 a, .string s, .string t, .string u, .slice p nb cb] 59) := ⟨_, rfl⟩
  have hb1 : Below W.heap.size W w1 := by rw [hw1]; exact ((Below.refl _ _).alloc (Nat.le_refl _) _).alloc (by simp) _
  have x0 : w1.heap[W.heap.size]? = some (Obj.cells #[.pointer (some ⟨eb, 0, none⟩), .pointer (some ⟨fb, 0, none⟩)] 104 (0, 0)) := by
    rw [hw1]
    have h0 : (W.alloc (.cells #[.pointer (some ⟨eb, 0, none⟩), .pointer (some ⟨fb, 0, none⟩)] 104)).heap[W.heap.size]? = some (Obj.cells #[.pointer (some ⟨eb, 0, none⟩), .pointer (some ⟨fb, 0, none⟩)] 104 (0, 0)) := heap_last _ _ _ rfl
    exact (Below.heap_alloc _ _ _ (heap_lt h0)).trans h0
  have x1 : w1.heap[W.heap.size + 1]? = some (Obj.cells #[.int .i64 k, .int .i64 m, .int .i64 a, .string s, .string t, .string u, .slice p nb cb] 59 (0, 0)) := by rw [hw1]; exact heap_last _ _ _ (by simp)
  have hk1 : ∀ b, b < W.heap.size → w1.heap[b]? = W.heap[b]? := fun b hb => hb1.block b hb
  have HR1 := hide (hR.kept (W' := w1) (fun b _ hlt => hk1 b hlt))
  have X := hide (And.intro x0 x1)
  have Hb1 := hide hb1
  have Hw1 := hide hw1
  have HS := hide hS
  have Hk : Hid (∀ (w3 w4 : World) (hs2 : List Nat) (hv' : Value) (L : Nat → Prop), Below W.heap.size W w3 → KeptMany w3 w4 wb pv hv hs L hv' hs2 → (∀ b, L b → W.heap.size ≤ b ∧ b < w3.heap.size) → ∃ o', Law o' w4 wb ps zss (hs ++ hs2) N B0 ∧ Mid (fun b => o b ≠ 0) W w4) := fun w3 w4 hs2 hv' L q1 q2 q3 => h.asked hj hS hpv hwb hcp hch hB q1 q2 q3
  have Hz := hide hz
  have hs1 := hb1.size
  clear heb hfb hzs hE hR hz hw1 hb1 x0 x1 hk1 hS hpv hwb hcp hch h
  unfold opV
  go_enter Tryz.func55, Tryz.ntmps55
  have hx0l : W.heap.size < w1.heap.size := heap_lt (unhide X).1
  have k4 : (k == 4) = false := by simpa using hk4
  have k7 : (k == 7) = false := by simpa using hk7
  have k8 : (k == 8) = false := by simpa using hk8
  have y0 : w1.cell? ⟨W.heap.size + 1, 0, none⟩ = some (.int .i64 k) := cell_of_heap (unhide X).2 0
  have hs2W : W.heap.size ≤ w1.heap.size := by omega
  have HB2 := Hb1
  go_upto_region 3 with fail
  rw [← unhide Hw1]
  clear hk4 hk7 hk8
  have Hsame := hide (sameRows_eq (.slice none 0 0) (.slice none 0 0) [] w1 ⟨none, 0, rfl, fun i hi => by simp at hi⟩ ⟨none, 0, rfl, fun i hi => by simp at hi⟩ (by simp) (fun p hp => by simp at hp))
  go_wp2_with fail
  refine (unhide Hsame).mono ?_
  rintro e w3 ⟨rfl, hd3⟩
  have hB3 : Below W.heap.size W w3 := (unhide HB2).trans ((hd3.below _).mono hs2W)
  have Hkeep := hide (keepRows_any wb pv hv hs 0 (.slice none 0 0) [] w3 ((unhide HS).below hB3) hhl (World.ownsRow_nil _ _ _ _) (by simp) (Nat.zero_le _) (fun r hr => by simp at hr) List.Pairwise.nil)
  have Hbl : Hid (∀ b, (Value.ownBlock (.slice none 0 0) = some b ∨ ∃ r ∈ ([] : List Raw), (valS r).ownBlock = some b) → W.heap.size ≤ b ∧ b < w3.heap.size) := fun b hb => by
    rcases hb with hb | ⟨r, hr, hb⟩
    · cases hb
    · simp at hr
  have HB3 := hide hB3
  clear hd3 hB3 Hsame
  go_wp2_with fail
  refine (unhide Hkeep).mono ?_
  rintro e w4 ⟨hv', hs2', rfl, hK, hlen⟩
  have hfin := (unhide Hk) _ _ _ _ _ (unhide HB3) hK (unhide Hbl)
  have Hfin := hide hfin
  have Hlen := hide hlen
  clear hfin hK hlen Hkeep
  go_wp2
  go_ret
  obtain ⟨o', q1, q2⟩ := unhide Hfin
  exact ⟨rfl, o', hs2', q1, q2, by have := unhide Hlen; simp at this; omega⟩

end Go.Proofs.YtoifcnidhfnapaaGreatDoor
