import Derived.Test.YtoifcnidhfnapaaGreatDoorM29
import Derived.Test.YtoifcnidhfnapaaGreatDoorM27
import Derived.Test.YtoifcnidhfnapaaGreatDoorM28
import Derived.Test.YtoifcnidhfnapaaGreatDoorM26
set_option linter.unusedVariables false
set_option linter.unusedSimpArgs false

namespace Go.Proofs.YtoifcnidhfnapaaGreatDoor
set_option linter.unusedVariables false
set_option linter.unusedSimpArgs false
open Go.RowKit Go.Maps

def cellsP (ps : List (Nat × Nat)) : List Value := ps.flatMap fun p => [.pointer (some ⟨p.1, 0, none⟩), .pointer (some ⟨p.2, 0, none⟩)]

/-- The law's world: engines in pairs, and all that came out or was handed in. The blocks have colours: 0: whoever wants; 1: the law's books; 2i+2, 2i+3: the engines of pair i. -/
structure Law (o : Nat → Nat) (W : World) (wb : Nat) (ps : List (Nat × Nat)) (zss : List (List ZRel)) (hs : List Nat) (N B0 : Nat) : Prop where
  ex : ∃ pv hv base, Spine W wb pv hv hs ∧ W.ownsRow base 104 2 pv ps.length (cellsP ps) ∧ o wb = 1 ∧ (∀ g, pv.ownBlock = some g → o g = 1) ∧ (∀ g, hv.ownBlock = some g → o g = 1)
  len : ps.length = zss.length
  eng : ∀ i, i < ps.length → EngSide (fun b => o b = 2 * i + 2) W (ps[i]?.getD (0, 0)).1 (zss[i]?.getD []) N
  ref : ∀ i, i < ps.length → RefSide (fun b => o b = 2 * i + 3) W (ps[i]?.getD (0, 0)).2 (zss[i]?.getD [])
  ok : ∀ i, i < ps.length → ZOk (zss[i]?.getD [])
  holds : ∀ h ∈ hs, HoldRep (fun b => o b = 0) W h
  fresh : ∀ b, W.heap.size ≤ b → o b = 0
  args : ∀ b, b < B0 → o b = 0

theorem HoldRep.fit {T : Nat → Prop} {W : World} {h : Nat} (hh : HoldRep T W h) : HoldRep (fun b => T b ∧ b < W.heap.size) W h := by
  obtain ⟨nv, rv, ev, m, ns, rws, h1, h2, h3, h4, h5, h6, h7, h8, h9, h10⟩ := hh.ex
  have hm : ∀ {u : Value} {size : Nat} {pat : List Value}, pat.length = size → 0 < size → Marks T W u size pat → Marks (fun b => T b ∧ b < W.heap.size) W u size pat := by
    intro u size pat hl hs hu
    obtain ⟨p, n, cap, a1, a2, a3⟩ := hu
    refine ⟨p, n, cap, a1, a2, fun i hi => ?_⟩
    obtain ⟨b, b1, b2, b3⟩ := a3 i hi
    refine ⟨b, b1, ⟨b2, ?_⟩, b3⟩
    have h0 := b3 0 hs
    have : pat[0]? = some (pat[0]'(by omega)) := by simp
    rw [this] at h0
    exact World.block_lt_of_cell? W _ h0
  have ho : ∀ {e : TypeId} {size : Nat} {v : Value} {n : Nat} {xs : List Value}, OwnT T W e size v n xs → OwnT (fun b => T b ∧ b < W.heap.size) W e size v n xs := fun h => ⟨h.1, fun g hg => ⟨h.2 g hg, by obtain ⟨⟨base, hb⟩, _⟩ := h; obtain ⟨cur, hc⟩ := own_type hb hg; exact heap_lt hc⟩⟩
  exact ⟨nv, rv, ev, m, ns, rws, h1, ⟨h2, heap_lt h1⟩, h3, h4, h5, ho h6, fun u hu => hm rfl (by omega) (h7 u hu), ho h8, fun u hu => hm rfl (by omega) (h9 u hu), hm rfl (by omega) h10⟩

/-- The colours of old blocks stay. -/
def Ext (o o' : Nat → Nat) (n : Nat) : Prop := ∀ b, b < n → o' b = o b

theorem Law.lift {o o' : Nat → Nat} {n c : Nat} (hf : ∀ b, n ≤ b → o b = 0) (hx : Ext o o' n) (hc : c ≠ 0) : ∀ b, o b = c → o' b = c := fun b hb => by
  by_cases h : b < n
  · rw [hx b h]; exact hb
  · rw [hf b (by omega)] at hb; exact absurd hb.symm hc

/-- What no one touches: all engines but that of one pair, and all holds. -/
theorem Law.others {o o' : Nat → Nat} {W W' : World} {wb : Nat} {ps : List (Nat × Nat)} {zss : List (List ZRel)} {hs : List Nat} {N B0 : Nat} (h : Law o W wb ps zss hs N B0) (hx : Ext o o' W.heap.size) (hs' : W.heap.size ≤ W'.heap.size) (j : Nat) (hk : ∀ b, b < W.heap.size → o b ≠ 1 → o b ≠ 2 * j + 2 → o b ≠ 2 * j + 3 → W'.heap[b]? = W.heap[b]?) :
    (∀ i, i < ps.length → i ≠ j → EngSide (fun b => o' b = 2 * i + 2) W' (ps[i]?.getD (0, 0)).1 (zss[i]?.getD []) N ∧ RefSide (fun b => o' b = 2 * i + 3) W' (ps[i]?.getD (0, 0)).2 (zss[i]?.getD [])) ∧ ∀ x ∈ hs, HoldRep (fun b => o' b = 0) W' x := by
  refine ⟨fun i hi hne => ⟨?_, ?_⟩, fun x hx' => ?_⟩
  · refine ((h.eng i hi).kept hs' (fun b hb hlt => hk b hlt ?_ ?_ ?_)).imp (Law.lift h.fresh hx (by omega)) (Nat.le_refl _) <;> (rw [hb]; omega)
  · refine ((h.ref i hi).kept (fun b hb hlt => hk b hlt ?_ ?_ ?_)).imp (Law.lift h.fresh hx (by omega)) <;> (rw [hb]; omega)
  · refine ((h.holds x hx').fit.kept (fun b hb hlt => hk b hlt ?_ ?_ ?_)).imp (fun b hb => by rw [hx b hb.2]; exact hb.1) <;> (rw [hb.1]; omega)

/-- Lists that came out of one pair's calls are kept: all stays as it should be. -/
theorem Law.keep {o : Nat → Nat} {W w1 w2 : World} {wb : Nat} {ps : List (Nat × Nat)} {zss : List (List ZRel)} {hs hs2 : List Nat} {N N' B0 j : Nat} {L : Nat → Prop} {pv hv hv' : Value} {base lo hi : Nat} {zs' : List ZRel} (h : Law o W wb ps zss hs N B0) (hj : j < ps.length)
    (hpv : W.ownsRow base 104 2 pv ps.length (cellsP ps)) (hcp : ∀ g, pv.ownBlock = some g → o g = 1) (hS : Spine W wb pv hv hs) (hwb : o wb = 1) (hch : ∀ g, hv.ownBlock = some g → o g = 1)
    (hM1 : Mid (fun b => o b = 2 * j + 2 ∨ o b = 2 * j + 3) W w1) (hK : KeptMany w1 w2 wb pv hv hs L hv' hs2) (hL : ∀ b, L b → W.heap.size ≤ b ∧ b < w1.heap.size ∧ ¬ (lo ≤ b ∧ b < hi)) (hlo : W.heap.size ≤ lo) (hhi : hi ≤ w1.heap.size) (hNN : N ≤ N')
    (hE : EngSide (fun b => o b = 2 * j + 2) w1 (ps[j]?.getD (0, 0)).1 zs' N') (hR : RefSide (fun b => o b = 2 * j + 3 ∨ lo ≤ b ∧ b < hi) w1 (ps[j]?.getD (0, 0)).2 zs') (hz : ZOk zs') (hB : B0 ≤ W.heap.size) :
    ∃ o', Law o' w2 wb ps (zss.set j zs') (hs ++ hs2) N' B0 ∧ Mid (fun b => o b ≠ 0) W w2 := by
  have hs1 := hM1.size
  have hk1 : ∀ b, b < W.heap.size → o b ≠ 2 * j + 2 → o b ≠ 2 * j + 3 → w1.heap[b]? = W.heap[b]? := fun b hb h2 h3 => hM1.block b hb (fun hq => by omega)
  obtain ⟨o', ho'⟩ : ∃ o' : Nat → Nat, o' = fun b => if b < W.heap.size then o b else if hv'.ownBlock = some b then 1 else if lo ≤ b ∧ b < hi then 2 * j + 3 else 0 := ⟨_, rfl⟩
  have hx : Ext o o' W.heap.size := fun b hb => by rw [ho']; simp [hb]
  have hm := hK.mid
  have hsz := hm.size
  have hwbl : wb < W.heap.size := heap_lt hS.box
  have hhvl : ∀ g, hv.ownBlock = some g → g < W.heap.size := fun g hg => by obtain ⟨_, h9⟩ := hS.own; obtain ⟨c, h9⟩ := own_type h9 hg; exact heap_lt h9
  have hk2 : ∀ b, b < W.heap.size → o b ≠ 1 → o b ≠ 2 * j + 2 → o b ≠ 2 * j + 3 → w2.heap[b]? = W.heap[b]? := fun b hb h1 h2 h3 =>
    (hm.block b (by omega) (fun hq => by
      rcases hq with e | e | e
      · rw [e] at h1; exact h1 hwb
      · exact h1 (hch b e)
      · have := hL b e; omega)).trans (hk1 b hb h2 h3)
  have hkj : ∀ b, b < w1.heap.size → (o b = 2 * j + 2 ∨ o b = 2 * j + 3 ∨ lo ≤ b ∧ b < hi) → w2.heap[b]? = w1.heap[b]? := fun b hb hc =>
    hm.block b hb (fun hq => by
      rcases hq with e | e | e
      · rw [e] at hc
        rcases hc with hc | hc | hc
        · omega
        · omega
        · omega
      · have h1 := hch b e
        have h2 := hhvl b e
        rcases hc with hc | hc | hc
        · omega
        · omega
        · omega
      · have h1 := hL b e
        have h2 := h.fresh b h1.1
        rcases hc with hc | hc | hc
        · omega
        · omega
        · exact h1.2.2 hc)
  have hfit : ∀ g, hv'.ownBlock = some g → o' g = 1 := fun g hg => by
    rw [ho']
    by_cases e : g < W.heap.size
    · simp only [e, if_true]
      rcases hK.hvb with h1 | h1
      · rw [h1] at hg; exact hch g hg
      · have := h1 g hg; omega
    · simp only [e, if_false, hg, if_true]
  obtain ⟨hoth, hhold⟩ := h.others hx (Nat.le_trans hs1 hsz) j hk2
  refine ⟨o', ⟨⟨pv, hv', base, hK.spine, ?_, ?_, ?_, hfit⟩, by simpa using h.len, fun i hi' => ?_, fun i hi' => ?_, fun i hi' => ?_, fun x hx' => ?_, fun b hb => ?_, fun b hb => ?_⟩, ⟨hm.os.trans hM1.os, hm.tape.trans hM1.tape, hm.output.trans hM1.output, Nat.le_trans hs1 hsz, fun b hb h0 => by have h0 : o b = 0 := Classical.not_not.1 h0; exact hk2 b hb (by omega) (by omega) (by omega)⟩⟩
  · refine ⟨hpv.1, ?_⟩
    rcases hpv.2 with h1 | ⟨g, cap, cur, h1, h2, h3, h4⟩
    · exact .inl h1
    · have hgo : pv.ownBlock = some g := by rw [h1]; rfl
      have hc1 := hcp g hgo
      have hgl := heap_lt h3
      have h5 := (hk1 g hgl (by omega) (by omega)).trans h3
      refine .inr ⟨g, cap, cur, h1, h2, (hm.block g (by omega) (fun hq => ?_)).trans h5, h4⟩
      rcases hq with e | e | e
      · subst e; exact absurd (type_ne h3 hS.box) (by decide)
      · obtain ⟨_, h9⟩ := hS.own
        obtain ⟨c, h9⟩ := own_type h9 e
        exact absurd (type_ne h3 h9) (by decide)
      · have := hL g e; omega
  · rw [hx wb hwbl]; exact hwb
  · intro g hg
    have hgl : g < W.heap.size := by obtain ⟨c, h9⟩ := own_type hpv hg; exact heap_lt h9
    rw [hx g hgl]; exact hcp g hg
  · by_cases e : i = j
    · subst e
      have e1 : (zss.set i zs')[i]?.getD [] = zs' := by rw [List.getElem?_set_self (by rw [← h.len]; exact hj)]; rfl
      rw [e1]
      exact (hE.kept hsz (fun b hb hlt => hkj b hlt (.inl hb))).imp (Law.lift h.fresh hx (by omega)) (Nat.le_refl _)
    · have e1 : (zss.set j zs')[i]?.getD [] = zss[i]?.getD [] := by rw [List.getElem?_set_ne (fun x => e x.symm)]
      rw [e1]
      exact (hoth i hi' e).1.imp (fun b hb => hb) hNN
  · by_cases e : i = j
    · subst e
      have e1 : (zss.set i zs')[i]?.getD [] = zs' := by rw [List.getElem?_set_self (by rw [← h.len]; exact hj)]; rfl
      rw [e1]
      have hR' : RefSide (fun b => (o b = 2 * i + 3 ∨ lo ≤ b ∧ b < hi) ∧ b < w1.heap.size) w1 (ps[i]?.getD (0, 0)).2 zs' := by obtain ⟨v, rs, q⟩ := hR; exact ⟨v, rs, q.fit⟩
      refine (hR'.kept (fun b hb hlt => hkj b hlt (.inr hb.1))).imp (fun b hb => ?_)
      rcases hb.1 with h1 | h1
      · exact Law.lift h.fresh hx (by omega) b h1
      · rw [ho']
        have e2 : ¬ b < W.heap.size := by omega
        have e3 : hv'.ownBlock ≠ some b := fun e4 => by
          rcases hK.hvb with h5 | h5
          · rw [h5] at e4; have := hhvl b e4; omega
          · have := h5 b e4; omega
        simp only [e2, if_false, e3, h1, and_self, if_true]
    · have e1 : (zss.set j zs')[i]?.getD [] = zss[i]?.getD [] := by rw [List.getElem?_set_ne (fun x => e x.symm)]
      rw [e1]
      exact (hoth i hi' e).2
  · by_cases e : i = j
    · subst e
      have e1 : (zss.set i zs')[i]?.getD [] = zs' := by rw [List.getElem?_set_self (by rw [← h.len]; exact hj)]; rfl
      rw [e1]; exact hz
    · have e1 : (zss.set j zs')[i]?.getD [] = zss[i]?.getD [] := by rw [List.getElem?_set_ne (fun x => e x.symm)]
      rw [e1]; exact h.ok i hi'
  · rcases List.mem_append.1 hx' with hm' | hm'
    · exact hhold x hm'
    · refine (hK.hold x hm').imp (fun b hb => ?_)
      have hb0 : W.heap.size ≤ b ∧ ¬ (lo ≤ b ∧ b < hi) := by
        rcases hb.1 with h1 | h1
        · exact ⟨by omega, by omega⟩
        · exact ⟨(hL b h1).1, (hL b h1).2.2⟩
      rw [ho']
      have e2 : ¬ b < W.heap.size := by omega
      simp only [e2, if_false, hb.2.2.1, hb0.2]
  · rw [ho']
    have e2 : ¬ b < W.heap.size := by omega
    have e3 : hv'.ownBlock ≠ some b := fun e4 => by
      obtain ⟨_, h9⟩ := hK.spine.own
      obtain ⟨c, h9⟩ := own_type h9 e4
      have := heap_lt h9
      omega
    have e4 : ¬ (lo ≤ b ∧ b < hi) := by omega
    simp only [e2, if_false, e3, e4]
  · rw [hx b (by omega)]; exact h.args b hb

/-- A relation was made, or refused, on both sides. -/
theorem Law.made {o : Nat → Nat} {W w1 w2 : World} {wb : Nat} {ps : List (Nat × Nat)} {zss : List (List ZRel)} {hs : List Nat} {N B0 j : Nat} {zs' : List ZRel} (h : Law o W wb ps zss hs N B0) (hj : j < ps.length)
    (hM1 : Mid (fun b => o b = 2 * j + 2) W w1) (hM2 : Mid (fun b => o b = 2 * j + 3) w1 w2) (hE : EngSide (fun b => o b = 2 * j + 2 ∨ W.heap.size ≤ b ∧ b < w1.heap.size) w1 (ps[j]?.getD (0, 0)).1 zs' N) (hR : RefSide (fun b => o b = 2 * j + 3 ∨ w1.heap.size ≤ b ∧ b < w2.heap.size) w2 (ps[j]?.getD (0, 0)).2 zs') (hz : ZOk zs') (hB : B0 ≤ W.heap.size) :
    ∃ o', Law o' w2 wb ps (zss.set j zs') hs N B0 ∧ Mid (fun b => o b ≠ 0) W w2 := by
  obtain ⟨o', ho'⟩ : ∃ o' : Nat → Nat, o' = fun b => if b < W.heap.size then o b else if b < w1.heap.size then 2 * j + 2 else if b < w2.heap.size then 2 * j + 3 else 0 := ⟨_, rfl⟩
  have hx : Ext o o' W.heap.size := fun b hb => by rw [ho']; simp [hb]
  have hs1 := hM1.size
  have hs2 := hM2.size
  have hk2 : ∀ b, b < W.heap.size → o b ≠ 2 * j + 2 → o b ≠ 2 * j + 3 → w2.heap[b]? = W.heap[b]? := fun b hb h2 h3 => (hM2.block b (by omega) h3).trans (hM1.block b hb h2)
  obtain ⟨hoth, hhold⟩ := h.others hx (Nat.le_trans hs1 hs2) j (fun b hb _ h2 h3 => hk2 b hb h2 h3)
  obtain ⟨pv, hv, base, hS, hpv, hwb, hcp, hch⟩ := h.ex
  have hown : ∀ {e : TypeId} {size : Nat} {v : Value} {n : Nat} {xs : List Value} {bb : Nat}, (∀ g, v.ownBlock = some g → o g = 1) → W.ownsRow bb e size v n xs → w2.ownsRow bb e size v n xs := by
    intro e size v n xs bb hc ho
    refine ⟨ho.1, ?_⟩
    rcases ho.2 with h1 | ⟨g, cap, cur, h1, h2, h3, h4⟩
    · exact .inl h1
    · have hc1 := hc g (by rw [h1]; rfl)
      exact .inr ⟨g, cap, cur, h1, h2, (hk2 g (heap_lt h3) (by omega) (by omega)).trans h3, h4⟩
  have hwbl : wb < W.heap.size := heap_lt hS.box
  obtain ⟨bh, hoh⟩ := hS.own
  have e1 : (zss.set j zs')[j]?.getD [] = zs' := by rw [List.getElem?_set_self (by rw [← h.len]; exact hj)]; rfl
  have e2 : ∀ i, i ≠ j → (zss.set j zs')[i]?.getD [] = zss[i]?.getD [] := fun i e => by rw [List.getElem?_set_ne (fun x => e x.symm)]
  refine ⟨o', ⟨⟨pv, hv, base, ⟨(hk2 wb hwbl (by omega) (by omega)).trans hS.box, ⟨bh, hown hch hoh⟩⟩, hown hcp hpv, by rw [hx wb hwbl]; exact hwb, fun g hg => ?_, fun g hg => ?_⟩, by simpa using h.len, fun i hi => ?_, fun i hi => ?_, fun i hi => ?_, hhold, fun b hb => ?_, fun b hb => ?_⟩, ⟨hM2.os.trans hM1.os, hM2.tape.trans hM1.tape, hM2.output.trans hM1.output, by omega, fun b hb h0 => by have h0 : o b = 0 := Classical.not_not.1 h0; exact hk2 b hb (by omega) (by omega)⟩⟩
  · obtain ⟨c, h9⟩ := own_type hpv hg
    rw [hx g (heap_lt h9)]; exact hcp g hg
  · obtain ⟨c, h9⟩ := own_type hoh hg
    rw [hx g (heap_lt h9)]; exact hch g hg
  · by_cases e : i = j
    · subst e
      rw [e1]
      refine (hE.kept hs2 (fun b hb hlt => hM2.block b hlt (fun hq => ?_))).imp (fun b hb => ?_) (Nat.le_refl _)
      · rcases hb with h1 | h1
        · omega
        · have := h.fresh b h1.1; omega
      · rcases hb with h1 | h1
        · exact Law.lift h.fresh hx (by omega) b h1
        · rw [ho']
          have q1 : ¬ b < W.heap.size := by omega
          simp only [q1, if_false, h1.2, if_true]
    · rw [e2 i e]; exact (hoth i hi e).1
  · by_cases e : i = j
    · subst e
      rw [e1]
      refine hR.imp (fun b hb => ?_)
      rcases hb with h1 | h1
      · exact Law.lift h.fresh hx (by omega) b h1
      · rw [ho']
        have q1 : ¬ b < W.heap.size := by omega
        have q2 : ¬ b < w1.heap.size := by omega
        simp only [q1, if_false, q2, h1.2, if_true]
    · rw [e2 i e]; exact (hoth i hi e).2
  · by_cases e : i = j
    · subst e; rw [e1]; exact hz
    · rw [e2 i e]; exact h.ok i hi
  · rw [ho']
    have q1 : ¬ b < W.heap.size := by omega
    have q2 : ¬ b < w1.heap.size := by omega
    have q3 : ¬ b < w2.heap.size := by omega
    simp only [q1, if_false, q2, q3]
  · rw [hx b (by omega)]; exact h.args b hb

theorem ZOk.nil : ZOk [] := ⟨by simp, List.Pairwise.nil, fun z hz => by simp at hz⟩

/-- A pair more. -/
theorem Law.born {o : Nat → Nat} {W w1 w2 : World} {wb : Nat} {ps : List (Nat × Nat)} {zss : List (List ZRel)} {hs : List Nat} {N B0 eb fb base : Nat} {pv hv pv' : Value} (h : Law o W wb ps zss hs N B0) (hS : Spine W wb pv hv hs) (hwb : o wb = 1) (hch : ∀ g, hv.ownBlock = some g → o g = 1) (hcp : ∀ g, pv.ownBlock = some g → o g = 1)
    (hs1 : W.heap.size ≤ w1.heap.size) (hfb : w1.heap.size = fb) (hs2 : fb < w2.heap.size) (hE : EngSide (fun b => W.heap.size ≤ b ∧ b < w1.heap.size) w2 eb [] N) (hR : RefSide (fun b => b = fb) w2 fb []) (hM : Mid (fun b => b = wb ∨ pv.ownBlock = some b) W w2)
    (hS' : Spine w2 wb pv' hv hs) (hpv' : w2.ownsRow base 104 2 pv' (ps.length + 1) (cellsP (ps ++ [(eb, fb)]))) (hat : pv'.ownBlock = pv.ownBlock ∨ ∀ g, pv'.ownBlock = some g → fb < g) (hB : B0 ≤ W.heap.size) (hpl : ∀ g, pv.ownBlock = some g → g < W.heap.size) :
    ∃ o', Law o' w2 wb (ps ++ [(eb, fb)]) (zss ++ [[]]) hs N B0 ∧ Mid (fun b => o b ≠ 0) W w2 := by
  obtain ⟨o', ho'⟩ : ∃ o' : Nat → Nat, o' = fun b => if b < W.heap.size then o b else if b < w1.heap.size then 2 * ps.length + 2 else if b = fb then 2 * ps.length + 3 else if pv'.ownBlock = some b then 1 else 0 := ⟨_, rfl⟩
  have hx : Ext o o' W.heap.size := fun b hb => by rw [ho']; simp [hb]
  have hk2 : ∀ b, b < W.heap.size → o b ≠ 1 → w2.heap[b]? = W.heap[b]? := fun b hb h2 => hM.block b hb (fun hq => by
    rcases hq with e | e
    · rw [e] at h2; exact h2 hwb
    · exact h2 (hcp b e))
  obtain ⟨hoth, hhold⟩ := h.others hx hM.size ps.length (fun b hb h1 _ _ => hk2 b hb h1)
  have hwbl : wb < W.heap.size := heap_lt hS.box
  have hll : ps.length = zss.length := h.len
  refine ⟨o', ⟨⟨pv', hv, base, hS', by simpa using hpv', by rw [hx wb hwbl]; exact hwb, fun g hg => ?_, fun g hg => ?_⟩, by simp [hll], fun i hi => ?_, fun i hi => ?_, fun i hi => ?_, hhold, fun b hb => ?_, fun b hb => ?_⟩, ⟨hM.os, hM.tape, hM.output, hM.size, fun b hb h0 => by have h0 : o b = 0 := Classical.not_not.1 h0; exact hk2 b hb (by omega)⟩⟩
  · rcases hat with h1 | h1
    · rw [h1] at hg
      rw [hx g (hpl g hg)]; exact hcp g hg
    · have := h1 g hg
      rw [ho']
      have q1 : ¬ g < W.heap.size := by omega
      have q2 : ¬ g < w1.heap.size := by omega
      have q3 : ¬ g = fb := by omega
      simp only [q1, if_false, q2, q3, hg, if_true]
  · obtain ⟨_, hoh⟩ := hS.own
    obtain ⟨c, h9⟩ := own_type hoh hg
    rw [hx g (heap_lt h9)]; exact hch g hg
  · by_cases e : i < ps.length
    · rw [List.getElem?_append_left e, List.getElem?_append_left (by omega)]
      exact (hoth i e (by omega)).1
    · have e1 : i = ps.length := by simp at hi; omega
      subst e1
      have e3 : (zss ++ [([] : List ZRel)])[ps.length]?.getD [] = [] := by rw [hll]; simp
      rw [e3]
      simp only [List.getElem?_concat_length, Option.getD_some]
      refine hE.imp (fun b hb => ?_) (Nat.le_refl _)
      rw [ho']
      have q1 : ¬ b < W.heap.size := by omega
      simp only [q1, if_false, hb.2, if_true]
  · by_cases e : i < ps.length
    · rw [List.getElem?_append_left e, List.getElem?_append_left (by omega)]
      exact (hoth i e (by omega)).2
    · have e1 : i = ps.length := by simp at hi; omega
      subst e1
      have e3 : (zss ++ [([] : List ZRel)])[ps.length]?.getD [] = [] := by rw [hll]; simp
      rw [e3]
      simp only [List.getElem?_concat_length, Option.getD_some]
      refine hR.imp (fun b hb => ?_)
      rw [show b = fb from hb, ho']
      have q1 : ¬ fb < W.heap.size := by omega
      have q2 : ¬ fb < w1.heap.size := by omega
      simp only [q1, if_false, q2, if_true]
  · by_cases e : i < ps.length
    · rw [List.getElem?_append_left (by omega)]; exact h.ok i e
    · have e1 : i = ps.length := by simp at hi; omega
      subst e1
      have e3 : (zss ++ [([] : List ZRel)])[ps.length]?.getD [] = [] := by rw [hll]; simp
      rw [e3]; exact ZOk.nil
  · rw [ho']
    have q1 : ¬ b < W.heap.size := by have := hM.size; omega
    have q2 : ¬ b < w1.heap.size := by omega
    have q3 : ¬ b = fb := by omega
    have q4 : pv'.ownBlock ≠ some b := fun e4 => by
      obtain ⟨c, h9⟩ := own_type hpv' e4
      have := heap_lt h9
      omega
    simp only [q1, if_false, q2, q3, q4]
  · rw [hx b (by omega)]; exact h.args b hb

end Go.Proofs.YtoifcnidhfnapaaGreatDoor
