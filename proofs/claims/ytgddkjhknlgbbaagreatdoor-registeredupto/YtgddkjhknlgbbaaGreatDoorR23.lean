import Derived.Test.YtgddkjhknlgbbaaGreatDoorR22
import Derived.Test.YtgddkjhknlgbbaaGreatDoorM24
import Derived.Test.YtgddkjhknlgbbaaGreatDoorM25
import Derived.Test.YtgddkjhknlgbbaaGreatDoorM23
set_option linter.unusedVariables false
set_option linter.unusedSimpArgs false

set_option linter.unusedVariables false
set_option linter.unusedSimpArgs false

namespace Go.Proofs.YtgddkjhknlgbbaaGreatDoor
set_option linter.unusedVariables false
set_option linter.unusedSimpArgs false
open Go.RowKit Go.Maps

def cellsP (ps : List (Nat × Nat)) : List Value := ps.flatMap fun p => [.pointer (some ⟨p.1, 0, none⟩), .pointer (some ⟨p.2, 0, none⟩)]

/-- The law's world: engines in pairs, and all that came out or was handed in. The blocks have colours: 0: whoever wants; 1: the law's books; 2i+2, 2i+3: the engines of pair i. -/
structure Law (o : Nat → Nat) (W : World) (wb : Nat) (ps : List (Nat × Nat)) (zss : List ZV) (hs : List Nat) (N B0 : Nat) : Prop where
  ex : ∃ pv hv base, Spine W wb pv hv hs ∧ W.ownsRow base 43 2 pv ps.length (cellsP ps) ∧ o wb = 1 ∧ (∀ g, pv.ownBlock = some g → o g = 1) ∧ (∀ g, hv.ownBlock = some g → o g = 1)
  len : ps.length = zss.length
  eng : ∀ i, i < ps.length → EngV (fun b => o b = 2 * i + 2) W (ps[i]?.getD (0, 0)).1 (zss[i]?.getD zV0) N
  ref : ∀ i, i < ps.length → RefV (fun b => o b = 2 * i + 3) W (ps[i]?.getD (0, 0)).2 (zss[i]?.getD zV0)
  ok : ∀ i, i < ps.length → ZOkV (zss[i]?.getD zV0)
  holds : ∀ h ∈ hs, HoldRep (fun b => o b = 0) W h
  fresh : ∀ b, W.heap.size ≤ b → o b = 0
  args : ∀ b, b < B0 → o b = 0

theorem HoldRep.fit {T : Nat → Prop} {W : World} {h : Nat} (hh : HoldRep T W h) : HoldRep (fun b => T b ∧ b < W.heap.size) W h := by
  obtain ⟨nv, rv, ev, m, ns, rws, h1, h2, h3, h4, h5, h6, h7, h8, h9, h10⟩ := hh.ex
  have hm : ∀ {u : Value} {size : Nat} {pat : List Value}, pat.length = size → 0 < size → Marks T W u size pat → Marks (fun b => T b ∧ b < W.heap.size) W u size pat := by
    intro u size pat hl hs hu
    obtain ⟨p, n, cap, a1, a2, a3⟩ := hu
    refine ⟨p, n, cap, a1, a2, fun i hi => ?_⟩
    obtain ⟨b, b1, b2, b3⟩ := a3 i hi
    refine ⟨b, b1, ⟨b2, ?_⟩, b3⟩
    have h0 := b3 0 hs
    have : pat[0]? = some (pat[0]'(by omega)) := by simp
    rw [this] at h0
    exact World.block_lt_of_cell? W _ h0
  have ho : ∀ {e : TypeId} {size : Nat} {v : Value} {n : Nat} {xs : List Value}, OwnT T W e size v n xs → OwnT (fun b => T b ∧ b < W.heap.size) W e size v n xs := fun h => ⟨h.1, fun g hg => ⟨h.2 g hg, by obtain ⟨⟨base, hb⟩, _⟩ := h; obtain ⟨cur, hc⟩ := own_type hb hg; exact heap_lt hc⟩⟩
  exact ⟨nv, rv, ev, m, ns, rws, h1, ⟨h2, heap_lt h1⟩, h3, h4, h5, ho h6, fun u hu => hm rfl (by omega) (h7 u hu), ho h8, fun u hu => hm rfl (by omega) (h9 u hu), hm rfl (by omega) h10⟩

/-- The colours of old blocks stay. -/
def Ext (o o' : Nat → Nat) (n : Nat) : Prop := ∀ b, b < n → o' b = o b

theorem Law.lift {o o' : Nat → Nat} {n c : Nat} (hf : ∀ b, n ≤ b → o b = 0) (hx : Ext o o' n) (hc : c ≠ 0) : ∀ b, o b = c → o' b = c := fun b hb => by
  by_cases h : b < n
  · rw [hx b h]; exact hb
  · rw [hf b (by omega)] at hb; exact absurd hb.symm hc

/-- What no one touches: all engines but that of one pair, and all holds. -/
theorem Law.others {o o' : Nat → Nat} {W W' : World} {wb : Nat} {ps : List (Nat × Nat)} {zss : List ZV} {hs : List Nat} {N B0 : Nat} (h : Law o W wb ps zss hs N B0) (hx : Ext o o' W.heap.size) (hs' : W.heap.size ≤ W'.heap.size) (j : Nat) (hk : ∀ b, b < W.heap.size → o b ≠ 1 → o b ≠ 2 * j + 2 → o b ≠ 2 * j + 3 → W'.heap[b]? = W.heap[b]?) :
    (∀ i, i < ps.length → i ≠ j → EngV (fun b => o' b = 2 * i + 2) W' (ps[i]?.getD (0, 0)).1 (zss[i]?.getD zV0) N ∧ RefV (fun b => o' b = 2 * i + 3) W' (ps[i]?.getD (0, 0)).2 (zss[i]?.getD zV0)) ∧ ∀ x ∈ hs, HoldRep (fun b => o' b = 0) W' x := by
  refine ⟨fun i hi hne => ⟨?_, ?_⟩, fun x hx' => ?_⟩
  · refine ((h.eng i hi).kept hs' (fun b hb hlt => hk b hlt ?_ ?_ ?_)).imp (Law.lift h.fresh hx (by omega)) (Nat.le_refl _) <;> (rw [hb]; omega)
  · refine ((h.ref i hi).kept (fun b hb hlt => hk b hlt ?_ ?_ ?_)).imp (Law.lift h.fresh hx (by omega)) <;> (rw [hb]; omega)
  · refine ((h.holds x hx').fit.kept (fun b hb hlt => hk b hlt ?_ ?_ ?_)).imp (fun b hb => by rw [hx b hb.2]; exact hb.1) <;> (rw [hb.1]; omega)

/-- Lists that came out of one pair's calls are kept: all stays as it should be. -/
theorem Law.keep {o : Nat → Nat} {W w1 w2 : World} {wb : Nat} {ps : List (Nat × Nat)} {zss : List ZV} {hs hs2 : List Nat} {N N' B0 j : Nat} {L : Nat → Prop} {pv hv hv' : Value} {base lo hi : Nat} {zs' : ZV} (h : Law o W wb ps zss hs N B0) (hj : j < ps.length)
    (hpv : W.ownsRow base 43 2 pv ps.length (cellsP ps)) (hcp : ∀ g, pv.ownBlock = some g → o g = 1) (hS : Spine W wb pv hv hs) (hwb : o wb = 1) (hch : ∀ g, hv.ownBlock = some g → o g = 1)
    (hM1 : Mid (fun b => o b = 2 * j + 2 ∨ o b = 2 * j + 3) W w1) (hK : KeptMany w1 w2 wb pv hv hs L hv' hs2) (hL : ∀ b, L b → W.heap.size ≤ b ∧ b < w1.heap.size ∧ ¬ (lo ≤ b ∧ b < hi)) (hlo : W.heap.size ≤ lo) (hhi : hi ≤ w1.heap.size) (hNN : N ≤ N')
    (hE : EngV (fun b => o b = 2 * j + 2) w1 (ps[j]?.getD (0, 0)).1 zs' N') (hR : RefV (fun b => o b = 2 * j + 3 ∨ lo ≤ b ∧ b < hi) w1 (ps[j]?.getD (0, 0)).2 zs') (hz : ZOkV zs') (hB : B0 ≤ W.heap.size) :
    ∃ o', Law o' w2 wb ps (zss.set j zs') (hs ++ hs2) N' B0 ∧ Mid (fun b => o b ≠ 0) W w2 := by
  have hs1 := hM1.size
  have hk1 : ∀ b, b < W.heap.size → o b ≠ 2 * j + 2 → o b ≠ 2 * j + 3 → w1.heap[b]? = W.heap[b]? := fun b hb h2 h3 => hM1.block b hb (fun hq => by omega)
  obtain ⟨o', ho'⟩ : ∃ o' : Nat → Nat, o' = fun b => if b < W.heap.size then o b else if hv'.ownBlock = some b then 1 else if lo ≤ b ∧ b < hi then 2 * j + 3 else 0 := ⟨_, rfl⟩
  have hx : Ext o o' W.heap.size := fun b hb => by rw [ho']; simp [hb]
  have hm := hK.mid
  have hsz := hm.size
  have hwbl : wb < W.heap.size := heap_lt hS.box
  have hhvl : ∀ g, hv.ownBlock = some g → g < W.heap.size := fun g hg => by obtain ⟨_, h9⟩ := hS.own; obtain ⟨c, h9⟩ := own_type h9 hg; exact heap_lt h9
  have hk2 : ∀ b, b < W.heap.size → o b ≠ 1 → o b ≠ 2 * j + 2 → o b ≠ 2 * j + 3 → w2.heap[b]? = W.heap[b]? := fun b hb h1 h2 h3 =>
    (hm.block b (by omega) (fun hq => by
      rcases hq with e | e | e
      · rw [e] at h1; exact h1 hwb
      · exact h1 (hch b e)
      · have := hL b e; omega)).trans (hk1 b hb h2 h3)
  have hkj : ∀ b, b < w1.heap.size → (o b = 2 * j + 2 ∨ o b = 2 * j + 3 ∨ lo ≤ b ∧ b < hi) → w2.heap[b]? = w1.heap[b]? := fun b hb hc =>
    hm.block b hb (fun hq => by
      rcases hq with e | e | e
      · rw [e] at hc
        rcases hc with hc | hc | hc
        · omega
        · omega
        · omega
      · have h1 := hch b e
        have h2 := hhvl b e
        rcases hc with hc | hc | hc
        · omega
        · omega
        · omega
      · have h1 := hL b e
        have h2 := h.fresh b h1.1
        rcases hc with hc | hc | hc
        · omega
        · omega
        · exact h1.2.2 hc)
  have hfit : ∀ g, hv'.ownBlock = some g → o' g = 1 := fun g hg => by
    rw [ho']
    by_cases e : g < W.heap.size
    · simp only [e, if_true]
      rcases hK.hvb with h1 | h1
      · rw [h1] at hg; exact hch g hg
      · have := h1 g hg; omega
    · simp only [e, if_false, hg, if_true]
  obtain ⟨hoth, hhold⟩ := h.others hx (Nat.le_trans hs1 hsz) j hk2
  refine ⟨o', ⟨⟨pv, hv', base, hK.spine, ?_, ?_, ?_, hfit⟩, by simpa using h.len, fun i hi' => ?_, fun i hi' => ?_, fun i hi' => ?_, fun x hx' => ?_, fun b hb => ?_, fun b hb => ?_⟩, ⟨hm.os.trans hM1.os, hm.tape.trans hM1.tape, hm.output.trans hM1.output, Nat.le_trans hs1 hsz, fun b hb h0 => by have h0 : o b = 0 := Classical.not_not.1 h0; exact hk2 b hb (by omega) (by omega) (by omega)⟩⟩
  · refine ⟨hpv.1, ?_⟩
    rcases hpv.2 with h1 | ⟨g, cap, cur, h1, h2, h3, h4⟩
    · exact .inl h1
    · have hgo : pv.ownBlock = some g := by rw [h1]; rfl
      have hc1 := hcp g hgo
      have hgl := heap_lt h3
      have h5 := (hk1 g hgl (by omega) (by omega)).trans h3
      refine .inr ⟨g, cap, cur, h1, h2, (hm.block g (by omega) (fun hq => ?_)).trans h5, h4⟩
      rcases hq with e | e | e
      · subst e; exact absurd (type_ne h3 hS.box) (by decide)
      · obtain ⟨_, h9⟩ := hS.own
        obtain ⟨c, h9⟩ := own_type h9 e
        exact absurd (type_ne h3 h9) (by decide)
      · have := hL g e; omega
  · rw [hx wb hwbl]; exact hwb
  · intro g hg
    have hgl : g < W.heap.size := by obtain ⟨c, h9⟩ := own_type hpv hg; exact heap_lt h9
    rw [hx g hgl]; exact hcp g hg
  · by_cases e : i = j
    · subst e
      have e1 : (zss.set i zs')[i]?.getD zV0 = zs' := by rw [List.getElem?_set_self (by rw [← h.len]; exact hj)]; rfl
      rw [e1]
      exact (hE.kept hsz (fun b hb hlt => hkj b hlt (.inl hb))).imp (Law.lift h.fresh hx (by omega)) (Nat.le_refl _)
    · have e1 : (zss.set j zs')[i]?.getD zV0 = zss[i]?.getD zV0 := by rw [List.getElem?_set_ne (fun x => e x.symm)]
      rw [e1]
      exact (hoth i hi' e).1.imp (fun b hb => hb) hNN
  · by_cases e : i = j
    · subst e
      have e1 : (zss.set i zs')[i]?.getD zV0 = zs' := by rw [List.getElem?_set_self (by rw [← h.len]; exact hj)]; rfl
      rw [e1]
      have hR' : RefV (fun b => (o b = 2 * i + 3 ∨ lo ≤ b ∧ b < hi) ∧ b < w1.heap.size) w1 (ps[i]?.getD (0, 0)).2 zs' := hR.fit
      refine (hR'.kept (fun b hb hlt => hkj b hlt (.inr hb.1))).imp (fun b hb => ?_)
      rcases hb.1 with h1 | h1
      · exact Law.lift h.fresh hx (by omega) b h1
      · rw [ho']
        have e2 : ¬ b < W.heap.size := by omega
        have e3 : hv'.ownBlock ≠ some b := fun e4 => by
          rcases hK.hvb with h5 | h5
          · rw [h5] at e4; have := hhvl b e4; omega
          · have := h5 b e4; omega
        simp only [e2, if_false, e3, h1, and_self, if_true]
    · have e1 : (zss.set j zs')[i]?.getD zV0 = zss[i]?.getD zV0 := by rw [List.getElem?_set_ne (fun x => e x.symm)]
      rw [e1]
      exact (hoth i hi' e).2
  · by_cases e : i = j
    · subst e
      have e1 : (zss.set i zs')[i]?.getD zV0 = zs' := by rw [List.getElem?_set_self (by rw [← h.len]; exact hj)]; rfl
      rw [e1]; exact hz
    · have e1 : (zss.set j zs')[i]?.getD zV0 = zss[i]?.getD zV0 := by rw [List.getElem?_set_ne (fun x => e x.symm)]
      rw [e1]; exact h.ok i hi'
  · rcases List.mem_append.1 hx' with hm' | hm'
    · exact hhold x hm'
    · refine (hK.hold x hm').imp (fun b hb => ?_)
      have hb0 : W.heap.size ≤ b ∧ ¬ (lo ≤ b ∧ b < hi) := by
        rcases hb.1 with h1 | h1
        · exact ⟨by omega, by omega⟩
        · exact ⟨(hL b h1).1, (hL b h1).2.2⟩
      rw [ho']
      have e2 : ¬ b < W.heap.size := by omega
      simp only [e2, if_false, hb.2.2.1, hb0.2]
  · rw [ho']
    have e2 : ¬ b < W.heap.size := by omega
    have e3 : hv'.ownBlock ≠ some b := fun e4 => by
      obtain ⟨_, h9⟩ := hK.spine.own
      obtain ⟨c, h9⟩ := own_type h9 e4
      have := heap_lt h9
      omega
    have e4 : ¬ (lo ≤ b ∧ b < hi) := by omega
    simp only [e2, if_false, e3, e4]
  · rw [hx b (by omega)]; exact h.args b hb

/-- A relation was made, or refused, on both sides. -/
theorem Law.made {o : Nat → Nat} {W w1 w2 : World} {wb : Nat} {ps : List (Nat × Nat)} {zss : List ZV} {hs : List Nat} {N N' B0 j : Nat} {zs' : ZV} (h : Law o W wb ps zss hs N B0) (hj : j < ps.length)
    (hM1 : Mid (fun b => o b = 2 * j + 2) W w1) (hM2 : Mid (fun b => o b = 2 * j + 3) w1 w2) (hE : EngV (fun b => o b = 2 * j + 2 ∨ W.heap.size ≤ b ∧ b < w1.heap.size) w1 (ps[j]?.getD (0, 0)).1 zs' N') (hNN : N ≤ N') (hR : RefV (fun b => o b = 2 * j + 3 ∨ w1.heap.size ≤ b ∧ b < w2.heap.size) w2 (ps[j]?.getD (0, 0)).2 zs') (hz : ZOkV zs') (hB : B0 ≤ W.heap.size) :
    ∃ o', Law o' w2 wb ps (zss.set j zs') hs N' B0 ∧ Mid (fun b => o b ≠ 0) W w2 := by
  obtain ⟨o', ho'⟩ : ∃ o' : Nat → Nat, o' = fun b => if b < W.heap.size then o b else if b < w1.heap.size then 2 * j + 2 else if b < w2.heap.size then 2 * j + 3 else 0 := ⟨_, rfl⟩
  have hx : Ext o o' W.heap.size := fun b hb => by rw [ho']; simp [hb]
  have hs1 := hM1.size
  have hs2 := hM2.size
  have hk2 : ∀ b, b < W.heap.size → o b ≠ 2 * j + 2 → o b ≠ 2 * j + 3 → w2.heap[b]? = W.heap[b]? := fun b hb h2 h3 => (hM2.block b (by omega) h3).trans (hM1.block b hb h2)
  obtain ⟨hoth, hhold⟩ := h.others hx (Nat.le_trans hs1 hs2) j (fun b hb _ h2 h3 => hk2 b hb h2 h3)
  obtain ⟨pv, hv, base, hS, hpv, hwb, hcp, hch⟩ := h.ex
  have hown : ∀ {e : TypeId} {size : Nat} {v : Value} {n : Nat} {xs : List Value} {bb : Nat}, (∀ g, v.ownBlock = some g → o g = 1) → W.ownsRow bb e size v n xs → w2.ownsRow bb e size v n xs := by
    intro e size v n xs bb hc ho
    refine ⟨ho.1, ?_⟩
    rcases ho.2 with h1 | ⟨g, cap, cur, h1, h2, h3, h4⟩
    · exact .inl h1
    · have hc1 := hc g (by rw [h1]; rfl)
      exact .inr ⟨g, cap, cur, h1, h2, (hk2 g (heap_lt h3) (by omega) (by omega)).trans h3, h4⟩
  have hwbl : wb < W.heap.size := heap_lt hS.box
  obtain ⟨bh, hoh⟩ := hS.own
  have e1 : (zss.set j zs')[j]?.getD zV0 = zs' := by rw [List.getElem?_set_self (by rw [← h.len]; exact hj)]; rfl
  have e2 : ∀ i, i ≠ j → (zss.set j zs')[i]?.getD zV0 = zss[i]?.getD zV0 := fun i e => by rw [List.getElem?_set_ne (fun x => e x.symm)]
  refine ⟨o', ⟨⟨pv, hv, base, ⟨(hk2 wb hwbl (by omega) (by omega)).trans hS.box, ⟨bh, hown hch hoh⟩⟩, hown hcp hpv, by rw [hx wb hwbl]; exact hwb, fun g hg => ?_, fun g hg => ?_⟩, by simpa using h.len, fun i hi => ?_, fun i hi => ?_, fun i hi => ?_, hhold, fun b hb => ?_, fun b hb => ?_⟩, ⟨hM2.os.trans hM1.os, hM2.tape.trans hM1.tape, hM2.output.trans hM1.output, by omega, fun b hb h0 => by have h0 : o b = 0 := Classical.not_not.1 h0; exact hk2 b hb (by omega) (by omega)⟩⟩
  · obtain ⟨c, h9⟩ := own_type hpv hg
    rw [hx g (heap_lt h9)]; exact hcp g hg
  · obtain ⟨c, h9⟩ := own_type hoh hg
    rw [hx g (heap_lt h9)]; exact hch g hg
  · by_cases e : i = j
    · subst e
      rw [e1]
      refine (hE.kept hs2 (fun b hb hlt => hM2.block b hlt (fun hq => ?_))).imp (fun b hb => ?_) (Nat.le_refl _)
      · rcases hb with h1 | h1
        · omega
        · have := h.fresh b h1.1; omega
      · rcases hb with h1 | h1
        · exact Law.lift h.fresh hx (by omega) b h1
        · rw [ho']
          have q1 : ¬ b < W.heap.size := by omega
          simp only [q1, if_false, h1.2, if_true]
    · rw [e2 i e]; exact (hoth i hi e).1.imp (fun b hb => hb) hNN
  · by_cases e : i = j
    · subst e
      rw [e1]
      refine hR.imp (fun b hb => ?_)
      rcases hb with h1 | h1
      · exact Law.lift h.fresh hx (by omega) b h1
      · rw [ho']
        have q1 : ¬ b < W.heap.size := by omega
        have q2 : ¬ b < w1.heap.size := by omega
        simp only [q1, if_false, q2, h1.2, if_true]
    · rw [e2 i e]; exact (hoth i hi e).2
  · by_cases e : i = j
    · subst e; rw [e1]; exact hz
    · rw [e2 i e]; exact h.ok i hi
  · rw [ho']
    have q1 : ¬ b < W.heap.size := by omega
    have q2 : ¬ b < w1.heap.size := by omega
    have q3 : ¬ b < w2.heap.size := by omega
    simp only [q1, if_false, q2, q3]
  · rw [hx b (by omega)]; exact h.args b hb


/-- A pair more. -/
theorem Law.born {o : Nat → Nat} {W w1 w2 : World} {wb : Nat} {ps : List (Nat × Nat)} {zss : List ZV} {hs : List Nat} {N B0 eb fb base : Nat} {pv hv pv' : Value} (h : Law o W wb ps zss hs N B0) (hS : Spine W wb pv hv hs) (hwb : o wb = 1) (hch : ∀ g, hv.ownBlock = some g → o g = 1) (hcp : ∀ g, pv.ownBlock = some g → o g = 1)
    (hs1 : W.heap.size ≤ w1.heap.size) (hfb : w1.heap.size = fb) (hs2 : fb < w2.heap.size) (hE : EngV (fun b => W.heap.size ≤ b ∧ b < w1.heap.size) w2 eb zV0 N) (hR : RefV (fun b => b = fb) w2 fb zV0) (hM : Mid (fun b => b = wb ∨ pv.ownBlock = some b) W w2)
    (hS' : Spine w2 wb pv' hv hs) (hpv' : w2.ownsRow base 43 2 pv' (ps.length + 1) (cellsP (ps ++ [(eb, fb)]))) (hat : pv'.ownBlock = pv.ownBlock ∨ ∀ g, pv'.ownBlock = some g → fb < g) (hB : B0 ≤ W.heap.size) (hpl : ∀ g, pv.ownBlock = some g → g < W.heap.size) :
    ∃ o', Law o' w2 wb (ps ++ [(eb, fb)]) (zss ++ [zV0]) hs N B0 ∧ Mid (fun b => o b ≠ 0) W w2 := by
  obtain ⟨o', ho'⟩ : ∃ o' : Nat → Nat, o' = fun b => if b < W.heap.size then o b else if b < w1.heap.size then 2 * ps.length + 2 else if b = fb then 2 * ps.length + 3 else if pv'.ownBlock = some b then 1 else 0 := ⟨_, rfl⟩
  have hx : Ext o o' W.heap.size := fun b hb => by rw [ho']; simp [hb]
  have hk2 : ∀ b, b < W.heap.size → o b ≠ 1 → w2.heap[b]? = W.heap[b]? := fun b hb h2 => hM.block b hb (fun hq => by
    rcases hq with e | e
    · rw [e] at h2; exact h2 hwb
    · exact h2 (hcp b e))
  obtain ⟨hoth, hhold⟩ := h.others hx hM.size ps.length (fun b hb h1 _ _ => hk2 b hb h1)
  have hwbl : wb < W.heap.size := heap_lt hS.box
  have hll : ps.length = zss.length := h.len
  refine ⟨o', ⟨⟨pv', hv, base, hS', by simpa using hpv', by rw [hx wb hwbl]; exact hwb, fun g hg => ?_, fun g hg => ?_⟩, by simp [hll], fun i hi => ?_, fun i hi => ?_, fun i hi => ?_, hhold, fun b hb => ?_, fun b hb => ?_⟩, ⟨hM.os, hM.tape, hM.output, hM.size, fun b hb h0 => by have h0 : o b = 0 := Classical.not_not.1 h0; exact hk2 b hb (by omega)⟩⟩
  · rcases hat with h1 | h1
    · rw [h1] at hg
      rw [hx g (hpl g hg)]; exact hcp g hg
    · have := h1 g hg
      rw [ho']
      have q1 : ¬ g < W.heap.size := by omega
      have q2 : ¬ g < w1.heap.size := by omega
      have q3 : ¬ g = fb := by omega
      simp only [q1, if_false, q2, q3, hg, if_true]
  · obtain ⟨_, hoh⟩ := hS.own
    obtain ⟨c, h9⟩ := own_type hoh hg
    rw [hx g (heap_lt h9)]; exact hch g hg
  · by_cases e : i < ps.length
    · rw [List.getElem?_append_left e, List.getElem?_append_left (by omega)]
      exact (hoth i e (by omega)).1
    · have e1 : i = ps.length := by simp at hi; omega
      subst e1
      have e3 : (zss ++ [zV0])[ps.length]?.getD zV0 = zV0 := by rw [hll]; simp
      rw [e3]
      simp only [List.getElem?_concat_length, Option.getD_some]
      refine hE.imp (fun b hb => ?_) (Nat.le_refl _)
      rw [ho']
      have q1 : ¬ b < W.heap.size := by omega
      simp only [q1, if_false, hb.2, if_true]
  · by_cases e : i < ps.length
    · rw [List.getElem?_append_left e, List.getElem?_append_left (by omega)]
      exact (hoth i e (by omega)).2
    · have e1 : i = ps.length := by simp at hi; omega
      subst e1
      have e3 : (zss ++ [zV0])[ps.length]?.getD zV0 = zV0 := by rw [hll]; simp
      rw [e3]
      simp only [List.getElem?_concat_length, Option.getD_some]
      refine hR.imp (fun b hb => ?_)
      rw [show b = fb from hb, ho']
      have q1 : ¬ fb < W.heap.size := by omega
      have q2 : ¬ fb < w1.heap.size := by omega
      simp only [q1, if_false, q2, if_true]
  · by_cases e : i < ps.length
    · rw [List.getElem?_append_left (by omega)]; exact h.ok i e
    · have e1 : i = ps.length := by simp at hi; omega
      subst e1
      have e3 : (zss ++ [zV0])[ps.length]?.getD zV0 = zV0 := by rw [hll]; simp
      rw [e3]; exact ZOkV.nil
  · rw [ho']
    have q1 : ¬ b < W.heap.size := by have := hM.size; omega
    have q2 : ¬ b < w1.heap.size := by omega
    have q3 : ¬ b = fb := by omega
    have q4 : pv'.ownBlock ≠ some b := fun e4 => by
      obtain ⟨c, h9⟩ := own_type hpv' e4
      have := heap_lt h9
      omega
    simp only [q1, if_false, q2, q3, q4]
  · rw [hx b (by omega)]; exact h.args b hb

end Go.Proofs.YtgddkjhknlgbbaaGreatDoor

set_option linter.unusedVariables false
set_option linter.unusedSimpArgs false

namespace Go.Proofs.YtgddkjhknlgbbaaGreatDoor
set_option linter.unusedVariables false
set_option linter.unusedSimpArgs false
open Go.RowKit Go.Maps

theorem cellsP_len (ps:List (Nat×Nat)):(cellsP ps).length=ps.length*2:=by
 induction ps with
 | nil=>rfl
 | cons p ps ih=>simp only [cellsP,List.flatMap_cons,List.length_append,List.length_cons] at ih ⊢;rw [ih];simp;omega

set_option maxRecDepth 100000 in
set_option maxHeartbeats 4000000 in
theorem begin_any (o:Nat→Nat) (W:World) (wb:Nat) (ps:List (Nat×Nat)) (zss:List ZV) (hs:List Nat) (N B0:Nat) (h:Law o W wb ps zss hs N B0) (hB:B0≤W.heap.size) (hpl:ps.length≤1000000000) :
  Calls Tryz.prog 8 #[.pointer (some ⟨wb,0,none⟩)] W fun e w'=>e=.returned (.bool true)∧∃ o' eb fb,Law o' w' wb (ps ++ [(eb,fb)]) (zss ++ [zV0]) hs N B0∧Mid (fun b=>o b≠0) W w':=by
 obtain ⟨pv,hv,base,hS,hpv,hwb,hcp,hch⟩:=h.ex
 have hpl':∀ g,pv.ownBlock=some g→g<W.heap.size:=fun g hg=>by obtain ⟨c,h9⟩:=own_type hpv hg;exact heap_lt h9
 obtain ⟨pp,cp,hpe,_⟩:=own_form hpv
 have H:=hide h
 have HS:=hide hS
 have Hpv:=hide hpv
 have Hcp:=hide hcp
 have Hch:=hide hch
 have Hwb:=hide hwb
 have Hpl:=hide hpl'
 have Hpe:=hide hpe
 have hwbl:wb<W.heap.size:=heap_lt hS.box
 obtain ⟨i43,ki,kz0,kz1,kz2⟩:=info_parts Tryz.info43
 clear h hS hpv hcp hch hwb hpl' hpe
 go_enter Tryz.func8,Tryz.ntmps8
 go_wp2_with fail
 refine (new_anyV _).mono ?_
 rintro e w1 ⟨rfl,hE1,hb1,hcv1,hV1⟩
 have HcV:=hide (And.intro hcv1 hV1)
 clear hcv1 hV1
 have hs1:=hb1.size
 have hi1:=hE1.inn
 have ht1:=hE1.top
 have hbox1:w1.heap[wb]? = some (Obj.cells #[pv,hv] 29 (0,0)):=(hb1.block wb hwbl).trans (unhide HS).box
 have hpv1:w1.ownsRow 0 43 2 pv ps.length (cellsP ps):=own_lower (own_below (unhide Hpv) hb1) (Nat.zero_le _)
 have c1:w1.cell? ⟨wb,0,none⟩=some (.slice pp ps.length cp):=by rw [← unhide Hpe];exact cell_of_heap hbox1 0
 have hwl1:wb<w1.heap.size:=heap_lt hbox1
 have hwne:wb≠w1.heap.size:=by omega
 have hwne2:w1.heap.size≠wb:=by omega
 have Hpv1:=hide hpv1
 rw [unhide Hpe] at Hpv1
 have hcell:∀ j u,[Value.pointer (some ⟨W.heap.size+2,0,none⟩),Value.pointer (some ⟨w1.heap.size,0,none⟩)][j]? = some u→((w1.alloc (.cells #[.slice none 0 0,.slice none 0 0] 41)).alloc (.cells #[.pointer (some ⟨W.heap.size+2,0,none⟩),.pointer (some ⟨w1.heap.size,0,none⟩)] 43)).cell? ((⟨w1.heap.size+1,0,none⟩:Addr).add j)=some u:=by
  have q:=cells2_new (w1.alloc (.cells #[.slice none 0 0,.slice none 0 0] 41)) (.pointer (some ⟨W.heap.size+2,0,none⟩)) (.pointer (some ⟨w1.heap.size,0,none⟩)) 43
  rw [show (w1.alloc (.cells #[.slice none 0 0,.slice none 0 0] 41)).heap.size=w1.heap.size+1 from by simp] at q
  exact q
 have Hcell:=hide hcell
 clear hcell
 have HE1:=hide hE1
 have Hb1:=hide hb1
 have Hbox1:=hide hbox1
 clear hE1 hb1 hbox1 hpv1
 go_wp2_with (first
  | (at_builtin
     refine wpList_append_sharp _ rfl _ _ 26 rfl 0 43 i43 _ 2 16 Tryz.underlying26 ki kz0 kz1 kz2 rfl (by decide) (.slice pp ps.length cp) ps.length (cellsP ps) rfl (((unhide Hpv1).alloc _).alloc _) _ 1 [.pointer (some ⟨W.heap.size+2,0,none⟩),.pointer (some ⟨w1.heap.size,0,none⟩)] rfl rfl (unhide Hcell) (by simp [Value.oneCell']) (by unfold maxLen;omega) (by omega) (Nat.zero_le _) ?_
     intro v2 w2 ho2 hg2 hat2
     have hgA:w1.grownBy ((w1.alloc (.cells #[.slice none 0 0,.slice none 0 0] 41)).alloc (.cells #[.pointer (some ⟨W.heap.size+2,0,none⟩),.pointer (some ⟨w1.heap.size,0,none⟩)] 43)) none:=(World.grownBy_alloc _ _ _).trans (World.grownBy_alloc _ _ _)
     have hg12:w1.grownBy w2 (Value.ownBlock (.slice pp ps.length cp)):=⟨hg2.os,hg2.tape,hg2.output,Nat.le_trans hgA.size hg2.size,fun k hk e=>(hg2.block k (Nat.lt_of_lt_of_le hk hgA.size) e).trans (hgA.block k hk (by simp))⟩
     have hrow2:∀ g,Value.ownBlock (.slice pp ps.length cp)=some g→∃ cur:Array Value,w1.heap[g]? = some (Obj.cells cur 43 (0,0)):=fun g e=>own_type (unhide Hpv1) e
     have hbox2:w2.heap[wb]? = some (Obj.cells #[pv,hv] 29 (0,0)):=(hg12.block _ hwl1 (fun e=>other_type hrow2 (by decide) _ _ e.symm (unhide Hbox1))).trans (unhide Hbox1)
     have hF0:((w1.alloc (.cells #[.slice none 0 0,.slice none 0 0] 41)).alloc (.cells #[.pointer (some ⟨W.heap.size+2,0,none⟩),.pointer (some ⟨w1.heap.size,0,none⟩)] 43)).heap[w1.heap.size]? = some (Obj.cells #[.slice none 0 0,.slice none 0 0] 41 (0,0)):=by
      have h0:(w1.alloc (.cells #[.slice none 0 0,.slice none 0 0] 41)).heap[w1.heap.size]? = some (Obj.cells #[.slice none 0 0,.slice none 0 0] 41 (0,0)):=heap_last _ _ _ rfl
      exact (Below.heap_alloc _ _ _ (heap_lt h0)).trans h0
     have hF2:w2.heap[w1.heap.size]? = some (Obj.cells #[.slice none 0 0,.slice none 0 0] 41 (0,0)):=(hg2.block _ (heap_lt hF0) (fun e=>by
      obtain ⟨c,h9⟩:=hrow2 _ e.symm
      have:=heap_lt h9
      omega)).trans hF0
     have d2:w2.cell? ⟨wb,0,none⟩=some (.slice pp ps.length cp):=by rw [← unhide Hpe];exact cell_of_heap hbox2 0
     have f2:w2.frozen? ⟨wb,0,none⟩=false:=frozen_of_heap hbox2 0
     have hs2:w1.heap.size<w2.heap.size:=heap_lt hF2
     obtain ⟨p2,c2,rfl,_⟩:=own_form ho2
     have Ho2:=hide ho2
     have Hg12:=hide hg12
     have Hrow2:=hide hrow2
     have Hbox2:=hide hbox2
     have HF2:=hide hF2
     have Hat2:=hide hat2
     clear ho2 hg2 hat2 hgA hg12 hrow2 hbox2 hF0 hF2))
 have hfin:∃ o' eb fb,Law o' (w2.setCell ⟨wb,0,none⟩ (.slice p2 (ps.length+1) c2)) wb (ps ++ [(eb,fb)]) (zss ++ [zV0]) hs N B0∧Mid (fun b=>o b≠0) W (w2.setCell ⟨wb,0,none⟩ (.slice p2 (ps.length+1) c2)):=by
  obtain ⟨w3,hw3⟩:∃ w3,w3=w2.setCell ⟨wb,0,none⟩ (.slice p2 (ps.length+1) c2):=⟨_,rfl⟩
  rw [← hw3]
  have hg23:w2.grownBy w3 (some wb):=by rw [hw3];exact grownBy_setCell' w2 wb _
  have hrowb:∀ g,some wb=some g→∃ cur:Array Value,w2.heap[g]? = some (Obj.cells cur 29 (0,0)):=fun g e=>by cases e;exact ⟨_,unhide Hbox2⟩
  have hg12:=unhide Hg12
  have hrow2:=unhide Hrow2
  obtain ⟨bh,hoh⟩:=(unhide HS).own
  have hoh3:w3.ownsRow bh 59 1 hv hs.length (ptrs hs):=own_grown (own_grown (own_below hoh (unhide Hb1)) hg12 (other_type hrow2 (by decide))) hg23 (other_type hrowb (by decide))
  have hbox3:w3.heap[wb]? = some (Obj.cells #[.slice p2 (ps.length+1) c2,hv] 29 (0,0)):=by
   rw [hw3,heap_setCell_same w2 wb 0 _ 29 _ (unhide Hbox2)];rfl
  have ho3:=own_grown (unhide Ho2) hg23 (other_type hrowb (by decide))
  have hF3:w3.heap[w1.heap.size]? = some (Obj.cells #[.slice none 0 0,.slice none 0 0] 41 (0,0)):=(hg23.block _ (heap_lt (unhide HF2)) (by simpa using hwne2)).trans (unhide HF2)
  have hkp:∀ b,W.heap.size≤b→b<w1.heap.size→w3.heap[b]? = w1.heap[b]?:=fun b h1 h2 =>
   (hg23.block b (Nat.lt_of_lt_of_le h2 hg12.size) (fun e=>by cases e;omega)).trans (hg12.block b h2 (fun e=>by
    rw [← unhide Hpe] at e
    have:=(unhide Hpl) b e.symm
    omega))
  have hE3:EngV (fun b=>W.heap.size≤b∧b<w1.heap.size) w3 (W.heap.size+2) zV0 N:=by
   have hE:=unhide HE1
   obtain ⟨hcv,hV⟩:=unhide HcV
   refine ⟨W.heap.size+1,0,⟨W.heap.size,w1.heap.size,fun _=>none,?_,⟨⟨by omega,by omega⟩,by omega⟩,⟨⟨by omega,by omega⟩,by omega⟩,fun nm R hR=>(by cases hR),fun nm=>by simp,fun z hz=>by simp at hz⟩,(cell_same (p:=⟨W.heap.size+2,1,none⟩) (hkp (W.heap.size+2) (by omega) (by omega))).trans hcv,⟨by omega,hV.lt⟩,hV.kept (hkp _ (by omega) hV.lt),Nat.zero_le _⟩
   have q:EngRep w1 (W.heap.size+2) W.heap.size ([]:List ZRel).length 0 w1.heap.size (fun _=>none):=by
    obtain ⟨e,d,r,ap,inn,inr,top⟩:=hE
    exact ⟨e,d,r,ap,⟨Nat.zero_le _,inn.2.1,Nat.zero_le _,inn.2.2.2⟩,fun nm R hR=>(by cases hR),top⟩
   exact q.keptT (Nat.le_trans hg12.size hg23.size) (hkp _ (by omega) (by omega)) (hkp _ (by omega) (by omega)) (fun nm R hR=>by cases hR)
  have hR3:RefV (fun b=>b=w1.heap.size) w3 w1.heap.size zV0:=⟨.slice none 0 0,[],⟨.slice none 0 0,[],⟨⟨_,hF3⟩,⟨rfl,fun e=>by cases e⟩,⟨⟨0,World.ownsRow_nil _ _ _ _⟩,fun g hg=>by cases hg⟩,rfl,fun i hi=>by simp at hi⟩⟩,cell_of_heap hF3 1,⟨⟨0,World.ownsRow_nil _ _ _ _⟩,fun g hg=>by cases hg⟩,rfl,fun u hu=>by simp [cellsVR] at hu⟩
  have hM:Mid (fun b=>b=wb∨pv.ownBlock=some b) W w3:=by
   have hb1:=unhide Hb1
   refine ⟨hg23.os.trans (hg12.os.trans hb1.os),hg23.tape.trans (hg12.tape.trans hb1.tape),hg23.output.trans (hg12.output.trans hb1.output),Nat.le_trans hs1 (Nat.le_trans hg12.size hg23.size),fun b hb hq=>?_⟩
   have q1:=Nat.lt_of_lt_of_le hb hs1
   exact (hg23.block b (Nat.lt_of_lt_of_le q1 hg12.size) (fun e=>hq (.inl (by cases e;rfl)))).trans ((hg12.block b q1 (fun e=>hq (.inr (by rw [unhide Hpe];exact e.symm)))).trans (hb1.block b hb))
  have e5:cellsP (ps ++ [(W.heap.size+2,w1.heap.size)])=cellsP ps ++ [.pointer (some ⟨W.heap.size+2,0,none⟩),.pointer (some ⟨w1.heap.size,0,none⟩)]:=by simp [cellsP]
  obtain ⟨o',h1,h2⟩:=(unhide H).born (unhide HS) (unhide Hwb) (unhide Hch) (unhide Hcp) hs1 rfl (Nat.lt_of_lt_of_le hs2 hg23.size) hE3 hR3 hM ⟨hbox3,⟨bh,hoh3⟩⟩ (by rw [e5];exact ho3) (by
   rcases unhide Hat2 with q|⟨_,q⟩
   ·left;rw [q,unhide Hpe]
   ·right;intro g hg;rw [q] at hg;cases hg;simp;omega) hB (unhide Hpl)
  exact ⟨o',_,_,h1,h2⟩
 have Hfin:=hide hfin
 clear hfin
 go_wp2
 go_ret
 exact ⟨rfl,unhide Hfin⟩

end Go.Proofs.YtgddkjhknlgbbaaGreatDoor

namespace Go.Proofs.YtgddkjhknlgbbaaGreatDoor
set_option linter.unusedVariables false
set_option linter.unusedSimpArgs false
open Go.RowKit Go.Maps

def opV (k m a:Int) (s t u:ByteArray) (bv:Value):Value:=.agg #[.int .i64 k,.int .i64 m,.int .i64 a,.string s,.string t,.string u,bv]

theorem set_same {zss:List ZV} {j:Nat} (hj:j<zss.length):zss.set j (zss[j]?.getD zV0)=zss:=by
 apply List.ext_getElem?
 intro i
 by_cases e:j=i
 ·subst e;rw [List.getElem?_set_self hj];simp [hj]
 ·rw [List.getElem?_set_ne e]

/-- Behind an ask: what came out is kept. -/
theorem Law.asked {o:Nat→Nat} {W w3 w4:World} {wb:Nat} {ps:List (Nat×Nat)} {zss:List ZV} {hs hs2:List Nat} {N B0 j base:Nat} {pv hv hv':Value} {L:Nat→Prop} (h:Law o W wb ps zss hs N B0) (hj:j<ps.length) (hS:Spine W wb pv hv hs) (hpv:W.ownsRow base 43 2 pv ps.length (cellsP ps)) (hwb:o wb=1) (hcp:∀ g,pv.ownBlock=some g→o g=1) (hch:∀ g,hv.ownBlock=some g→o g=1) (hB:B0≤W.heap.size)
  (hb:Below W.heap.size W w3) (hK:KeptMany w3 w4 wb pv hv hs L hv' hs2) (hL:∀ b,L b→W.heap.size≤b∧b<w3.heap.size):∃ o',Law o' w4 wb ps zss (hs ++ hs2) N B0∧Mid (fun b=>o b≠0) W w4:=by
 have hk:∀ b,b<W.heap.size→w3.heap[b]? = W.heap[b]?:=fun b hb'=>hb.block b hb'
 have key:=h.keep (lo:=w3.heap.size) (hi:=w3.heap.size) (zs':=zss[j]?.getD zV0) (N':=N) hj hpv hcp hS hwb hch (Mid.of_below hb) hK (fun b hb'=>⟨(hL b hb').1,(hL b hb').2,by omega⟩) hb.size (Nat.le_refl _) (Nat.le_refl _) ((h.eng j hj).kept hb.size (fun b _ hlt=>hk b hlt)) (((h.ref j hj).kept (fun b _ hlt=>hk b hlt)).imp (fun b hb'=>.inl hb')) (h.ok j hj) hB
 rw [set_same (by rw [← h.len];exact hj)] at key
 exact key

set_option maxRecDepth 100000 in
set_option maxHeartbeats 8000000 in
/-- asks,of a relation that is there. -/
theorem asks_hit (o:Nat→Nat) (W:World) (wb:Nat) (ps:List (Nat×Nat)) (zss:List ZV) (hs:List Nat) (N B0 j:Nat) (h:Law o W wb ps zss hs N B0) (hj:j<ps.length) (hB:B0≤W.heap.size) (hhl:hs.length≤10000000000) (hN:N≤900000000) (m a:Int) (s t u:ByteArray) (p:Option Addr) (nb cb:Nat) (z:ZRel) (hf:findZ (zss[j]?.getD zV0).1 s=some z) :
  Calls Tryz.prog 25 #[.pointer (some ⟨wb,0,none⟩),.agg #[.pointer (some ⟨(ps[j]?.getD (0,0)).1,0,none⟩),.pointer (some ⟨(ps[j]?.getD (0,0)).2,0,none⟩)],opV 4 m a s t u (.slice p nb cb)] W fun e w'=>e=.returned (.bool true)∧∃ o' hs2,Law o' w' wb ps zss (hs ++ hs2) N B0∧Mid (fun b=>o b≠0) W w'∧hs2.length≤17:=by
 obtain ⟨pv,hv,base,hS,hpv,hwb,hcp,hch⟩:=h.ex
 obtain ⟨eb,heb⟩:∃ eb,eb=(ps[j]?.getD (0,0)).1:=⟨_,rfl⟩
 obtain ⟨fb,hfb⟩:∃ fb,fb=(ps[j]?.getD (0,0)).2:=⟨_,rfl⟩
 have hE:=h.eng j hj
 have hR:=h.ref j hj
 have hz:=h.ok j hj
 rw [← heb] at hE ⊢
 rw [← hfb] at hR ⊢
 obtain ⟨zs,hzs⟩:∃ zs,zs=zss[j]?.getD zV0:=⟨_,rfl⟩
 rw [← hzs] at hE hR hz hf
 have hgs:=hz.ok.each z (findZ_some hf).1
 obtain ⟨w1,hw1⟩:∃ w1,w1=(W.alloc (.cells #[.pointer (some ⟨eb,0,none⟩),.pointer (some ⟨fb,0,none⟩)] 43)).alloc (.cells #[.int .i64 4,.int .i64 m,.int .i64 a,.string s,.string t,.string u,.slice p nb cb] 34):=⟨_,rfl⟩
 have hb1:Below W.heap.size W w1:=by rw [hw1];exact ((Below.refl _ _).alloc (Nat.le_refl _) _).alloc (by simp) _
 have x0:w1.heap[W.heap.size]? = some (Obj.cells #[.pointer (some ⟨eb,0,none⟩),.pointer (some ⟨fb,0,none⟩)] 43 (0,0)):=by
  rw [hw1]
  have h0:(W.alloc (.cells #[.pointer (some ⟨eb,0,none⟩),.pointer (some ⟨fb,0,none⟩)] 43)).heap[W.heap.size]? = some (Obj.cells #[.pointer (some ⟨eb,0,none⟩),.pointer (some ⟨fb,0,none⟩)] 43 (0,0)):=heap_last _ _ _ rfl
  exact (Below.heap_alloc _ _ _ (heap_lt h0)).trans h0
 have x1:w1.heap[W.heap.size+1]? = some (Obj.cells #[.int .i64 4,.int .i64 m,.int .i64 a,.string s,.string t,.string u,.slice p nb cb] 34 (0,0)):=by rw [hw1];exact heap_last _ _ _ (by simp)
 have hk1:∀ b,b<W.heap.size→w1.heap[b]? = W.heap[b]?:=fun b hb=>hb1.block b hb
 have Heng:=hide (engRowsV _ w1 eb zs N s z (hE.kept hb1.size (fun b _ hlt=>hk1 b hlt)) hz hf hN)
 have HR1:=hide (hR.kept (W':=w1) (fun b _ hlt=>hk1 b hlt))
 have X:=hide (And.intro x0 x1)
 have Hb1:=hide hb1
 have Hw1:=hide hw1
 have HS:=hide hS
 have Hk:Hid (∀ (w3 w4:World) (hs2:List Nat) (hv':Value) (L:Nat→Prop),Below W.heap.size W w3→KeptMany w3 w4 wb pv hv hs L hv' hs2→(∀ b,L b→W.heap.size≤b∧b<w3.heap.size)→∃ o',Law o' w4 wb ps zss (hs ++ hs2) N B0∧Mid (fun b=>o b≠0) W w4):=fun w3 w4 hs2 hv' L q1 q2 q3=>h.asked hj hS hpv hwb hcp hch hB q1 q2 q3
 have Hz:=hide hz
 have Hf:=hide hf
 have Hgs:=hide hgs
 have hs1:=hb1.size
 clear heb hfb hzs hE hR hz hw1 hb1 x0 x1 hk1 hS hpv hwb hcp hch h hf hgs
 unfold opV
 go_enter Tryz.func25,Tryz.ntmps25
 go_upto_region 5 with fail
 rw [← unhide Hw1]
 have y0:w1.cell? ⟨W.heap.size,0,none⟩=some (.pointer (some ⟨eb,0,none⟩)):=cell_of_heap (unhide X).1 0
 have y1:w1.cell? ⟨W.heap.size,1,none⟩=some (.pointer (some ⟨fb,0,none⟩)):=cell_of_heap (unhide X).1 1
 have y3:w1.cell? ⟨W.heap.size+1,3,none⟩=some (.string s):=cell_of_heap (unhide X).2 3
 go_wp2_with fail
 refine (unhide Heng).mono ?_
 rintro e w2 ⟨lv,rsx,rfl,ho2,hr2,hrl,hvals,hap,hb2⟩
 have hs2:=hb2.size
 have hx0l:W.heap.size<w1.heap.size:=heap_lt (unhide X).1
 have hx1l:W.heap.size+1<w1.heap.size:=heap_lt (unhide X).2
 have z0:=(hb2.cell (p:=⟨W.heap.size,0,none⟩) hx0l).trans y0
 have z1:=(hb2.cell (p:=⟨W.heap.size,1,none⟩) hx0l).trans y1
 have z3:=(hb2.cell (p:=⟨W.heap.size+1,3,none⟩) hx1l).trans y3
 have Href:=hide (refRowsV _ w2 fb zs s z ((unhide HR1).kept (fun b _ hlt=>hb2.block b hlt)) (unhide Hz) (unhide Hf))
 obtain ⟨pl,cl,rfl,_⟩:=own_form ho2
 have Ho2:=hide ho2
 have Hr2:=hide hr2
 have Hvals:=hide hvals
 have Hap:=hide hap
 have Hb2:=hide hb2
 clear y0 y1 y3 ho2 hr2 hvals hap hb2 Heng
 go_wp2_with fail
 refine (unhide Href).mono ?_
 rintro e w9 ⟨mv,rfl,hmr,hw9⟩
 replace hw9:=hw9.symm
 subst hw9
 have Hsame:=hide (sameRows_eq _ _ z.L w2 (unhide Hr2) hmr (by have:=(unhide Hgs).2.2.2.2.1;omega) (fun p hp=>by have h1:=(unhide Hgs).2.2.2.1.len p hp;have h2:=(unhide Hgs).2.2.1;omega))
 obtain ⟨am,cm,hme,_⟩:=id hmr
 subst hme
 clear hmr Href
 go_wp2_with fail
 refine (unhide Hsame).mono ?_
 rintro e w3 ⟨rfl,hd3⟩
 have hB3:Below W.heap.size W w3:=((unhide Hb1).trans ((unhide Hb2).mono hs1)).trans (hd3.below _)
 have hd3b:=hd3.below w2.heap.size
 have hs3:w2.heap.size≤w3.heap.size:=hd3b.size
 have ho3:=own_below (unhide Ho2) hd3b
 have Hkeep:=hide (keepRows_any wb pv hv hs w1.heap.size (.slice pl rsx.length cl) rsx w3 ((unhide HS).below hB3) hhl ho3 (by omega) (by omega) (fun r hr=>by
  obtain ⟨xs,h1,h2⟩:=(unhide Hvals) r hr
  exact ⟨w1.heap.size,xs,own_below h1 hd3b,by omega,by omega⟩) (unhide Hap))
 have Hbl:Hid (∀ b,(Value.ownBlock (.slice pl rsx.length cl)=some b∨∃ r∈rsx,(valS r).ownBlock=some b)→W.heap.size≤b∧b<w3.heap.size):=fun b hb=>by
  rcases hb with hb|⟨r,hr,hb⟩
  ·have h1:=(own_block ho3 b hb).1
   obtain ⟨c,h2⟩:=own_type ho3 hb
   exact ⟨by omega,heap_lt h2⟩
  ·obtain ⟨xs,h1,h2⟩:=(unhide Hvals) r hr
   have h3:=own_below h1 hd3b
   have h4:=(own_block h3 b hb).1
   obtain ⟨c,h5⟩:=own_type h3 hb
   exact ⟨by omega,heap_lt h5⟩
 have HB3:=hide hB3
 clear hd3 hB3 hd3b ho3 Hsame
 go_wp2_with fail
 refine (unhide Hkeep).mono ?_
 rintro e w4 ⟨hv',hs2',rfl,hK,hlen⟩
 have hfin:=(unhide Hk) _ _ _ _ _ (unhide HB3) hK (unhide Hbl)
 have Hfin:=hide hfin
 have Hlen:=hide hlen
 clear hfin hK hlen Hkeep
 go_wp2
 go_ret
 obtain ⟨o',q1,q2⟩:=unhide Hfin
 exact ⟨rfl,o',hs2',q1,q2,by have:=unhide Hlen;omega⟩

end Go.Proofs.YtgddkjhknlgbbaaGreatDoor

namespace Go.Proofs.YtgddkjhknlgbbaaGreatDoor
set_option linter.unusedVariables false
set_option linter.unusedSimpArgs false
open Go.RowKit Go.Maps

set_option maxRecDepth 100000 in
set_option maxHeartbeats 8000000 in
/-- asks,of a relation that is not there. -/
theorem asks_miss (o:Nat→Nat) (W:World) (wb:Nat) (ps:List (Nat×Nat)) (zss:List ZV) (hs:List Nat) (N B0 j:Nat) (h:Law o W wb ps zss hs N B0) (hj:j<ps.length) (hB:B0≤W.heap.size) (hhl:hs.length≤10000000000) (hN:N≤900000000) (m a:Int) (s t u:ByteArray) (p:Option Addr) (nb cb:Nat) (hsz:s.size≤maxLen) (hf:findZ (zss[j]?.getD zV0).1 s=none) :
  Calls Tryz.prog 25 #[.pointer (some ⟨wb,0,none⟩),.agg #[.pointer (some ⟨(ps[j]?.getD (0,0)).1,0,none⟩),.pointer (some ⟨(ps[j]?.getD (0,0)).2,0,none⟩)],opV 4 m a s t u (.slice p nb cb)] W fun e w'=>e=.returned (.bool true)∧∃ o' hs2,Law o' w' wb ps zss (hs ++ hs2) N B0∧Mid (fun b=>o b≠0) W w'∧hs2.length≤17:=by
 obtain ⟨pv,hv,base,hS,hpv,hwb,hcp,hch⟩:=h.ex
 obtain ⟨eb,heb⟩:∃ eb,eb=(ps[j]?.getD (0,0)).1:=⟨_,rfl⟩
 obtain ⟨fb,hfb⟩:∃ fb,fb=(ps[j]?.getD (0,0)).2:=⟨_,rfl⟩
 have hE:=h.eng j hj
 have hR:=h.ref j hj
 have hz:=h.ok j hj
 rw [← heb] at hE ⊢
 rw [← hfb] at hR ⊢
 obtain ⟨zs,hzs⟩:∃ zs,zs=zss[j]?.getD zV0:=⟨_,rfl⟩
 rw [← hzs] at hE hR hz hf
 obtain ⟨w1,hw1⟩:∃ w1,w1=(W.alloc (.cells #[.pointer (some ⟨eb,0,none⟩),.pointer (some ⟨fb,0,none⟩)] 43)).alloc (.cells #[.int .i64 4,.int .i64 m,.int .i64 a,.string s,.string t,.string u,.slice p nb cb] 34):=⟨_,rfl⟩
 have hb1:Below W.heap.size W w1:=by rw [hw1];exact ((Below.refl _ _).alloc (Nat.le_refl _) _).alloc (by simp) _
 have x0:w1.heap[W.heap.size]? = some (Obj.cells #[.pointer (some ⟨eb,0,none⟩),.pointer (some ⟨fb,0,none⟩)] 43 (0,0)):=by
  rw [hw1]
  have h0:(W.alloc (.cells #[.pointer (some ⟨eb,0,none⟩),.pointer (some ⟨fb,0,none⟩)] 43)).heap[W.heap.size]? = some (Obj.cells #[.pointer (some ⟨eb,0,none⟩),.pointer (some ⟨fb,0,none⟩)] 43 (0,0)):=heap_last _ _ _ rfl
  exact (Below.heap_alloc _ _ _ (heap_lt h0)).trans h0
 have x1:w1.heap[W.heap.size+1]? = some (Obj.cells #[.int .i64 4,.int .i64 m,.int .i64 a,.string s,.string t,.string u,.slice p nb cb] 34 (0,0)):=by rw [hw1];exact heap_last _ _ _ (by simp)
 have hk1:∀ b,b<W.heap.size→w1.heap[b]? = W.heap[b]?:=fun b hb=>hb1.block b hb
 have Heng:=hide (engRowsV_miss _ w1 eb zs N s (hE.kept hb1.size (fun b _ hlt=>hk1 b hlt)) hf hsz)
 have HR1:=hide (hR.kept (W':=w1) (fun b _ hlt=>hk1 b hlt))
 have X:=hide (And.intro x0 x1)
 have Hb1:=hide hb1
 have Hw1:=hide hw1
 have HS:=hide hS
 have Hk:Hid (∀ (w3 w4:World) (hs2:List Nat) (hv':Value) (L:Nat→Prop),Below W.heap.size W w3→KeptMany w3 w4 wb pv hv hs L hv' hs2→(∀ b,L b→W.heap.size≤b∧b<w3.heap.size)→∃ o',Law o' w4 wb ps zss (hs ++ hs2) N B0∧Mid (fun b=>o b≠0) W w4):=fun w3 w4 hs2 hv' L q1 q2 q3=>h.asked hj hS hpv hwb hcp hch hB q1 q2 q3
 have Hz:=hide hz
 have Hf:=hide hf
 have hs1:=hb1.size
 clear heb hfb hzs hE hR hz hw1 hb1 x0 x1 hk1 hS hpv hwb hcp hch h hf
 unfold opV
 go_enter Tryz.func25,Tryz.ntmps25
 go_upto_region 5 with fail
 rw [← unhide Hw1]
 have y0:w1.cell? ⟨W.heap.size,0,none⟩=some (.pointer (some ⟨eb,0,none⟩)):=cell_of_heap (unhide X).1 0
 have y1:w1.cell? ⟨W.heap.size,1,none⟩=some (.pointer (some ⟨fb,0,none⟩)):=cell_of_heap (unhide X).1 1
 have y3:w1.cell? ⟨W.heap.size+1,3,none⟩=some (.string s):=cell_of_heap (unhide X).2 3
 go_wp2_with fail
 refine (unhide Heng).mono ?_
 rintro e w2 ⟨rfl,hb2⟩
 have hs2:=hb2.size
 have hx0l:W.heap.size<w1.heap.size:=heap_lt (unhide X).1
 have hx1l:W.heap.size+1<w1.heap.size:=heap_lt (unhide X).2
 have z0:=(hb2.cell (p:=⟨W.heap.size,0,none⟩) hx0l).trans y0
 have z1:=(hb2.cell (p:=⟨W.heap.size,1,none⟩) hx0l).trans y1
 have z3:=(hb2.cell (p:=⟨W.heap.size+1,3,none⟩) hx1l).trans y3
 have Href:=hide (refRowsV_none _ w2 fb zs s ((unhide HR1).kept (fun b _ hlt=>hb2.block b hlt)) (unhide Hz) (unhide Hf))
 have hs2W:W.heap.size≤w2.heap.size:=by omega
 have HB2:=hide ((unhide Hb1).trans (hb2.mono hs1))
 clear y0 y1 y3 hb2 Heng
 go_wp2_with fail
 refine (unhide Href).mono ?_
 rintro e w9 ⟨rfl,hw9⟩
 replace hw9:=hw9.symm
 subst hw9
 clear Href
 have Hsame:=hide (sameRows_eq (.slice none 0 0) (.slice none 0 0) [] w2 ⟨none,0,rfl,fun i hi=>by simp at hi⟩ ⟨none,0,rfl,fun i hi=>by simp at hi⟩ (by simp) (fun p hp=>by simp at hp))
 go_wp2_with fail
 refine (unhide Hsame).mono ?_
 rintro e w3 ⟨rfl,hd3⟩
 have hB3:Below W.heap.size W w3:=(unhide HB2).trans ((hd3.below _).mono hs2W)
 have Hkeep:=hide (keepRows_any wb pv hv hs 0 (.slice none 0 0) [] w3 ((unhide HS).below hB3) hhl (World.ownsRow_nil _ _ _ _) (by simp) (Nat.zero_le _) (fun r hr=>by simp at hr) List.Pairwise.nil)
 have Hbl:Hid (∀ b,(Value.ownBlock (.slice none 0 0)=some b∨∃ r∈([]:List Raw),(valS r).ownBlock=some b)→W.heap.size≤b∧b<w3.heap.size):=fun b hb=>by
  rcases hb with hb|⟨r,hr,hb⟩
  ·cases hb
  ·simp at hr
 have HB3:=hide hB3
 clear hd3 hB3 Hsame
 go_wp2_with fail
 refine (unhide Hkeep).mono ?_
 rintro e w4 ⟨hv',hs2',rfl,hK,hlen⟩
 have hfin:=(unhide Hk) _ _ _ _ _ (unhide HB3) hK (unhide Hbl)
 have Hfin:=hide hfin
 have Hlen:=hide hlen
 clear hfin hK hlen Hkeep
 go_wp2
 go_ret
 obtain ⟨o',q1,q2⟩:=unhide Hfin
 exact ⟨rfl,o',hs2',q1,q2,by have:=unhide Hlen;simp at this;omega⟩

set_option maxRecDepth 100000 in
set_option maxHeartbeats 8000000 in
/-- asks nothing. -/
theorem asks_other (o:Nat→Nat) (W:World) (wb:Nat) (ps:List (Nat×Nat)) (zss:List ZV) (hs:List Nat) (N B0 j:Nat) (h:Law o W wb ps zss hs N B0) (hj:j<ps.length) (hB:B0≤W.heap.size) (hhl:hs.length≤10000000000) (hN:N≤900000000) (m a:Int) (s t u:ByteArray) (p:Option Addr) (nb cb:Nat) (k:Int) (hk4:k≠4) (hk7:k≠7) (hk8:k≠8) :
  Calls Tryz.prog 25 #[.pointer (some ⟨wb,0,none⟩),.agg #[.pointer (some ⟨(ps[j]?.getD (0,0)).1,0,none⟩),.pointer (some ⟨(ps[j]?.getD (0,0)).2,0,none⟩)],opV k m a s t u (.slice p nb cb)] W fun e w'=>e=.returned (.bool true)∧∃ o' hs2,Law o' w' wb ps zss (hs ++ hs2) N B0∧Mid (fun b=>o b≠0) W w'∧hs2.length≤17:=by
 obtain ⟨pv,hv,base,hS,hpv,hwb,hcp,hch⟩:=h.ex
 obtain ⟨eb,heb⟩:∃ eb,eb=(ps[j]?.getD (0,0)).1:=⟨_,rfl⟩
 obtain ⟨fb,hfb⟩:∃ fb,fb=(ps[j]?.getD (0,0)).2:=⟨_,rfl⟩
 have hE:=h.eng j hj
 have hR:=h.ref j hj
 have hz:=h.ok j hj
 rw [← heb] at hE ⊢
 rw [← hfb] at hR ⊢
 obtain ⟨zs,hzs⟩:∃ zs,zs=zss[j]?.getD zV0:=⟨_,rfl⟩
 rw [← hzs] at hE hR hz
 obtain ⟨w1,hw1⟩:∃ w1,w1=(W.alloc (.cells #[.pointer (some ⟨eb,0,none⟩),.pointer (some ⟨fb,0,none⟩)] 43)).alloc (.cells #[.int .i64 k,.int .i64 m,.int .i64 a,.string s,.string t,.string u,.slice p nb cb] 34):=⟨_,rfl⟩
 have hb1:Below W.heap.size W w1:=by rw [hw1];exact ((Below.refl _ _).alloc (Nat.le_refl _) _).alloc (by simp) _
 have x0:w1.heap[W.heap.size]? = some (Obj.cells #[.pointer (some ⟨eb,0,none⟩),.pointer (some ⟨fb,0,none⟩)] 43 (0,0)):=by
  rw [hw1]
  have h0:(W.alloc (.cells #[.pointer (some ⟨eb,0,none⟩),.pointer (some ⟨fb,0,none⟩)] 43)).heap[W.heap.size]? = some (Obj.cells #[.pointer (some ⟨eb,0,none⟩),.pointer (some ⟨fb,0,none⟩)] 43 (0,0)):=heap_last _ _ _ rfl
  exact (Below.heap_alloc _ _ _ (heap_lt h0)).trans h0
 have x1:w1.heap[W.heap.size+1]? = some (Obj.cells #[.int .i64 k,.int .i64 m,.int .i64 a,.string s,.string t,.string u,.slice p nb cb] 34 (0,0)):=by rw [hw1];exact heap_last _ _ _ (by simp)
 have hk1:∀ b,b<W.heap.size→w1.heap[b]? = W.heap[b]?:=fun b hb=>hb1.block b hb
 have HR1:=hide (hR.kept (W':=w1) (fun b _ hlt=>hk1 b hlt))
 have X:=hide (And.intro x0 x1)
 have Hb1:=hide hb1
 have Hw1:=hide hw1
 have HS:=hide hS
 have Hk:Hid (∀ (w3 w4:World) (hs2:List Nat) (hv':Value) (L:Nat→Prop),Below W.heap.size W w3→KeptMany w3 w4 wb pv hv hs L hv' hs2→(∀ b,L b→W.heap.size≤b∧b<w3.heap.size)→∃ o',Law o' w4 wb ps zss (hs ++ hs2) N B0∧Mid (fun b=>o b≠0) W w4):=fun w3 w4 hs2 hv' L q1 q2 q3=>h.asked hj hS hpv hwb hcp hch hB q1 q2 q3
 have Hz:=hide hz
 have hs1:=hb1.size
 clear heb hfb hzs hE hR hz hw1 hb1 x0 x1 hk1 hS hpv hwb hcp hch h
 unfold opV
 go_enter Tryz.func25,Tryz.ntmps25
 have hx0l:W.heap.size<w1.heap.size:=heap_lt (unhide X).1
 have k4:(k == 4)=false:=by simpa using hk4
 have k7:(k == 7)=false:=by simpa using hk7
 have k8:(k == 8)=false:=by simpa using hk8
 have y0:w1.cell? ⟨W.heap.size+1,0,none⟩=some (.int .i64 k):=cell_of_heap (unhide X).2 0
 have hs2W:W.heap.size≤w1.heap.size:=by omega
 have HB2:=Hb1
 go_upto_region 3 with fail
 rw [← unhide Hw1]
 clear hk4 hk7 hk8
 have Hsame:=hide (sameRows_eq (.slice none 0 0) (.slice none 0 0) [] w1 ⟨none,0,rfl,fun i hi=>by simp at hi⟩ ⟨none,0,rfl,fun i hi=>by simp at hi⟩ (by simp) (fun p hp=>by simp at hp))
 go_wp2_with fail
 refine (unhide Hsame).mono ?_
 rintro e w3 ⟨rfl,hd3⟩
 have hB3:Below W.heap.size W w3:=(unhide HB2).trans ((hd3.below _).mono hs2W)
 have Hkeep:=hide (keepRows_any wb pv hv hs 0 (.slice none 0 0) [] w3 ((unhide HS).below hB3) hhl (World.ownsRow_nil _ _ _ _) (by simp) (Nat.zero_le _) (fun r hr=>by simp at hr) List.Pairwise.nil)
 have Hbl:Hid (∀ b,(Value.ownBlock (.slice none 0 0)=some b∨∃ r∈([]:List Raw),(valS r).ownBlock=some b)→W.heap.size≤b∧b<w3.heap.size):=fun b hb=>by
  rcases hb with hb|⟨r,hr,hb⟩
  ·cases hb
  ·simp at hr
 have HB3:=hide hB3
 clear hd3 hB3 Hsame
 go_wp2_with fail
 refine (unhide Hkeep).mono ?_
 rintro e w4 ⟨hv',hs2',rfl,hK,hlen⟩
 have hfin:=(unhide Hk) _ _ _ _ _ (unhide HB3) hK (unhide Hbl)
 have Hfin:=hide hfin
 have Hlen:=hide hlen
 clear hfin hK hlen Hkeep
 go_wp2
 go_ret
 obtain ⟨o',q1,q2⟩:=unhide Hfin
 exact ⟨rfl,o',hs2',q1,q2,by have:=unhide Hlen;simp at this;omega⟩

end Go.Proofs.YtgddkjhknlgbbaaGreatDoor

set_option linter.unusedVariables false
set_option linter.unusedSimpArgs false

namespace Go.Proofs.YtgddkjhknlgbbaaGreatDoor
set_option linter.unusedVariables false
set_option linter.unusedSimpArgs false
open Go.RowKit Go.Maps

theorem Law.below {o : Nat → Nat} {W W' : World} {wb : Nat} {ps : List (Nat × Nat)} {zss : List ZV} {hs : List Nat} {N B0 : Nat} (h : Law o W wb ps zss hs N B0) (hb : Below W.heap.size W W') : Law o W' wb ps zss hs N B0 := by
  obtain ⟨pv, hv, base, hS, hpv, hwb, hcp, hch⟩ := h.ex
  have hk : ∀ b, b < W.heap.size → W'.heap[b]? = W.heap[b]? := fun b hb' => hb.block b hb'
  exact ⟨⟨pv, hv, base, hS.below hb, own_below hpv hb, hwb, hcp, hch⟩, h.len, fun i hi => (h.eng i hi).kept hb.size (fun b _ hlt => hk b hlt), fun i hi => (h.ref i hi).kept (fun b _ hlt => hk b hlt), h.ok, fun x hx => (h.holds x hx).kept (fun b _ hlt => hk b hlt), fun b hb' => h.fresh b (Nat.le_trans hb.size hb'), h.args⟩

theorem Law.more {o : Nat → Nat} {W : World} {wb : Nat} {ps : List (Nat × Nat)} {zss : List ZV} {hs : List Nat} {N N' B0 : Nat} (h : Law o W wb ps zss hs N B0) (hN : N ≤ N') : Law o W wb ps zss hs N' B0 :=
  ⟨h.ex, h.len, fun i hi => (h.eng i hi).imp (fun b hb => hb) hN, h.ref, h.ok, h.holds, h.fresh, h.args⟩

theorem Mid.after {Q : Nat → Prop} {a b c : World} (h : Below a.heap.size a b) (k : Mid Q b c) : Mid Q a c := (Mid.of_below h).trans k

/-- The loan, as it is handed in. -/
theorem loan_ents {W : World} {B lb : Nat} {ev rv : Value} {los : List Lo} {es : List Ent} (h : LoanRep W B lb ev rv los) (hle : los.map (·.e) = es) : ∃ ge ce, ev = .slice (some ⟨ge, 0, none⟩) (es.length + 1) ce ∧ es.length + 1 ≤ ce ∧ EntsAt W (.slice (some ⟨ge, 0, none⟩) es.length ce) es := by
  have hll : los.length = es.length := by rw [← hle]; simp
  have he := h.ents
  rw [hll] at he
  obtain ⟨pe, ce, hee, hce, hpen, hpes⟩ := own_form he
  cases pe with
  | none => have := hpen rfl; omega
  | some ade =>
    obtain ⟨ge, rfl, _, _, hge⟩ := hpes ade rfl
    refine ⟨ge, ce, hee, hce, ⟨some ⟨ge, 0, none⟩, ce, rfl, fun i hi => ?_⟩⟩
    have hil : i < los.length := by omega
    obtain ⟨y, hy⟩ : ∃ y, y = los[i]?.getD zeroLo := ⟨_, rfl⟩
    have hym : y ∈ los := by rw [hy]; simp [hil]
    have hye : es[i]?.getD zeroEnt = y.e := by rw [← hle, hy]; simp [hil]
    have e0 := hge (i * 3 + 0) (by omega)
    have e1 := hge (i * 3 + 1) (by omega)
    have e2 := hge (i * 3 + 2) (by omega)
    rw [flat3_at los lastC i hil _ (by omega), ← hy] at e0 e1 e2
    simp only [entC, Nat.add_zero, List.getElem?_cons_zero, List.getElem?_cons_succ] at e0 e1 e2
    have hrow := h.each.row y hym
    obtain ⟨p2, c2, h2e, hc2, _, hs2⟩ := own_form hrow
    cases h2e
    obtain ⟨g2, hg2, _, _, hcell⟩ := hs2 _ rfl
    cases hg2
    refine ⟨ge, 0, _, rfl, by rw [Nat.zero_add, hye]; exact e0, by rw [Nat.zero_add]; exact e1, ?_, by rw [Nat.zero_add, hye]; exact e2⟩
    rw [hye]
    refine ⟨_, y.c, rfl, fun j hj => ⟨y.g, 0, rfl, ?_⟩⟩
    rw [Nat.zero_add, hcell j (by omega), show rowI y = y.e.row.map (Value.int .i64) ++ [.int .i64 (-77)] from by simp [rowI], List.getElem?_append_left (by simpa using hj)]
    simp [hj]

theorem LoanRep.kept {W W' : World} {B lb : Nat} {ev rv : Value} {los : List Lo} (h : LoanRep W B lb ev rv los) (hlb : B ≤ lb) (hk : ∀ b, B ≤ b → b < W.heap.size → W'.heap[b]? = W.heap[b]?) : LoanRep W' B lb ev rv los := by
  have ho : ∀ {e : TypeId} {size : Nat} {v : Value} {n : Nat} {xs : List Value}, W.ownsRow B e size v n xs → W'.ownsRow B e size v n xs := by
    intro e size v n xs ho
    refine ⟨ho.1, ?_⟩
    rcases ho.2 with h1 | ⟨g, cap, cur, h1, h2, h3, h4⟩
    · exact .inl h1
    · exact .inr ⟨g, cap, cur, h1, h2, (hk g h2 (heap_lt h3)).trans h3, h4⟩
  exact ⟨(hk lb hlb (heap_lt h.box)).trans h.box, ho h.ents, ho h.rows, ⟨fun x hx => ho (h.each.row x hx), h.each.apart⟩⟩

theorem EntsNil.below {w w' : World} {bv : Value} {es : List Ent} (h : EntsNil w bv) (hv : EntsAt w bv es) (hb : Below w.heap.size w w') : EntsNil w' bv := by
  intro b o n cap i he hi p m c hc
  obtain ⟨a, cap', he', hcs⟩ := hv
  rw [he] at he'
  cases he'
  obtain ⟨b', o', sv, hbo, h1, h2, _⟩ := hcs i hi
  cases hbo
  have hlt := World.block_lt_of_cell? w _ h2
  rw [hb.cell (p := ⟨b, _, none⟩) hlt] at hc
  exact h b o es.length cap i he hi p m c hc

/-- Which pair an op is for. -/
theorem pick_pair (m : Int) (n : Nat) (hn : 0 < n) : ∃ (j : Nat) (r : Int), j < n ∧ m.tmod (n : Int) = r ∧ -(n : Int) < r ∧ r < (n : Int) ∧ (r + (n : Int)).tmod (n : Int) = (j : Int) := by
  have hn' : (0 : Int) < (n : Int) := by omega
  have h1 : m.tmod (n : Int) < (n : Int) := Int.tmod_lt_of_pos m hn'
  have h2 : -(n : Int) < m.tmod (n : Int) := by
    have h3 := Int.tmod_lt_of_pos (-m) hn'
    rw [Int.neg_tmod] at h3
    omega
  have h4 : 0 ≤ (m.tmod (n : Int) + (n : Int)).tmod (n : Int) := Int.tmod_nonneg _ (by omega)
  have h5 : (m.tmod (n : Int) + (n : Int)).tmod (n : Int) < (n : Int) := Int.tmod_lt_of_pos _ hn'
  exact ⟨((m.tmod (n : Int) + (n : Int)).tmod (n : Int)).toNat, m.tmod (n : Int), by omega, rfl, h2, h1, by omega⟩

theorem cellsP_at : ∀ (ps : List (Nat × Nat)) (j : Nat), j < ps.length → (cellsP ps)[j * 2]? = some (.pointer (some ⟨(ps[j]?.getD (0, 0)).1, 0, none⟩)) ∧ (cellsP ps)[j * 2 + 1]? = some (.pointer (some ⟨(ps[j]?.getD (0, 0)).2, 0, none⟩))
  | [], j, h => by simp at h
  | p :: ps, j, h => by
    have e : cellsP (p :: ps) = .pointer (some ⟨p.1, 0, none⟩) :: .pointer (some ⟨p.2, 0, none⟩) :: cellsP ps := by simp [cellsP]
    rw [e]
    cases j with
    | zero => exact ⟨rfl, rfl⟩
    | succ j =>
      have := cellsP_at ps j (by simpa using h)
      have e1 : (j + 1) * 2 = j * 2 + 1 + 1 := by omega
      rw [e1]
      simpa using this

end Go.Proofs.YtgddkjhknlgbbaaGreatDoor
