import Derived.Test.YtoifcnidhfnapaaGreatChg
set_option linter.unusedVariables false
set_option linter.unusedSimpArgs false
namespace Go.Proofs.YtoifcnidhfnapaaGreat
open Go.RowKit Go.Maps
attribute [local go_sem ↓] Go.wp_at_zero Go.wp_at_succ

/-- What checkEntry answers to an entry. -/
def Chk (st : St) (x : Ent) (c : Int) : Prop := ∀ (W : World) (v : Value) (eb db nD S E : Nat), EngRep W eb db nD S E st → IntsAt W v x.row →
  Calls Tryz.prog 24 #[.pointer (some ⟨eb, 0, none⟩), entV x v] W fun e w' => e = .returned (.int .i64 c) ∧ Below W.heap.size W w'

theorem chk_ok {st : St} {x : Ent} {R : Rel} (hn : x.nm.size ≤ maxLen) (hR : st x.nm = some R) (hl : x.row.length ≤ 1000000) (ha : x.row.length = R.ar) (hw : -1000 ≤ x.wt ∧ x.wt ≤ 1000) : Chk st x 0 := by
  intro W v eb db nD S E hE hv
  obtain ⟨a, cap, rfl, _⟩ := hv
  exact check_ok x a cap W hE hn hR hl ha hw
theorem chk_miss {st : St} {x : Ent} (hn : x.nm.size ≤ maxLen) (hR : st x.nm = none) : Chk st x 6 := by
  intro W v eb db nD S E hE hv
  exact check_miss x v W hE hn hR
theorem chk_arity {st : St} {x : Ent} {R : Rel} (hn : x.nm.size ≤ maxLen) (hR : st x.nm = some R) (hl : x.row.length ≤ 1000000) (ha : x.row.length ≠ R.ar) (hra : R.ar ≤ 1000000) : Chk st x 2 := by
  intro W v eb db nD S E hE hv
  obtain ⟨a, cap, rfl, _⟩ := hv
  exact check_arity x a cap W hE hn hR hl ha hra
theorem chk_weight {st : St} {x : Ent} {R : Rel} (hn : x.nm.size ≤ maxLen) (hR : st x.nm = some R) (hl : x.row.length ≤ 1000000) (ha : x.row.length = R.ar) (hw : x.wt < -1000 ∨ 1000 < x.wt) : Chk st x 9 := by
  intro W v eb db nD S E hE hv
  obtain ⟨a, cap, rfl, _⟩ := hv
  rcases hw with hw | hw
  · exact check_light x a cap W hE hn hR hl ha hw
  · exact check_heavy x a cap W hE hn hR hl ha hw

set_option maxRecDepth 100000 in
set_option maxHeartbeats 1000000 in
/-- A batch of which entry k is the first that is wrong. -/
theorem apply_bad (v : Value) (es : List Ent) (k : Nat) (c : Int) (w : World) {eb db nD S E : Nat} {st : St} (hE : EngRep w eb db nD S E st) (hv : EntsAt w v es) (hl : es.length ≤ 64) (hk : k < es.length)
    (hok : ∀ i, i < k → Chk st (es[i]?.getD zeroEnt) 0) (hbad : Chk st (es[k]?.getD zeroEnt) c) (hc : c ≠ 0) :
    Calls Tryz.prog 15 #[.pointer (some ⟨eb, 0, none⟩), v] w fun e w' => e = .returned (.tuple #[.int .i64 c, .int .i64 k]) ∧ Below w.heap.size w w' := by
  obtain ⟨a, cap, rfl, hcs⟩ := hv
  have Hc := hide hcs
  have HE := hide hE
  have Hok := hide hok
  have Hbad := hide hbad
  have hcb : (c != 0) = true := by simpa using hc
  clear hcs hE hok hbad hc
  go_enter Tryz.func15, Tryz.ntmps15
  go_wp2
  go_loopw [16] (fun i wr => ∃ j : Nat, j ≤ k ∧ i = .int .i64 j ∧ Below w.heap.size w wr) (fun i _ => es.length - (intOf i).toNat)
  case atStart => exact ⟨0, Nat.zero_le _, rfl, Below.refl _ _⟩
  case round =>
    obtain ⟨j, hj, rfl, hB⟩ := hrel
    have hlt : j < es.length := by omega
    obtain ⟨b, o, sv, rfl, h1, h2, h3, h4⟩ := (unhide Hc) j hlt
    have hx : (j : Int) < (es.length : Int) := by omega
    have hbl : b < w.heap.size := World.block_lt_of_cell? w _ h1
    have h3c := h3
    obtain ⟨a2, cap2, rfl, _⟩ := h3c
    by_cases hjk : j = k
    · have hch := unhide Hbad
      rw [← hjk] at hch
      obtain ⟨x, hxe⟩ : ∃ x, x = es[j]?.getD zeroEnt := ⟨_, rfl⟩
      rw [← hxe] at h1 h2 h3 h4 hch
      rw [← hB.cell (p := ⟨b, _, none⟩) hbl] at h1 h2 h4
      obtain ⟨nm, row, wt⟩ := x
      dsimp only at h1 h2 h3 h4
      have hBW : Below w.heap.size w (wr.alloc (.cells #[.string nm, .slice a2 row.length cap2, .int .i64 wt] 39)) := hB.alloc hB.size _
      have H3 := hide (h3.below hBW)
      have HEW := hide ((unhide HE).below hBW)
      have HBW := hide hBW
      have Hch := hide hch
      have Hjk := hide hjk
      clear hxe hB hBW h3 hch hjk
      go_wp2_with (first
        | (go_at_call 24; refine ((unhide Hch) _ _ eb db nD S E (unhide HEW) (unhide H3)).mono ?_; rintro e w2 ⟨rfl, hb2⟩))
      go_ret2
      refine ⟨?_, (unhide HBW).trans (hb2.mono (unhide HBW).size)⟩
      rw [← unhide Hjk]
      rfl
    · have hch := (unhide Hok) j (by omega)
      obtain ⟨x, hxe⟩ : ∃ x, x = es[j]?.getD zeroEnt := ⟨_, rfl⟩
      rw [← hxe] at h1 h2 h3 h4 hch
      rw [← hB.cell (p := ⟨b, _, none⟩) hbl] at h1 h2 h4
      obtain ⟨nm, row, wt⟩ := x
      dsimp only at h1 h2 h3 h4
      have hBW : Below w.heap.size w (wr.alloc (.cells #[.string nm, .slice a2 row.length cap2, .int .i64 wt] 39)) := hB.alloc hB.size _
      have H3 := hide (h3.below hBW)
      have HEW := hide ((unhide HE).below hBW)
      have HBW := hide hBW
      have Hch := hide hch
      have hjk' : j < k := by omega
      clear hxe hB hBW h3 hch hjk
      go_wp2_with (first
        | (go_at_call 24; refine ((unhide Hch) _ _ eb db nD S E (unhide HEW) (unhide H3)).mono ?_; rintro e w2 ⟨rfl, hb2⟩))
      have Hb2 := hide hb2
      clear hb2
      go_roundw
      case rel => exact ⟨j + 1, by omega, by go_num, (unhide HBW).trans ((unhide Hb2).mono (unhide HBW).size)⟩
      case measure => simp [intOf]; omega

/-! ### a batch that is right -/

/-- Blocks outside the engine's stay as they were. -/
structure Mid (S E : Nat) (w w' : World) : Prop where
  os : w'.os = w.os
  tape : w'.tape = w.tape
  output : w'.output = w.output
  size : w.heap.size ≤ w'.heap.size
  block : ∀ k, k < w.heap.size → (k < S ∨ E ≤ k) → w'.heap[k]? = w.heap[k]?

theorem Mid.refl (S E : Nat) (w : World) : Mid S E w w := ⟨rfl, rfl, rfl, Nat.le_refl _, fun _ _ _ => rfl⟩
theorem Mid.trans {S E : Nat} {a b c : World} (h : Mid S E a b) (k : Mid S E b c) : Mid S E a c :=
  ⟨k.os.trans h.os, k.tape.trans h.tape, k.output.trans h.output, Nat.le_trans h.size k.size, fun i hi ho => (k.block i (Nat.lt_of_lt_of_le hi h.size) ho).trans (h.block i hi ho)⟩
theorem Mid.of_below {S E : Nat} {a b : World} (h : Below a.heap.size a b) : Mid S E a b := ⟨h.os, h.tape, h.output, h.size, fun k hk _ => h.block k hk⟩
theorem Mid.of_grown {S E : Nat} {a b : World} {m : Nat} (h : a.grownBy b (some m)) (h1 : S ≤ m) (h2 : m < E) : Mid S E a b :=
  ⟨h.os, h.tape, h.output, h.size, fun k hk ho => h.block k hk (fun e => by cases e; omega)⟩

theorem Mid.cell {S E : Nat} {a b : World} (h : Mid S E a b) {p : Addr} (hp : p.block < a.heap.size) (ho : p.block < S ∨ E ≤ p.block) : b.cell? p = a.cell? p := World.cell?_of_block (w := a) (h.block p.block hp ho)

def stSet (st : St) (nm : ByteArray) (R : Rel) : St := fun m => if m = nm then some R else st m

theorem EngRep.added {w w' : World} {eb db nD S E : Nat} {st : St} (h : EngRep w eb db nD S E st) {nm : ByteArray} {R : Rel} {n' : Nat} {g : Row → Int} (hR : st nm = some R) (hg : w.grownBy w' (some R.mb)) (hW : WMap w' R.mb n' g) :
    EngRep w' eb db nD S E (stSet st nm { R with n := n', f := g }) := by
  have hi := h.inr nm R hR
  have hWm := (h.rel nm R hR).2
  obtain ⟨D0, ⟨es0, cl0, hmb, _⟩, _⟩ := hWm
  obtain ⟨e, ⟨D, ⟨es, clock, h1, h2⟩, hhas, hat⟩, r, ap, inn, inr, top⟩ := h
  have hlt : ∀ k, k < E → k < w.heap.size := fun k hk => Nat.lt_of_lt_of_le hk top
  obtain ⟨xe, e, e0, nv⟩ := e
  have hv := nv.2.2.2.2.1
  have hv2 := nv.2.2.2.2.2 nm R hR
  have heb : eb ≠ R.mb := fun x => by rw [x, hmb] at e; cases e
  refine ⟨⟨xe, (hg.block eb (hlt _ inn.2.1) (fun x => heb (by injection x))).trans e, e0, (nv.kept (hg.block _ (hlt _ (by omega)) (fun x => by injection x; omega)) (hg.block _ (hlt _ (by omega)) (fun x => by injection x; omega))).turn (fun m Q hQ => by
    unfold stSet at hQ
    by_cases e : m = nm
    · subst e; simp at hQ; subst hQ; exact hv2
    · simp [e] at hQ; exact nv.2.2.2.2.2 m Q hQ)⟩, ⟨D, ⟨es, clock, (hg.block db (hlt _ inn.2.2.2) (fun x => hi.2.2.2.2 (by injection x with x; exact x.symm))).trans h1, h2⟩, fun m hm => ?_, fun m Q hm hQ => ?_⟩, fun m Q hQ => ?_, fun m m' Q Q' hQ hQ' hne => ?_, inn, fun m Q hQ => ?_, Nat.le_trans top hg.size⟩
  · rw [hhas m hm]; unfold stSet; by_cases e : m = nm <;> simp [e, hR]
  · unfold stSet at hQ
    by_cases e : m = nm
    · subst e; simp at hQ; subst hQ; exact hat _ R hm hR
    · simp [e] at hQ; exact hat m Q hm hQ
  · unfold stSet at hQ
    by_cases e : m = nm
    · subst e; simp at hQ; subst hQ
      refine ⟨?_, hW⟩
      have hrb : R.rb ≠ R.mb := fun x => by have := (r m R hR).1; rw [x, hmb] at this; cases this
      exact (hg.block _ (hlt _ hi.2.1) (fun x => hrb (by injection x))).trans (r m R hR).1
    · simp [e] at hQ
      have hq := inr m Q hQ
      have hrb : Q.rb ≠ R.mb := fun x => by have := (r m Q hQ).1; rw [x, hmb] at this; cases this
      exact ⟨(hg.block _ (hlt _ hq.2.1) (fun x => hrb (by injection x))).trans (r m Q hQ).1, (r m Q hQ).2.kept (hg.block _ (hlt _ hq.2.2.2.1) (fun x => ap m nm Q R hQ hR e (by injection x)))⟩
  · unfold stSet at hQ hQ'
    by_cases e : m = nm
    · subst e
      have e' : ¬ m' = m := fun x => hne x.symm
      simp at hQ; simp [e'] at hQ'; subst hQ
      exact ap m m' R Q' hR hQ' hne
    · simp [e] at hQ
      by_cases e' : m' = nm
      · subst e'; simp at hQ'; subst hQ'; exact ap m m' Q R hQ hR hne
      · simp [e'] at hQ'; exact ap m m' Q Q' hQ hQ' hne
  · unfold stSet at hQ
    by_cases e : m = nm
    · subst e; simp at hQ; subst hQ; exact inr m R hR
    · simp [e] at hQ; exact inr m Q hQ

end Go.Proofs.YtoifcnidhfnapaaGreat
