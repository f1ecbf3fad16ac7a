import Derived.Test.YtgddkjhknlgbbaaGreatDoorM06
import Derived.Test.YtgddkjhknlgbbaaGreatDoorM07
set_option linter.unusedVariables false
set_option linter.unusedSimpArgs false

namespace Go.Proofs.YtgddkjhknlgbbaaGreatDoor
open Go.RowKit Go.Maps
attribute [local go_sem ↓] Go.wp_at_zero Go.wp_at_succ

theorem clone_any (s : ByteArray) (w : World) (h : s.size ≤ 1000) : Calls Tryz.prog 29 #[.string s] w fun e w' => e = .returned (.string s) ∧ Below w.heap.size w w' := by
  go_enter Tryz.func29, Tryz.ntmps29
  go_wp2_with (first | (go_at_call 62; refine (Tryz.stringslite_Clone s _ (by omega)).mono ?_; rintro e w1 ⟨rfl, hb1⟩))
  go_ret
  exact ⟨rfl, hb1⟩

set_option maxRecDepth 100000 in
theorem create_taken (s : ByteArray) (ar : Nat) (w : World) {eb db nD S E : Nat} {st : St} {R : Rel} (hE : EngRep w eb db nD S E st) (hs : nameB s = true) (h1 : 1 ≤ ar) (h2 : ar ≤ 3) (hR : st s = some R) (hn : s.size ≤ 1000) :
    Calls Tryz.prog 12 #[.pointer (some ⟨eb, 0, none⟩), .string s, .int .i64 ar] w fun e w' => e = .returned (.int .i64 3) ∧ w' = w := by
  have hrun := hE.hit (Nat.le_trans hn (by unfold maxLen; omega)) hR
  have c0 : w.cell? ⟨eb, 0, none⟩ = some (.map (some db)) := hE.c0
  have Hs := hide hs
  have t1 : ¬ (ar : Int) < 1 := by omega
  have t2 : ¬ 3 < (ar : Int) := by omega
  clear hE hs hR
  go_enter Tryz.func12, Tryz.ntmps12
  go_wp2_with (first | (go_at_call 27; refine (isName_any s _ (by omega)).mono ?_; rintro e w1 ⟨rfl, rfl⟩; rw [unhide Hs]))
  go_ret
  exact ⟨rfl, rfl⟩

theorem EngRep.made {w W : World} {eb db nD S E : Nat} {st : St} {D : DataW Unit} {s : ByteArray} {ar rb mb : Nat} (h : EngRep w eb db nD S E st)
    (hhas : ∀ nm, nm.size ≤ maxLen → Maps.has D (strLit nm) = (st nm).isSome) (hat : ∀ nm R, nm.size ≤ maxLen → st nm = some R → ∀ zd, D.atKey (strLit nm) zd = .lit (.int .i64 R.rb)) (hD : IsMap D) (hszD : Maps.size (D.put (strLit s) (.lit (.int .i64 rb))) = nD + 1)
    (hown : W.ownsMap Tryz.prog 9 ptrElem db (nD + 1) (D.put (strLit s) (.lit (.int .i64 rb)))) (hg : w.grownBy W (some db)) (hR : st s = none)
    (hc : w.heap[rb]? = some (.cells #[.int .i64 ar, .map (some mb)] 122 (0, 0))) (hm : WMap w mb 0 (fun _ => 0)) (hrb : E ≤ rb) (hmb : E ≤ mb) : EngRep W eb db (nD + 1) S W.heap.size (stSet st s ⟨rb, mb, ar, 0, fun _ => 0⟩) := by
  have hml := hm.lt
  have hrl : rb < w.heap.size := (Array.getElem?_eq_some_iff.1 hc).1
  have hdir := h.dir
  obtain ⟨e, _, r, ap, inn, inr, top⟩ := h
  have hgs := hg.size
  obtain ⟨D0, ⟨es0, cl0, hdb, _⟩, _⟩ := hdir
  obtain ⟨xe, e, e0⟩ := e
  have hebdb : eb ≠ db := fun x => by rw [x, hdb] at e; cases e
  refine ⟨⟨xe, (hg.block eb (by omega) (fun x => hebdb (by injection x))).trans e, e0⟩, ⟨_, hown, hszD, fun m hm => ?_, fun m Q hm hQ => ?_⟩, fun m Q hQ => ?_, fun m m' Q Q' hQ hQ' hne => ?_, ⟨inn.1, by omega, inn.2.2.1, by omega⟩, fun m Q hQ => ?_, Nat.le_refl _⟩
  · unfold stSet
    by_cases e : m = s
    · subst e; rw [has_put_same hD (strLit_isKey _)]; simp
    · rw [has_put_other (fun e' => e (strLit_inj e')), hhas m hm]; simp [e]
  · unfold stSet at hQ
    intro zd
    by_cases e : m = s
    · subst e; simp at hQ; subst hQ; exact atKey_put_same hD (strLit_isKey _) _ _
    · simp [e] at hQ; rw [atKey_put_other (fun e' => e (strLit_inj e'))]; exact hat m Q hm hQ zd
  · unfold stSet at hQ
    by_cases e : m = s
    · subst e; simp at hQ; subst hQ
      exact ⟨(hg.block rb hrl (fun x => by injection x; omega)).trans hc, hm.kept (hg.block mb hml (fun x => by injection x; omega))⟩
    · simp [e] at hQ
      have hi := inr m Q hQ
      have hrd : Q.rb ≠ db := fun x => by have := (r m Q hQ).1; rw [x, hdb] at this; cases this
      exact ⟨(hg.block _ (by omega) (fun x => hrd (by injection x))).trans (r m Q hQ).1, (r m Q hQ).2.kept (hg.block _ (by omega) (fun x => hi.2.2.2.2 (by injection x)))⟩
  · unfold stSet at hQ hQ'
    by_cases e : m = s
    · subst e
      have e' : ¬ m' = m := fun x => hne x.symm
      simp at hQ; simp [e'] at hQ'; subst hQ
      have := inr m' Q' hQ'
      dsimp only
      omega
    · simp [e] at hQ
      by_cases e' : m' = s
      · subst e'; simp at hQ'; subst hQ'
        have := inr m Q hQ
        dsimp only
        omega
      · simp [e'] at hQ'; exact ap m m' Q Q' hQ hQ' hne
  · unfold stSet at hQ
    by_cases e : m = s
    · subst e; simp at hQ; subst hQ; dsimp only; omega
    · simp [e] at hQ; have := inr m Q hQ; omega

set_option maxRecDepth 100000 in
set_option maxHeartbeats 1000000 in
theorem create_ok (s : ByteArray) (ar : Nat) (w : World) {eb db nD S E : Nat} {st : St} (hE : EngRep w eb db nD S E st) (hs : nameB s = true) (h1 : 1 ≤ ar) (h2 : ar ≤ 3) (hR : st s = none) (hn : s.size ≤ 1000) (hnD : nD ≤ 5) :
    Calls Tryz.prog 12 #[.pointer (some ⟨eb, 0, none⟩), .string s, .int .i64 ar] w fun e w' => e = .returned (.int .i64 0) ∧
      (∃ rb mb, w.heap.size ≤ rb ∧ w.heap.size ≤ mb ∧ EngRep w' eb db (nD + 1) S w'.heap.size (stSet st s ⟨rb, mb, ar, 0, fun _ => 0⟩)) ∧ w.grownBy w' (some db) := by
  have hsz : s.size ≤ maxLen := Nat.le_trans hn (by unfold maxLen; omega)
  have hrun := hE.miss hsz hR
  have c0 : w.cell? ⟨eb, 0, none⟩ = some (.map (some db)) := hE.c0
  have hel : eb < w.heap.size := by have := hE.inn; have := hE.top; omega
  have hdl : db < w.heap.size := by have := hE.inn; have := hE.top; omega
  obtain ⟨D, hown, hsz0, hhas, hat⟩ := hE.dir
  have hlen := hown.size_le
  have hebdb : eb ≠ db := fun e => by
    obtain ⟨es, cl, h1, _⟩ := hown
    obtain ⟨_, this, _⟩ := hE.eng
    rw [e, h1] at this
    cases this
  have Hs := hide hs
  have HE := hide hE
  have HR := hide hR
  have Hhas := hide hhas
  have Hat := hide hat
  have t1 : ¬ (ar : Int) < 1 := by omega
  have t2 : ¬ 3 < (ar : Int) := by omega
  have t3 : ¬ 6 ≤ (Maps.size D : Int) := by omega
  obtain ⟨U, hU⟩ : ∃ U : World → Nat → World, ∀ W b, W.ownsMap Tryz.prog 9 ptrElem db nD D → (Instr.mapUpdate 60 (.map (some db)) (.string s) (.pointer (some ⟨b, 0, none⟩))).run Tryz.prog W = .ok () (U W b) ∧
      (U W b).ownsMap Tryz.prog 9 ptrElem db (nD + 1) (D.put (strLit s) (.lit (.int .i64 b))) ∧ W.grownBy (U W b) (some db) := by
    have h : ∀ W : World, ∃ g : Nat → World, ∀ b, W.ownsMap Tryz.prog 9 ptrElem db nD D → (Instr.mapUpdate 60 (.map (some db)) (.string s) (.pointer (some ⟨b, 0, none⟩))).run Tryz.prog W = .ok () (g b) ∧
        (g b).ownsMap Tryz.prog 9 ptrElem db (nD + 1) (D.put (strLit s) (.lit (.int .i64 b))) ∧ W.grownBy (g b) (some db) := by
      intro W
      have hh : ∀ b : Nat, ∃ w', W.ownsMap Tryz.prog 9 ptrElem db nD D → (Instr.mapUpdate 60 (.map (some db)) (.string s) (.pointer (some ⟨b, 0, none⟩))).run Tryz.prog W = .ok () w' ∧
          w'.ownsMap Tryz.prog 9 ptrElem db (nD + 1) (D.put (strLit s) (.lit (.int .i64 b))) ∧ W.grownBy w' (some db) := by
        intro b
        by_cases hW : W.ownsMap Tryz.prog 9 ptrElem db nD D
        · obtain ⟨w', hr⟩ := hW.update law9 Tryz.underlying60 (by unfold maxLen; omega) (keyOf_str hsz) (val := .pointer (some ⟨b, 0, none⟩)) (d := .lit (.int .i64 b)) (ps := []) rfl
          exact ⟨w', fun _ => hr⟩
        · exact ⟨W, fun h => absurd h hW⟩
      exact ⟨fun b => Classical.choose (hh b), fun b => Classical.choose_spec (hh b)⟩
    exact ⟨fun W => Classical.choose (h W), fun W => Classical.choose_spec (h W)⟩
  have hUr : ∀ W b, W.ownsMap Tryz.prog 9 ptrElem db nD D → (Instr.mapUpdate 60 (.map (some db)) (.string s) (.pointer (some ⟨b, 0, none⟩))).run Tryz.prog W = .ok () (U W b) := fun W b h => (hU W b h).1
  have HU := hide hU
  clear hE hs hR hhas hat hU
  go_enter Tryz.func12, Tryz.ntmps12
  go_wp2_with (first
    | (go_at_call 27; refine (isName_any s _ (by omega)).mono ?_; rintro e w1 ⟨rfl, rfl⟩; rw [unhide Hs])
    | (at_len; refine wpList_len_own _ rfl _ 60 rfl 9 65 Tryz.underlying60 _ db nD D rfl hown ?_))
  go_region_held3 (fun W' => W'.cell? ⟨eb, 0, none⟩ = some (.map (some db)))
    (first
      | go_keep
      | (rw [hb2.cell (by simpa using hel)]; assumption)
      | (rw [hb3.cell (by have := hb2.size; simp at this ⊢; omega)]; assumption)
      | (rw [World.cell?_of_block (((unhide HU) w3 _ hown3).2.2.block eb (by have h5 : w1.heap.size ≤ w2.heap.size := hb2.size; have h6 := hb3.size; omega) (by simpa using hebdb))]; assumption))
    (first
      | (go_at_call 29; refine (clone_any s _ hn).mono ?_; rintro e w2 ⟨rfl, hb2⟩)
      | (go_at_call 28; refine (relNew_any ar _).mono ?_; rintro e w3 ⟨rfl, hcells3, hmap3, hsz3, hb3⟩; have hown3 : w3.ownsMap Tryz.prog 9 ptrElem db nD D := (hown.drew.kept (below_grown hb2 none) (by simp)).kept (below_grown hb3 none) (by simp)))
  have hb2' : Below w1.heap.size w1 w2 := Below.ofDrew hb2
  have hE3 := ((unhide HE).below hb2').below hb3
  obtain ⟨_, hUo, hUg⟩ := (unhide HU) w3 (w2.heap.size + 1) hown3
  have htop := (unhide HE).top
  have hs12 := hb2'.size
  have hfin := hE3.made (s := s) (ar := ar) (unhide Hhas) (unhide Hat) hown.isMap (by rw [size_put (hown.tidy law9), (unhide Hhas) s hsz, (unhide HR), hsz0]; rfl) hUo hUg (unhide HR) hcells3 hmap3 (by omega) (by omega)
  have hgr : w1.grownBy (U w3 (w2.heap.size + 1)) (some db) := (below_grown (hb2'.trans (hb3.mono hs12)) (some db)).trans hUg
  have HF := hide hfin
  have hs1 : w1.heap.size ≤ w2.heap.size + 1 := by omega
  have hs2 : w1.heap.size ≤ w2.heap.size := hs12
  have HG := hide hgr
  clear hfin hgr hUo hUg hE3 hb2 hb2' hb3 hown3 hcells3 hmap3 hsz3
  go_wp2
  go_ret
  exact ⟨rfl, ⟨_, _, hs1, hs2, unhide HF⟩, unhide HG⟩

end Go.Proofs.YtgddkjhknlgbbaaGreatDoor
