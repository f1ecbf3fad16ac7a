import Derived.Test.YtoifcnidhfnapaaGreatCreate
set_option linter.unusedVariables false
set_option linter.unusedSimpArgs false
namespace Go.Proofs.YtoifcnidhfnapaaGreat
open Go.RowKit Go.Maps

def st3 (R S T : Rel) : St := stSet (stSet (stSet (fun _ => none) nmR R) nmS S) nmT T

theorem stSet_same (st : St) (nm : ByteArray) (R : Rel) : stSet st nm R nm = some R := by simp [stSet]

theorem nmRS : nmR ≠ nmS := by decide
theorem nmRT : nmR ≠ nmT := by decide
theorem nmST : nmS ≠ nmT := by decide

theorem st3_R (R S T : Rel) : st3 R S T nmR = some R := by simp [st3, stSet, nmRS, nmRT]
theorem st3_S (R S T : Rel) : st3 R S T nmS = some S := by simp [st3, stSet, nmST]
theorem st3_T (R S T : Rel) : st3 R S T nmT = some T := by simp [st3, stSet]
theorem st3_none {R S T : Rel} {nm : ByteArray} (h1 : nm ≠ nmR) (h2 : nm ≠ nmS) (h3 : nm ≠ nmT) : st3 R S T nm = none := by simp [st3, stSet, h1, h2, h3]
theorem st3_some {R S T Q : Rel} {nm : ByteArray} (h : st3 R S T nm = some Q) : (nm = nmR ∧ Q = R) ∨ (nm = nmS ∧ Q = S) ∨ (nm = nmT ∧ Q = T) := by
  by_cases h1 : nm = nmR
  · subst h1; rw [st3_R] at h; cases h; exact Or.inl ⟨rfl, rfl⟩
  · by_cases h2 : nm = nmS
    · subst h2; rw [st3_S] at h; cases h; exact Or.inr (Or.inl ⟨rfl, rfl⟩)
    · by_cases h3 : nm = nmT
      · subst h3; rw [st3_T] at h; cases h; exact Or.inr (Or.inr ⟨rfl, rfl⟩)
      · rw [st3_none h1 h2 h3] at h; cases h

theorem nameB_R : nameB nmR = true := by decide
theorem nameB_S : nameB nmS = true := by decide
theorem nameB_T : nameB nmT = true := by decide

/-- An engine with the three relations, and nothing in them. -/
def Fresh (R : Rel) (ar : Nat) : Prop := R.ar = ar ∧ R.n = 0 ∧ R.f = fun _ => 0

theorem grown_belowS {w w' : World} {S db : Nat} (h : w.grownBy w' (some db)) (hS : S ≤ db) (hSw : S ≤ w.heap.size) : Below S w w' := (Below.refl _ _).grown h hSw (fun k e => by cases e; exact hS)

set_option maxRecDepth 100000 in
set_option maxHeartbeats 1000000 in
theorem begun_any (w : World) : Calls Tryz.prog 5 #[] w fun e w' => ∃ eb db R S T, e = .returned (.pointer (some ⟨eb, 0, none⟩)) ∧ EngRep w' eb db 3 w.heap.size w'.heap.size (st3 R S T) ∧ Fresh R 2 ∧ Fresh S 2 ∧ Fresh T 1 ∧ Below w.heap.size w w' := by
  go_enter Tryz.func5, Tryz.ntmps5
  go_wp2_with fail
  refine (new_any _).mono ?_
  rintro e w1 ⟨rfl, hE1, hb1⟩
  have H1 := hide hE1
  have Hb1 := hide hb1
  clear hE1 hb1
  go_wp2_with fail
  refine (create_ok nmR 2 _ (unhide H1) nameB_R (by omega) (by omega) rfl (by decide) (by omega)).mono ?_
  rintro e w2 ⟨rfl, ⟨rb, mb, hE2⟩, hg2⟩
  have H2 := hide hE2
  have Hb2 := hide ((unhide Hb1).trans (grown_belowS hg2 (Nat.le_refl _) (unhide Hb1).size))
  clear hE2 hg2
  go_wp2_with fail
  refine (create_ok nmS 2 _ (unhide H2) nameB_S (by omega) (by omega) (by simp [stSet, Ne.symm nmRS]) (by decide) (by omega)).mono ?_
  rintro e w3 ⟨rfl, ⟨rb', mb', hE3⟩, hg3⟩
  have H3 := hide hE3
  have Hb3 := hide ((unhide Hb2).trans (grown_belowS hg3 (Nat.le_refl _) (unhide Hb2).size))
  clear hE3 hg3
  go_wp2_with fail
  refine (create_ok nmT 1 _ (unhide H3) nameB_T (by omega) (by omega) (by simp [stSet, Ne.symm nmRT, Ne.symm nmST]) (by decide) (by omega)).mono ?_
  rintro e w4 ⟨rfl, ⟨rb'', mb'', hE4⟩, hg4⟩
  have H4 := hide hE4
  have Hb4 := hide ((unhide Hb3).trans (grown_belowS hg4 (Nat.le_refl _) (unhide Hb3).size))
  clear hE4 hg4
  go_wp2_with fail
  refine (create_taken nmT 1 _ (unhide H4) nameB_T (by omega) (by omega) (stSet_same _ _ _) (by decide)).mono ?_
  rintro e w5 ⟨rfl, rfl⟩
  go_wp2
  go_ret
  exact ⟨_, _, _, _, _, rfl, unhide H4, ⟨rfl, rfl, rfl⟩, ⟨rfl, rfl, rfl⟩, ⟨rfl, rfl, rfl⟩, unhide Hb4⟩

end Go.Proofs.YtoifcnidhfnapaaGreat
