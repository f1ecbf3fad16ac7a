import Derived.Test.YtoifcnidhfnapaaGreatGrid
set_option linter.unusedVariables false
set_option linter.unusedSimpArgs false
namespace Go.Proofs.YtoifcnidhfnapaaGreat
open Go.RowKit Go.Maps

structure Three (R S T : Rel) (cnt : Nat) : Prop where
  r : Tame R 2 cnt grid2
  s : Tame S 2 cnt grid2
  t : Tame T 1 cnt grid1

theorem Three.add {R S T : Rel} {cnt : Nat} (h : Three R S T cnt) {es : List Ent} (hf : ∀ x ∈ es, Fine x) : Three (addRel R es nmR) (addRel S es nmS) (addRel T es nmT) (cnt + es.length) :=
  ⟨h.r.add hf (fun _ h0 => (sumE_grid hf h0).1 rfl), h.s.add hf (fun _ h0 => (sumE_grid hf h0).2.1 rfl), h.t.add hf (fun _ h0 => (sumE_grid hf h0).2.2 rfl)⟩

theorem Fine.chk {x : Ent} (h : Fine x) {R S T : Rel} {cnt : Nat} (h3 : Three R S T cnt) : Chk (st3 R S T) x 0 := by
  have hg := h.good
  have hn : x.nm.size ≤ maxLen := Nat.le_trans hg.1 (by unfold maxLen; omega)
  have hw : -1000 ≤ x.wt ∧ x.wt ≤ 1000 := hg.2.2.2
  have hl : x.row.length ≤ 1000000 := by have := hg.2.1; omega
  rcases h.name with ⟨e, e2, _⟩ | ⟨e, e2, _⟩ | ⟨e, e2, _⟩
  · exact chk_ok hn (by rw [e]; exact st3_R _ _ _) hl (by rw [e2, h3.r.ar_]) hw
  · exact chk_ok hn (by rw [e]; exact st3_S _ _ _) hl (by rw [e2, h3.s.ar_]) hw
  · exact chk_ok hn (by rw [e]; exact st3_T _ _ _) hl (by rw [e2, h3.t.ar_]) hw

theorem Fine.known {x : Ent} (h : Fine x) (R S T : Rel) : st3 R S T x.nm ≠ none := by
  rcases h.name with ⟨e, _⟩ | ⟨e, _⟩ | ⟨e, _⟩
  · rw [e, st3_R]; simp
  · rw [e, st3_S]; simp
  · rw [e, st3_T]; simp

theorem tame_fit {R : Rel} {ar cnt : Nat} {G : List Row} (h : Tame R ar cnt G) {es : List Ent} (hf : ∀ x ∈ es, Fine x) {nm : ByteArray} (hG : ∀ r, sumE es nm r ≠ 0 → r ∈ G) (hGl : G.length ≤ 16) (hc : cnt + es.length ≤ 400) :
    R.n + 2 * es.length ≤ 100000 ∧ (∀ r, WfRow r → -1000 ≤ R.f r + sumE es nm r ∧ R.f r + sumE es nm r ≤ 1000) ∧ (∀ r, WfRow r → -1000 ≤ R.f r ∧ R.f r ≤ 1000) ∧ ∃ G : List Row, G.length ≤ 16 ∧ ∀ r, WfRow r → R.f r + sumE es nm r ≠ 0 → r ∈ G := by
  have h2 := h.add hf hG
  refine ⟨by have := h.n_; omega, fun r hr => ?_, fun r hr => ?_, G, hGl, fun r hr h0 => h2.supp r hr h0⟩
  · have a := h2.lo r hr; have b := h2.hi r hr
    simp only [addRel] at a b
    push_cast at a b
    omega
  · have a := h.lo r hr; have b := h.hi r hr
    omega

set_option maxHeartbeats 400000 in
/-- A batch of fine entries is taken. -/
theorem apply_fine (v : Value) (es : List Ent) (w : World) {eb db nD S0 E cnt : Nat} {R S T : Rel} (hE : EngRep w eb db nD S0 E (st3 R S T)) (h3 : Three R S T cnt) (hv : EntsAt w v es) (hl : es.length ≤ 64) (hf : ∀ x ∈ es, Fine x) (hc : cnt + es.length ≤ 400) :
    Calls Tryz.prog 15 #[.pointer (some ⟨eb, 0, none⟩), v] w fun e w' => e = .returned (.tuple #[.int .i64 0, .int .i64 0]) ∧ EngRep w' eb db nD S0 E (st3 (addRel R es nmR) (addRel S es nmS) (addRel T es nmT)) ∧ Mid S0 E w w' := by
  rw [← stSum_st3]
  refine apply_ok v es w hE hv hl (fun x hx => (hf x hx).good) (fun i hi => ?_) (fun x hx => (hf x hx).known R S T) (fun nm Q hQ => ?_)
  · have : es[i]?.getD zeroEnt = es[i] := by simp [hi]
    rw [this]
    exact (hf _ (List.getElem_mem hi)).chk h3
  · rcases st3_some hQ with ⟨rfl, rfl⟩ | ⟨rfl, rfl⟩ | ⟨rfl, rfl⟩
    · exact tame_fit h3.r hf (fun _ h0 => (sumE_grid hf h0).1 rfl) (by rw [grid2_len]; omega) hc
    · exact tame_fit h3.s hf (fun _ h0 => (sumE_grid hf h0).2.1 rfl) (by rw [grid2_len]; omega) hc
    · exact tame_fit h3.t hf (fun _ h0 => (sumE_grid hf h0).2.2 rfl) (by rw [grid1_len]; omega) hc

set_option maxHeartbeats 400000 in
theorem apply19_fine (v : Value) (es : List Ent) (w : World) {eb db nD S0 E cnt : Nat} {R S T : Rel} (hE : EngRep w eb db nD S0 E (st3 R S T)) (h3 : Three R S T cnt) (hv : EntsAt w v es) (hl : es.length ≤ 64) (hf : ∀ x ∈ es, Fine x) (hc : cnt + es.length ≤ 400) :
    Calls Tryz.prog 19 #[.pointer (some ⟨eb, 0, none⟩), v] w fun e w' => e = .returned (.bool true) ∧ EngRep w' eb db nD S0 E (st3 (addRel R es nmR) (addRel S es nmS) (addRel T es nmT)) ∧ Mid S0 E w w' := by
  have H := hide (apply_fine v es w hE h3 hv hl hf hc)
  clear hE h3 hv hf
  go_enter Tryz.func19, Tryz.ntmps19
  go_wp2_with fail
  refine (unhide H).mono ?_
  rintro e w1 ⟨rfl, hE1, hM1⟩
  have HE1 := hide hE1
  have HM1 := hide hM1
  clear hE1 hM1 H
  go_wp2
  go_ret
  exact ⟨rfl, unhide HE1, unhide HM1⟩

theorem Mid.rows {S E B : Nat} {w w' : World} (h : Mid S E w w') (hEB : E ≤ B) {xs : List (Ent × Nat)} (hr : RowsIn w xs) (hB : ∀ p ∈ xs, B ≤ p.2) : RowsIn w' xs := by
  intro p hp
  have h1 := hr p hp
  have h2 := hB p hp
  rw [h.block p.2 (Array.getElem?_eq_some_iff.1 h1).1 (Or.inr (by omega))]
  exact h1

theorem Done.mid {S E B m : Nat} {w w' : World} {v : Value} {es : List Ent} (hd : Done w B m v es) (h : Mid S E w w') (hEB : E ≤ B) : Done w' B m v es := by
  obtain ⟨g, cap, cur, xs, rfl, h1, h2, h3, h4, h5, h6, h7⟩ := hd
  exact ⟨g, cap, cur, xs, rfl, h1, h2, (h.block g (Array.getElem?_eq_some_iff.1 h3).1 (Or.inr (by omega))).trans h3, h4, h.rows hEB h5 h7, h6, h7⟩

theorem Done.ents {w : World} {B m : Nat} {v : Value} {es : List Ent} (hd : Done w B m v es) : EntsAt w v es := by
  obtain ⟨g, cap, cur, xs, rfl, h1, h2, h3, h4, h5, h6, h7⟩ := hd
  rw [← h6]
  exact ents_of_block h3 h4 h5 cap

theorem take_flat_len {bs : List (List Ent)} {k : Nat} (h : k < bs.length) : (bs.take (k + 1)).flatten = (bs.take k).flatten ++ bs[k] := by
  rw [List.take_succ_eq_append_getElem h, List.flatten_append]
  simp only [List.flatten_cons, List.flatten_nil, List.append_nil]

theorem flat_take_le (bs : List (List Ent)) (k : Nat) : (bs.take k).flatten.length ≤ bs.flatten.length := by
  have : bs.flatten = (bs.take k).flatten ++ (bs.drop k).flatten := by rw [← List.flatten_append, List.take_append_drop]
  rw [this]; simp

theorem addRel_addRel (R : Rel) (a b : List Ent) (nm : ByteArray) : addRel (addRel R a nm) b nm = addRel R (a ++ b) nm := by
  unfold addRel
  simp only [Rel.mk.injEq, true_and]
  refine ⟨by simp; omega, ?_⟩
  funext r
  rw [sumE_append]; omega

theorem addRel_nil (R : Rel) (nm : ByteArray) : addRel R [] nm = R := by
  unfold addRel
  simp [sumE]

set_option maxRecDepth 100000 in
set_option maxHeartbeats 1000000 in
theorem applies_any (v : Value) (bs : List (List Ent)) (w : World) {eb db nD S0 E B : Nat} {R S T : Rel} (hE : EngRep w eb db nD S0 E (st3 R S T)) (h3 : Three R S T 0) (hv : BatsIn w B v bs) (hEB : E ≤ B) (hl : ∀ b ∈ bs, b.length ≤ 12) (hf : ∀ b ∈ bs, ∀ x ∈ b, Fine x) (hc : bs.flatten.length ≤ 400) (hbl : bs.length ≤ 1000000) :
    Calls Tryz.prog 7 #[.pointer (some ⟨eb, 0, none⟩), v] w fun e w' => e = .returned (.bool true) ∧ EngRep w' eb db nD S0 E (st3 (addRel R bs.flatten nmR) (addRel S bs.flatten nmS) (addRel T bs.flatten nmT)) ∧ Mid S0 E w w' := by
  obtain ⟨a, cap, rfl, hcs⟩ := hv
  have Hc := hide hcs
  have HE := hide hE
  have H3 := hide h3
  have Hl := hide hl
  have Hf := hide hf
  clear hcs hE h3 hl hf
  go_enter Tryz.func7, Tryz.ntmps7
  go_wp2
  go_loopw [5] (fun i wr => ∃ k : Nat, k ≤ bs.length ∧ i = .int .i64 k ∧ EngRep wr eb db nD S0 E (st3 (addRel R (bs.take k).flatten nmR) (addRel S (bs.take k).flatten nmS) (addRel T (bs.take k).flatten nmT)) ∧ Mid S0 E w wr) (fun i _ => bs.length - (intOf i).toNat)
  case atStart =>
    refine ⟨0, Nat.zero_le _, rfl, ?_, Mid.refl _ _ _⟩
    simp only [List.take_zero, List.flatten_nil, addRel_nil]
    exact unhide HE
  case round =>
    obtain ⟨k, hk, rfl, hEk, hM⟩ := hrel
    by_cases hlt : k < bs.length
    · obtain ⟨b, sv, m, rfl, hbB, h1, hd⟩ := (unhide Hc) k hlt
      have hx : (k : Int) < (bs.length : Int) := by omega
      have hbl' : b < w.heap.size := World.block_lt_of_cell? w _ h1
      rw [← hM.cell (p := ⟨b, k, none⟩) hbl' (Or.inr (show E ≤ b by omega))] at h1
      have hd' := (hd.mid hM hEB).ents
      have hbe : bs[k]?.getD [] = bs[k] := by simp [hlt]
      rw [hbe] at hd'
      have hmem : bs[k] ∈ bs := List.getElem_mem hlt
      have hfl : ∀ x ∈ (bs.take k).flatten, Fine x := fun x hx => by
        obtain ⟨y, hy, hxy⟩ := List.mem_flatten.1 hx
        exact (unhide Hf) y (List.mem_of_mem_take hy) x hxy
      have h3k := (unhide H3).add hfl
      have hcl : 0 + (bs.take k).flatten.length + bs[k].length ≤ 400 := by
        have := flat_take_le bs (k + 1)
        rw [take_flat_len hlt] at this
        simp only [List.length_append] at this
        omega
      have Hcall := hide (apply19_fine sv bs[k] wr hEk h3k hd' (by have := (unhide Hl) _ hmem; omega) ((unhide Hf) _ hmem) hcl)
      have HM := hide hM
      clear hd hd' hEk hM hfl h3k hbe hcl hmem
      go_wp2_with (first | (go_at_call 19; refine (unhide Hcall).mono ?_; rintro e w1 ⟨rfl, hE1, hM1⟩))
      rw [addRel_addRel, addRel_addRel, addRel_addRel, ← take_flat_len hlt] at hE1
      have HE1 := hide hE1
      have HM1 := hide hM1
      clear hE1 hM1
      go_roundw
      case rel => exact ⟨k + 1, by omega, by go_num, unhide HE1, (unhide HM).trans (unhide HM1)⟩
      case measure => simp [intOf]; omega
    · have : k = bs.length := by omega
      subst this
      rw [List.take_length] at hEk
      have HEk := hide hEk
      have HM := hide hM
      clear hEk hM
      go_wp2
      go_ret
      exact ⟨rfl, unhide HEk, unhide HM⟩

end Go.Proofs.YtoifcnidhfnapaaGreat
