import Derived.Test.YtgddkjhknlgbbaaGreatDoorR19
import Derived.Test.YtgddkjhknlgbbaaGreatDoorR07
set_option linter.unusedVariables false
set_option linter.unusedSimpArgs false

namespace Go.Proofs.YtgddkjhknlgbbaaGreatDoor
set_option linter.unusedVariables false
set_option linter.unusedSimpArgs false
open Go.RowKit Go.Maps Go.Sort Go.Shelf

def ordB (vs l : List Nat) : Bool := (l.all fun x => decide (65 ≤ x) && decide (x ≤ 90)) && decide l.Nodup && decide (maskL l = maskL vs)
theorem ordB_iff {vs l : List Nat} : ordB vs l = true ↔ OrdP vs l := by
  unfold ordB OrdP
  simp [List.all_eq_true, and_assoc]

/-- What Register answers: the error, and the place. -/
def regA (J : List (Nat × Nat) → List AtomP → List (Nat × Int)) (vs : List ByteArray) (nm s o : ByteArray) : Int × Int :=
  if newViewC vs nm s ≠ 0 then (newViewC vs nm s, 0) else
  match readP s with
  | .error q => (5, (q : Int))
  | .ok (hs, ats) => match firstBad (J hs ats) with
    | some (p, c) => (c, (p : Int))
    | none => if o.size = 0 ∨ ordB (lettersQ (ats.map AtomP.q)) (bytesO o) = true then (0, 0) else (8, 0)
def regS (vs : List ByteArray) (nm : ByteArray) (c : Int) : List ByteArray := if c = 0 then vs ++ [nm] else vs

theorem firstBad_ne {L : List (Nat × Int)} {p : Nat} {c : Int} (h : firstBad L = some (p, c)) : c ≠ 0 := of_decide_eq_true (List.find?_some (p := fun x : Nat × Int => decide (x.2 ≠ 0)) h)

theorem empty_iff (o : ByteArray) : o = ⟨#[]⟩ ↔ o.size = 0 := by
  constructor
  · rintro rfl; rfl
  · intro h
    obtain ⟨⟨l⟩⟩ := o
    cases l with
    | nil => rfl
    | cons a l => exact absurd h (by show (l.length + 1) ≠ 0; omega)

set_option maxRecDepth 100000 in
set_option maxHeartbeats 8000000 in
/-- Register, whose own query is right. -/
theorem register_new (eb vb n : Nat) (vs : List ByteArray) (nm s o : ByteArray) (W : World) {db nD S E : Nat} {st : St} (hE : EngRep W eb db nD S E st) (har : ∀ nm R, st nm = some R → R.ar ≤ 1000) (hc : W.cell? ⟨eb, 1, none⟩ = some (.map (some vb))) (hV : VRep W vb n vs) (hg : W.cell? ⟨0, 0, none⟩ = some (.iface 215 (.agg #[.pointer (some ⟨5, 96, none⟩)])))
    (hn : nm.size ≤ 10000000) (hs : s.size ≤ 10000000) (ho : o.size ≤ 10000000) (hl : vs.length ≤ 1000) (hN : n ≤ 1000000000) (hz : newViewC vs nm s = 0) :
    Calls Tryz.prog 19 #[.pointer (some ⟨eb, 0, none⟩), .string nm, .string s, .string o] W fun e w' => e = .returned (.tuple #[.int .i64 (regA (judgeL st) vs nm s o).1, .int .i64 (regA (judgeL st) vs nm s o).2]) ∧ VRep w' vb (n + 1) (regS vs nm (regA (judgeL st) vs nm s o).1) ∧ W.grownBy w' (some vb) := by
  have hel : eb < W.heap.size := World.block_lt_of_cell? W _ hc
  have hvl := hV.lt
  have hzz := hz
  unfold newViewC at hzz
  have hnb : nameB nm = true := by
    by_cases h : nameB nm = false
    · rw [if_pos h] at hzz; omega
    · simpa using h
  have h8 := nameB_size hnb
  rw [if_neg (by simp [hnb])] at hzz
  have hx : nm ∉ vs := fun h => by rw [if_pos (memB_iff.2 h)] at hzz; omega
  rw [if_neg (fun h => hx (memB_iff.1 h))] at hzz
  have hs3 : s.size ≤ 300 := by
    by_cases h : 6 ≤ vs.length ∨ 300 < s.size
    · rw [if_pos h] at hzz; omega
    · omega
  have hmx : nm.size ≤ maxLen := by unfold maxLen; omega
  have Hc := hide (checkNewView_any eb vb n vs nm s W hc hV hn hs hl)
  rw [hz] at Hc
  have hA : regA (judgeL st) vs nm s o = match readP s with
      | .error q => (5, (q : Int))
      | .ok (hs, ats) => match firstBad (judgeL st hs ats) with
        | some (p, c) => (c, (p : Int))
        | none => if o.size = 0 ∨ ordB (lettersQ (ats.map AtomP.q)) (bytesO o) = true then (0, 0) else (8, 0) := by
    unfold regA
    rw [if_neg (by simp [hz])]
  obtain ⟨A, hAA⟩ : ∃ A, A = regA (judgeL st) vs nm s o := ⟨_, rfl⟩
  rw [← hAA] at hA ⊢
  have hgrow : ∀ w', Below W.heap.size W w' → A.1 ≠ 0 → VRep w' vb (n + 1) (regS vs nm A.1) ∧ W.grownBy w' (some vb) := fun w' hb h0 => by
    unfold regS
    rw [if_neg h0]
    exact ⟨(hV.kept (hb.block vb hvl)).mono (Nat.le_succ _), below_grown hb (some vb)⟩
  obtain ⟨U, hU⟩ : ∃ U : World → World, ∀ W', VRep W' vb n vs → (Instr.mapUpdate 61 (.map (some vb)) (.string nm) (.agg #[])).run Tryz.prog W' = .ok () (U W') ∧ VRep (U W') vb (n + 1) (vs ++ [nm]) ∧ W'.grownBy (U W') (some vb) := by
    have h : ∀ W' : World, ∃ w', VRep W' vb n vs → (Instr.mapUpdate 61 (.map (some vb)) (.string nm) (.agg #[])).run Tryz.prog W' = .ok () w' ∧ VRep w' vb (n + 1) (vs ++ [nm]) ∧ W'.grownBy w' (some vb) := fun W' => by
      by_cases hW : VRep W' vb n vs
      · obtain ⟨w', hr⟩ := hW.put hmx hx (by unfold maxLen; omega)
        exact ⟨w', fun _ => hr⟩
      · exact ⟨W', fun h => absurd h hW⟩
    exact ⟨fun W' => Classical.choose (h W'), fun W' => Classical.choose_spec (h W')⟩
  have hUr : ∀ W', VRep W' vb n vs → (Instr.mapUpdate 61 (.map (some vb)) (.string nm) (.agg #[])).run Tryz.prog W' = .ok () (U W') := fun W' h => (hU W' h).1
  have hebvb : eb ≠ vb := fun e => by
    obtain ⟨es, cl, h1⟩ := hV.blk
    obtain ⟨_, this, _⟩ := hE.eng
    rw [e, h1] at this
    cases this
  have HE := hide hE
  have HV := hide hV
  have HA := hide hA
  have Hgrow := hide hgrow
  have Har := hide har
  have Hg := hide hg
  have HU := hide hU
  clear hE har hV hA hgrow hg hz hzz hAA hU
  go_enter Tryz.func19, Tryz.ntmps19
  go_wp2_with fail
  refine (unhide Hc).mono ?_
  rintro e w1 ⟨rfl, hb1⟩
  have Hb1 := hide hb1
  have Hr := hide (readQuery_any s hs3 w1 ((unhide HE).below hb1) (unhide Har))
  clear hb1 Hc
  go_wp2_with fail
  refine (unhide Hr).mono ?_
  rintro e w2 (⟨q, v, hp, rfl, hErr, hb2⟩ | ⟨hs', ats, QB, hp, hf, rfl, hQ, hb2⟩ | ⟨hs', ats, QB, p, c, v, hp, hf, rfl, hErr, hb2⟩)
  · have hB2 := (unhide Hb1).trans (hb2.mono (unhide Hb1).size)
    have Hf := hide (faultOf_err v w1.heap.size 5 q w2 hErr ((hB2.cell (p := ⟨0, 0, none⟩) (World.block_lt_of_cell? W _ (unhide Hg))).trans (unhide Hg)))
    have HB2 := hide hB2
    have hA := unhide HA
    rw [hp] at hA
    dsimp only at hA
    have HA' := hide hA
    clear hB2 hb2 hErr hp hA HA Hr
    go_wp2_with fail
    refine (unhide Hf).mono ?_
    rintro e w3 ⟨rfl, hb3⟩
    have hB3 := (unhide HB2).trans (hb3.mono (unhide HB2).size)
    have HF := hide ((unhide Hgrow) w3 hB3 (by rw [unhide HA']; show (5 : Int) ≠ 0; decide))
    clear hb3 hB3 Hf Hgrow
    rw [unhide HA'] at HF
    go_wp2
    go_ret2
    rw [unhide HA']
    exact ⟨rfl, (unhide HF).1, (unhide HF).2⟩
  · have hB2 := (unhide Hb1).trans (hb2.mono (unhide Hb1).size)
    have HB2 := hide hB2
    have HQ := hide hQ
    have hok := readP_ok hp
    have hA := unhide HA
    rw [hp] at hA
    dsimp only at hA
    rw [hf] at hA
    dsimp only at hA
    have HA' := hide hA
    have Hok := hide hok
    clear hB2 hb2 hp hA HA Hr hQ hf hok
    go_wp2_with fail
    refine (faultOf_nil w2).mono ?_
    rintro e w3 ⟨rfl, hb3⟩
    have hB3 := (unhide HB2).trans (hb3.mono (unhide HB2).size)
    have hQ3 := (unhide HQ).below hb3
    have Ho := hide (orderFits_any QB o (lettersQ (ats.map AtomP.q)) w3 (unhide Hok).lets.vars (by omega) (fun W' h => bodyLetters_any QB hs' (ats.map AtomP.q) W' (hQ3.below h) (unhide Hok).qry (unhide Hok).lets))
    have HB3 := hide hB3
    clear hb3 hB3 hQ3 HQ HB2
    go_wp2_with fail
    refine (unhide Ho).mono ?_
    rintro e w4 ⟨b, rfl, hbi, hb4⟩
    have hB4 := (unhide HB3).trans (hb4.mono (unhide HB3).size)
    have hbi' : b = true ↔ (o.size = 0 ∨ ordB (lettersQ (ats.map AtomP.q)) (bytesO o) = true) := by rw [hbi, empty_iff, ordB_iff]
    cases b with
    | false =>
      have hA := unhide HA'
      rw [if_neg (fun h => by have := hbi'.2 h; cases this)] at hA
      have HF := hide ((unhide Hgrow) w4 hB4 (by rw [hA]; show (8 : Int) ≠ 0; decide))
      rw [hA] at HF
      have HA9 := hide hA
      clear hb4 hB4 Ho Hgrow hbi hbi' hA HA'
      go_wp2
      go_ret2
      rw [unhide HA9]
      exact ⟨rfl, (unhide HF).1, (unhide HF).2⟩
    | true =>
      have hA := unhide HA'
      rw [if_pos (hbi'.1 rfl)] at hA
      have HA9 := hide hA
      have HB4 := hide hB4
      have hV4 := (unhide HV).kept (hB4.block vb hvl)
      have HV4 := hide hV4
      have d1 : w4.cell? ⟨eb, 1, none⟩ = some (.map (some vb)) := (hB4.cell (p := ⟨eb, 1, none⟩) hel).trans hc
      have hel4 : eb < w4.heap.size := Nat.lt_of_lt_of_le hel hB4.size
      have hvl4 : vb < w4.heap.size := Nat.lt_of_lt_of_le hvl hB4.size
      clear hb4 hB4 Ho Hgrow hbi hbi' hA HA' hV4 hc
      go_wp2
      go_region_held3 (fun W' => W'.cell? ⟨eb, 1, none⟩ = some (.map (some vb)))
        (first
          | go_keep
          | (rw [hb5.cell (by simpa using hel4)]; assumption)
          | (rw [World.cell?_of_block (((unhide HU) w5 hV5).2.2.block eb (Nat.lt_of_lt_of_le hel4 hb5.size) (by simpa using hebvb))]; assumption))
        (first
          | (go_at_call 29; refine (clone_any nm _ (by omega)).mono ?_; rintro e w5 ⟨rfl, hb5⟩; have hV5 : VRep w5 vb n vs := (unhide HV4).kept (hb5.block vb hvl4)))
      obtain ⟨_, hV6, hg6⟩ := (unhide HU) w5 hV5
      have HV6 := hide hV6
      have hs5 : w4.heap.size ≤ w5.heap.size := hb5.size
      have HG : Hid (W.grownBy (U w5) (some vb)) := by
        have hb := unhide HB4
        exact ⟨hg6.os.trans (hb5.os.trans hb.os), hg6.tape.trans (hb5.tape.trans hb.tape), hg6.output.trans (hb5.output.trans hb.output), Nat.le_trans hb.size (Nat.le_trans hs5 hg6.size), fun k hk hne => (hg6.block k (by have := hb.size; omega) hne).trans ((hb5.block k (by have := hb.size; show k < w4.heap.size; omega)).trans (hb.block k hk))⟩
      clear hV6 hg6 hb5 hV5
      go_wp2
      go_ret2
      rw [unhide HA9]
      exact ⟨rfl, by unfold regS; rw [if_pos rfl]; exact unhide HV6, unhide HG⟩
  · have hB2 := (unhide Hb1).trans (hb2.mono (unhide Hb1).size)
    have Hf := hide (faultOf_err v w1.heap.size c p w2 hErr ((hB2.cell (p := ⟨0, 0, none⟩) (World.block_lt_of_cell? W _ (unhide Hg))).trans (unhide Hg)))
    have HB2 := hide hB2
    have hA := unhide HA
    rw [hp] at hA
    dsimp only at hA
    rw [hf] at hA
    dsimp only at hA
    have hcz := firstBad_ne hf
    have HA' := hide hA
    clear hB2 hb2 hErr hp hA HA Hr hf
    go_wp2_with fail
    refine (unhide Hf).mono ?_
    rintro e w3 ⟨rfl, hb3⟩
    have hB3 := (unhide HB2).trans (hb3.mono (unhide HB2).size)
    have HF := hide ((unhide Hgrow) w3 hB3 (by rw [unhide HA']; exact hcz))
    clear hb3 hB3 Hf Hgrow
    rw [unhide HA'] at HF
    go_wp2
    go_ret2
    rw [unhide HA']
    exact ⟨rfl, (unhide HF).1, (unhide HF).2⟩

set_option maxRecDepth 100000 in
set_option maxHeartbeats 8000000 in
theorem register_any (eb vb n : Nat) (vs : List ByteArray) (nm s o : ByteArray) (W : World) {db nD S E : Nat} {st : St} (hE : EngRep W eb db nD S E st) (har : ∀ nm R, st nm = some R → R.ar ≤ 1000) (hc : W.cell? ⟨eb, 1, none⟩ = some (.map (some vb))) (hV : VRep W vb n vs) (hg : W.cell? ⟨0, 0, none⟩ = some (.iface 215 (.agg #[.pointer (some ⟨5, 96, none⟩)])))
    (hn : nm.size ≤ 10000000) (hs : s.size ≤ 10000000) (ho : o.size ≤ 10000000) (hl : vs.length ≤ 1000) (hN : n ≤ 1000000000) :
    Calls Tryz.prog 19 #[.pointer (some ⟨eb, 0, none⟩), .string nm, .string s, .string o] W fun e w' => e = .returned (.tuple #[.int .i64 (regA (judgeL st) vs nm s o).1, .int .i64 (regA (judgeL st) vs nm s o).2]) ∧ VRep w' vb (n + 1) (regS vs nm (regA (judgeL st) vs nm s o).1) ∧ W.grownBy w' (some vb) := by
  by_cases hz : newViewC vs nm s = 0
  · exact register_new eb vb n vs nm s o W hE har hc hV hg hn hs ho hl hN hz
  · have hA : regA (judgeL st) vs nm s o = (newViewC vs nm s, 0) := by unfold regA; rw [if_pos hz]
    rw [hA]
    have Hc := hide (checkNewView_any eb vb n vs nm s W hc hV hn hs hl)
    have hvl := hV.lt
    have HV := hide hV
    generalize newViewC vs nm s = c at *
    clear hE har hV hg hA
    go_enter Tryz.func19, Tryz.ntmps19
    go_wp2_with fail
    refine (unhide Hc).mono ?_
    rintro e w1 ⟨rfl, hb1⟩
    have Hb1 := hide hb1
    clear hb1 Hc
    go_wp2
    go_ret2
    exact ⟨rfl, by unfold regS; rw [if_neg hz]; exact ((unhide HV).kept ((unhide Hb1).block vb hvl)).mono (Nat.le_succ _), below_grown (unhide Hb1) (some vb)⟩

end Go.Proofs.YtgddkjhknlgbbaaGreatDoor

namespace Go.Proofs.YtgddkjhknlgbbaaGreatDoor
set_option linter.unusedVariables false
set_option linter.unusedSimpArgs false
open Go.RowKit Go.Maps Go.Sort Go.Shelf

theorem varsR_mem (B : List AtomQ) (x : Nat) : x ∈ varsR B ↔ x ∈ lettersQ B := by
  unfold varsR lettersQ
  rw [dedF_mem]
  constructor
  · rintro (h | ⟨h0, h⟩)
    · cases h
    · obtain ⟨a, ha, hx⟩ := List.mem_flatMap.1 h
      exact List.mem_flatMap.2 ⟨a, ha, List.mem_filter.2 ⟨hx, by simp [h0]⟩⟩
  · intro h
    obtain ⟨a, ha, hx⟩ := List.mem_flatMap.1 h
    obtain ⟨hx, h0⟩ := List.mem_filter.1 hx
    exact .inr ⟨by simpa using h0, List.mem_flatMap.2 ⟨a, ha, hx⟩⟩
theorem varsR_nodup (B : List AtomQ) : (varsR B).Nodup := dedF_nodup _ _ (by simp)

/-- What of a body a judgement looks at. -/
def likeB (B : List AtomQ) : List (ByteArray × Nat × List Nat) := B.map fun a => (a.nm, a.pl, a.ts.map (·.1))
theorem lettersQ_like (B : List AtomQ) : lettersQ B = (likeB B).flatMap fun x => x.2.2.filter fun y => decide (y ≠ 0) := by
  unfold lettersQ likeB letsT
  rw [List.flatMap_map]
theorem bodyJ_like (st : St) (B : List AtomQ) : bodyJ st B = (likeB B).map fun x => (x.2.1, atomE st x.1 x.2.2.length) := by
  unfold bodyJ likeB
  rw [List.map_map]
  refine List.map_congr_left fun a _ => ?_
  simp
theorem bodyJR_like (rs : List RRel) (B : List AtomQ) : bodyJR rs B = (likeB B).map fun x => (x.2.1, atomRZ rs x.1 x.2.2.length) := by
  unfold bodyJR likeB
  rw [List.map_map]
  refine List.map_congr_left fun a _ => ?_
  simp

theorem mask_eq {l l' : List Nat} (h1 : ∀ x ∈ l, 65 ≤ x) (h2 : ∀ x ∈ l', 65 ≤ x) : maskL l = maskL l' ↔ ∀ x, x ∈ l ↔ x ∈ l' := by
  constructor
  · intro h x
    by_cases hx : 65 ≤ x
    · have e1 := maskL_test h1 hx
      have e2 := maskL_test h2 hx
      rw [h, e2] at e1
      constructor
      · intro hm
        rw [decide_eq_true hm] at e1
        exact of_decide_eq_true e1
      · intro hm
        rw [decide_eq_true hm] at e1
        exact of_decide_eq_true e1.symm
    · exact ⟨fun hm => absurd (h1 x hm) hx, fun hm => absurd (h2 x hm) hx⟩
  · intro h
    refine Nat.eq_of_testBit_eq fun i => ?_
    have e1 := maskL_test h1 (x := i + 65) (by omega)
    have e2 := maskL_test h2 (x := i + 65) (by omega)
    rw [Nat.add_sub_cancel] at e1 e2
    rw [e1, e2]
    exact decide_eq_decide.2 (h _)

theorem perm_of_sub : ∀ (l m : List Nat), l.Nodup → (∀ x ∈ l, x ∈ m) → m.length ≤ l.length → l.Perm m
  | [], m, _, _, h => by
    have : m = [] := List.eq_nil_of_length_eq_zero (Nat.le_zero.1 h)
    rw [this]
  | a :: l, m, hn, hs, h => by
    rw [List.nodup_cons] at hn
    have ha : a ∈ m := hs a (by simp)
    have hl := List.length_erase_of_mem ha
    have ih := perm_of_sub l (m.erase a) hn.2 (fun x hx => (List.mem_erase_of_ne (show x ≠ a from fun e => hn.1 (e ▸ hx))).2 (hs x (by simp [hx]))) (by rw [hl]; simp only [List.length_cons] at h; omega)
    exact (ih.cons a).trans (List.perm_cons_erase ha).symm

theorem iso_ord {B : List AtomQ} (hL : LetB B) (l : List Nat) : isoB (varsR B) l = ordB (lettersQ B) l := by
  rw [Bool.eq_iff_iff, isoB_iff, ordB_iff]
  have hv := hL.vars
  have hnd := varsR_nodup B
  constructor
  · rintro ⟨h1, h2, h3⟩
    have hb : ∀ x ∈ l, 65 ≤ x ∧ x ≤ 90 := fun x hx => hv x ((varsR_mem B x).1 (h2 x hx))
    refine ⟨hb, h3, (mask_eq (fun x hx => (hb x hx).1) (fun x hx => (hv x hx).1)).2 fun x => ?_⟩
    have hp : l.Perm (varsR B) := perm_of_sub l _ h3 h2 (by omega)
    rw [hp.mem_iff, varsR_mem]
  · rintro ⟨h1, h2, h3⟩
    have hm := (mask_eq (fun x hx => (h1 x hx).1) (fun x hx => (hv x hx).1)).1 h3
    have hp : l.Perm (varsR B) := (List.perm_ext_iff_of_nodup h2 hnd).2 fun x => by rw [hm, varsR_mem]
    exact ⟨hp.length_eq, fun x hx => hp.mem_iff.1 hx, h2⟩

theorem regA_bad {J : List (Nat × Nat) → List AtomP → List (Nat × Int)} {vs : List ByteArray} {nm s o : ByteArray} (hz : newViewC vs nm s = 0) (hq : qAcc (bytesL s) = false) : regA J vs nm s o = (5, ((qFar (Sum.inl (false, false)) (bytesL s) : Nat) : Int)) := by
  have hr := read_q s
  unfold regA
  rw [if_neg (by simpa using hz)]
  revert hr
  cases readP s with
  | error q => intro hr; dsimp only; rw [hr.1]
  | ok r =>
    obtain ⟨hs, ats⟩ := r
    intro hr
    rw [hr.1] at hq
    cases hq
theorem regA_short {J : List (Nat × Nat) → List AtomP → List (Nat × Int)} {vs : List ByteArray} {nm s o : ByteArray} (hz : newViewC vs nm s ≠ 0) : regA J vs nm s o = (newViewC vs nm s, 0) := by
  unfold regA
  rw [if_pos hz]

/-- What the reference goes on from. -/
structure RefQ (rs : List RRel) (st : St) (vs : List ByteArray) (nm s o : ByteArray) (hl pl : List Nat) (B : List AtomQ) (H : List (Nat × Nat)) : Prop where
  eh : hl = H.map (·.1)
  ep : pl = H.map (·.2)
  h4 : H.length ≤ 4
  b4 : B.length ≤ 4
  t3 : ∀ a ∈ B, a.ts.length ≤ 3
  nms : ∀ a ∈ B, a.nm.size ≤ 1000
  ans : regA (judgeL st) vs nm s o = match firstBad (headJ (varsR B) H ++ bodyJR rs B) with
    | some (p, c) => (c, (p : Int))
    | none => if o.size = 0 ∨ isoB (varsR B) (bytesO o) = true then (0, 0) else (8, 0)
  rise : (headJ (varsR B) H ++ bodyJR rs B).Pairwise fun a b => a.1 < b.1
  low : ∀ x ∈ headJ (varsR B) H ++ bodyJR rs B, x.1 < s.size

theorem refQ_of {rs : List RRel} {st : St} {vs : List ByteArray} {nm s o : ByteArray} {l : List Tok} {hl pl : List Nat} {Bp : List AtomP} (hs : s.size ≤ 1000) (hz : newViewC vs nm s = 0) (hst : ∀ nm n, atomRZ rs nm n = atomE st nm n) (hq : qAcc (bytesL s) = true) (ht : qToks 0 (bytesL s) = some l) (eh : hl = (queryZ l).head.map (fun x => x.1.toNat)) (ep : pl = (queryZ l).head.map (·.2)) (eB : Bp.map (fun a : AtomP => (a.nm, a.pl, a.ts.map (·.1))) = (queryZ l).body.map (fun z => ((⟨z.nm.toArray⟩ : ByteArray), z.i, z.terms.map fun t => t.1.toNat))) :
    ∃ H, RefQ rs st vs nm s o hl pl (Bp.map AtomP.q) H := by
  have hr := read_q s
  cases e : readP s with
  | error q =>
    rw [e] at hr
    have hr : Bad (bytesL s) q := hr
    rw [hr.2] at hq
    cases hq
  | ok r =>
    obtain ⟨hs9, ats⟩ := r
    rw [e] at hr
    obtain ⟨_, l', ht', eH, eA⟩ := hr
    rw [ht] at ht'
    cases ht'
    have hO := readP_ok e
    have hlk : likeB (Bp.map AtomP.q) = likeB (ats.map AtomP.q) := by
      unfold likeB
      rw [List.map_map, List.map_map, eA, List.map_map]
      refine Eq.trans ?_ (eB.trans ?_)
      · rfl
      · refine List.map_congr_left fun z _ => ?_
        simp [atomN, AtomP.q, Function.comp_def]
    have hlq : lettersQ (Bp.map AtomP.q) = lettersQ (ats.map AtomP.q) := by rw [lettersQ_like, hlk, ← lettersQ_like]
    have hLB : LetB (ats.map AtomP.q) := fun a ha t ht => by
      obtain ⟨b, hb, rfl⟩ := List.mem_map.1 ha
      exact (hO.at_ b hb).2.2 t ht
    have hLB2 : LetB (Bp.map AtomP.q) := fun a ha t ht => by
      have h1 : (a.nm, a.pl, a.ts.map (·.1)) ∈ likeB (Bp.map AtomP.q) := List.mem_map.2 ⟨a, ha, rfl⟩
      rw [hlk] at h1
      obtain ⟨b, hb, hbe⟩ := List.mem_map.1 h1
      have h2 : t.1 ∈ a.ts.map (·.1) := List.mem_map_of_mem ht
      simp only [Prod.mk.injEq] at hbe
      rw [← hbe.2.2] at h2
      obtain ⟨t', ht', e'⟩ := List.mem_map.1 h2
      rw [← e']
      exact hLB b hb t' ht'
    have hJ : headJ (varsR (Bp.map AtomP.q)) hs9 ++ bodyJR rs (Bp.map AtomP.q) = judgeL st hs9 ats := by
      unfold judgeL
      congr 1
      · unfold headJ
        refine List.map_congr_left fun x _ => ?_
        have : (x.1 ∈ varsR (Bp.map AtomP.q)) = (x.1 ∈ lettersQ (ats.map AtomP.q)) := by rw [varsR_mem, hlq]
        simp only [this]
      · rw [bodyJR_like, bodyJ_like, hlk]
        refine List.map_congr_left fun x _ => ?_
        rw [hst]
    have hpl : (judgeL st hs9 ats).map (·.1) = (queryZ l).head.map (·.2) ++ (queryZ l).body.map (·.i) := by
      unfold judgeL headJ bodyJ
      rw [List.map_append]
      congr 1
      · rw [List.map_map, eH, List.map_map]; rfl
      · rw [List.map_map, List.map_map, eA, List.map_map]; rfl
    obtain ⟨r1, r2⟩ := query_rise ht
    rw [← hpl] at r1 r2
    have hrise : (judgeL st hs9 ats).Pairwise fun a b => a.1 < b.1 := List.pairwise_map.1 r1
    have hlow : ∀ x ∈ judgeL st hs9 ats, x.1 < s.size := fun x hx => by
      have := r2 x.1 (List.mem_map_of_mem hx)
      rw [bytesL_len] at this
      exact this
    have hB4 : (Bp.map AtomP.q).length ≤ 4 := by
      have := congrArg List.length hlk
      simp only [likeB, List.length_map] at this
      have := hO.b4
      simp only [List.length_map]
      omega
    have hmem : ∀ a ∈ Bp.map AtomP.q, ∃ b ∈ ats, a.nm = b.nm ∧ a.ts.length = b.ts.length := fun a ha => by
      have h1 : (a.nm, a.pl, a.ts.map (·.1)) ∈ likeB (Bp.map AtomP.q) := List.mem_map.2 ⟨a, ha, rfl⟩
      rw [hlk] at h1
      obtain ⟨b, hb, hbe⟩ := List.mem_map.1 h1
      obtain ⟨b', hb', rfl⟩ := List.mem_map.1 hb
      simp only [Prod.mk.injEq] at hbe
      exact ⟨b', hb', hbe.1.symm, by have := congrArg List.length hbe.2.2; simpa [AtomP.q] using this.symm⟩
    refine ⟨hs9, ?_, ?_, hO.h4, hB4, fun a ha => ?_, fun a ha => ?_, ?_, ?_, ?_⟩
    · rw [eh, eH, List.map_map]; rfl
    · rw [ep, eH, List.map_map]; rfl
    · obtain ⟨b, hb, _, h2⟩ := hmem a ha
      have := (hO.at_ b hb).2.1
      omega
    · obtain ⟨b, hb, h1, _⟩ := hmem a ha
      have := (hO.at_ b hb).1
      rw [h1]
      omega
    · rw [hJ]
      unfold regA
      rw [if_neg (by simpa using hz), e]
      dsimp only
      rw [iso_ord hLB2, hlq]
      all_goals (rcases firstBad (judgeL st hs9 ats) with _ | ⟨p, c⟩ <;> rfl)
    · rw [hJ]; exact hrise
    · rw [hJ]; exact hlow

end Go.Proofs.YtgddkjhknlgbbaaGreatDoor

namespace Go.Proofs.YtgddkjhknlgbbaaGreatDoor
set_option linter.unusedVariables false
set_option linter.unusedSimpArgs false
open Go.RowKit Go.Maps Go.Sort Go.Shelf

theorem apAnyAt {w2 : World} {base n : Nat} {v : Value} {xs : List Value} (cs : Array Value) (t e : TypeId) {size bytes : Nat} {z : Value} (hu : Tryz.prog.underlying t = some (.slice e)) (hinfo : (Tryz.prog.info? e).map (fun i => (i.zero, i.size, i.bytes)) = some (some z, size, bytes)) (hzs : z.cells.size = size) (hsz : 0 < size) (hcs : cs.size = size) (h1 : ∀ u ∈ cs.toList, u.oneCell' = true)
    (hrow : w2.ownsRow base e size v n xs) (hb : base ≤ w2.heap.size) (hl : n ≤ 1000000) (hby : bytes ≤ 1000000) :
    ∃ g' cap' w3, (apSem #[t, t] t #[v, .slice (some ⟨w2.heap.size, 0, none⟩) 1 1]).run Tryz.prog (w2.alloc (.cells cs e)) = .ok (.slice (some ⟨g', 0, none⟩) (n + 1) cap') w3 ∧
      w3.ownsRow base e size (.slice (some ⟨g', 0, none⟩) (n + 1) cap') (n + 1) (xs ++ cs.toList) ∧ (w2.alloc (.cells cs e)).grownBy w3 v.ownBlock ∧ (v.ownBlock = some g' ∨ w2.heap.size ≤ g') := by
  obtain ⟨i, hi, hz0, hz1, hz2⟩ := info_parts hinfo
  obtain ⟨v', w', hr, h2, h3, _, h5⟩ := run_append_own_at (P := Tryz.prog) (w2.alloc (.cells cs e)) base t t e i _ size bytes hu hi hz0 hz1 hz2 hzs hsz v n xs (hrow.alloc _) ⟨w2.heap.size, 0, none⟩ 1 1 cs.toList (by simp [hcs]) (cellsN_new w2 cs e) h1 (by unfold maxLen; omega) (Nat.le_trans (Nat.mul_le_mul (show n + 1 ≤ 1000001 by omega) hby) (by omega)) (by simp; omega)
  obtain ⟨g', cap', rfl⟩ := own_succ h2
  refine ⟨g', cap', w', hr, h2, h3, ?_⟩
  rcases h5 with h | h
  · exact .inl h.symm
  · right
    have : g' = (w2.alloc (.cells cs e)).heap.size := by simpa [Value.ownBlock] using h
    rw [this]; simp

theorem newView_zero {vs : List ByteArray} {nm s : ByteArray} (h : newViewC vs nm s = 0) : nameB nm = true ∧ nm ∉ vs ∧ vs.length < 6 ∧ s.size ≤ 300 := by
  unfold newViewC at h
  have h1 : nameB nm = true := by
    by_cases h' : nameB nm = false
    · rw [if_pos h'] at h; omega
    · simpa using h'
  rw [if_neg (by simp [h1])] at h
  have hx : nm ∉ vs := fun h' => by rw [if_pos (memB_iff.2 h')] at h; omega
  rw [if_neg (fun h' => hx (memB_iff.1 h'))] at h
  by_cases h' : 6 ≤ vs.length ∨ 300 < s.size
  · rw [if_pos h'] at h; omega
  · exact ⟨h1, hx, by omega, by omega⟩
theorem placeV_none {nm : ByteArray} {ws : List VRow} (hx : nm ∉ ws.map (·.nm)) : placeV ws nm 0 = -1 := by
  rcases placeV_cases nm ws 0 (Int.le_refl _) with ⟨h, _⟩ | ⟨k, hk, _, h, _⟩
  · exact h
  · exact absurd (List.mem_map.2 ⟨_, List.getElem_mem hk, h⟩) hx
theorem placeV_some {nm : ByteArray} {ws : List VRow} (hx : nm ∈ ws.map (·.nm)) : ∃ k : Nat, ∃ hk : k < ws.length, placeV ws nm 0 = k ∧ ws[k].nm = nm := by
  rcases placeV_cases nm ws 0 (Int.le_refl _) with ⟨_, h⟩ | ⟨k, hk, h1, h, _⟩
  · exact absurd hx h
  · exact ⟨k, hk, by rw [h1]; omega, h⟩

set_option maxRecDepth 100000 in
set_option maxHeartbeats 2000000 in
theorem refReg_short (fb : Nat) (vw : Value) (ws : List VRow) (nm s o : ByteArray) (W : World) (c1 : W.cell? ⟨fb, 1, none⟩ = some vw) (hV : ViewsAt W vw ws) (hl : ws.length ≤ 1000) (hn : nm.size ≤ 10000000) (hs : s.size ≤ 10000000) (hz : newViewC (ws.map (·.nm)) nm s ≠ 0) :
    Calls Tryz.prog 20 #[.pointer (some ⟨fb, 0, none⟩), .string nm, .string s, .string o] W fun e w' => e = .returned (.tuple #[.int .i64 (newViewC (ws.map (·.nm)) nm s), .int .i64 0]) ∧ w' = W := by
  have H1 := hide (refName_any nm W (by omega))
  have H2 := hide (view_any fb vw ws nm W c1 hV (by omega))
  obtain ⟨a, cap, rfl, _⟩ := hV
  obtain ⟨z, hzz⟩ : ∃ z, z = newViewC (ws.map (·.nm)) nm s := ⟨_, rfl⟩
  rw [← hzz]
  unfold newViewC at hzz hz
  cases h1 : nameB nm with
  | false =>
    rw [h1] at H1 hzz
    rw [if_pos rfl] at hzz
    subst hzz
    clear hz h1
    go_enter Tryz.func20, Tryz.ntmps20
    go_wp2_with fail
    refine (unhide H1).mono ?_
    rintro e w1 ⟨rfl, hw1⟩
    replace hw1 := hw1.symm
    subst hw1
    go_wp2_with fail
    refine (unhide H2).mono ?_
    rintro e w1 ⟨rfl, hw1⟩
    replace hw1 := hw1.symm
    subst hw1
    go_wp2
    go_ret2
    exact ⟨rfl, rfl⟩
  | true =>
    rw [h1] at H1 hzz hz
    rw [if_neg (by simp)] at hzz hz
    by_cases hx : nm ∈ ws.map (·.nm)
    · rw [if_pos (memB_iff.2 hx)] at hzz
      obtain ⟨k, hk, hp, _⟩ := placeV_some hx
      rw [hp] at H2
      subst hzz
      clear hz h1 hx hp
      have hk0 : (0 : Int) ≤ (k : Int) := by omega
      go_enter Tryz.func20, Tryz.ntmps20
      go_wp2_with fail
      refine (unhide H1).mono ?_
      rintro e w1 ⟨rfl, hw1⟩
      replace hw1 := hw1.symm
      subst hw1
      go_wp2_with fail
      refine (unhide H2).mono ?_
      rintro e w1 ⟨rfl, hw1⟩
      replace hw1 := hw1.symm
      subst hw1
      go_wp2
      go_ret2
      exact ⟨rfl, rfl⟩
    · rw [if_neg (fun h => hx (memB_iff.1 h))] at hzz hz
      rw [placeV_none hx] at H2
      rw [List.length_map] at hzz hz
      by_cases h6 : 6 ≤ ws.length
      · rw [if_pos (.inl h6)] at hzz
        subst hzz
        have h6' : (6 : Int) ≤ (ws.length : Int) := by omega
        clear hz h1 hx h6
        go_enter Tryz.func20, Tryz.ntmps20
        go_wp2_with fail
        refine (unhide H1).mono ?_
        rintro e w1 ⟨rfl, hw1⟩
        replace hw1 := hw1.symm
        subst hw1
        go_wp2_with fail
        refine (unhide H2).mono ?_
        rintro e w1 ⟨rfl, hw1⟩
        replace hw1 := hw1.symm
        subst hw1
        go_wp2
        go_ret2
        exact ⟨rfl, rfl⟩
      · have h3 : 300 < s.size := by
          by_cases h3 : 300 < s.size
          · exact h3
          · rw [if_neg (by omega)] at hz; exact absurd rfl hz
        rw [if_pos (.inr h3)] at hzz
        subst hzz
        have h6' : ¬ (6 : Int) ≤ (ws.length : Int) := by omega
        have h3' : (300 : Int) < (s.size : Int) := by omega
        clear hz h1 hx h6 h3
        go_enter Tryz.func20, Tryz.ntmps20
        go_wp2_with fail
        refine (unhide H1).mono ?_
        rintro e w1 ⟨rfl, hw1⟩
        replace hw1 := hw1.symm
        subst hw1
        go_wp2_with fail
        refine (unhide H2).mono ?_
        rintro e w1 ⟨rfl, hw1⟩
        replace hw1 := hw1.symm
        subst hw1
        go_wp2
        go_ret2
        exact ⟨rfl, rfl⟩

set_option maxRecDepth 100000 in
set_option maxHeartbeats 2000000 in
theorem refReg_bad (fb : Nat) (vw : Value) (ws : List VRow) (nm s o : ByteArray) (W : World) (c1 : W.cell? ⟨fb, 1, none⟩ = some vw) (hV : ViewsAt W vw ws) (hE : EndsAt W) (hz : newViewC (ws.map (·.nm)) nm s = 0) (hq : qAcc (bytesL s) = false) :
    Calls Tryz.prog 20 #[.pointer (some ⟨fb, 0, none⟩), .string nm, .string s, .string o] W fun e w' => e = .returned (.tuple #[.int .i64 5, .int .i64 ((qFar (Sum.inl (false, false)) (bytesL s) : Nat) : Int)]) ∧ Below W.heap.size W w' := by
  obtain ⟨h1, hx, h6, h3⟩ := newView_zero hz
  rw [List.length_map] at h6
  have h8 := nameB_size h1
  have H1 := hide (refName_any nm W (by omega))
  have H2 := hide (view_any fb vw ws nm W c1 hV (by omega))
  rw [placeV_none hx] at H2
  rw [h1] at H1
  obtain ⟨a, cap, rfl, _⟩ := hV
  have H3 := hide (whole_any s (by omega) W)
  have Hq := hide hq
  have h6' : ¬ (6 : Int) ≤ (ws.length : Int) := by omega
  have h3' : ¬ (300 : Int) < (s.size : Int) := by omega
  have HE := hide hE
  obtain ⟨f, hf⟩ : ∃ f : Nat, f = qFar (Sum.inl (false, false)) (bytesL s) := ⟨_, rfl⟩
  rw [← hf]
  have Hf := hide hf
  clear hz hx h1 hq hE hf h6
  go_enter Tryz.func20, Tryz.ntmps20
  go_wp2_with fail
  refine (unhide H1).mono ?_
  rintro e w1 ⟨rfl, hw1⟩
  replace hw1 := hw1.symm
  subst hw1
  go_wp2_with fail
  refine (unhide H2).mono ?_
  rintro e w1 ⟨rfl, hw1⟩
  replace hw1 := hw1.symm
  subst hw1
  go_wp2_with fail
  refine (unhide H3).mono ?_
  rintro e w2 ⟨ha, hn, hc, pa, pn, pc, ba, bn, bc, rfl, hb2, _⟩
  rw [unhide Hq]
  have hb3 := hb2.alloc hb2.size (.cells #[.slice ha hn hc, .slice pa pn pc, .slice ba bn bc] 105)
  have H4 := hide (wrong_any s (by omega) (w2.alloc (.cells #[.slice ha hn hc, .slice pa pn pc, .slice ba bn bc] 105)) ((unhide HE).below hb3))
  rw [← unhide Hf] at H4
  have Hb3 := hide hb3
  clear hb2 hb3 H1 H2 H3
  go_wp2_with fail
  refine (unhide H4).mono ?_
  rintro e w4 ⟨rfl, hb4⟩
  have Hb4 := hide ((unhide Hb3).trans (hb4.mono (unhide Hb3).size))
  clear hb4 H4
  go_wp2
  go_ret2
  exact ⟨rfl, unhide Hb4⟩

end Go.Proofs.YtgddkjhknlgbbaaGreatDoor
