import Derived.Test.YtgddkjhknlgbbaaGreatDoorM13
set_option linter.unusedVariables false
set_option linter.unusedSimpArgs false

namespace Go.Proofs.YtgddkjhknlgbbaaGreatDoor
set_option linter.unusedVariables false
set_option linter.unusedSimpArgs false
open Go.RowKit Go.Maps

/-- The reference's order of lists of numbers. -/
def lessZ : List Int → List Int → Bool
  | [], [] => false
  | [], _ :: _ => true
  | _ :: _, [] => false
  | x :: xs, y :: ys => if x = y then lessZ xs ys else decide (x < y)

theorem lessZ_step {a b : List Int} {k : Nat} (h : lessZ a b = lessZ (a.drop k) (b.drop k)) (h1 : k < a.length) (h2 : k < b.length) (x y : Int) (hx : x = a[k]?.getD 0) (hy : y = b[k]?.getD 0) :
    (x = y → lessZ a b = lessZ (a.drop (k + 1)) (b.drop (k + 1))) ∧ (x ≠ y → lessZ a b = decide (x < y)) := by
  have hx' : x = a[k] := by rw [hx]; simp [h1]
  have hy' : y = b[k] := by rw [hy]; simp [h2]
  rw [h, List.drop_eq_getElem_cons h1, List.drop_eq_getElem_cons h2, ← hx', ← hy']
  simp only [lessZ]
  exact ⟨fun e => by rw [if_pos e], fun e => by rw [if_neg e]⟩

theorem lessZ_end {a b : List Int} {k : Nat} (h : lessZ a b = lessZ (a.drop k) (b.drop k)) (h1 : k ≤ a.length) (h2 : k ≤ b.length) (h3 : ¬ (k < a.length ∧ k < b.length)) : lessZ a b = decide (a.length < b.length) := by
  rw [h]
  by_cases ha : k < a.length
  · have hb : b.drop k = [] := List.drop_eq_nil_of_le (by omega)
    rw [hb, List.drop_eq_getElem_cons ha]
    simp [lessZ]
    omega
  · have ha' : a.drop k = [] := List.drop_eq_nil_of_le (by omega)
    rw [ha']
    by_cases hb : k < b.length
    · rw [List.drop_eq_getElem_cons hb]
      simp [lessZ]
      omega
    · rw [List.drop_eq_nil_of_le (by omega)]
      simp [lessZ]
      omega

set_option maxRecDepth 100000 in
set_option maxHeartbeats 1000000 in
theorem less_any (v u : Value) (a b : List Int) (w : World) (hv : IntsAt w v a) (hu : IntsAt w u b) (hl : a.length ≤ 1000000000000) (hl2 : b.length ≤ 1000000000000) :
    Calls Tryz.prog 69 #[v, u] w fun e w' => e = .returned (.bool (lessZ a b)) ∧ Drawn w w' := by
  obtain ⟨p, cap, rfl, hc⟩ := hv
  obtain ⟨p2, cap2, rfl, hc2⟩ := hu
  have Hc := hide hc
  have Hc2 := hide hc2
  clear hc hc2
  go_enter Tryz.func69, Tryz.ntmps69
  go_wp2
  go_loopw [5] (fun i wr => ∃ k : Nat, k ≤ a.length ∧ k ≤ b.length ∧ i = .int .i64 k ∧ lessZ a b = lessZ (a.drop k) (b.drop k) ∧ Drawn w wr) (fun i _ => a.length - (intOf i).toNat)
  case atStart => exact ⟨0, Nat.zero_le _, Nat.zero_le _, rfl, by simp, Drawn.refl _⟩
  case round =>
    obtain ⟨k, hk, hk2, rfl, hle, hdr⟩ := hrel
    have Hdr := hide hdr
    clear hdr
    by_cases hlt : k < a.length ∧ k < b.length
    · obtain ⟨h1, h2⟩ := hlt
      have hx1 : (k : Int) < (a.length : Int) := by omega
      have hx2 : (k : Int) < (b.length : Int) := by omega
      obtain ⟨g, o, rfl, d1⟩ := (unhide Hc) k h1
      obtain ⟨g2, o2, rfl, d2⟩ := (unhide Hc2) k h2
      obtain ⟨x, hx⟩ : ∃ x, x = a[k]?.getD 0 := ⟨_, rfl⟩
      obtain ⟨y, hy⟩ : ∃ y, y = b[k]?.getD 0 := ⟨_, rfl⟩
      have hst := lessZ_step hle h1 h2 x y hx hy
      rw [← hx, ← (unhide Hdr).cell] at d1
      rw [← hy, ← (unhide Hdr).cell] at d2
      have Hst := hide hst
      clear hle hst hx hy
      by_cases heq : x = y
      · have hd : (x != y) = false := by simp [heq]
        have Hv := hide ((unhide Hst).1 heq)
        clear heq Hst
        go_wp2
        go_quiet (fail)
        go_wp2
        go_roundw
        case rel => exact ⟨k + 1, by omega, by omega, by go_num, unhide Hv, (unhide Hdr).thenN _⟩
        case measure => simp [intOf]; omega
      · have hd : (x != y) = true := by simp [heq]
        have Hv := hide ((unhide Hst).2 heq)
        clear heq Hst
        go_wp2
        go_quiet (fail)
        go_wp2_with fail
        generalize hW : World.drewN _ _ = W9
        have Hd9 : Hid (Drawn w W9) := by rw [← hW]; exact (unhide Hdr).thenN _
        have d1' : W9.cell? ⟨g, o + k, none⟩ = some (.int .i64 x) := by rw [← hW]; exact d1
        have d2' : W9.cell? ⟨g2, o2 + k, none⟩ = some (.int .i64 y) := by rw [← hW]; exact d2
        clear hW
        go_quiet (fail)
        go_wp2
        go_ret
        exact ⟨congrArg (fun t => Ending.returned (.bool t)) (unhide Hv).symm, (unhide Hd9).thenN _⟩
    · have Hv := hide (lessZ_end hle hk hk2 hlt)
      have hcond : ¬ (k : Int) < (a.length : Int) ∨ ((k : Int) < (a.length : Int) ∧ ¬ (k : Int) < (b.length : Int)) := by omega
      clear hle hlt
      rcases hcond with hx | ⟨hx, hx2⟩
      all_goals
        go_wp2
        go_ret
        exact ⟨by rw [unhide Hv]; simp, unhide Hdr⟩

end Go.Proofs.YtgddkjhknlgbbaaGreatDoor

namespace Go.Proofs.YtgddkjhknlgbbaaGreatDoor
set_option linter.unusedVariables false
set_option linter.unusedSimpArgs false
open Go.RowKit Go.Maps

theorem placeZ_cases (nm : ByteArray) : ∀ (rs : List RRel) (i : Int), placeZ rs nm i = -1 ∨ ∃ k : Nat, k < rs.length ∧ placeZ rs nm i = i + k ∧ (rs[k]?.getD zeroRR).nm = nm
  | [], i => .inl rfl
  | r :: rs, i => by
    by_cases e : r.nm = nm
    · exact .inr ⟨0, by simp, by simp [placeZ, e], by simp [e]⟩
    · rcases placeZ_cases nm rs (i + 1) with h | ⟨k, h1, h2, h3⟩
      · exact .inl (by simp only [placeZ]; rw [if_neg e]; exact h)
      · exact .inr ⟨k + 1, by simp; omega, by simp only [placeZ]; rw [if_neg e, h2]; push_cast; omega, by simpa using h3⟩

/-- What the reference finds wrong with an entry. -/
def entryZ (rs : List RRel) (x : Ent) : Int :=
  if placeZ rs x.nm 0 = -1 then 6
  else if (x.row.length : Int) ≠ (rs[(placeZ rs x.nm 0).toNat]?.getD zeroRR).ar then 2
  else if x.wt < -1000 ∨ 1000 < x.wt then 9 else 0

theorem RelsAt.below {w w' : World} {v : Value} {rs : List RRel} (h : RelsAt w v rs) (hb : Below w.heap.size w w') : RelsAt w' v rs := by
  obtain ⟨a, cap, rfl, hc⟩ := h
  exact ⟨a, cap, rfl, fun i hi => by
    obtain ⟨b, ha, h1, h2, h3⟩ := hc i hi
    exact ⟨b, ha, (hb.cell (p := ⟨b, _, none⟩) (World.block_lt_of_cell? w _ h1)).trans h1, (hb.cell (p := ⟨b, _, none⟩) (World.block_lt_of_cell? w _ h2)).trans h2, (hb.cell (p := ⟨b, _, none⟩) (World.block_lt_of_cell? w _ h3)).trans h3⟩⟩

set_option maxRecDepth 100000 in
set_option maxHeartbeats 1000000 in
theorem refEntry_any (fb : Nat) (v : Value) (rs : List RRel) (x : Ent) (a : Option Addr) (cap : Nat) (w : World) (c0 : w.cell? ⟨fb, 0, none⟩ = some v) (hv : RelsAt w v rs) (hl : rs.length ≤ 1000000000) (hx : x.row.length ≤ 9223372036854775807) :
    Calls Tryz.prog 36 #[.pointer (some ⟨fb, 0, none⟩), entV x (.slice a x.row.length cap)] w fun e w' => e = .returned (.int .i64 (entryZ rs x)) ∧ Below w.heap.size w w' := by
  obtain ⟨nm, row, wt⟩ := x
  dsimp only at hx
  have hfb : fb < w.heap.size := World.block_lt_of_cell? w _ c0
  have hb0 : Below w.heap.size w (w.alloc (.cells #[.string nm, .slice a row.length cap, .int .i64 wt] 75)) := (Below.refl _ _).alloc (Nat.le_refl _) _
  have c1 := (hb0.cell (p := ⟨fb, 0, none⟩) hfb).trans c0
  have Hrel := hide (relation_any fb v v rs nm _ c1 (hv.below hb0) hl)
  have Hv := hide hv
  unfold entV
  dsimp only
  clear hv c1 hb0
  go_enter Tryz.func36, Tryz.ntmps36
  go_wp2_with fail
  refine (unhide Hrel).mono ?_
  rintro e w1 ⟨rfl, hw1⟩
  have hb1 : Below w.heap.size w w1 := by rw [hw1]; exact (Below.refl _ _).alloc (Nat.le_refl _) _
  have hbox : w1.heap[w.heap.size]? = some (.cells #[.string nm, .slice a row.length cap, .int .i64 wt] 75 (0, 0)) := by rw [hw1]; exact heap_last _ _ _ rfl
  have x0 : w1.cell? ⟨w.heap.size, 0, none⟩ = some (.string nm) := cell_of_heap hbox 0
  have x1 : w1.cell? ⟨w.heap.size, 1, none⟩ = some (.slice a row.length cap) := cell_of_heap hbox 1
  have x2 : w1.cell? ⟨w.heap.size, 2, none⟩ = some (.int .i64 wt) := cell_of_heap hbox 2
  have hv1 := (unhide Hv).below hb1
  have c1 := (hb1.cell (p := ⟨fb, 0, none⟩) hfb).trans c0
  have Hb1 := hide hb1
  clear hw1 Hrel Hv hb1 hbox
  rcases placeZ_cases nm rs 0 with hp | ⟨k, hk, hp, hnm⟩
  · rw [hp]
    have Hz : Hid (entryZ rs ⟨nm, row, wt⟩ = 6) := by unfold Hid entryZ; rw [if_pos hp]
    clear hp hv1
    go_wp2
    go_ret
    exact ⟨ret_int (unhide Hz).symm, unhide Hb1⟩
  · rw [Int.zero_add] at hp
    rw [hp]
    obtain ⟨ap, cp, rfl, hc⟩ := hv1
    obtain ⟨b, rfl, d0, d1, d2⟩ := hc k hk
    obtain ⟨ra, hra⟩ : ∃ ra, ra = (rs[k]?.getD zeroRR).ar := ⟨_, rfl⟩
    rw [← hra] at d1
    have hkx : (k : Int) < (rs.length : Int) := by omega
    have hk0 : ¬ (k : Int) < 0 := by omega
    have hne1 : ¬ (placeZ rs nm 0 = -1) := by omega
    have hpk : (placeZ rs nm 0).toNat = k := by omega
    have hz : entryZ rs ⟨nm, row, wt⟩ = if (row.length : Int) ≠ ra then 2 else if wt < -1000 ∨ 1000 < wt then 9 else 0 := by
      unfold entryZ
      rw [if_neg hne1]
      dsimp only
      rw [hpk, ← hra]
    clear hp hnm hc hne1 hpk hra d0 d2
    by_cases h1 : (row.length : Int) = ra
    · have hb : ((row.length : Int) != ra) = false := by simp [h1]
      rw [if_neg (by simpa using h1)] at hz
      clear h1
      by_cases h2 : wt < -1000
      · rw [if_pos (.inl h2)] at hz
        have Hz := hide hz
        clear hz
        go_wp2
        go_quiet (fail)
        go_wp2
        go_ret
        exact ⟨ret_int (unhide Hz).symm, (unhide Hb1).trans ((Drawn.ofN _ _).below _)⟩
      · by_cases h3 : 1000 < wt
        · rw [if_pos (.inr h3)] at hz
          have Hz := hide hz
          clear hz
          go_wp2
          go_quiet (fail)
          go_wp2
          go_ret
          exact ⟨ret_int (unhide Hz).symm, (unhide Hb1).trans ((Drawn.ofN _ _).below _)⟩
        · rw [if_neg (by omega)] at hz
          have Hz := hide hz
          clear hz
          go_wp2
          go_quiet (fail)
          go_wp2
          go_ret
          exact ⟨ret_int (unhide Hz).symm, (unhide Hb1).trans ((Drawn.ofN _ _).below _)⟩
    · have hb : ((row.length : Int) != ra) = true := by simp [h1]
      rw [if_pos h1] at hz
      have Hz := hide hz
      clear hz h1
      go_wp2
      go_quiet (fail)
      go_wp2
      go_ret
      exact ⟨ret_int (unhide Hz).symm, (unhide Hb1).trans ((Drawn.ofN _ _).below _)⟩

end Go.Proofs.YtgddkjhknlgbbaaGreatDoor

namespace Go.Proofs.YtgddkjhknlgbbaaGreatDoor
set_option linter.unusedVariables false
set_option linter.unusedSimpArgs false
open Go.RowKit Go.Maps

set_option maxRecDepth 100000 in
set_option maxHeartbeats 1000000 in
/-- Every number is n: so the law's 'allNumbers' says. -/
theorem allNumbers_any (v : Value) (zs : List Int) (n : Int) (w : World) (hv : IntsAt w v zs) (hl : zs.length ≤ 9223372036854775807) (hz : ∀ z ∈ zs, z = n) :
    Calls Tryz.prog 60 #[v, .int .i64 n] w fun e w' => e = .returned (.bool true) ∧ Drawn w w' := by
  obtain ⟨p, cap, rfl, hc⟩ := hv
  have Hc := hide hc
  have Hz := hide hz
  clear hc hz
  go_enter Tryz.func60, Tryz.ntmps60
  go_wp2
  go_loopw [5] (fun i wr => ∃ k : Nat, k ≤ zs.length ∧ i = .int .i64 k ∧ Drawn w wr) (fun i _ => zs.length - (intOf i).toNat)
  case atStart => exact ⟨0, Nat.zero_le _, rfl, Drawn.refl _⟩
  case round =>
    obtain ⟨k, hk, rfl, hdr⟩ := hrel
    have Hdr := hide hdr
    clear hdr
    by_cases hlt : k < zs.length
    · have hx : (k : Int) < (zs.length : Int) := by omega
      obtain ⟨b, o, rfl, d⟩ := (unhide Hc) k hlt
      have he : zs[k]?.getD 0 = n := by simp [hlt]; exact (unhide Hz) _ (List.getElem_mem hlt)
      rw [he, ← (unhide Hdr).cell] at d
      clear he
      have hnn : (n != n) = false := by simp
      go_wp2
      first
        | (go_roundw
           case rel => exact ⟨k + 1, by omega, by go_num, unhide Hdr⟩
           case measure => simp [intOf]; omega)
        | (go_quiet (fail)
           go_wp2
           go_roundw
           case rel => exact ⟨k + 1, by omega, by go_num, (unhide Hdr).thenN _⟩
           case measure => simp [intOf]; omega)
    · have hx : ¬ (k : Int) < (zs.length : Int) := by omega
      go_wp2
      go_ret
      exact ⟨rfl, unhide Hdr⟩

end Go.Proofs.YtgddkjhknlgbbaaGreatDoor

namespace Go.Proofs.YtgddkjhknlgbbaaGreatDoor
set_option linter.unusedVariables false
set_option linter.unusedSimpArgs false
open Go.RowKit Go.Maps

theorem Tryz.info72 : (Tryz.prog.info? 72).map (fun i => (i.zero, i.size, i.bytes)) = some (some (.agg #[.string ⟨#[]⟩, .int .i64 0, .slice none 0 0]), 3, 48) := by kernel_rfl

def cellsRR (rs : List RRel) : List Value := rs.flatMap fun r => [.string r.nm, .int .i64 r.ar, r.rows]

/-- What the reference's Create answers. -/
def createZ (rs : List RRel) (nm : ByteArray) (ar : Int) : Int :=
  if nameB nm = false then 1 else if ar < 1 ∨ 3 < ar then 2 else if 0 ≤ placeZ rs nm 0 then 3 else if 6 ≤ rs.length then 4 else 0

set_option maxRecDepth 100000 in
set_option maxHeartbeats 1000000 in
theorem refCreate_bad (fb : Nat) (v : Value) (rs : List RRel) (nm : ByteArray) (ar : Int) (w : World) (c0 : w.cell? ⟨fb, 0, none⟩ = some v) (hv : RelsAt w v rs) (hl : rs.length ≤ 1000000000) (hn : nm.size ≤ 9223372036854775807) (hb : createZ rs nm ar ≠ 0) :
    Calls Tryz.prog 13 #[.pointer (some ⟨fb, 0, none⟩), .string nm, .int .i64 ar] w fun e w' => e = .returned (.int .i64 (createZ rs nm ar)) ∧ w' = w := by
  have H1 := hide (refName_any nm w hn)
  have H2 := hide (relation_any fb v v rs nm w c0 hv hl)
  obtain ⟨a, cap, rfl, -⟩ := hv
  go_enter Tryz.func13, Tryz.ntmps13
  go_wp2_with fail
  refine (unhide H1).mono ?_
  rintro e w1 ⟨rfl, hw1⟩
  replace hw1 := hw1.symm
  subst hw1
  go_wp2_with fail
  refine (unhide H2).mono ?_
  rintro e w1 ⟨rfl, hw1⟩
  replace hw1 := hw1.symm
  subst hw1
  clear H1 H2
  by_cases h1 : nameB nm = false
  · have Hz : Hid (createZ rs nm ar = 1) := by unfold Hid createZ; rw [if_pos h1]
    rw [h1]
    clear hb h1
    go_wp2
    go_ret
    exact ⟨ret_int (unhide Hz).symm, rfl⟩
  · have h1' : nameB nm = true := by simpa using h1
    rw [h1']
    by_cases h2 : ar < 1
    · have Hz : Hid (createZ rs nm ar = 2) := by unfold Hid createZ; rw [if_neg h1, if_pos (.inl h2)]
      clear hb h1 h1'
      go_wp2
      go_ret
      exact ⟨ret_int (unhide Hz).symm, rfl⟩
    · by_cases h3 : 3 < ar
      · have Hz : Hid (createZ rs nm ar = 2) := by unfold Hid createZ; rw [if_neg h1, if_pos (.inr h3)]
        clear hb h1 h1'
        go_wp2
        go_ret
        exact ⟨ret_int (unhide Hz).symm, rfl⟩
      · by_cases h4 : 0 ≤ placeZ rs nm 0
        · have Hz : Hid (createZ rs nm ar = 3) := by unfold Hid createZ; rw [if_neg h1, if_neg (by omega), if_pos h4]
          clear hb h1 h1'
          go_wp2
          go_ret
          exact ⟨ret_int (unhide Hz).symm, rfl⟩
        · by_cases h5 : 6 ≤ rs.length
          · have Hz : Hid (createZ rs nm ar = 4) := by unfold Hid createZ; rw [if_neg h1, if_neg (by omega), if_neg h4, if_pos h5]
            have h6 : (6 : Int) ≤ (rs.length : Int) := by omega
            clear hb h1 h1'
            go_wp2
            go_ret
            exact ⟨ret_int (unhide Hz).symm, rfl⟩
          · exact (hb (by unfold createZ; rw [if_neg h1, if_neg (by omega), if_neg h4, if_neg h5])).elim

theorem rels_of_own {w : World} {base : Nat} {v : Value} {rs : List RRel} (h : w.ownsRow base 72 3 v rs.length (cellsRR rs)) : RelsAt w v rs := by
  rcases h.2 with ⟨rfl, h0⟩ | ⟨g, cap, cur, rfl, hb, hg, _⟩
  · have : rs = [] := List.eq_nil_of_length_eq_zero h0
    subst this
    exact ⟨none, 0, rfl, fun i hi => by simp at hi⟩
  · refine ⟨_, cap, rfl, fun i hi => ⟨g, rfl, ?_⟩⟩
    have hat : ∀ (rs : List RRel) (i j : Nat) (hi : i < rs.length) (hj : j < 3), (cellsRR rs)[i * 3 + j]? = [Value.string rs[i].nm, .int .i64 rs[i].ar, rs[i].rows][j]? := by
      intro rs
      induction rs with
      | nil => intro i j hi; simp at hi
      | cons p ps ih =>
        intro i j hi hj
        have e : cellsRR (p :: ps) = [Value.string p.nm, .int .i64 p.ar, p.rows] ++ cellsRR ps := rfl
        rw [e]
        cases i with
        | zero => rw [List.getElem?_append_left (by simp; omega)]; simp
        | succ i =>
          have h2 : (i + 1) * 3 + j - 3 = i * 3 + j := by omega
          rw [List.getElem?_append_right (by simp; omega)]
          simp only [List.length_cons, List.length_nil, Nat.zero_add, Nat.reduceAdd, h2]
          rw [ih i j (by simpa using hi) hj]
          simp
    have hx : rs[i]?.getD zeroRR = rs[i] := by simp [hi]
    rw [hx]
    refine ⟨?_, ?_, ?_⟩
    · rw [h.cellAt (i * 3) (by omega)]; exact hat rs i 0 hi (by omega)
    · rw [h.cellAt (i * 3 + 1) (by omega)]; exact hat rs i 1 hi (by omega)
    · rw [h.cellAt (i * 3 + 2) (by omega)]; exact hat rs i 2 hi (by omega)

end Go.Proofs.YtgddkjhknlgbbaaGreatDoor

namespace Go.Proofs.YtgddkjhknlgbbaaGreatDoor
set_option linter.unusedVariables false
set_option linter.unusedSimpArgs false
open Go.RowKit Go.Maps

set_option maxRecDepth 100000 in
set_option maxHeartbeats 1000000 in
theorem refCreate_ok (fb base : Nat) (v vw : Value) (rs : List RRel) (nm : ByteArray) (ar : Int) (w : World) (hbox : w.heap[fb]? = some (.cells #[v, vw] 41 (0, 0))) (hown : w.ownsRow base 72 3 v rs.length (cellsRR rs)) (hbase : base ≤ w.heap.size) (hn : nm.size ≤ 9223372036854775807) (hb : createZ rs nm ar = 0) :
    Calls Tryz.prog 13 #[.pointer (some ⟨fb, 0, none⟩), .string nm, .int .i64 ar] w fun e w' => ∃ v' w1, e = .returned (.int .i64 0) ∧ w1.ownsRow base 72 3 v' (rs.length + 1) (cellsRR (rs ++ [⟨nm, ar, .slice none 0 0⟩])) ∧ w.grownBy w1 v.ownBlock ∧ w' = w1.setCell ⟨fb, 0, none⟩ v' := by
  have hz := hb
  unfold createZ at hz
  have h1 : nameB nm = true := by
    by_cases h : nameB nm = false
    · rw [if_pos h] at hz; omega
    · simpa using h
  rw [if_neg (by simp [h1])] at hz
  have h2 : ¬ (ar < 1 ∨ 3 < ar) := fun h => by rw [if_pos h] at hz; omega
  rw [if_neg h2] at hz
  have h3 : ¬ 0 ≤ placeZ rs nm 0 := fun h => by rw [if_pos h] at hz; omega
  rw [if_neg h3] at hz
  have h4 : ¬ 6 ≤ rs.length := fun h => by rw [if_pos h] at hz; omega
  have c0 : w.cell? ⟨fb, 0, none⟩ = some v := cell_of_heap hbox 0
  have H1 := hide (refName_any nm w hn)
  have H2 := hide (relation_any fb v v rs nm w c0 (rels_of_own hown) (by omega))
  have hne : some fb ≠ v.ownBlock := fun e => by
    obtain ⟨_, cur, hc⟩ := own_block hown fb e.symm
    rw [hbox] at hc
    simp at hc
  obtain ⟨a, cap, rfl⟩ : ∃ a cap, v = .slice a rs.length cap := by
    rcases hown.2 with ⟨rfl, h0⟩ | ⟨g, cap, cur, rfl, _⟩
    · exact ⟨none, 0, by rw [h0]⟩
    · exact ⟨_, _, rfl⟩
  obtain ⟨i71, hi, hz0, hz1, hz2⟩ := info_parts Tryz.info72
  have hx2 : ¬ ar < 1 := by omega
  have hx3 : ¬ 3 < ar := by omega
  have hx6 : ¬ (6 : Int) ≤ (rs.length : Int) := by omega
  have Hown := hide hown
  clear hz hb h2 hown
  go_enter Tryz.func13, Tryz.ntmps13
  go_wp2_with fail
  refine (unhide H1).mono ?_
  rintro e w1 ⟨rfl, hw1⟩
  replace hw1 := hw1.symm
  subst hw1
  rw [h1]
  go_wp2_with fail
  refine (unhide H2).mono ?_
  rintro e w1 ⟨rfl, hw1⟩
  replace hw1 := hw1.symm
  subst hw1
  clear H1 H2 h1
  go_wp2_with (first
    | (at_builtin; refine wpList_append_own_at _ rfl _ _ 38 rfl base 72 i71 _ 3 48 Tryz.underlying38 hi hz0 hz1 hz2 rfl (by decide) _ _ _ rfl ((unhide Hown).alloc _) ⟨w.heap.size, 0, none⟩ 1 1 [.string nm, .int .i64 ar, .slice none 0 0] rfl rfl (cells3_new w _ _ _ 72) (by simp [Value.oneCell']) (by unfold maxLen; omega) (by omega) (by simp; omega) ?_; intro v' w2 ho hgr _ _; have hbox2 : w2.heap[fb]? = _ := (hgr.block fb (by have := (Array.getElem?_eq_some_iff.1 hbox).1; simp; omega) hne).trans ((Below.heap_alloc _ _ _ (Array.getElem?_eq_some_iff.1 hbox).1).trans hbox); have cf := cell_of_heap hbox2 0; have ff := frozen_of_heap hbox2 0; obtain ⟨g', cap', rfl⟩ := own_succ ho; have Ho := hide ho; have Hgr := hide hgr; clear ho hgr hbox2))
  go_ret
  refine ⟨_, w2, rfl, ?_, ?_, rfl⟩
  · have e : cellsRR (rs ++ [⟨nm, ar, .slice none 0 0⟩]) = cellsRR rs ++ [.string nm, .int .i64 ar, .slice none 0 0] := by simp [cellsRR]
    rw [e]
    exact unhide Ho
  · exact (World.grownBy_alloc _ _ _).trans (unhide Hgr)

end Go.Proofs.YtgddkjhknlgbbaaGreatDoor
