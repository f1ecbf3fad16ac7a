import Derived.Test.YtgddkjhknlgbbaaGreatDoorM08
import Derived.Maps.AppendAt
set_option linter.unusedVariables false
set_option linter.unusedSimpArgs false

namespace Go.Proofs.YtgddkjhknlgbbaaGreatDoor
open Go.RowKit Go.Maps

/-- The three cells of an entry whose row lies in block b. -/
def entL (p : Ent × Nat) : List Value := [.string p.1.nm, .slice (some ⟨p.2, 0, none⟩) p.1.row.length p.1.row.length, .int .i64 p.1.wt]
def cellsE (xs : List (Ent × Nat)) : List Value := xs.flatMap entL
def RowsIn (w : World) (xs : List (Ent × Nat)) : Prop := ∀ p ∈ xs, w.heap[p.2]? = some (.cells (p.1.row.map (Value.int .i64)).toArray 2 (0, 0))

theorem cellsE_len (xs : List (Ent × Nat)) : (cellsE xs).length = xs.length * 3 := by
  induction xs with
  | nil => rfl
  | cons p ps ih => simp only [cellsE, List.flatMap_cons, List.length_append, List.length_cons] at ih ⊢; rw [ih]; simp [entL]; omega

theorem cellsE_snoc (xs : List (Ent × Nat)) (p : Ent × Nat) : cellsE (xs ++ [p]) = cellsE xs ++ entL p := by simp [cellsE, List.flatMap_append]

theorem cellsE_at (xs : List (Ent × Nat)) (i j : Nat) (hi : i < xs.length) (hj : j < 3) : (cellsE xs)[i * 3 + j]? = (entL xs[i])[j]? := by
  induction xs generalizing i with
  | nil => simp at hi
  | cons p ps ih =>
    have hl : (entL p).length = 3 := rfl
    have e : cellsE (p :: ps) = entL p ++ cellsE ps := rfl
    rw [e]
    cases i with
    | zero => rw [List.getElem?_append_left (by rw [hl]; omega)]; simp
    | succ i =>
      have h2 : (i + 1) * 3 + j - 3 = i * 3 + j := by omega
      rw [List.getElem?_append_right (by rw [hl]; omega), hl, h2, ih i (by simpa using hi)]
      simp

theorem ints_of_block {w : World} {b : Nat} {zs : List Int} (h : w.heap[b]? = some (.cells (zs.map (Value.int .i64)).toArray 2 (0, 0))) (cap : Nat) : IntsAt w (.slice (some ⟨b, 0, none⟩) zs.length cap) zs := by
  refine ⟨_, cap, rfl, fun i hi => ⟨b, 0, rfl, ?_⟩⟩
  rw [cell_of_heap h]
  simp [hi]

/-- Entries in a block, read. -/
theorem ents_of_block {w : World} {g : Nat} {cur : Array Value} {xs : List (Ent × Nat)} (hg : w.heap[g]? = some (.cells cur 75 (0, 0))) (ht : cur.toList.take (xs.length * 3) = cellsE xs) (hr : RowsIn w xs) (cap : Nat) :
    EntsAt w (.slice (some ⟨g, 0, none⟩) xs.length cap) (xs.map (·.1)) := by
  refine ⟨some ⟨g, 0, none⟩, cap, by simp, fun i hi => ?_⟩
  have hi' : i < xs.length := by simpa using hi
  have hx : ((xs.map (·.1))[i]?.getD zeroEnt) = (xs[i]).1 := by simp [hi']
  rw [hx]
  have hcell : ∀ j, j < 3 → cur[i * 3 + j]? = (entL xs[i])[j]? := by
    intro j hj
    rw [← cellsE_at xs i j hi' hj, ← ht, List.getElem?_take_of_lt (by omega)]
    simp
  refine ⟨g, 0, .slice (some ⟨xs[i].2, 0, none⟩) xs[i].1.row.length xs[i].1.row.length, rfl, ?_, ?_, ?_, ?_⟩
  · rw [cell_of_heap hg, Nat.zero_add]; exact hcell 0 (by omega)
  · rw [cell_of_heap hg, Nat.zero_add]; exact hcell 1 (by omega)
  · exact ints_of_block (hr _ (List.getElem_mem hi')) _
  · rw [cell_of_heap hg, Nat.zero_add]; exact hcell 2 (by omega)

theorem ents_of_own {w : World} {m : Nat} {v : Value} {xs : List (Ent × Nat)} (h : w.ownsRow m 75 3 v xs.length (cellsE xs)) (hr : RowsIn w xs) : EntsAt w v (xs.map (·.1)) := by
  rcases h.2 with ⟨rfl, h0⟩ | ⟨g, cap, cur, rfl, _, hg, _, _, _, ht⟩
  · have : xs = [] := List.eq_nil_of_length_eq_zero h0
    subst this
    exact ⟨none, 0, rfl, fun i hi => by simp at hi⟩
  · exact ents_of_block hg ht hr cap

/-- A batch that is done: it lies below m. -/
theorem Tryz.info75 : (Tryz.prog.info? 75).map (fun i => (i.zero, i.size, i.bytes)) = some (some (.agg #[.string ⟨#[]⟩, .slice none 0 0, .int .i64 0]), 3, 48) := by kernel_rfl
theorem Tryz.info32 : (Tryz.prog.info? 32).map (fun i => (i.zero, i.size, i.bytes)) = some (some (.slice none 0 0), 1, 24) := by kernel_rfl


theorem RowsIn.kept {w w' : World} {xs : List (Ent × Nat)} {row : Option Nat} (h : RowsIn w xs) (hg : w.grownBy w' row) (hrow : ∀ j, row = some j → ∃ cur t, w.heap[j]? = some (.cells cur t (0, 0)) ∧ t ≠ 2) : RowsIn w' xs := by
  intro p hp
  have h1 := h p hp
  have hlt : p.2 < w.heap.size := (Array.getElem?_eq_some_iff.1 h1).1
  rw [hg.block p.2 hlt (fun e => ?_)]
  · exact h1
  · obtain ⟨cur, t, h2, h3⟩ := hrow p.2 e.symm
    rw [h1] at h2
    cases h2
    exact h3 rfl

theorem own_block {w : World} {base : Nat} {e : TypeId} {size : Nat} {v : Value} {n : Nat} {xs : List Value} (h : w.ownsRow base e size v n xs) : ∀ j, v.ownBlock = some j → base ≤ j ∧ ∃ cur, w.heap[j]? = some (.cells cur e (0, 0)) := by
  intro j hj
  rcases h.2 with ⟨rfl, _⟩ | ⟨g, cap, cur, rfl, hb, hg, _⟩
  · cases hj
  · cases hj; exact ⟨hb, cur, hg⟩

theorem own_succ {W : World} {base : Nat} {e : TypeId} {size : Nat} {v : Value} {k : Nat} {xs : List Value} (h : W.ownsRow base e size v (k + 1) xs) : ∃ g cap, v = .slice (some ⟨g, 0, none⟩) (k + 1) cap := by
  rcases h.2 with ⟨_, h0⟩ | ⟨g, cap, _, rfl, _⟩
  · omega
  · exact ⟨g, cap, rfl⟩

theorem entL_val (x : Ent) (b : Nat) : entVal x b = .agg #[.string x.nm, .slice (some ⟨b, 0, none⟩) x.row.length x.row.length, .int .i64 x.wt] := rfl

theorem cells3_new (w : World) (a b c : Value) (t : TypeId) : ∀ j u, [a, b, c][j]? = some u → (w.alloc (.cells #[a, b, c] t)).cell? ((⟨w.heap.size, 0, none⟩ : Addr).add j) = some u := by
  intro j u hj
  rw [Addr.add_lit, Nat.zero_add, cell_of_heap (heap_last w _ _ rfl)]
  simpa using hj

theorem cell1_new (w : World) (a : Value) (t : TypeId) : ∀ j u, [a][j]? = some u → (w.alloc (.cells #[a] t)).cell? ((⟨w.heap.size, 0, none⟩ : Addr).add j) = some u := by
  intro j u hj
  rw [Addr.add_lit, Nat.zero_add, cell_of_heap (heap_last w _ _ rfl)]
  simpa using hj


end Go.Proofs.YtgddkjhknlgbbaaGreatDoor

namespace Go.Proofs.YtgddkjhknlgbbaaGreatDoor
open Go.RowKit Go.Maps

def cmpI (x y : Int) : Int := if x < y then -1 else if y < x then 1 else 0

set_option maxHeartbeats 400000 in
theorem nan_any (x : Int) (w : World) : Calls Tryz.prog 143 #[.int .i64 x] w fun e w' => e = .returned (.bool false) ∧ w' = w := by
  have h : (x != x) = false := by simp
  go_enter Tryz.func143, Tryz.ntmps143
  go_wp2
  go_ret
  exact ⟨by simp, rfl⟩

set_option maxHeartbeats 400000 in
theorem cmp_any (x y : Int) (w : World) : Calls Tryz.prog 130 #[.int .i64 x, .int .i64 y] w fun e w' => e = .returned (.int .i64 (cmpI x y)) ∧ w' = w := by
  by_cases h1 : x < y
  · have e : Hid (cmpI x y = -1) := by unfold Hid cmpI; rw [if_pos h1]
    go_enter Tryz.func130, Tryz.ntmps130
    go_wp2_with (first | (go_at_call 143; refine (nan_any _ _).mono ?_; rintro e w' ⟨rfl, rfl⟩))
    go_ret
    exact ⟨ret_int e.out.symm, rfl⟩
  · by_cases h2 : y < x
    · have e : Hid (cmpI x y = 1) := by unfold Hid cmpI; rw [if_neg h1, if_pos h2]
      go_enter Tryz.func130, Tryz.ntmps130
      go_wp2_with (first | (go_at_call 143; refine (nan_any _ _).mono ?_; rintro e w' ⟨rfl, rfl⟩))
      go_ret
      exact ⟨ret_int e.out.symm, rfl⟩
    · have e : Hid (cmpI x y = 0) := by unfold Hid cmpI; rw [if_neg h1, if_neg h2]
      go_enter Tryz.func130, Tryz.ntmps130
      go_wp2_with (first | (go_at_call 143; refine (nan_any _ _).mono ?_; rintro e w' ⟨rfl, rfl⟩))
      go_ret
      exact ⟨ret_int e.out.symm, rfl⟩

/-- The order of rows, as slices.Compare tells it, at one length. -/
def cmpL : List Int → List Int → Int
  | x :: xs, y :: ys => if cmpI x y = 0 then cmpL xs ys else cmpI x y
  | _, _ => 0

theorem cmpL_step {xs ys : List Int} {k : Nat} (h1 : k < xs.length) (h2 : k < ys.length) : cmpL (xs.drop k) (ys.drop k) = if cmpI (xs[k]?.getD 0) (ys[k]?.getD 0) = 0 then cmpL (xs.drop (k + 1)) (ys.drop (k + 1)) else cmpI (xs[k]?.getD 0) (ys[k]?.getD 0) := by
  rw [List.drop_eq_getElem_cons h1, List.drop_eq_getElem_cons h2]
  simp [cmpL, h1, h2]

theorem cmpI_bd (x y : Int) : -1 ≤ cmpI x y ∧ cmpI x y ≤ 1 := by
  unfold cmpI
  split
  · omega
  · split <;> omega

set_option maxHeartbeats 400000 in
theorem compare_any (v u : Value) (zs ys : List Int) (w : World) (hv : IntsAt w v zs) (hu : IntsAt w u ys) (hl : zs.length = ys.length) (hl2 : zs.length ≤ 1000000) :
    Calls Tryz.prog 122 #[v, u] w fun e w' => e = .returned (.int .i64 (cmpL zs ys)) ∧ w' = w := by
  obtain ⟨a, cap, rfl, hc⟩ := hv
  obtain ⟨a', cap', rfl, hc'⟩ := hu
  have Hc := hide hc
  have Hc' := hide hc'
  have g1 : zs.length ≤ ys.length := by omega
  have g2 : ys.length ≤ zs.length := by omega
  clear hc hc' hl
  go_enter Tryz.func122, Tryz.ntmps122
  go_wp2
  go_loop [11] (fun i => ∃ k : Nat, k ≤ zs.length ∧ i = .int .i64 k ∧ cmpL zs ys = cmpL (zs.drop k) (ys.drop k)) (fun i => zs.length - (intOf i).toNat)
  case atStart => exact ⟨0, Nat.zero_le _, rfl, by simp⟩
  case round =>
    obtain ⟨k, hk, rfl, hcm⟩ := hrel
    have Hcm := hide hcm
    clear hcm
    by_cases hlt : k < zs.length
    · obtain ⟨b, o, rfl, h1⟩ := (unhide Hc) k hlt
      obtain ⟨b', o', rfl, h2⟩ := (unhide Hc') k (by omega)
      have hlt' : k < ys.length := by omega
      have hst := cmpL_step hlt hlt'
      obtain ⟨z, hz⟩ : ∃ z, z = zs[k]?.getD 0 := ⟨_, rfl⟩
      obtain ⟨y, hy⟩ : ∃ y, y = ys[k]?.getD 0 := ⟨_, rfl⟩
      rw [← hz] at h1 hst
      rw [← hy] at h2 hst
      have Hst := hide hst
      clear hz hy hst
      have hx : (k : Int) < (zs.length : Int) := by omega
      have hx' : (k : Int) < (ys.length : Int) := by omega
      by_cases hq : cmpI z y = 0
      · have hqb : (cmpI z y != 0) = false := by simp [hq]
        have Hr : Hid (cmpL zs ys = cmpL (zs.drop (k + 1)) (ys.drop (k + 1))) := by unfold Hid; rw [unhide Hcm, unhide Hst, if_pos hq]
        clear hq
        go_wp2_with (first | (go_at_call 130; refine (cmp_any _ _ _).mono ?_; rintro e w' ⟨rfl, rfl⟩))
        go_round
        case rel => exact ⟨k + 1, by omega, by go_num, unhide Hr⟩
        case measure => simp [intOf]; omega
      · have hqb : (cmpI z y != 0) = true := by simp [hq]
        have Hr : Hid (cmpL zs ys = cmpI z y) := by unfold Hid; rw [unhide Hcm, unhide Hst, if_neg hq]
        clear hq
        go_wp2_with (first | (go_at_call 130; refine (cmp_any _ _ _).mono ?_; rintro e w' ⟨rfl, rfl⟩))
        go_ret
        exact ⟨ret_int (unhide Hr).symm, rfl⟩
    · have Hr : Hid (cmpL zs ys = 0) := by
        unfold Hid; rw [unhide Hcm, List.drop_eq_nil_of_le (by omega)]; rfl
      go_wp2
      go_ret
      exact ⟨ret_int (unhide Hr).symm, rfl⟩

end Go.Proofs.YtgddkjhknlgbbaaGreatDoor
