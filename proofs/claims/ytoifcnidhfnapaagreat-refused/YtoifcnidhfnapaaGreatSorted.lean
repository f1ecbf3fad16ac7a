import Derived.Test.YtoifcnidhfnapaaGreatColl
set_option linter.unusedVariables false
set_option linter.unusedSimpArgs false
namespace Go.Proofs.YtoifcnidhfnapaaGreat
open Go.RowKit Go.Maps Go.Sort Go.Shelf

theorem collect_any (Bm b nn : Nat) (D : DataW Unit) (g : Row → Int) (hrep : Rep D g) (w : World) (hm : w.cell? ⟨Bm, 0, none⟩ = some (.map (some b))) (hown : w.ownsMap Tryz.prog 62 (plainElem Tryz.prog 2) b nn D) (hnn : nn ≤ 100000) :
    Calls Tryz.prog 52 #[.func (.func 54) #[] #[.pointer (some ⟨Bm, 0, none⟩)]] w fun e w' => ∃ v xs, e = .returned v ∧ KeysOf D (fun _ => false) xs ∧ w'.ownsRow w.heap.size 62 3 v xs.length (flatR xs) ∧ RowKit.Below w.heap.size w w' := by
  have H := hide ((callsIn_wide (n := 3)).1 (appendSeq_in 3 (by omega) Bm b nn D g hrep w hm hown hnn))
  clear hrep hm hown
  go_enter Tryz.func52, Tryz.ntmps52
  go_wp2_with fail
  refine (unhide H).mono ?_
  rintro e w1 ⟨v, xs, rfl, hK, ho, hb⟩
  clear H
  go_wp2
  go_ret
  exact ⟨v, xs, rfl, hK, ho, hb⟩

theorem mapsKeys_any (b : Nat) (w : World) : Calls Tryz.prog 43 #[.map (some b)] w fun e w' => e = .returned (.func (.func 54) #[] #[.pointer (some ⟨w.heap.size, 0, none⟩)]) ∧ w' = w.alloc (.cells #[.map (some b)] 75) := by
  go_enter Tryz.func43, Tryz.ntmps43
  go_wp2
  go_ret
  exact ⟨rfl, rfl⟩

theorem grown_sort (w : World) (blk n : Nat) (d : Array Row) (os : Array Obj) : w.grownBy (sortWorldK encR 3 w blk 0 n d os) (some blk) := by
  refine ⟨rfl, rfl, rfl, by simp [sortWorldK, grow, putRowK, putRow, mapBlock, Sort.ahead], fun k hk hne => ?_⟩
  have hk' : k ≠ blk := fun e => hne (by rw [e])
  simp only [sortWorldK, grow, putRowK, putRow, mapBlock, Sort.ahead]
  rw [Array.getElem?_append_left (by simpa using hk), Array.getElem?_modify, if_neg (fun e => hk' e.symm)]

/-- The slice v reads as the rows ys, three cells each. -/
def TripsAt (w : World) (v : Value) (ys : List Row) : Prop :=
  ∃ a cap, v = .slice a ys.length cap ∧ ∀ i, i < ys.length → ∃ b, a = some ⟨b, 0, none⟩ ∧ w.cell? ⟨b, i * 3, none⟩ = some (.int .i64 (ys[i]?.getD (0, 0, 0)).1) ∧
    w.cell? ⟨b, i * 3 + 1, none⟩ = some (.int .i64 (ys[i]?.getD (0, 0, 0)).2.1) ∧ w.cell? ⟨b, i * 3 + 2, none⟩ = some (.int .i64 (ys[i]?.getD (0, 0, 0)).2.2)

theorem flatR_len (xs : List Row) : (flatR xs).length = xs.length * 3 := by
  induction xs with
  | nil => rfl
  | cons p ps ih => simp only [flatR, List.flatMap_cons, List.length_append, List.length_cons] at ih ⊢; rw [ih]; simp [encR]; omega

theorem flatR_at (xs : List Row) (i j : Nat) (hi : i < xs.length) (hj : j < 3) : (flatR xs)[i * 3 + j]? = (encR xs[i])[j]? := by
  induction xs generalizing i with
  | nil => simp at hi
  | cons p ps ih =>
    have hl : (encR p).length = 3 := rfl
    have e : flatR (p :: ps) = encR p ++ flatR ps := rfl
    rw [e]
    cases i with
    | zero => rw [List.getElem?_append_left (by rw [hl]; omega)]; simp
    | succ i =>
      have h2 : (i + 1) * 3 + j - 3 = i * 3 + j := by omega
      rw [List.getElem?_append_right (by rw [hl]; omega), hl, h2, ih i (by simpa using hi)]
      simp

theorem holds_of_own {w : World} {base g cap : Nat} {xs : List Row} (h : w.ownsRow base 62 3 (.slice (some ⟨g, 0, none⟩) xs.length cap) xs.length (flatR xs)) : HoldsK encR 3 w g 0 xs.toArray := by
  intro j hj
  rw [size_flatK] at hj
  have hj' : j < xs.length * 3 := by simpa using hj
  rw [get_flatK _ _ _ _ hj, Nat.zero_add, h.cellAt j hj', h.frozenAt j]
  refine ⟨?_, rfl⟩
  have hd : j / 3 < xs.length := by omega
  have hm : j % 3 < 3 := Nat.mod_lt _ (by omega)
  have e : j = j / 3 * 3 + j % 3 := by omega
  have := flatR_at xs (j / 3) (j % 3) hd hm
  rw [← e] at this
  rw [this]
  have e2 : xs.toArray[j / 3]! = xs[j / 3] := by simp [hd]
  rw [e2]
  have hl : j % 3 < (encR xs[j / 3]).length := by simp [encR]; omega
  simp [hl]

theorem trips_of_holds {w : World} {g cap : Nat} {d : Array Row} (h : HoldsK encR 3 w g 0 d) : TripsAt w (.slice (some ⟨g, 0, none⟩) d.size cap) d.toList := by
  refine ⟨some ⟨g, 0, none⟩, cap, by simp, fun i hi => ⟨g, rfl, ?_⟩⟩
  have hi' : i < d.size := by simpa using hi
  have e : d.toList[i]?.getD (0, 0, 0) = d[i]! := by simp [hi']
  rw [e]
  have h0 := (h.cell (i := i) (c := 0) hi' (by omega)).1
  have h1 := (h.cell (i := i) (c := 1) hi' (by omega)).1
  have h2 := (h.cell (i := i) (c := 2) hi' (by omega)).1
  simp only [Nat.zero_add, Nat.add_zero] at h0 h1 h2
  exact ⟨h0, h1, h2⟩

/-- Rows in strict order. -/
def Rising (ys : List Row) : Prop := ys.Pairwise ltR

theorem ltR_total (x y : Row) (h : ¬ ltR y x) (hne : x ≠ y) : ltR x y := by
  unfold ltR at *
  by_cases h1 : x.1 = y.1
  · by_cases h2 : x.2.1 = y.2.1
    · by_cases h3 : x.2.2 = y.2.2
      · exact absurd (Prod.ext h1 (Prod.ext h2 h3)) hne
      · omega
    · omega
  · omega

theorem rising_of_sorted {d : Array Row} (h : SortedIn (ltOf cmpR) 0 d.size d) (hp : d.toList.Pairwise (· ≠ ·)) : Rising d.toList := by
  unfold Rising
  rw [List.pairwise_iff_getElem] at hp ⊢
  intro i j hi hj hij
  have h1 := h i j (Nat.zero_le _) hij (by simpa using hj)
  rw [ltOf_R_false] at h1
  have e1 : d[i]! = d.toList[i] := by simp at hi; simp [hi]
  have e2 : d[j]! = d.toList[j] := by simp at hj; simp [hj]
  rw [e1, e2] at h1
  exact ltR_total _ _ h1 (hp i j hi hj hij)

end Go.Proofs.YtoifcnidhfnapaaGreat
