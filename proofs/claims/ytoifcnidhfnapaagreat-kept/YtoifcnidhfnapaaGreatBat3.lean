import Derived.Test.YtoifcnidhfnapaaGreatBat2
namespace Go.Proofs.YtoifcnidhfnapaaGreat
set_option linter.unusedVariables false
set_option linter.unusedSimpArgs false
open Go.RowKit Go.Maps

/-- The slice v reads as the batches bs; all of it lies from block B on. -/
def BatsIn (w : World) (B : Nat) (v : Value) (bs : List (List Ent)) : Prop :=
  ∃ a cap, v = .slice a bs.length cap ∧ ∀ i, i < bs.length → ∃ b sv m, a = some ⟨b, 0, none⟩ ∧ B ≤ b ∧ w.cell? ⟨b, i, none⟩ = some sv ∧ Done w B m sv (bs[i]?.getD [])

theorem BInv.bats {w : World} {B : Nat} {vo vl : Value} {s : List (List Ent) × List Ent} (h : BInv w B vo vl s) : BatsIn w B vo s.1 := by
  obtain ⟨m, xs, vos, h1, h2, h3, h4, h5, h6, h7, h8, h9⟩ := h
  rcases h5.2 with ⟨rfl, h0⟩ | ⟨g, cap, cur, rfl, hb, hg, _, _, _, ht⟩
  · refine ⟨none, 0, by rw [← h6, h0], fun i hi => ?_⟩
    omega
  · refine ⟨some ⟨g, 0, none⟩, cap, by rw [h6], fun i hi => ?_⟩
    refine ⟨g, vos[i]?.getD undef, m, rfl, hb, ?_, h7 i (by omega)⟩
    have hi' : i < vos.length := by omega
    rw [cell_of_heap hg]
    have : cur.toList[i]? = vos[i]? := by rw [← ht, List.getElem?_take_of_lt (by omega)]
    rw [← Array.getElem?_toList, this]
    simp [hi']

theorem own_succ {W : World} {base : Nat} {e : TypeId} {size : Nat} {v : Value} {k : Nat} {xs : List Value} (h : W.ownsRow base e size v (k + 1) xs) : ∃ g cap, v = .slice (some ⟨g, 0, none⟩) (k + 1) cap := by
  rcases h.2 with ⟨_, h0⟩ | ⟨g, cap, _, rfl, _⟩
  · omega
  · exact ⟨g, cap, rfl⟩

theorem entL_val (x : Ent) (b : Nat) : entVal x b = .agg #[.string x.nm, .slice (some ⟨b, 0, none⟩) x.row.length x.row.length, .int .i64 x.wt] := rfl

theorem cells3_new (w : World) (a b c : Value) (t : TypeId) : ∀ j u, [a, b, c][j]? = some u → (w.alloc (.cells #[a, b, c] t)).cell? ((⟨w.heap.size, 0, none⟩ : Addr).add j) = some u := by
  intro j u hj
  rw [Addr.add_lit, Nat.zero_add, cell_of_heap (heap_last w _ _ rfl)]
  simpa using hj

theorem tdiv_bd (c : Int) (h1 : -9223372036854775808 ≤ c) (h2 : c ≤ 9223372036854775807) : -9223372036854775808 ≤ c.tdiv 7 ∧ c.tdiv 7 ≤ 9223372036854775807 := by
  by_cases h : 0 ≤ c
  · rw [Int.tdiv_eq_ediv_of_nonneg h]; omega
  · obtain ⟨d, rfl⟩ : ∃ d, c = -d := ⟨-c, by omega⟩
    rw [Int.neg_tdiv, Int.tdiv_eq_ediv_of_nonneg (by omega)]; omega

theorem stepB_yes {s : List (List Ent) × List Ent} {c : Int} {x : Ent} {n : Nat} (hx : x = entZ c) (hn : s.2.length = n) (h : pickZ (c.tdiv 7) 12 < (n : Int) + 1) : stepB s c = (s.1 ++ [s.2 ++ [x]], []) := by
  unfold stepB
  rw [if_pos (by simp; omega), hx]
theorem stepB_no {s : List (List Ent) × List Ent} {c : Int} {x : Ent} {n : Nat} (hx : x = entZ c) (hn : s.2.length = n) (h : ¬ pickZ (c.tdiv 7) 12 < (n : Int) + 1) : stepB s c = (s.1, s.2 ++ [x]) := by
  unfold stepB
  rw [if_neg (by simp; omega), hx]

theorem cell1_new (w : World) (a : Value) (t : TypeId) : ∀ j u, [a][j]? = some u → (w.alloc (.cells #[a] t)).cell? ((⟨w.heap.size, 0, none⟩ : Addr).add j) = some u := by
  intro j u hj
  rw [Addr.add_lit, Nat.zero_add, cell_of_heap (heap_last w _ _ rfl)]
  simpa using hj

set_option maxRecDepth 100000 in
set_option maxHeartbeats 1000000 in
theorem bats_any (v : Value) (codes : List Int) (w : World) (hv : IntsAt w v codes) (hl : codes.length ≤ 9223372036854775807) (hb : ∀ c ∈ codes, -9223372036854775808 ≤ c ∧ c ≤ 9223372036854775807) :
    Calls Tryz.prog 6 #[v] w fun e w' => ∃ u, e = .returned u ∧ BatsIn w' w.heap.size u (batsZ codes) ∧ Below w.heap.size w w' := by
  obtain ⟨a, cap, rfl, hc⟩ := hv
  have Hc := hide hc
  have Hb := hide hb
  clear hc hb
  obtain ⟨i39, hi, hz0, hz1, hz2⟩ := info_parts Tryz.info39
  obtain ⟨i36, gi, gz0, gz1, gz2⟩ := info_parts Tryz.info36
  go_enter Tryz.func6, Tryz.ntmps6
  go_wp2
  go_loopw [3, 4, 5] (fun vo vl i wr => ∃ k : Nat, k ≤ codes.length ∧ k ≤ 400 ∧ i = .int .i64 k ∧ BInv wr w.heap.size vo vl (runB (codes.take k)) ∧ Below w.heap.size w wr) (fun _ _ i _ => 400 - (intOf i).toNat)
  case atStart =>
    exact ⟨0, Nat.zero_le _, Nat.zero_le _, rfl, ⟨w.heap.size, [], [], rfl, World.ownsRow_nil _ _ _ _, fun p hp => by simp at hp, fun p hp => by simp at hp, World.ownsRow_nil _ _ _ _, rfl, fun j hj => by simp at hj, Nat.le_refl _, Nat.le_refl _⟩, Below.refl _ _⟩
  case round =>
    obtain ⟨k, hk, hk4, rfl, hI, hB⟩ := hrel
    by_cases hlt : k < codes.length ∧ k < 400
    · obtain ⟨hlt, hlt4⟩ := hlt
      obtain ⟨b, o, rfl, hcell⟩ := (unhide Hc) k hlt
      have hx : (k : Int) < (codes.length : Int) := by omega
      have hx4 : (k : Int) < 400 := by omega
      have hbl : b < w.heap.size := World.block_lt_of_cell? w _ hcell
      obtain ⟨c, hce⟩ : ∃ c, c = codes[k]?.getD 0 := ⟨_, rfl⟩
      rw [← hce] at hcell
      rw [← hB.cell (p := ⟨b, _, none⟩) hbl] at hcell
      have hcb : -9223372036854775808 ≤ c ∧ c ≤ 9223372036854775807 := by rw [hce]; simp [hlt]; exact (unhide Hb) _ (List.getElem_mem hlt)
      have htk : codes.take (k + 1) = codes.take k ++ [c] := by rw [List.take_succ_eq_append_getElem hlt, hce]; simp [hlt]
      have Htk := hide htk
      have HI := hide hI
      have HB := hide hB
      have hBs := hB.size
      clear hce htk hI hB
      go_wp2_with fail
      refine (entry_any c _ hcb.1 hcb.2).mono ?_
      rintro e w1 ⟨rb, rfl, hrb, hrow, hb1⟩
      have hI1 := (unhide HI).below hb1
      have HB1 := hide ((unhide HB).trans (hb1.mono hBs))
      have hcell1 : w1.cell? ⟨b, o + k, none⟩ = some (.int .i64 c) := by rw [hb1.cell (p := ⟨b, _, none⟩) (show b < _ by omega)]; exact hcell
      have hs1 := hb1.size
      have hcnt := runB_len (codes.take k)
      have hkk : (codes.take k).length ≤ 400 := by simp; omega
      obtain ⟨x, hxz⟩ : ∃ x, x = entZ c := ⟨_, rfl⟩
      rw [← hxz] at hrow ⊢
      have Hx := hide hxz
      clear hxz hcell
      obtain ⟨nm, row, wt⟩ := x
      rw [entL_val]
      dsimp only at hrow ⊢
      have hI2 := (hI1.below ((Below.refl _ _).alloc (Nat.le_refl _) (.cells #[.string nm, .slice (some ⟨rb, 0, none⟩) row.length row.length, .int .i64 wt] 39))).below ((Below.refl _ _).alloc (Nat.le_refl _) (.cells #[.string nm, .slice (some ⟨rb, 0, none⟩) row.length row.length, .int .i64 wt] 39))
      obtain ⟨m, xs, vos, h1, h2, h3, h4, h5, h6, h7, h8, h9⟩ := hI2
      have hnew := cells3_new (w1.alloc (.cells #[.string nm, .slice (some ⟨rb, 0, none⟩) row.length row.length, .int .i64 wt] 39)) (.string nm) (.slice (some ⟨rb, 0, none⟩) row.length row.length) (.int .i64 wt) 39
      rw [World.size_alloc] at hnew
      have hxl : xs.length ≤ 400 := by
        have := congrArg List.length h1
        simp at this
        omega
      have hvl : vos.length ≤ 400 := by omega
      have hrb2 : ((w1.alloc (.cells #[.string nm, .slice (some ⟨rb, 0, none⟩) row.length row.length, .int .i64 wt] 39)).alloc (.cells #[.string nm, .slice (some ⟨rb, 0, none⟩) row.length row.length, .int .i64 wt] 39)).heap[rb]? = some (.cells (row.map (Value.int .i64)).toArray 2 (0, 0)) := by
        have hlt : rb < w1.heap.size := (Array.getElem?_eq_some_iff.1 hrow).1
        rw [Below.heap_alloc _ _ _ (by simp; omega), Below.heap_alloc _ _ _ hlt]
        exact hrow
      have hcell2 : ((w1.alloc (.cells #[.string nm, .slice (some ⟨rb, 0, none⟩) row.length row.length, .int .i64 wt] 39)).alloc (.cells #[.string nm, .slice (some ⟨rb, 0, none⟩) row.length row.length, .int .i64 wt] 39)).cell? ⟨b, o + k, none⟩ = some (.int .i64 c) := by
        rw [World.cell?_of_block (a := ⟨b, o + k, none⟩) (Below.heap_alloc _ _ _ (show b < _ by simp; omega)), World.cell?_of_block (a := ⟨b, o + k, none⟩) (Below.heap_alloc _ _ _ (show b < _ by omega))]
        exact hcell1
      have H1 := hide h1
      have H2 := hide h2
      have H3 := hide h3
      have H4 := hide h4
      have H5 := hide h5
      have H6 := hide h6
      have H7 := hide h7
      have Hrb2 := hide hrb2
      have Hcell2 := hide hcell2
      clear h1 h3 h4 h5 h6 h7 hrow hI1 hcnt hkk hb1 hrb2 hcell1 hcell2
      go_wp2_with (first
        | (at_builtin; refine wpList_append_own_at _ rfl _ _ 36 rfl m 39 i39 _ 3 48 Tryz.underlying36 hi hz0 hz1 hz2 rfl (by decide) _ _ _ rfl (unhide H2) ⟨w1.heap.size + 1, 0, none⟩ 1 1 [.string nm, .slice (some ⟨rb, 0, none⟩) row.length row.length, .int .i64 wt] rfl rfl hnew (by simp [Value.oneCell']) (by unfold maxLen; omega) (by omega) h9 ?_; intro vl' w2 ho hgr hnil hloc; obtain ⟨g', cap', rfl⟩ := own_succ ho
           have hI3 := BInv.more (x := ⟨nm, row, wt⟩) (b := rb) (unhide H1) (unhide H2) (unhide H3) (unhide H4) (unhide H5) (unhide H6) (unhide H7) h8 h9 (unhide Hrb2) (by omega) ho hgr
           have hcell3 : w2.cell? ⟨b, o + k, none⟩ = some (.int .i64 c) := (World.cell?_of_block (a := ⟨b, o + k, none⟩) (hgr.block b (show b < _ by simp; omega) (fun e => by have := (own_block (unhide H2) b e.symm).1; omega))).trans (unhide Hcell2)
           have HI3 := hide hI3
           have HB3 := hide ((((unhide HB1).alloc (by omega) (.cells #[.string nm, .slice (some ⟨rb, 0, none⟩) row.length row.length, .int .i64 wt] 39)).alloc (by simp; omega) (.cells #[.string nm, .slice (some ⟨rb, 0, none⟩) row.length row.length, .int .i64 wt] 39)).grown hgr (by simp; omega) (fun j e => by have := (own_block (unhide H2) j e).1; omega))
           have hsz3 := hgr.size
           clear hI3 ho hgr hnil hloc h2 hnew))
      have htd := tdiv_bd c hcb.1 hcb.2
      have hpr := pickZ_range (c.tdiv 7) 12 (by omega)
      refine (pick_any _ 12 _ htd.1 htd.2 (by omega) (by omega)).mono ?_
      rintro e w2' ⟨rfl, hw2⟩
      subst hw2
      have hsl : (runB (codes.take k)).2.length = xs.length := by rw [unhide H1]; simp
      obtain ⟨pq, hpq⟩ : ∃ pq, pq = pickZ (c.tdiv 7) 12 := ⟨_, rfl⟩
      rw [← hpq] at hpr ⊢
      have Hpq := hide hpq
      clear hpq htd
      by_cases hlen : pq < (xs.length : Int) + 1
      · have Hst := hide (stepB_yes (unhide Hx) hsl (by rw [← unhide Hpq]; exact hlen))
        have hI4 := (unhide HI3).below ((Below.refl _ _).alloc (Nat.le_refl _) (.cells #[.slice (some ⟨g', 0, none⟩) (xs.length + 1) cap'] 36))
        have hnew4 := cell1_new w2' (.slice (some ⟨g', 0, none⟩) (xs.length + 1) cap') 36
        have HB4 := hide ((unhide HB3).alloc (by have := (unhide HB3).size; omega) (.cells #[.slice (some ⟨g', 0, none⟩) (xs.length + 1) cap'] 36))
        obtain ⟨m', xs', vos', k1, k2, k3, k4, k5, k6, k7, k8, k9⟩ := hI4
        have hxl' : 0 < xs'.length := by
          have := congrArg List.length k1
          simp at this
          omega
        have hvl' : vos'.length ≤ 400 := by
          dsimp only at k6
          have := unhide H6
          omega
        have K1 := hide k1
        have K2 := hide k2
        have K3 := hide k3
        have K4 := hide k4
        have K5 := hide k5
        have K6 := hide k6
        have K7 := hide k7
        clear k1 k2 k3 k4 k5 k6 k7
        go_wp2_with (first
          | (at_builtin; refine wpList_append_own_at _ rfl _ _ 25 rfl w.heap.size 36 i36 _ 1 24 Tryz.underlying25 gi gz0 gz1 gz2 rfl (by decide) _ _ _ rfl (unhide K5) ⟨w2'.heap.size, 0, none⟩ 1 1 [.slice (some ⟨g', 0, none⟩) (xs.length + 1) cap'] rfl rfl hnew4 (by simp [Value.oneCell']) (by unfold maxLen; omega) (by omega) (by omega) ?_; intro vo' w5 ho5 hgr5 hnil5 hloc5))
        have hI5 := BInv.shut (s := ((runB (codes.take k)).1, (runB (codes.take k)).2 ++ [⟨nm, row, wt⟩])) (unhide K1) (unhide K2) (unhide K3) (unhide K4) (unhide K5) (unhide K6) (unhide K7) k8 k9 hxl' ho5 hgr5
        have HI5 := hide hI5
        have HB5 := hide ((unhide HB4).grown hgr5 (unhide HB4).size (fun j e => (own_block (unhide K5) j e).1))
        clear hI5 ho5 hgr5 hnil5 hloc5 hnew4
        go_wp2
        refine ⟨⟨k + 1, by omega, by omega, by go_num, ?_, unhide HB5⟩, by simp [intOf]; omega⟩
        rw [unhide Htk, runB_snoc, unhide Hst]
        exact unhide HI5
      · have Hst := hide (stepB_no (unhide Hx) hsl (by rw [← unhide Hpq]; exact hlen))
        go_wp2
        refine ⟨⟨k + 1, by omega, by omega, by go_num, ?_, unhide HB3⟩, by simp [intOf]; omega⟩
        rw [unhide Htk, runB_snoc, unhide Hst]
        exact unhide HI3
    · have htk : codes.take 400 = codes.take k := by
        by_cases h : k < codes.length
        · have : k = 400 := by omega
          rw [this]
        · rw [List.take_of_length_le (by omega), List.take_of_length_le (by omega)]
      have Htk := hide htk
      obtain ⟨m, xs, vos, h1, h2, h3, h4, h5, h6, h7, h8, h9⟩ := hI
      have hcnt := runB_len (codes.take k)
      have hkk : (codes.take k).length ≤ 400 := by simp; omega
      have hsl : (runB (codes.take k)).2.length = xs.length := by rw [h1]; simp
      have hvl : vos.length ≤ 400 := by omega
      have hxl : xs.length ≤ 400 := by omega
      have hbs := hB.size
      have HB := hide hB
      obtain ⟨a4, cap4, rfl⟩ : ∃ a4 cap4, u4 = .slice a4 xs.length cap4 := by
        rcases h2.2 with ⟨rfl, h0⟩ | ⟨g, cap, _, rfl, _⟩
        · exact ⟨none, 0, by rw [h0]⟩
        · exact ⟨_, _, rfl⟩
      by_cases hx0 : 0 < xs.length
      · have hz : Hid (batsZ codes = (runB (codes.take k)).1 ++ [(runB (codes.take k)).2]) := by
          unfold Hid batsZ; rw [htk, if_pos (by omega)]
        have hI4 : BInv (wr.alloc (.cells #[.slice a4 xs.length cap4] 36)) w.heap.size u3 (.slice a4 xs.length cap4) (runB (codes.take k)) := BInv.below ⟨m, xs, vos, h1, h2, h3, h4, h5, h6, h7, h8, h9⟩ ((Below.refl _ _).alloc (Nat.le_refl _) _)
        have hnew4 := cell1_new wr (.slice a4 xs.length cap4) 36
        have HB4 := hide (hB.alloc hbs (.cells #[.slice a4 xs.length cap4] 36))
        obtain ⟨m', xs', vos', k1, k2, k3, k4, k5, k6, k7, k8, k9⟩ := hI4
        have hxl' : 0 < xs'.length := by
          have := congrArg List.length k1
          simp at this
          omega
        have hvl' : vos'.length ≤ 400 := by omega
        have K1 := hide k1
        have K2 := hide k2
        have K3 := hide k3
        have K4 := hide k4
        have K5 := hide k5
        have K6 := hide k6
        have K7 := hide k7
        have hx0' : (0 : Int) < (xs.length : Int) := by omega
        clear k1 k2 k3 k4 k5 k6 k7 h1 h2 h3 h4 h5 h6 h7 hcnt hkk hsl htk hB hvl h8 h9
        have hcase : (codes.length : Int) ≤ k ∨ ((k : Int) < codes.length ∧ (400 : Int) ≤ k) := by omega
        rcases hcase with hc1 | ⟨hc1, hc2⟩
        all_goals
          go_wp2_with (first
            | (at_builtin; refine wpList_append_own_at _ rfl _ _ 25 rfl w.heap.size 36 i36 _ 1 24 Tryz.underlying25 gi gz0 gz1 gz2 rfl (by decide) _ _ _ rfl (unhide K5) ⟨wr.heap.size, 0, none⟩ 1 1 [.slice a4 xs.length cap4] rfl rfl hnew4 (by simp [Value.oneCell']) (by unfold maxLen; omega) (by omega) (by simp; omega) ?_; intro vo' w5 ho5 hgr5 hnil5 hloc5))
          have hI5 := BInv.shut (unhide K1) (unhide K2) (unhide K3) (unhide K4) (unhide K5) (unhide K6) (unhide K7) k8 k9 hxl' ho5 hgr5
          have HI5 := hide hI5.bats
          have HB5 := hide ((unhide HB4).grown hgr5 (unhide HB4).size (fun j e => (own_block (unhide K5) j e).1))
          clear hI5 ho5 hgr5 hnil5 hloc5
          go_wp2
          go_ret
          refine ⟨vo', rfl, ?_, unhide HB5⟩
          rw [unhide hz]
          exact unhide HI5
      · have hz : Hid (batsZ codes = (runB (codes.take k)).1) := by
          unfold Hid batsZ; rw [htk, if_neg (by omega)]
        have HI4 : Hid (BatsIn wr w.heap.size u3 (runB (codes.take k)).1) := BInv.bats ⟨m, xs, vos, h1, h2, h3, h4, h5, h6, h7, h8, h9⟩
        have hx0' : ¬ (0 : Int) < (xs.length : Int) := by omega
        clear h1 h2 h3 h4 h5 h6 h7 hcnt hkk hsl htk hB hvl h8 h9
        have hcase : (codes.length : Int) ≤ k ∨ ((k : Int) < codes.length ∧ (400 : Int) ≤ k) := by omega
        rcases hcase with hc1 | ⟨hc1, hc2⟩
        all_goals
          go_wp2
          go_ret
          refine ⟨u3, rfl, ?_, unhide HB⟩
          rw [unhide hz]
          exact unhide HI4

end Go.Proofs.YtoifcnidhfnapaaGreat
