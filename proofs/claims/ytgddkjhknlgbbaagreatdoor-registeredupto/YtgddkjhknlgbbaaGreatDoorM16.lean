import Derived.Test.YtgddkjhknlgbbaaGreatDoorM15
set_option linter.unusedVariables false
set_option linter.unusedSimpArgs false

namespace Go.Proofs.YtgddkjhknlgbbaaGreatDoor
set_option linter.unusedVariables false
set_option linter.unusedSimpArgs false
open Go.RowKit Go.Maps

theorem own_below {w w' : World} {base : Nat} {e : TypeId} {size : Nat} {v : Value} {n : Nat} {xs : List Value} (h : w.ownsRow base e size v n xs) (hb : Below w.heap.size w w') : w'.ownsRow base e size v n xs := by
  refine ⟨h.1, ?_⟩
  rcases h.2 with h | ⟨g, cap, cur, h1, h2, h3, h4⟩
  · exact .inl h
  · exact .inr ⟨g, cap, cur, h1, h2, (hb.block g (Array.getElem?_eq_some_iff.1 h3).1).trans h3, h4⟩

theorem ints_of_own {w : World} {base : Nat} {v : Value} {zs : List Int} (h : w.ownsRow base 2 1 v zs.length (zs.map (Value.int .i64))) : IntsAt w v zs := by
  obtain ⟨p, c, rfl, _, hn, hs⟩ := own_form h
  refine ⟨p, c, rfl, fun i hi => ?_⟩
  cases p with
  | none => have := hn rfl; omega
  | some ad =>
    obtain ⟨g, rfl, _, _, hc⟩ := hs ad rfl
    refine ⟨g, 0, rfl, ?_⟩
    rw [Nat.zero_add, hc i (by omega)]
    simp [hi]

set_option maxRecDepth 100000 in
set_option maxHeartbeats 4000000 in
/-- put, where the row is not there: a new list, the row laid in between, with numbers of its own. -/
theorem put_new (p pu : Option Addr) (cap cu base : Nat) (rs : List Raw) (zss : List (List Int)) (zs : List Int) (wt : Int) (w : World) (hown : w.ownsRow base 86 2 (.slice p rs.length cap) rs.length (rawCells rs)) (hraw : RawAt w (.slice p rs.length cap) rs) (hvals : RawVals w rs zss) (hu : IntsAt w (.slice pu zs.length cu) zs)
    (hpu : pu = none → zs.length = 0 ∧ cu = 0) (hl : rs.length ≤ 1000000000) (hzl : zs.length ≤ 1000000000000) (hsl : ∀ y ∈ zss, y.length ≤ 1000000000000) (hnew : ∀ h : aheadZ zss zs < rs.length, lessZ zs (zss[aheadZ zss zs]?.getD []) = true) :
    Calls Tryz.prog 37 #[.slice p rs.length cap, .slice pu zs.length cu, .int .i64 wt] w fun e w' => ∃ v' p1 c1 B, e = .returned v' ∧ w.heap.size ≤ B ∧ w'.ownsRow B 86 2 v' (rs.length + 1) (rawCells (rs.take (aheadZ zss zs) ++ ⟨p1, zs.length, c1, wt⟩ :: rs.drop (aheadZ zss zs))) ∧ w'.ownsRow w.heap.size 2 1 (.slice p1 zs.length c1) zs.length (zs.map (Value.int .i64)) ∧ Below w.heap.size w w' := by
  obtain ⟨p', cap', hpe, hc⟩ := hraw
  cases hpe
  have hsrc : ∀ w2, Drawn w w2 → ∀ ad, pu = some ad → ∀ j z, (zs.map (Value.int .i64))[j]? = some z → w2.cell? (ad.add j) = some z := by
    intro w2 hd ad hp j z hj
    obtain ⟨a9, c9, h9, hcs⟩ := hu
    cases h9
    have hjl : j < zs.length := by have := (List.getElem?_eq_some_iff.1 hj).1; simpa using this
    obtain ⟨b, o, hbo, hcell⟩ := hcs j hjl
    rw [hp] at hbo
    cases hbo
    have ea : (⟨b, o, none⟩ : Addr).add j = ⟨b, o + j, none⟩ := by by_cases h : j = 0 <;> simp [Addr.add, h]
    rw [ea, hd.cell, hcell]
    simp [hjl] at hj ⊢
    exact hj
  obtain ⟨pz, cz, hze, hcap, hpn, -⟩ := own_form hown
  cases hze
  obtain ⟨i85, hi, hz0, hz1, hz2⟩ := info_parts Tryz.info86
  obtain ⟨i2, ji, jz0, jz1, jz2⟩ := info_parts Tryz.info2
  have Hc := hide hc
  have Hv := hide hvals
  have Hu := hide hu
  have Hsl := hide hsl
  have Hsrc := hide hsrc
  have Hown := hide hown
  have hzz := hvals.1
  obtain ⟨m, hm⟩ : ∃ m, m = aheadZ zss zs := ⟨_, rfl⟩
  have hal := aheadZ_lt zss zs
  have hml := aheadZ_le zss zs
  rw [← hm] at hal hml
  rw [hzz] at hml
  rw [← hm] at hnew
  rw [← hm]
  have Hal := hide hal
  have Hnew := hide hnew
  clear hc hvals hu hsl hsrc hown hal hnew hm
  go_enter Tryz.func37, Tryz.ntmps37
  go_wp2
  go_loopw [7] (fun i wr => ∃ k : Nat, k ≤ m ∧ i = .int .i64 k ∧ Drawn w wr) (fun i _ => m - (intOf i).toNat)
  case atStart => exact ⟨0, Nat.zero_le _, rfl, Drawn.refl _⟩
  case round =>
    obtain ⟨k, hk, rfl, hdr⟩ := hrel
    by_cases hlt : k < rs.length
    · have hx : (k : Int) < (rs.length : Int) := by omega
      obtain ⟨b, o, rfl, d0, d1⟩ := (unhide Hc) k hlt
      rw [← hdr.cell] at d0 d1
      have hiv := (unhide Hv).2 k hlt
      have hys : (zss[k]?.getD []).length ≤ 1000000000000 := by
        have hlt' : k < zss.length := by omega
        simp [hlt']
        exact (unhide Hsl) _ (List.getElem_mem hlt')
      have hlk := (unhide Hal) k (by omega)
      obtain ⟨x, hxe⟩ : ∃ x, x = rs[k]?.getD zeroRaw := ⟨_, rfl⟩
      rw [← hxe] at d0 d1 hiv
      obtain ⟨xa, xn, xc, xw⟩ := x
      dsimp only at d0 d1 hiv
      have Hless := hide (less_any _ _ _ zs wr (hiv.drawn hdr) ((unhide Hu).drawn hdr) hys hzl)
      have Hless2 := fun (w2 : World) (h2 : Drawn w w2) => less_any _ _ zs (zss[k]?.getD []) w2 ((unhide Hu).drawn h2) (hiv.drawn h2) hzl hys
      have Hdr := hide hdr
      have HL2 := hide Hless2
      have Hlk := hide hlk
      clear hdr hiv hlk Hless2 hys hxe
      by_cases hkm : k < m
      · have ht := (unhide Hlk).1 hkm
        go_wp2_with fail
        refine (unhide Hless).mono ?_
        rintro e w1 ⟨rfl, hd1⟩
        rw [ht]
        have Hd1 := hide ((unhide Hdr).trans hd1)
        clear hd1 ht Hless HL2 Hlk
        go_wp2
        go_roundw
        case rel => exact ⟨k + 1, by omega, by go_num, unhide Hd1⟩
        case measure => simp [intOf]; omega
      · have hke : k = m := by omega
        subst hke
        have ht := (unhide Hlk).2 rfl
        go_wp2_with fail
        refine (unhide Hless).mono ?_
        rintro e w1 ⟨rfl, hd1⟩
        rw [ht]
        have Hd1 := hide ((unhide Hdr).trans hd1)
        rw [← hd1.cell] at d0 d1
        clear hd1 ht Hless Hlk
        go_wp2_with fail
        refine ((unhide HL2) w1 (unhide Hd1)).mono ?_
        rintro e w2 ⟨rfl, hd2⟩
        rw [(unhide Hnew) hlt]
        have Hd2 := hide ((unhide Hd1).trans hd2)
        have hsz2 : w.heap.size ≤ w2.heap.size := ((unhide Hd2).below w.heap.size).size
        obtain ⟨m, hmk⟩ : ∃ m, m = k := ⟨_, rfl⟩
        subst hmk
        obtain ⟨p, hp⟩ : ∃ p : Option Addr, p = some ⟨b, o, none⟩ := ⟨_, rfl⟩
        rw [← hp] at Hown hpn ⊢
        clear hd2 HL2 Hnew d0 d1 hp Hc
        go_wp2_with (first
            | (at_builtin
               refine wpList_append_any _ rfl (.tmp 66) (.tmp 69) 70 rfl w3.heap.size 86 i85 _ 2 32 Tryz.underlying70 hi hz0 hz1 hz2 rfl (by decide) (.slice p3 (m + 1) c3) (m + 1) _ rfl (unhide Ho3) _ (rs.length - m) (cap - m) (rawCells (rs.drop m)) rfl (fun e9 => none_drop2 hpn (by rw [if_neg (by omega)]; exact e9)) (by rw [rawCells_len, List.length_drop]) (fun ad9 e9 => raw_drop hml ((unhide HL3).trans ((unhide HL5).mono hs3)) (unhide Hown) hcap ad9 (by rw [if_neg (by omega)]; exact e9)) (rawCells_one _) (by unfold maxLen; omega) (by omega) hs5 ?_
               intro v4 w6 ho4 hg4
               have hL6 : Below w3.heap.size w3 w6 := (unhide HL5).grown hg4 hs5 (fun j e => (own_block (unhide Ho3) j e).1)
               have HL6 := hide hL6
               have Ho4 := hide ho4
               clear ho4 hg4 hL6 Ho3 HL5)
            | (at_builtin
               refine wpList_append_any _ rfl (.tmp 60) (.tmp 64) 70 rfl w3.heap.size 86 i85 _ 2 32 Tryz.underlying70 hi hz0 hz1 hz2 rfl (by decide) (.slice p2 m c2) m (rawCells (rs.take m)) rfl ((unhide Ho2).alloc _) (some ⟨w4.heap.size, 0, none⟩) 1 1 [.slice p1 zs.length c1, .int .i64 wt] rfl (fun e => by cases e) rfl (fun ad e => by cases e; exact cells2_new w4 _ _ 86) (by simp [Value.oneCell']) (by unfold maxLen; omega) (by omega) (by simp; omega) ?_
               intro v3 w5 ho3 hg3
               obtain ⟨p3, c3, rfl, -, -, -⟩ := own_form ho3
               have hL5 : Below w3.heap.size w3 w5 := ((unhide HL4).alloc hs4 _).grown hg3 (by simp; omega) (fun j e => (own_block (unhide Ho2) j e).1)
               have hs5 := hL5.size
               have HL5 := hide hL5
               have Ho3 := hide ho3
               clear ho3 hg3 hL5 Ho2 HL4)
            | (at_builtin
               refine wpList_append_any _ rfl (.tmp 55) (.tmp 58) 70 rfl w3.heap.size 86 i85 _ 2 32 Tryz.underlying70 hi hz0 hz1 hz2 rfl (by decide) (.slice none 0 0) 0 [] rfl (World.ownsRow_nil _ _ _ _) _ m cap (rawCells (rs.take m)) rfl (fun e => by have := hpn e; omega) (by rw [rawCells_len, List.length_take, Nat.min_eq_left hml]) (raw_take (unhide HL3) (unhide Hown)) (rawCells_one _) (by unfold maxLen; omega) (by omega) (Nat.le_refl _) ?_
               intro v2 w4 ho2 hg2
               rw [Nat.zero_add, List.nil_append] at ho2
               obtain ⟨p2, c2, rfl, -, -, -⟩ := own_form ho2
               have hL4 : Below w3.heap.size w3 w4 := (Below.refl _ _).grown hg2 (Nat.le_refl _) (fun j e => by cases e)
               have hs4 := hL4.size
               have HL4 := hide hL4
               have Ho2 := hide ho2
               clear ho2 hg2 hL4)
            | (at_builtin
               refine wpList_append_any _ rfl (.tmp 52) (.tmp 53) 73 rfl w.heap.size 2 i2 _ 1 8 Tryz.underlying73 ji jz0 jz1 jz2 rfl (by decide) (.slice none 0 0) 0 [] rfl (World.ownsRow_nil _ _ _ _) pu zs.length cu (zs.map (Value.int .i64)) rfl hpu (by simp) ((unhide Hsrc) w2 (unhide Hd2)) (ints_oneCell _ _) (by unfold maxLen; omega) (by omega) hsz2 ?_
               intro v1 w3 ho1 hg1
               rw [Nat.zero_add, List.nil_append] at ho1
               have hint := ho1
               obtain ⟨p1, c1, rfl, -, -, -⟩ := own_form ho1
               have hL3 : Below w.heap.size w w3 := ((unhide Hd2).below _).grown hg1 hsz2 (fun j e => by cases e)
               have hs3 := hL3.size
               have HL3 := hide hL3
               have Hint := hide hint
               clear ho1 hg1 hL3 hint))
        all_goals
          go_ret
          refine ⟨v4, p1, c1, w3.heap.size, rfl, hs3, ?_, own_below (unhide Hint) (unhide HL6), (unhide HL3).trans ((unhide HL6).mono hs3)⟩
          have e : rawCells (rs.take m ++ ⟨p1, zs.length, c1, wt⟩ :: rs.drop m) = rawCells (rs.take m) ++ [.slice p1 zs.length c1, .int .i64 wt] ++ rawCells (rs.drop m) := by simp [rawCells, rawL]
          have hl9 : m + 1 + (rs.length - m) = rs.length + 1 := by omega
          rw [e, ← hl9]
          exact unhide Ho4

    · have hkm : m = k := by omega
      subst hkm
      have hx : ¬ (m : Int) < (rs.length : Int) := by omega
      obtain ⟨w2, hw2⟩ : ∃ w2, w2 = wr := ⟨_, rfl⟩
      subst hw2
      have Hd2 := hide hdr
      have hsz2 : w.heap.size ≤ w2.heap.size := (hdr.below w.heap.size).size
      clear hdr
      go_wp2_with (first
          | (at_builtin
             refine wpList_append_any _ rfl (.tmp 66) (.tmp 69) 70 rfl w3.heap.size 86 i85 _ 2 32 Tryz.underlying70 hi hz0 hz1 hz2 rfl (by decide) (.slice p3 (m + 1) c3) (m + 1) _ rfl (unhide Ho3) _ (rs.length - m) (cap - m) (rawCells (rs.drop m)) rfl (none_drop2 hpn) (by rw [rawCells_len, List.length_drop]) (raw_drop hml ((unhide HL3).trans ((unhide HL5).mono hs3)) (unhide Hown) hcap) (rawCells_one _) (by unfold maxLen; omega) (by omega) hs5 ?_
             intro v4 w6 ho4 hg4
             have hL6 : Below w3.heap.size w3 w6 := (unhide HL5).grown hg4 hs5 (fun j e => (own_block (unhide Ho3) j e).1)
             have HL6 := hide hL6
             have Ho4 := hide ho4
             clear ho4 hg4 hL6 Ho3 HL5)
          | (at_builtin
             refine wpList_append_any _ rfl (.tmp 60) (.tmp 64) 70 rfl w3.heap.size 86 i85 _ 2 32 Tryz.underlying70 hi hz0 hz1 hz2 rfl (by decide) (.slice p2 m c2) m (rawCells (rs.take m)) rfl ((unhide Ho2).alloc _) (some ⟨w4.heap.size, 0, none⟩) 1 1 [.slice p1 zs.length c1, .int .i64 wt] rfl (fun e => by cases e) rfl (fun ad e => by cases e; exact cells2_new w4 _ _ 86) (by simp [Value.oneCell']) (by unfold maxLen; omega) (by omega) (by simp; omega) ?_
             intro v3 w5 ho3 hg3
             obtain ⟨p3, c3, rfl, -, -, -⟩ := own_form ho3
             have hL5 : Below w3.heap.size w3 w5 := ((unhide HL4).alloc hs4 _).grown hg3 (by simp; omega) (fun j e => (own_block (unhide Ho2) j e).1)
             have hs5 := hL5.size
             have HL5 := hide hL5
             have Ho3 := hide ho3
             clear ho3 hg3 hL5 Ho2 HL4)
          | (at_builtin
             refine wpList_append_any _ rfl (.tmp 55) (.tmp 58) 70 rfl w3.heap.size 86 i85 _ 2 32 Tryz.underlying70 hi hz0 hz1 hz2 rfl (by decide) (.slice none 0 0) 0 [] rfl (World.ownsRow_nil _ _ _ _) _ m cap (rawCells (rs.take m)) rfl (fun e => by have := hpn e; omega) (by rw [rawCells_len, List.length_take, Nat.min_eq_left hml]) (raw_take (unhide HL3) (unhide Hown)) (rawCells_one _) (by unfold maxLen; omega) (by omega) (Nat.le_refl _) ?_
             intro v2 w4 ho2 hg2
             rw [Nat.zero_add, List.nil_append] at ho2
             obtain ⟨p2, c2, rfl, -, -, -⟩ := own_form ho2
             have hL4 : Below w3.heap.size w3 w4 := (Below.refl _ _).grown hg2 (Nat.le_refl _) (fun j e => by cases e)
             have hs4 := hL4.size
             have HL4 := hide hL4
             have Ho2 := hide ho2
             clear ho2 hg2 hL4)
          | (at_builtin
             refine wpList_append_any _ rfl (.tmp 52) (.tmp 53) 73 rfl w.heap.size 2 i2 _ 1 8 Tryz.underlying73 ji jz0 jz1 jz2 rfl (by decide) (.slice none 0 0) 0 [] rfl (World.ownsRow_nil _ _ _ _) pu zs.length cu (zs.map (Value.int .i64)) rfl hpu (by simp) ((unhide Hsrc) w2 (unhide Hd2)) (ints_oneCell _ _) (by unfold maxLen; omega) (by omega) hsz2 ?_
             intro v1 w3 ho1 hg1
             rw [Nat.zero_add, List.nil_append] at ho1
             have hint := ho1
             obtain ⟨p1, c1, rfl, -, -, -⟩ := own_form ho1
             have hL3 : Below w.heap.size w w3 := ((unhide Hd2).below _).grown hg1 hsz2 (fun j e => by cases e)
             have hs3 := hL3.size
             have HL3 := hide hL3
             have Hint := hide hint
             clear ho1 hg1 hL3 hint))
      all_goals
        go_ret
        refine ⟨v4, rfl, p1, c1, w3.heap.size, hs3, ?_, own_below (unhide Hint) (unhide HL6), (unhide HL3).trans ((unhide HL6).mono hs3)⟩
        have e : rawCells (rs.take m ++ ⟨p1, zs.length, c1, wt⟩ :: rs.drop m) = rawCells (rs.take m) ++ [.slice p1 zs.length c1, .int .i64 wt] ++ rawCells (rs.drop m) := by simp [rawCells, rawL]
        have hl9 : m + 1 + (rs.length - m) = rs.length + 1 := by omega
        rw [e, ← hl9]
        exact unhide Ho4

end Go.Proofs.YtgddkjhknlgbbaaGreatDoor

namespace Go.Proofs.YtgddkjhknlgbbaaGreatDoor
set_option linter.unusedVariables false
set_option linter.unusedSimpArgs false
open Go.RowKit Go.Maps

abbrev RowZ := List Int × Int

/-- Rows in order, of ar numbers each. -/
structure Sor (ar : Nat) (L : List RowZ) : Prop where
  len : ∀ p ∈ L, p.1.length = ar
  wf : ∀ p ∈ L, WfRow (padRow p.1)
  ord : L.Pairwise fun p q => lessZ p.1 q.1 = true

/-- The weights of a list of rows, by row. -/
def fOf : List RowZ → Row → Int
  | [], _ => 0
  | p :: L, r => (if padRow p.1 = r then p.2 else 0) + fOf L r

/-- What the reference's put makes. -/
def putZ : List RowZ → List Int → Int → List RowZ
  | [], zs, wt => [(zs, wt)]
  | p :: L, zs, wt => if lessZ p.1 zs = true then p :: putZ L zs wt else if lessZ zs p.1 = true then (zs, wt) :: p :: L else (p.1, p.2 + wt) :: L

theorem lessZ_irr : ∀ a : List Int, lessZ a a = false
  | [] => rfl
  | x :: xs => by simp [lessZ, lessZ_irr xs]

theorem lessZ_trans : ∀ a b c : List Int, lessZ a b = true → lessZ b c = true → lessZ a c = true
  | [], [], c, h, _ => by simp [lessZ] at h
  | [], y :: ys, [], _, h => by simp [lessZ] at h
  | [], y :: ys, z :: zs, _, _ => rfl
  | x :: xs, [], c, h, _ => by simp [lessZ] at h
  | x :: xs, y :: ys, [], _, h => by simp [lessZ] at h
  | x :: xs, y :: ys, z :: zs, h1, h2 => by
    have ih := lessZ_trans xs ys zs
    simp only [lessZ] at h1 h2 ⊢
    by_cases e1 : x = y
    · rw [if_pos e1] at h1
      by_cases e2 : y = z
      · rw [if_pos e2] at h2; rw [if_pos (e1.trans e2)]; exact ih h1 h2
      · rw [if_neg e2] at h2
        have h2 := of_decide_eq_true h2
        rw [if_neg (by omega)]; exact decide_eq_true (by omega)
    · rw [if_neg e1] at h1
      have h1 := of_decide_eq_true h1
      by_cases e2 : y = z
      · rw [if_neg (by omega)]; exact decide_eq_true (by omega)
      · rw [if_neg e2] at h2
        have h2 := of_decide_eq_true h2
        rw [if_neg (by omega)]; exact decide_eq_true (by omega)

theorem lessZ_total : ∀ a b : List Int, lessZ a b = false → lessZ b a = false → a = b
  | [], [], _, _ => rfl
  | [], y :: ys, h, _ => by simp [lessZ] at h
  | x :: xs, [], _, h => by simp [lessZ] at h
  | x :: xs, y :: ys, h1, h2 => by
    simp only [lessZ] at h1 h2
    by_cases e : x = y
    · subst e
      simp at h1 h2
      rw [lessZ_total xs ys h1 h2]
    · rw [if_neg e] at h1
      rw [if_neg (fun h => e h.symm)] at h2
      have h1 := of_decide_eq_false h1
      have h2 := of_decide_eq_false h2
      omega

theorem putZ_mem (zs : List Int) (wt : Int) : ∀ (L : List RowZ) (p : RowZ), p ∈ putZ L zs wt → p.1 = zs ∨ ∃ q ∈ L, q.1 = p.1
  | [], p, h => by simp [putZ] at h; exact .inl (by rw [h])
  | q :: L, p, h => by
    unfold putZ at h
    split at h
    · rcases List.mem_cons.1 h with rfl | h
      · exact .inr ⟨p, by simp, rfl⟩
      · rcases putZ_mem zs wt L p h with h | ⟨r, hr, he⟩
        · exact .inl h
        · exact .inr ⟨r, by simp [hr], he⟩
    · split at h
      · rcases List.mem_cons.1 h with rfl | h
        · exact .inl rfl
        · exact .inr ⟨p, h, rfl⟩
      · rcases List.mem_cons.1 h with rfl | h
        · exact .inr ⟨q, by simp, rfl⟩
        · exact .inr ⟨p, by simp [h], rfl⟩

theorem putZ_len (zs : List Int) (wt : Int) : ∀ (L : List RowZ), (putZ L zs wt).length ≤ L.length + 1
  | [] => by simp [putZ]
  | p :: L => by
    unfold putZ
    split
    · have := putZ_len zs wt L; simp; omega
    · split <;> simp

theorem Sor.put {ar : Nat} {L : List RowZ} (h : Sor ar L) {zs : List Int} (hz : zs.length = ar) (hw : WfRow (padRow zs)) (wt : Int) : Sor ar (putZ L zs wt) := by
  refine ⟨fun p hp => ?_, fun p hp => ?_, ?_⟩
  · rcases putZ_mem zs wt L p hp with e | ⟨q, hq, e⟩
    · rw [e, hz]
    · rw [← e]; exact h.len q hq
  · rcases putZ_mem zs wt L p hp with e | ⟨q, hq, e⟩
    · rw [e]; exact hw
    · rw [← e]; exact h.wf q hq
  · have ho := h.ord
    clear h
    induction L with
    | nil => simp [putZ]
    | cons p L ih =>
      obtain ⟨h1, h2⟩ := List.pairwise_cons.1 ho
      unfold putZ
      split
      · rename_i hl
        refine List.pairwise_cons.2 ⟨fun q hq => ?_, ih h2⟩
        rcases putZ_mem zs wt L q hq with e | ⟨r, hr, e⟩
        · rw [e]; exact hl
        · rw [← e]; exact h1 r hr
      · split
        · rename_i hl
          refine List.pairwise_cons.2 ⟨fun q hq => ?_, ho⟩
          rcases List.mem_cons.1 hq with rfl | hq
          · exact hl
          · exact lessZ_trans _ _ _ hl (h1 q hq)
        · exact List.pairwise_cons.2 ⟨h1, h2⟩

theorem fOf_put {zs : List Int} {wt : Int} (r : Row) : ∀ (L : List RowZ), fOf (putZ L zs wt) r = fOf L r + (if padRow zs = r then wt else 0)
  | [] => by simp [putZ, fOf]
  | p :: L => by
    unfold putZ
    split
    · simp only [fOf, fOf_put r L]; omega
    · rename_i h1
      split
      · simp only [fOf]; omega
      · rename_i h2
        have e : p.1 = zs := lessZ_total _ _ (by simpa using h1) (by simpa using h2)
        simp only [fOf, e]
        split <;> omega

/-- All entries of a name, put one behind the other. -/
def putAll (nm : ByteArray) : List Ent → List RowZ → List RowZ
  | [], L => L
  | x :: es, L => putAll nm es (if x.nm = nm then putZ L x.row x.wt else L)

theorem putAll_snoc (nm : ByteArray) (x : Ent) : ∀ (es : List Ent) (L : List RowZ), putAll nm (es ++ [x]) L = if x.nm = nm then putZ (putAll nm es L) x.row x.wt else putAll nm es L
  | [], L => by simp [putAll]
  | y :: es, L => by simp only [List.cons_append, putAll]; exact putAll_snoc nm x es _

theorem fOf_putAll (nm : ByteArray) (r : Row) : ∀ (es : List Ent) (L : List RowZ), fOf (putAll nm es L) r = fOf L r + sumE es nm r
  | [], L => by simp [putAll, sumE]
  | x :: es, L => by
    simp only [putAll, sumE]
    rw [fOf_putAll nm r es]
    by_cases e : x.nm = nm
    · rw [if_pos e, fOf_put]
      simp only [e, true_and]; omega
    · rw [if_neg e, if_neg (fun h => e h.1)]; omega

theorem Sor.putAll {ar : Nat} {nm : ByteArray} : ∀ {es : List Ent} {L : List RowZ}, Sor ar L → (∀ x ∈ es, x.nm = nm → x.row.length = ar ∧ WfRow (padRow x.row)) → Sor ar (putAll nm es L)
  | [], L, h, _ => h
  | x :: es, L, h, hx => by
    refine Sor.putAll (L := if x.nm = nm then putZ L x.row x.wt else L) ?_ (fun y hy => hx y (List.mem_cons_of_mem _ hy))
    by_cases e : x.nm = nm
    · rw [if_pos e]; exact h.put (hx x List.mem_cons_self e).1 (hx x List.mem_cons_self e).2 _
    · rw [if_neg e]; exact h

theorem putAll_len (nm : ByteArray) : ∀ (es : List Ent) (L : List RowZ), (putAll nm es L).length ≤ L.length + es.length
  | [], L => by simp [putAll]
  | x :: es, L => by
    simp only [putAll]
    have := putAll_len nm es (if x.nm = nm then putZ L x.row x.wt else L)
    have h2 : (if x.nm = nm then putZ L x.row x.wt else L).length ≤ L.length + 1 := by
      split
      · exact putZ_len _ _ _
      · omega
    simp; omega

/-- The rows whose weight is not 0. -/
def thereZ (L : List RowZ) : List RowZ := L.filter fun p => decide (p.2 ≠ 0)

theorem fOf_there (r : Row) : ∀ L : List RowZ, fOf (thereZ L) r = fOf L r
  | [] => rfl
  | p :: L => by
    have ih := fOf_there r L
    unfold thereZ at ih ⊢
    by_cases e : p.2 = 0
    · rw [List.filter_cons_of_neg (by simp [e]), ih]; simp [fOf, e]
    · rw [List.filter_cons_of_pos (by simp [e])]; simp only [fOf, ih]

theorem Sor.there {ar : Nat} {L : List RowZ} (h : Sor ar L) : Sor ar (thereZ L) :=
  ⟨fun p hp => h.len p (List.mem_filter.1 hp).1, fun p hp => h.wf p (List.mem_filter.1 hp).1, h.ord.filter _⟩

theorem padZ_inj {a b : List Int} (hl : a.length = b.length) (h3 : a.length ≤ 3) (h : padRow a = padRow b) : a = b := by
  match a, b, hl, h3 with
  | [], [], _, _ => rfl
  | [x], [y], _, _ => simp [padRow] at h; simp [h]
  | [x, x2], [y, y2], _, _ => simp [padRow] at h; simp [h]
  | [x, x2, x3], [y, y2, y3], _, _ => simp [padRow] at h; simp [h]

theorem padZ_lt {a b : List Int} (hl : a.length = b.length) (h3 : a.length ≤ 3) (h : lessZ a b = true) : ltR (padRow a) (padRow b) := by
  unfold ltR
  match a, b, hl, h3 with
  | [], [], _, _ => simp [lessZ] at h
  | [x], [y], _, _ =>
    simp only [lessZ] at h
    by_cases e : x = y
    · simp [e] at h
    · simp [e] at h; simp [padRow]; omega
  | [x, x2], [y, y2], _, _ =>
    simp only [lessZ] at h
    by_cases e : x = y
    · simp [e] at h; simp [padRow, e]; omega
    · simp [e] at h; simp [padRow]; omega
  | [x, x2, x3], [y, y2, y3], _, _ =>
    simp only [lessZ] at h
    by_cases e : x = y
    · by_cases e2 : x2 = y2
      · simp [e, e2] at h; simp [padRow, e, e2]; omega
      · simp [e, e2] at h; simp [padRow, e]; omega
    · simp [e] at h; simp [padRow]; omega

theorem fOf_none {r : Row} : ∀ {L : List RowZ}, (∀ p ∈ L, padRow p.1 ≠ r) → fOf L r = 0
  | [], _ => rfl
  | p :: L, h => by
    simp only [fOf]
    rw [if_neg (h p List.mem_cons_self), fOf_none (fun q hq => h q (List.mem_cons_of_mem _ hq))]; rfl

theorem Sor.tail {ar : Nat} {p : RowZ} {L : List RowZ} (h : Sor ar (p :: L)) : Sor ar L :=
  ⟨fun q hq => h.len q (List.mem_cons_of_mem _ hq), fun q hq => h.wf q (List.mem_cons_of_mem _ hq), (List.pairwise_cons.1 h.ord).2⟩

theorem Sor.apart {ar : Nat} (h3 : ar ≤ 3) : ∀ {L : List RowZ}, Sor ar L → L.Pairwise fun p q => padRow p.1 ≠ padRow q.1 := by
  intro L h
  refine h.ord.imp_of_mem (fun {p q} hp hq hl e => ?_)
  have := padZ_inj ((h.len p hp).trans (h.len q hq).symm) (by rw [h.len p hp]; exact h3) e
  rw [this, lessZ_irr] at hl
  cases hl

theorem fOf_mem {ar : Nat} (h3 : ar ≤ 3) : ∀ {L : List RowZ}, Sor ar L → ∀ p ∈ L, fOf L (padRow p.1) = p.2
  | [], _, p, hp => by simp at hp
  | q :: L, h, p, hp => by
    have ha := List.pairwise_cons.1 (h.apart h3)
    simp only [fOf]
    rcases List.mem_cons.1 hp with rfl | hp
    · rw [if_pos rfl, fOf_none (fun r hr e => ha.1 r hr e.symm)]; omega
    · rw [if_neg (ha.1 p hp), fOf_mem h3 h.tail p hp]; omega

theorem fOf_cases {ar : Nat} (h3 : ar ≤ 3) {L : List RowZ} (h : Sor ar L) (r : Row) : fOf L r = 0 ∧ (∀ p ∈ L, padRow p.1 ≠ r) ∨ ∃ p ∈ L, padRow p.1 = r ∧ fOf L r = p.2 := by
  by_cases e : ∃ p ∈ L, padRow p.1 = r
  · obtain ⟨p, hp, e⟩ := e
    exact .inr ⟨p, hp, e, by rw [← e]; exact fOf_mem h3 h p hp⟩
  · have h0 : ∀ p ∈ L, padRow p.1 ≠ r := fun p hp e' => e ⟨p, hp, e'⟩
    exact .inl ⟨fOf_none h0, h0⟩

theorem rowsF_of {ar : Nat} (h3 : ar ≤ 3) {L : List RowZ} (h : Sor ar L) (hn : ∀ p ∈ L, p.2 ≠ 0) : RowsF (fOf L) (L.map fun p => padRow p.1) := by
  refine ⟨?_, fun y hy => ?_, fun r hr => ⟨fun hm => ?_, fun hm => ?_⟩⟩
  · unfold Rising
    rw [List.pairwise_map]
    exact h.ord.imp_of_mem (fun {p q} hp hq hl => padZ_lt ((h.len p hp).trans (h.len q hq).symm) (by rw [h.len p hp]; exact h3) hl)
  · obtain ⟨p, hp, rfl⟩ := List.mem_map.1 hy
    exact h.wf p hp
  · obtain ⟨p, hp, rfl⟩ := List.mem_map.1 hm
    rw [fOf_mem h3 h p hp]; exact hn p hp
  · rcases fOf_cases h3 h r with ⟨h0, _⟩ | ⟨p, hp, e, _⟩
    · exact absurd h0 hm
    · exact List.mem_map.2 ⟨p, hp, e⟩

theorem numsZ_pad {ar : Nat} {zs : List Int} (h : zs.length = ar) (h3 : ar ≤ 3) : numsR ar (padRow zs) = zs := by
  subst h
  match zs, h3 with
  | [], _ => rfl
  | [x], _ => rfl
  | [x, x2], _ => rfl
  | [x, x2, x3], _ => rfl

theorem rowsZ_of {ar : Nat} (h3 : ar ≤ 3) {L : List RowZ} (h : Sor ar L) : rowsZ ar (fOf L) (L.map fun p => padRow p.1) = L := by
  unfold rowsZ
  rw [List.map_map]
  have : ∀ p ∈ L, ((fun y => (numsR ar y, fOf L y)) ∘ fun p : RowZ => padRow p.1) p = p := fun p hp => by
    simp only [Function.comp, numsZ_pad (h.len p hp) h3, fOf_mem h3 h p hp]
  conv => rhs; rw [← List.map_id L]
  exact List.map_congr_left this

/-- put, by the place of the row. -/
theorem putZ_at (zs : List Int) (wt : Int) : ∀ (L : List RowZ), putZ L zs wt =
    if aheadZ (L.map (·.1)) zs < L.length ∧ lessZ zs ((L.map (·.1))[aheadZ (L.map (·.1)) zs]?.getD []) = false
    then L.set (aheadZ (L.map (·.1)) zs) ((L[aheadZ (L.map (·.1)) zs]?.getD ([], 0)).1, (L[aheadZ (L.map (·.1)) zs]?.getD ([], 0)).2 + wt)
    else L.take (aheadZ (L.map (·.1)) zs) ++ (zs, wt) :: L.drop (aheadZ (L.map (·.1)) zs)
  | [] => by simp [putZ, aheadZ]
  | p :: L => by
    have ih := putZ_at zs wt L
    by_cases e : lessZ p.1 zs = true
    · have e1 : aheadZ ((p :: L).map (·.1)) zs = aheadZ (L.map (·.1)) zs + 1 := by simp [aheadZ, e]
      rw [e1]
      have e2 : putZ (p :: L) zs wt = p :: putZ L zs wt := by simp [putZ, e]
      rw [e2, ih]
      by_cases c : aheadZ (L.map (·.1)) zs < L.length ∧ lessZ zs ((L.map (·.1))[aheadZ (L.map (·.1)) zs]?.getD []) = false
      · rw [if_pos c, if_pos (by simpa using c)]
        simp
      · rw [if_neg c, if_neg (by simpa using c)]
        simp
    · have e1 : aheadZ ((p :: L).map (·.1)) zs = 0 := by simp [aheadZ, e]
      rw [e1]
      by_cases e2 : lessZ zs p.1 = true
      · simp [putZ, e, e2]
      · simp [putZ, e, e2]

end Go.Proofs.YtgddkjhknlgbbaaGreatDoor

namespace Go.Proofs.YtgddkjhknlgbbaaGreatDoor
set_option linter.unusedVariables false
set_option linter.unusedSimpArgs false
open Go.RowKit Go.Maps

/-- A list that lies in a block of its own, which is one of T's. -/
def OwnT (T : Nat → Prop) (W : World) (e : TypeId) (size : Nat) (v : Value) (n : Nat) (xs : List Value) : Prop :=
  (∃ base, W.ownsRow base e size v n xs) ∧ ∀ g, v.ownBlock = some g → T g

theorem OwnT.kept {T : Nat → Prop} {W W' : World} {e : TypeId} {size : Nat} {v : Value} {n : Nat} {xs : List Value} (h : OwnT T W e size v n xs)
    (hk : ∀ g cur, T g → W.heap[g]? = some (.cells cur e (0, 0)) → W'.heap[g]? = W.heap[g]?) : OwnT T W' e size v n xs := by
  obtain ⟨⟨base, h1, h2⟩, hT⟩ := h
  refine ⟨⟨base, h1, ?_⟩, hT⟩
  rcases h2 with h | ⟨g, cap, cur, rfl, h2, h3, h4⟩
  · exact .inl h
  · exact .inr ⟨g, cap, cur, rfl, h2, (hk g cur (hT g rfl) h3).trans h3, h4⟩

theorem OwnT.imp {T T' : Nat → Prop} {W : World} {e : TypeId} {size : Nat} {v : Value} {n : Nat} {xs : List Value} (h : OwnT T W e size v n xs) (hT : ∀ g, T g → T' g) : OwnT T' W e size v n xs := ⟨h.1, fun g hg => hT g (h.2 g hg)⟩

/-- Numbers in a block of their own. -/
def NumT (T : Nat → Prop) (W : World) (v : Value) (zs : List Int) : Prop := OwnT T W 2 1 v zs.length (zs.map (Value.int .i64))

/-- A list of rows as it lies, and what it reads as. -/
structure RowsT (T : Nat → Prop) (W : World) (base : Nat) (u : Value) (rsx : List Raw) (L : List RowZ) : Prop where
  own : W.ownsRow base 86 2 u rsx.length (rawCells rsx)
  inT : ∀ g, u.ownBlock = some g → T g
  len : L.length = rsx.length
  num : ∀ i, i < rsx.length → NumT T W (.slice (rsx[i]?.getD zeroRaw).a (rsx[i]?.getD zeroRaw).n (rsx[i]?.getD zeroRaw).cap) (L[i]?.getD ([], 0)).1
  wt : ∀ i, i < rsx.length → (rsx[i]?.getD zeroRaw).wt = (L[i]?.getD ([], 0)).2

theorem RowsT.kept {T : Nat → Prop} {W W' : World} {base : Nat} {u : Value} {rsx : List Raw} {L : List RowZ} (h : RowsT T W base u rsx L)
    (hk : ∀ g cur t, T g → t = 86 ∨ t = 2 → W.heap[g]? = some (.cells cur t (0, 0)) → W'.heap[g]? = W.heap[g]?) : RowsT T W' base u rsx L := by
  refine ⟨⟨h.own.1, ?_⟩, h.inT, h.len, fun i hi => (h.num i hi).kept (fun g cur hT hg => hk g cur 2 hT (.inr rfl) hg), h.wt⟩
  rcases h.own.2 with h1 | ⟨g, cap, cur, rfl, h2, h3, h4⟩
  · exact .inl h1
  · exact .inr ⟨g, cap, cur, rfl, h2, (hk g cur 86 (h.inT g rfl) (.inl rfl) h3).trans h3, h4⟩

theorem heap_lt {W : World} {g : Nat} {o : Obj} (h : W.heap[g]? = some o) : g < W.heap.size := (Array.getElem?_eq_some_iff.1 h).1

theorem RowsT.below {T : Nat → Prop} {W W' : World} {base : Nat} {u : Value} {rsx : List Raw} {L : List RowZ} (h : RowsT T W base u rsx L) (hb : Below W.heap.size W W') : RowsT T W' base u rsx L :=
  h.kept (fun g cur t _ _ hg => hb.block g (heap_lt hg))

theorem RowsT.imp {T T' : Nat → Prop} {W : World} {base : Nat} {u : Value} {rsx : List Raw} {L : List RowZ} (h : RowsT T W base u rsx L) (hT : ∀ g, T g → T' g) : RowsT T' W base u rsx L :=
  ⟨h.own, fun g hg => hT g (h.inT g hg), h.len, fun i hi => (h.num i hi).imp hT, h.wt⟩

theorem RowsT.lower {T : Nat → Prop} {W : World} {base base' : Nat} {u : Value} {rsx : List Raw} {L : List RowZ} (h : RowsT T W base u rsx L) (hb : base' ≤ base) : RowsT T W base' u rsx L := by
  refine ⟨⟨h.own.1, ?_⟩, h.inT, h.len, h.num, h.wt⟩
  rcases h.own.2 with h1 | ⟨g, cap, cur, rfl, h2, h3⟩
  · exact .inl h1
  · exact .inr ⟨g, cap, cur, rfl, Nat.le_trans hb h2, h3⟩

theorem raw_getD (r : Raw) (l : List Raw) : (r :: l)[0]?.getD zeroRaw = r := rfl

theorem rawCells_at (rs : List Raw) : ∀ i, i < rs.length → (rawCells rs)[i * 2]? = some (.slice (rs[i]?.getD zeroRaw).a (rs[i]?.getD zeroRaw).n (rs[i]?.getD zeroRaw).cap) ∧ (rawCells rs)[i * 2 + 1]? = some (.int .i64 (rs[i]?.getD zeroRaw).wt) := by
  induction rs with
  | nil => intro i hi; simp at hi
  | cons r rs ih =>
    intro i hi
    have e : rawCells (r :: rs) = .slice r.a r.n r.cap :: .int .i64 r.wt :: rawCells rs := by simp [rawCells, rawL]
    rw [e]
    cases i with
    | zero => exact ⟨rfl, rfl⟩
    | succ i =>
      have := ih i (by simpa using hi)
      have e1 : (i + 1) * 2 = i * 2 + 1 + 1 := by omega
      rw [e1]
      simp only [List.getElem?_cons_succ]
      exact this

theorem raw_of_own {W : World} {base : Nat} {u : Value} {rs : List Raw} (h : W.ownsRow base 86 2 u rs.length (rawCells rs)) : RawAt W u rs := by
  obtain ⟨p, c, rfl, _, hn, hs⟩ := own_form h
  refine ⟨p, c, rfl, fun i hi => ?_⟩
  cases p with
  | none => have := hn rfl; omega
  | some ad =>
    obtain ⟨g, rfl, _, _, hc⟩ := hs ad rfl
    have := rawCells_at rs i hi
    refine ⟨g, 0, rfl, ?_, ?_⟩
    · rw [Nat.zero_add, hc _ (by omega)]; exact this.1
    · rw [Nat.zero_add, hc _ (by omega)]; exact this.2

theorem RowsT.vals {T : Nat → Prop} {W : World} {base : Nat} {u : Value} {rsx : List Raw} {L : List RowZ} (h : RowsT T W base u rsx L) : RawVals W rsx (L.map (·.1)) := by
  refine ⟨by simp [h.len], fun i hi => ?_⟩
  obtain ⟨⟨b, hb⟩, _⟩ := h.num i hi
  have hl : i < L.length := by rw [h.len]; exact hi
  have e : (L.map (·.1))[i]?.getD [] = (L[i]?.getD ([], 0)).1 := by simp [hl]
  rw [e]
  exact ints_of_own hb

theorem rawCells_set (rs : List Raw) : ∀ (m : Nat) (x : Int), m < rs.length → (rawCells rs).set (m * 2 + 1) (.int .i64 x) = rawCells (rs.set m { (rs[m]?.getD zeroRaw) with wt := x }) := by
  induction rs with
  | nil => intro m x h; simp at h
  | cons r rs ih =>
    intro m x h
    have e : ∀ (r : Raw) (rs : List Raw), rawCells (r :: rs) = .slice r.a r.n r.cap :: .int .i64 r.wt :: rawCells rs := fun r rs => by simp [rawCells, rawL]
    cases m with
    | zero => simp [e]
    | succ m =>
      have e1 : (m + 1) * 2 + 1 = m * 2 + 1 + 1 + 1 := by omega
      rw [e1, e]
      simp only [List.set_cons_succ, List.getElem?_cons_succ]
      rw [ih m x (by simpa using h), e]

set_option maxHeartbeats 1000000 in
/-- The reference's put, whatever the row. -/
theorem put_any (T : Nat → Prop) (W : World) (base : Nat) (u : Value) (rsx : List Raw) (L : List RowZ) (zs : List Int) (wt : Int) (pu : Option Addr) (cu : Nat) (hR : RowsT T W base u rsx L) (hT : ∀ g, base ≤ g → T g) (hbase : base ≤ W.heap.size)
    (hu : IntsAt W (.slice pu zs.length cu) zs) (hpu : pu = none → zs.length = 0 ∧ cu = 0) (hl : rsx.length ≤ 1000000000) (hzl : zs.length ≤ 1000000000000) (hsl : ∀ p ∈ L, p.1.length ≤ 1000000000000) (hw1 : -1000000000000 ≤ wt ∧ wt ≤ 1000000000000) (hw2 : ∀ p ∈ L, -1000000000000 ≤ p.2 ∧ p.2 ≤ 1000000000000) :
    Calls Tryz.prog 37 #[u, .slice pu zs.length cu, .int .i64 wt] W fun e w' => ∃ u' rsx', e = .returned u' ∧ RowsT T w' base u' rsx' (putZ L zs wt) ∧ Below base W w' := by
  have hraw := raw_of_own hR.own
  have hvals := hR.vals
  have hal := aheadZ_le (L.map (·.1)) zs
  have hll : (L.map (·.1)).length = rsx.length := by simp [hR.len]
  have hsl' : ∀ y ∈ L.map (·.1), y.length ≤ 1000000000000 := fun y hy => by obtain ⟨p, hp, rfl⟩ := List.mem_map.1 hy; exact hsl p hp
  rw [putZ_at]
  by_cases hc : aheadZ (L.map (·.1)) zs < L.length ∧ lessZ zs ((L.map (·.1))[aheadZ (L.map (·.1)) zs]?.getD []) = false
  · rw [if_pos hc]
    generalize hm : aheadZ (L.map (·.1)) zs = m at hc
    have hmr : m < rsx.length := by rw [← hR.len]; exact hc.1
    obtain ⟨p, c, rfl, _, hn, hs⟩ := own_form hR.own
    cases p with
    | none => have := hn rfl; omega
    | some ad =>
      obtain ⟨g, rfl, hgb, hgl, _⟩ := hs ad rfl
      have hLm : L[m]?.getD ([], 0) ∈ L := by simp [hc.1]
      have hwm := hR.wt m hmr
      have key := put_there g c (.slice pu zs.length cu) base rsx (L.map (·.1)) zs wt W hR.own hraw hvals hu hl hzl hsl' (by rw [hm]; exact hmr) (by rw [hm]; exact hc.2) hw1 (by rw [hm, hwm]; exact hw2 _ hLm)
      rw [hm] at key
      refine key.mono ?_
      rintro e w' ⟨rfl, w2, hd, rfl⟩
      have hown2 : w2.ownsRow base 86 2 (.slice (some ⟨g, 0, none⟩) rsx.length c) rsx.length (rawCells rsx) := own_below hR.own (hd.below _)
      obtain ⟨h1, h2⟩ := hown2.stored (m * 2 + 1) (.int .i64 ((rsx[m]?.getD zeroRaw).wt + wt))
      rw [rawCells_set rsx m _ hmr] at h1
      obtain ⟨cur, hgc⟩ : ∃ cur, w2.heap[g]? = some (Obj.cells cur 86 (0, 0)) := by
        rcases hown2.2 with ⟨h', _⟩ | ⟨g', cap', cur, h', _, hg, _⟩
        · cases h'
        · cases h'; exact ⟨cur, hg⟩
      have hnk : ∀ (k : Nat) (cur' : Array Value), w2.heap[k]? = some (Obj.cells cur' 2 (0, 0)) → (w2.setCell ⟨g, m * 2 + 1, none⟩ (.int .i64 ((rsx[m]?.getD zeroRaw).wt + wt))).heap[k]? = w2.heap[k]? := fun k cur' hk =>
        h2.block k (heap_lt hk) (fun e => by injection e with e; rw [e, hgc] at hk; injection hk with hk; injection hk with _ hk _; exact absurd hk (by decide))
      have hN : ∀ i, i < rsx.length → NumT T (w2.setCell ⟨g, m * 2 + 1, none⟩ (.int .i64 ((rsx[m]?.getD zeroRaw).wt + wt))) (.slice (rsx[i]?.getD zeroRaw).a (rsx[i]?.getD zeroRaw).n (rsx[i]?.getD zeroRaw).cap) (L[i]?.getD ([], 0)).1 :=
        fun i hi => ((hR.num i hi).kept (fun k cur' _ hk => (hd.below _).block k (heap_lt hk))).kept (fun k cur' _ hk => hnk k cur' hk)
      refine ⟨_, rsx.set m { (rsx[m]?.getD zeroRaw) with wt := (rsx[m]?.getD zeroRaw).wt + wt }, rfl, ⟨by simpa using h1, hR.inT, by simp [hR.len], fun i hi => ?_, fun i hi => ?_⟩, (hd.below _).grown h2 (by have := (hd.below 0).size; omega) (fun k e => by cases e; exact hgb)⟩
      · have hi' : i < rsx.length := by simpa using hi
        by_cases e : i = m
        · subst e
          have := hN i hi'
          simpa [hi', hc.1] using this
        · have := hN i hi'
          have e' : ¬ m = i := fun h => e h.symm
          simpa [List.getElem?_set, e'] using this
      · have hi' : i < rsx.length := by simpa using hi
        by_cases e : i = m
        · subst e
          simp [hi', hc.1] at hwm ⊢
          omega
        · have := hR.wt i hi'
          have e' : ¬ m = i := fun h => e h.symm
          simpa [List.getElem?_set, e'] using this
  · rw [if_neg hc]
    generalize hm : aheadZ (L.map (·.1)) zs = m at hc
    obtain ⟨p, c, rfl, _, hn, hs⟩ := own_form hR.own
    have key := put_new p pu c cu base rsx (L.map (·.1)) zs wt W hR.own hraw hvals hu hpu hl hzl hsl' (by
      rw [hm]; intro h
      by_cases h2 : lessZ zs ((L.map (·.1))[m]?.getD []) = true
      · exact h2
      · exact absurd ⟨by rw [hR.len]; exact h, by simpa using h2⟩ hc)
    rw [hm] at key
    refine key.mono ?_
    rintro e w' ⟨v', p1, c1, B, rfl, hB, ho, hi1, hbl⟩
    have hlen : (rsx.take m ++ (⟨p1, zs.length, c1, wt⟩ : Raw) :: rsx.drop m).length = rsx.length + 1 := by simp; omega
    have hml : m ≤ rsx.length := by omega
    have hmL : m ≤ L.length := by rw [hR.len]; exact hml
    have hget : ∀ i, i < rsx.length + 1 → ((rsx.take m ++ (⟨p1, zs.length, c1, wt⟩ : Raw) :: rsx.drop m)[i]?.getD zeroRaw, (L.take m ++ ((zs, wt) : RowZ) :: L.drop m)[i]?.getD ([], 0)) =
        if i < m then (rsx[i]?.getD zeroRaw, L[i]?.getD ([], 0)) else if i = m then ((⟨p1, zs.length, c1, wt⟩ : Raw), ((zs, wt) : RowZ)) else (rsx[i - 1]?.getD zeroRaw, L[i - 1]?.getD ([], 0)) := by
      intro i hi
      by_cases h1 : i < m
      · rw [if_pos h1, List.getElem?_append_left (by simp; omega), List.getElem?_append_left (by simp; omega), List.getElem?_take_of_lt h1, List.getElem?_take_of_lt h1]
      · rw [if_neg h1, List.getElem?_append_right (by simp; omega), List.getElem?_append_right (by simp; omega)]
        simp only [List.length_take, Nat.min_eq_left hml, Nat.min_eq_left hmL]
        by_cases h2 : i = m
        · subst h2; simp
        · rw [if_neg h2]
          obtain ⟨d, hd⟩ : ∃ d, i - m = d + 1 := ⟨i - m - 1, by omega⟩
          rw [hd]
          simp only [List.getElem?_cons_succ, List.getElem?_drop]
          have : m + d = i - 1 := by omega
          rw [this]
    have hoB : w'.ownsRow base 86 2 v' (rsx.length + 1) (rawCells (rsx.take m ++ (⟨p1, zs.length, c1, wt⟩ : Raw) :: rsx.drop m)) := by
      refine ⟨ho.1, ?_⟩
      rcases ho.2 with h1 | ⟨g, cap, cur, rfl, h2, h3⟩
      · exact .inl h1
      · exact .inr ⟨g, cap, cur, rfl, by omega, h3⟩
    refine ⟨_, _, rfl, ⟨by rw [hlen]; exact hoB, fun g hg => ?_, by have := hR.len; simp; omega, fun i hi => ?_, fun i hi => ?_⟩, hbl.mono hbase⟩
    · rcases ho.2 with ⟨rfl, h1⟩ | ⟨g', cap, cur, rfl, h2, h3⟩
      · cases hg
      · cases hg; exact hT g' (by omega)
    · have hg := hget i (by omega)
      have g1 := congrArg Prod.fst hg
      have g2 := congrArg Prod.snd hg
      dsimp only at g1 g2
      rw [g1, g2]
      split
      · exact (hR.num i (by omega)).kept (fun k cur' _ hk => hbl.block k (heap_lt hk))
      · split
        · refine ⟨⟨_, hi1⟩, fun g hg => ?_⟩
          rcases hi1.2 with ⟨h1, _⟩ | ⟨g', cap, cur, h1, h2, _⟩
          · rw [h1] at hg; cases hg
          · rw [h1] at hg; cases hg; exact hT g' (by omega)
        · exact (hR.num (i - 1) (by omega)).kept (fun k cur' _ hk => hbl.block k (heap_lt hk))
    · have hg := hget i (by omega)
      have g1 := congrArg Prod.fst hg
      have g2 := congrArg Prod.snd hg
      dsimp only at g1 g2
      rw [g1, g2]
      split
      · exact hR.wt i (by omega)
      · split
        · rfl
        · exact hR.wt (i - 1) (by omega)

end Go.Proofs.YtgddkjhknlgbbaaGreatDoor
