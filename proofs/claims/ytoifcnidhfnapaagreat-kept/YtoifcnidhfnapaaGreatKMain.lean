import Derived.Test.YtoifcnidhfnapaaGreatKPure
namespace Go.Proofs.YtoifcnidhfnapaaGreat
set_option linter.unusedVariables false
set_option linter.unusedSimpArgs false
open Go.RowKit Go.Maps

theorem freshThree {R S T : Rel} (h1 : Fresh R 2) (h2 : Fresh S 2) (h3 : Fresh T 1) : Three R S T 0 := by
  obtain ⟨a1, b1, c1⟩ := h1
  obtain ⟨a2, b2, c2⟩ := h2
  obtain ⟨a3, b3, c3⟩ := h3
  have key : ∀ (Q : Rel) (ar : Nat) (G : List Row), Q.ar = ar → Q.n = 0 → (Q.f = fun _ => 0) → Tame Q ar 0 G := fun Q ar G a b c =>
    ⟨a, by omega, fun r _ => by rw [c]; simp, fun r _ => by rw [c]; simp, fun r _ h => by rw [c] at h; simp at h⟩
  exact ⟨key _ _ _ a1 b1 c1, key _ _ _ a2 b2 c2, key _ _ _ a3 b3 c3⟩

theorem batsZ_few (codes : List Int) : (batsZ codes).length ≤ 1000000 := by
  have h := (runB_len (codes.take 400)).2
  have h2 : (codes.take 400).length ≤ 400 := by simp; omega
  unfold batsZ
  split
  · simp; omega
  · omega

/-- The slice u reads as the batches bs. -/
def BatsE (w : World) (u : Value) (bs : List (List Ent)) : Prop :=
  ∃ a cap, u = .slice a bs.length cap ∧ ∀ j, j < bs.length → ∃ b sv, a = some ⟨b, 0, none⟩ ∧ w.cell? ⟨b, j, none⟩ = some sv ∧ EntsAt w sv (bs[j]?.getD [])

theorem BatsE.below {w w' : World} {u : Value} {bs : List (List Ent)} (h : BatsE w u bs) (hb : Below w.heap.size w w') : BatsE w' u bs := by
  obtain ⟨a, cap, rfl, hc⟩ := h
  exact ⟨a, cap, rfl, fun j hj => by
    obtain ⟨b, sv, ha, h1, h2⟩ := hc j hj
    exact ⟨b, sv, ha, (hb.cell (p := ⟨b, _, none⟩) (World.block_lt_of_cell? w _ h1)).trans h1, h2.below hb⟩⟩

theorem BatsIn.read {S E B : Nat} {w w' : World} {u : Value} {bs : List (List Ent)} (h : BatsIn w B u bs) (hM : Mid S E w w') (hEB : E ≤ B) : BatsE w' u bs := by
  obtain ⟨a, cap, rfl, hc⟩ := h
  exact ⟨a, cap, rfl, fun j hj => by
    obtain ⟨b, sv, m, ha, hb, h1, hd⟩ := hc j hj
    exact ⟨b, sv, ha, (hM.cell (p := ⟨b, j, none⟩) (World.block_lt_of_cell? w _ h1) (Or.inr (show E ≤ b by omega))).trans h1, (hd.mid hM hEB).ents⟩⟩

/-- What the walk asks of one relation. -/
structure Of (st : St) (fl : List Ent) (nm : ByteArray) (Q : Rel) (ar : Nat) : Prop where
  at_ : st nm = some Q
  ar_ : Q.ar = ar
  n_ : Q.n ≤ 100000
  sum : ∀ r, Q.f r = sumE fl nm r
  inn : ∀ r, WfRow r → Q.f r ≠ 0 → InAr ar r
  len : ∀ x ∈ fl, x.nm = nm → x.row.length = ar
  inG : ∀ r, WfRow r → Q.f r ≠ 0 → (ar = 2 → r ∈ grid2) ∧ (ar = 1 → r ∈ grid1)

theorem fine_len {x : Ent} (h : Fine x) : (x.nm = nmR → x.row.length = 2) ∧ (x.nm = nmS → x.row.length = 2) ∧ (x.nm = nmT → x.row.length = 1) := by
  rcases h.name with ⟨e, e2, _⟩ | ⟨e, e2, _⟩ | ⟨e, e2, _⟩
  · exact ⟨fun _ => e2, fun h => absurd (e.symm.trans h) nmRS, fun h => absurd (e.symm.trans h) nmRT⟩
  · exact ⟨fun h => absurd (h.symm.trans e) nmRS, fun _ => e2, fun h => absurd (e.symm.trans h) nmST⟩
  · exact ⟨fun h => absurd (h.symm.trans e) nmRT, fun h => absurd (h.symm.trans e) nmST, fun _ => e2⟩

theorem of_three {R S T : Rel} {fl : List Ent} (fR : Fresh R 2) (fS : Fresh S 2) (fT : Fresh T 1) (hf : ∀ x ∈ fl, Fine x) (hl : fl.length ≤ 400) :
    Of (st3 (addRel R fl nmR) (addRel S fl nmS) (addRel T fl nmT)) fl nmR (addRel R fl nmR) 2 ∧ Of (st3 (addRel R fl nmR) (addRel S fl nmS) (addRel T fl nmT)) fl nmS (addRel S fl nmS) 2 ∧ Of (st3 (addRel R fl nmR) (addRel S fl nmS) (addRel T fl nmT)) fl nmT (addRel T fl nmT) 1 := by
  have h3 := (freshThree fR fS fT).add hf
  have key : ∀ (Q : Rel) (nm : ByteArray) (ar : Nat), Fresh Q ar → ∀ r, (addRel Q fl nm).f r = sumE fl nm r := fun Q nm ar hQ r => by simp [addRel, hQ.2.2]
  refine ⟨⟨st3_R _ _ _, h3.r.ar_, by have := h3.r.n_; omega, key _ _ _ fR, fun r hw h => grid_in.1 (h3.r.supp r hw h), fun x hx e => (fine_len (hf x hx)).1 e, fun r hw h => ⟨fun _ => h3.r.supp r hw h, fun e => by omega⟩⟩,
    ⟨st3_S _ _ _, h3.s.ar_, by have := h3.s.n_; omega, key _ _ _ fS, fun r hw h => grid_in.1 (h3.s.supp r hw h), fun x hx e => (fine_len (hf x hx)).2.1 e, fun r hw h => ⟨fun _ => h3.s.supp r hw h, fun e => by omega⟩⟩,
    ⟨st3_T _ _ _, h3.t.ar_, by have := h3.t.n_; omega, key _ _ _ fT, fun r hw h => grid_in.2 (h3.t.supp r hw h), fun x hx e => (fine_len (hf x hx)).2.2 e, fun r hw h => ⟨fun e => by omega, fun _ => h3.t.supp r hw h⟩⟩⟩

theorem sumP_small {es : List Ent} (h : ∀ x ∈ es, Fine x) (nm : ByteArray) (zs : List Int) : -(2 * (es.length : Int)) ≤ sumP es nm zs ∧ sumP es nm zs ≤ 2 * (es.length : Int) := by
  induction es with
  | nil => simp [sumP]
  | cons y ys ih =>
    have h1 := ih (fun x hx => h x (List.mem_cons_of_mem _ hx))
    have h2 := (h y (List.mem_cons_self)).lo
    have h4 := (h y (List.mem_cons_self)).hi
    simp only [sumP, List.length_cons]
    push_cast
    split <;> omega

theorem cntTo_le (p : Nat → Bool) : ∀ n, cntTo p n ≤ n
  | 0 => Nat.le_refl _
  | n + 1 => by
    have := cntTo_le p n
    simp only [cntTo]
    split <;> omega

theorem strB (a b : ByteArray) : (a.toList == b.toList) = decide (a = b) := by
  rw [ByteArray.toList_eq, ByteArray.toList_eq]
  by_cases h : a = b
  · simp [h]
  · have : a.data.toList ≠ b.data.toList := fun e => h (by cases a; cases b; simp at e; rw [e])
    simp only [h, decide_false]
    exact beq_false_of_ne this

theorem cnt_four (a : Nat → Bool) : cntTo (fun i => a i && decide (i < 4)) 16 = cntTo a 4 := by
  simp [cntTo]

theorem rowsZ_fit (ar : Nat) (f : Row → Int) (ys : List Row) : shortRows (rowsZ ar f ys) := by
  intro r hr
  obtain ⟨y, _, rfl⟩ := List.mem_map.1 hr
  simp [numsR]
  omega

theorem wf_row2 (i : Nat) : WfRow (padRow (zs2 i)) := ⟨wf_num (numZ_mem _), wf_num (numZ_mem _), wf_zero⟩
theorem wf_row1 (i : Nat) : WfRow (padRow (zs1 i)) := ⟨wf_num (numZ_mem _), wf_zero, wf_zero⟩

/-- The relations in the order in which the law asks. -/
def nmAt (k : Nat) : ByteArray := if k = 0 then nmR else if k = 1 then nmS else nmT

set_option maxRecDepth 100000 in
set_option maxHeartbeats 8000000 in
theorem kept_any (vc : Value) (codes : List Int) (w : World) (hc : IntsAt w vc codes) (hcl : codes.length ≤ 9223372036854775807) (hcb : ∀ c ∈ codes, -9223372036854775808 ≤ c ∧ c ≤ 9223372036854775807) :
    Calls Tryz.prog 3 #[vc] w fun e w' => e = .returned (.bool true) ∧ Below w.heap.size w w' := by
  have Hc := hide hc
  have Hcb := hide hcb
  clear hc hcb
  obtain ⟨a2, cap2, rfl, _⟩ := unhide Hc
  go_enter Tryz.func3, Tryz.ntmps3
  go_wp2_with fail
  refine (begun_any _).mono ?_
  rintro e w1 ⟨eb, db, R, S, T, rfl, hE1, fR, fS, fT, hb1⟩
  have HE1 := hide hE1
  have Hb1 := hide hb1
  clear hE1 hb1
  go_wp2_with fail
  refine (bats_any _ codes _ ((unhide Hc).below (unhide Hb1)) hcl (unhide Hcb)).mono ?_
  rintro e w2 ⟨u, rfl, hB2, hb2⟩
  have HB2 := hide hB2
  have Hb2 := hide hb2
  clear hB2 hb2
  go_wp2_with fail
  refine (applies_any u (batsZ codes) w2 ((unhide HE1).below (unhide Hb2)) (freshThree fR fS fT) (unhide HB2) (Nat.le_refl _) (batsZ_short codes) (batsZ_fine codes) (by rw [batsZ_flat]; simp; omega) (batsZ_few codes)).mono ?_
  rintro e w3 ⟨rfl, hE3, hM3⟩
  have hff : ∀ x ∈ (batsZ codes).flatten, Fine x := fun x hx => by rw [batsZ_flat] at hx; obtain ⟨c, _, rfl⟩ := List.mem_map.1 hx; exact entZ_fine c
  have hfl : (batsZ codes).flatten.length ≤ 400 := by rw [batsZ_flat]; simp; omega
  have hof := of_three fR fS fT hff hfl
  have hbe := (unhide HB2).read hM3 (Nat.le_refl _)
  have hbl := batsZ_few codes
  have hsh := batsZ_short codes
  have hM0 : Below w.heap.size w w3 := ((unhide Hb1).trans ((unhide Hb2).mono (unhide Hb1).size)).trans ⟨hM3.os, hM3.tape, hM3.output, hM3.size, fun k hk => hM3.block k (by have h1 := (unhide Hb1).size; have h2 := (unhide Hb2).size; omega) (.inl hk)⟩
  generalize batsZ codes = bs at *
  generalize addRel R bs.flatten nmR = R' at *
  generalize addRel S bs.flatten nmS = S' at *
  generalize addRel T bs.flatten nmT = T' at *
  obtain ⟨ab, capb, rfl, hbc⟩ := hbe
  have Hff := hide hff
  have Hof := hide hof
  have Hbc := hide hbc
  have Hsh := hide hsh
  have HE3 := hide hE3
  have HM0 := hide hM0
  clear HE1 Hb1 Hb2 HB2 hE3 hM3 hM0 hff hof hbc hsh fR fS fT Hc Hcb
  go_wp2_with fail
  go_loopw [6] (fun i wr => ∃ k : Nat, k ≤ 3 ∧ i = .int .i64 k ∧ Below w3.heap.size w3 wr) (fun i _ => 3 - (intOf i).toNat)
  case atStart => exact ⟨0, Nat.zero_le _, rfl, Below.refl _ _⟩
  case round =>
    obtain ⟨k, hk, rfl, hB⟩ := hrel
    by_cases hlt : k < 3
    · have hx : (k : Int) < 3 := by omega
      have hnmR : nmR.size ≤ maxLen := by decide
      have hnmS : nmS.size ≤ maxLen := by decide
      have hnmT : nmT.size ≤ maxLen := by decide
      have hE := (unhide HE3).below hB
      have HB := hide hB
      have HE := hide hE
      have hBs := hB.size
      clear hB hE HE3
      have hk3 : k = 0 ∨ k = 1 ∨ k = 2 := by omega
      rcases hk3 with rfl | rfl | rfl
      · go_wp2_with fail
        generalize hW4 : World.alloc wr _ = w4
        have hB4 : Below w3.heap.size w3 w4 := by rw [← hW4]; exact (unhide HB).alloc hBs _
        have hE4 : EngRep w4 eb db 3 w.heap.size w1.heap.size (st3 R' S' T') := by rw [← hW4]; exact (unhide HE).below ((Below.refl _ _).alloc (Nat.le_refl _) _)
        generalize hnm : ({ data := #[114] } : ByteArray) = nm
        obtain ⟨Q, hQ⟩ : ∃ Q, Of (st3 R' S' T') bs.flatten nm Q 2 := ⟨R', hnm ▸ (unhide Hof).1⟩
        have hnt : (nm.toList == [116]) = false := by rw [← hnm, ByteArray.toList_eq]; decide
        have hn9 : nm.size ≤ maxLen := by rw [← hnm]; exact hnmR
        clear hW4 hnm HE HB hBs
        refine (relRows_any nm w4 hE4 hn9 hQ.at_ (by rw [hQ.ar_]; simp) hQ.n_).mono ?_
        rintro e w5 ⟨vl, ys, rfl, hR5, hA5, hyl, hb5⟩
        rw [hQ.ar_] at hA5
        have hin : ∀ y ∈ ys, InAr 2 y := fun y hy => hQ.inn y (hR5.wf y hy) ((hR5.mem y (hR5.wf y hy)).1 hy)
        have hyn : ys.length ≤ 100000 := Nat.le_trans hyl hQ.n_
        have hrl : (rowsZ 2 Q.f ys).length = ys.length := by simp [rowsZ]
        have Hrise := hide (rises_rows (ar := 2) (by simp) hin hR5)
        have HB5 := hide (hB4.trans (hb5.mono hB4.size))
        have HA5 := hide hA5
        have HR5 := hide hR5
        have HQ := hide hQ
        have Hin := hide hin
        clear hB4 hE4 hR5 hA5 hb5 hQ hin
        go_wp2_with fail
        refine (rising_any vl _ w5 (unhide HA5) (by omega) (rowsZ_fit _ _ _) (unhide Hrise)).mono ?_
        rintro e w6 ⟨rfl, hd6⟩
        have HA6 := hide ((unhide HA5).below (hd6.below _))
        have HB6 := hide ((unhide HB5).trans (hd6.below _))
        clear hd6 Hrise HA5 HB5
        obtain ⟨al, cl, rfl, -⟩ := unhide HA6
        rw [hrl] at HA6
        rw [hrl]
        go_wp2_with fail
        go_loopw [11, 12] (fun n i wq => ∃ iN : Nat, iN ≤ 16 ∧ i = .int .i64 iN ∧ n = .int .i64 (cntTo (fun i => decide (Q.f (padRow (zs2 i)) ≠ 0)) iN) ∧ Below w6.heap.size w6 wq) (fun _ i _ => 16 - (intOf i).toNat)
        case atStart => exact ⟨0, Nat.zero_le _, rfl, rfl, Below.refl _ _⟩
        case round =>
          obtain ⟨iN, hi, rfl, rfl, hBi⟩ := hrel
          have HBi := hide hBi
          have hsi := hBi.size
          have hcn : cntTo (fun i => decide (Q.f (padRow (zs2 i)) ≠ 0)) iN ≤ iN := cntTo_le _ _
          clear hBi
          by_cases hlt16 : iN < 16
          · have hx16 : (iN : Int) < 16 := by omega
            generalize hcnt : cntTo (fun i => decide (Q.f (padRow (zs2 i)) ≠ 0)) iN = cn at *
            go_wp2_with fail
            refine (number_any iN _ (by omega) (by omega)).mono ?_
            rintro e w7 ⟨rfl, hb7⟩
            have HB7 := hide ((unhide HBi).trans (hb7.mono hsi))
            have hs7 := Nat.le_trans hsi hb7.size
            clear hb7 HBi
            go_wp2_with fail
            refine (number_any _ _ (by omega) (by omega)).mono ?_
            rintro e w8 ⟨rfl, hb8⟩
            have HB8 := hide ((unhide HB7).trans (hb8.mono hs7))
            have hs8 := Nat.le_trans hs7 hb8.size
            clear hb8 HB7
            obtain ⟨na, hna⟩ : ∃ na, na = numZ iN := ⟨_, rfl⟩
            obtain ⟨nb, hnb⟩ : ∃ nb, nb = numZ ((iN : Int) / 4) := ⟨_, rfl⟩
            rw [← hna, ← hnb]
            obtain ⟨zs, hzs⟩ : ∃ zs, zs = zs2 iN := ⟨_, rfl⟩
            have hzv : zs = [na, nb] := by rw [hzs, hna, hnb]; rfl
            have hzl : zs.length = 2 := by rw [hzv]; rfl
            have Hzs := hide hzs
            clear hna hnb hzs
            go_wp2_with fail
            generalize hW9 : World.alloc w8 _ = w9
            have HB9 : Hid (Below w6.heap.size w6 w9) := by rw [← hW9]; exact (unhide HB8).alloc hs8 _
            have HI9 : Hid (IntsAt w9 (.slice (some ⟨w8.heap.size, 0, none⟩) 2 2) zs) := by
              rw [← hW9, hzv]
              refine ⟨_, 2, rfl, fun i hi => ⟨w8.heap.size, 0, rfl, ?_⟩⟩
              rw [cell_of_heap (heap_last _ _ _ rfl), Nat.zero_add]
              have : i = 0 ∨ i = 1 := by simp at hi; omega
              rcases this with rfl | rfl <;> rfl
            have hs9 : w6.heap.size ≤ w9.heap.size := (unhide HB9).size
            clear hW9 HB8 hzv
            have hB39 : Below w3.heap.size w3 w9 := (unhide HB6).trans ((unhide HB9).mono (unhide HB6).size)
            have HB39 := hide hB39
            clear hB39
            go_loopw [14, 15] (fun sv jv wq => ∃ jN : Nat, jN ≤ bs.length ∧ jv = .int .i64 jN ∧ sv = .int .i64 (sumP (bs.take jN).flatten nm zs) ∧ Below w9.heap.size w9 wq) (fun _ jv _ => bs.length - (intOf jv).toNat)
            case atStart => exact ⟨0, Nat.zero_le _, rfl, rfl, Below.refl _ _⟩
            case round =>
              obtain ⟨jN, hj, rfl, rfl, hBj⟩ := hrel
              by_cases hltj : jN < bs.length
              · have hxj : (jN : Int) < (bs.length : Int) := by omega
                have hbe : bs[jN]?.getD [] = bs[jN] := by simp [hltj]
                obtain ⟨b, sv, rfl, hcell, hents⟩ := (unhide Hbc) jN hltj
                have hB3j := (unhide HB39).trans (hBj.mono (unhide HB39).size)
                have hcj := (hB3j.cell (p := ⟨b, jN, none⟩) (World.block_lt_of_cell? w3 _ hcell)).trans hcell
                rw [hbe] at hents
                have htf := take_flat_len hltj
                have hfx : ∀ x ∈ (bs.take (jN + 1)).flatten, Fine x := fun x hx => by
                  obtain ⟨y, hy, hxy⟩ := List.mem_flatten.1 hx
                  exact (unhide Hff) x (List.mem_flatten.2 ⟨y, List.mem_of_mem_take hy, hxy⟩)
                have hfl2 := flat_take_le bs (jN + 1)
                rw [htf] at hfx hfl2
                generalize hes : bs[jN] = es at *
                have hel : es.length ≤ 400 := by simp only [List.length_append] at hfl2; omega
                obtain ⟨ae, ce, rfl, hent⟩ := hents
                have Hent := hide hent
                have Hfx := hide hfx
                have Htf := hide htf
                have HBj := hide hBj
                have hsj := hBj.size
                clear hent hfx htf hBj hB3j hcell hbe hes
                go_wp2_with fail
                go_loopw [14, 16] (fun sv mv wq => ∃ mN : Nat, mN ≤ es.length ∧ mv = .int .i64 mN ∧ sv = .int .i64 (sumP ((bs.take jN).flatten ++ es.take mN) nm zs) ∧ Below w9.heap.size w9 wq) (fun _ mv _ => es.length - (intOf mv).toNat)
                case atStart => exact ⟨0, Nat.zero_le _, rfl, by simp, unhide HBj⟩
                case round =>
                  obtain ⟨mN, hm, rfl, rfl, hBm⟩ := hrel
                  have hB3m := (unhide HB39).trans (hBm.mono (unhide HB39).size)
                  have hcm : wr.cell? ⟨b, jN, none⟩ = some (.slice ae es.length ce) := by
                    obtain ⟨b', sv', e1, e2, e3⟩ := (unhide Hbc) jN hltj
                    cases e1
                    rw [hB3m.cell (p := ⟨b, jN, none⟩) (World.block_lt_of_cell? w3 _ e2), e2]
                    rw [← e2, ← (unhide HB39).cell (p := ⟨b, jN, none⟩) (World.block_lt_of_cell? w3 _ e2), ← (unhide HBj).cell (p := ⟨b, jN, none⟩) (Nat.lt_of_lt_of_le (World.block_lt_of_cell? w3 _ e2) (unhide HB39).size)]
                    exact hcj
                  have hsb := sumP_small (es := (bs.take jN).flatten ++ es.take mN) (fun x hx => (unhide Hfx) x (by
                    rcases List.mem_append.1 hx with h | h
                    · exact List.mem_append_left _ h
                    · exact List.mem_append_right _ (List.mem_of_mem_take h))) nm zs
                  have hle : ((bs.take jN).flatten ++ es.take mN).length ≤ 400 := by
                    simp only [List.length_append, List.length_take] at hfl2 ⊢
                    omega
                  have hsm := hBm.size
                  by_cases hltm : mN < es.length
                  · have hxm : (mN : Int) < (es.length : Int) := by omega
                    obtain ⟨g, o, sr, rfl, n1, n2, n3, n4⟩ := (unhide Hent) mN hltm
                    replace n1 := (hB3m.cell (p := ⟨g, _, none⟩) (World.block_lt_of_cell? w3 _ n1)).trans n1
                    replace n2 := (hB3m.cell (p := ⟨g, _, none⟩) (World.block_lt_of_cell? w3 _ n2)).trans n2
                    replace n4 := (hB3m.cell (p := ⟨g, _, none⟩) (World.block_lt_of_cell? w3 _ n4)).trans n4
                    replace n3 := n3.below hB3m
                    obtain ⟨x, hxe⟩ : ∃ x, x = es[mN]?.getD zeroEnt := ⟨_, rfl⟩
                    have hxg : x = es[mN] := by rw [hxe]; simp [hltm]
                    have htm : es.take (mN + 1) = es.take mN ++ [x] := by rw [List.take_succ_eq_append_getElem hltm, hxg]
                    have hfm : Fine x := (unhide Hfx) x (List.mem_append_right _ (by rw [hxg]; exact List.getElem_mem hltm))
                    rw [← hxe] at n1 n3 n4
                    have hnext : sumP ((bs.take jN).flatten ++ es.take (mN + 1)) nm zs = sumP ((bs.take jN).flatten ++ es.take mN) nm zs + (if x.row = zs ∧ x.nm = nm then x.wt else 0) := by
                      rw [htm, ← List.append_assoc, sumP_snoc]
                    have hgood := hfm.good
                    have hxlo := hfm.lo
                    have hxhi := hfm.hi
                    obtain ⟨xn, xr, xw⟩ := x
                    dsimp only at n1 n2 n3 n4 hnext hxlo hxhi hgood
                    have hxrl : xr.length ≤ 1000000000 := by have := hgood.2.1; dsimp only at this; omega
                    have Hnext := hide hnext
                    have Hn3 := hide n3
                    have HBm := hide hBm
                    generalize hS : sumP ((bs.take jN).flatten ++ es.take mN) nm zs = SS at *
                    have hSb : -800 ≤ SS ∧ SS ≤ 800 := by omega
                    obtain ⟨ar3, cr3, rfl, -⟩ := n3
                    clear hnext hxe hxg htm hfm hgood hB3m hBm hsb hle
                    go_wp2_with fail
                    refine (same_any _ _ xr zs _ (unhide Hn3) ((unhide HI9).below (unhide HBm)) hxrl (by rw [hzl]; omega)).mono ?_
                    rintro e w10 ⟨rfl, hd10⟩
                    rw [← hd10.cell] at n1 n2 n4 hcm
                    have HB10 := hide ((unhide HBm).trans (hd10.below _))
                    clear hd10 HBm Hn3
                    have hnb := strB xn nm
                    by_cases hBB : xr = zs
                    · have hsB : sameB xr zs = true := by simp [sameB, hBB]
                      rw [hsB]
                      by_cases hNN : xn = nm
                      · rw [decide_eq_true hNN] at hnb
                        have hval := unhide Hnext
                        rw [if_pos ⟨hBB, hNN⟩] at hval
                        have Hval := hide hval
                        clear hval Hnext hBB hNN
                        go_wp2
                        go_roundw
                        case rel => exact ⟨mN + 1, by omega, by go_num, by rw [unhide Hval], unhide HB10⟩
                        case measure => simp [intOf]; omega
                      · rw [decide_eq_false hNN] at hnb
                        have hval := unhide Hnext
                        rw [if_neg (fun h => hNN h.2), Int.add_zero] at hval
                        have Hval := hide hval
                        clear hval Hnext hBB hNN
                        go_wp2
                        go_roundw
                        case rel => exact ⟨mN + 1, by omega, by go_num, by rw [unhide Hval], unhide HB10⟩
                        case measure => simp [intOf]; omega
                    · have hsB : sameB xr zs = false := by simp [sameB, hBB]
                      rw [hsB]
                      have hval := unhide Hnext
                      rw [if_neg (fun h => hBB h.1), Int.add_zero] at hval
                      have Hval := hide hval
                      clear hval Hnext hBB hnb
                      go_wp2
                      go_roundw
                      case rel => exact ⟨mN + 1, by omega, by go_num, by rw [unhide Hval], unhide HB10⟩
                      case measure => simp [intOf]; omega
                  · have hme : mN = es.length := by omega
                    have hxm : ¬ (mN : Int) < (es.length : Int) := by omega
                    have hval : sumP ((bs.take jN).flatten ++ es.take mN) nm zs = sumP (bs.take (jN + 1)).flatten nm zs := by
                      rw [hme, List.take_length, ← unhide Htf]
                    rw [hval]
                    have HBm := hide hBm
                    clear hme hval hB3m hBm hsb hle
                    go_wp2
                    go_roundw
                    case rel => exact ⟨jN + 1, by omega, by go_num, rfl, unhide HBm⟩
                    case measure => simp [intOf]; omega
              · have hje : jN = bs.length := by omega
                have hxj : ¬ (jN : Int) < (bs.length : Int) := by omega
                have hval : sumP (bs.take jN).flatten nm zs = Q.f (padRow zs) := by
                  rw [hje, List.take_length, (unhide HQ).sum, sumP_eq (unhide Hff) (fun x hx e => by rw [hzl]; exact (unhide HQ).len x hx e) (by omega)]
                have hwz : weightZ (rowsZ 2 Q.f ys) zs = Q.f (padRow zs) := weightZ_eq hzl (by omega) (unhide Hin) (unhide HR5) (by rw [unhide Hzs]; exact wf_row2 iN)
                rw [hval]
                have hPn : cntTo (fun i => decide (Q.f (padRow (zs2 i)) ≠ 0)) (iN + 1) = cn + (if (fun i => decide (Q.f (padRow (zs2 i)) ≠ 0)) iN then 1 else 0) := by
                  rw [cntTo, hcnt]
                have hFz : Q.f (padRow (zs2 iN)) = Q.f (padRow zs) := by rw [unhide Hzs]
                simp only [hFz] at hPn
                have HPn := hide hPn
                have Hwz := hide hwz
                have HBj := hide hBj
                generalize hF : Q.f (padRow zs) = F at *
                clear hval hPn hje hBj hwz
                go_wp2_with fail
                have hBw := (unhide HB9).trans ((unhide HBj).mono hs9)
                refine (weight_any (.slice al ys.length cl) (.slice (some ⟨w8.heap.size, 0, none⟩) 2 2) (rowsZ 2 Q.f ys) zs _ ((unhide HA6).below hBw) ((unhide HI9).below (unhide HBj)) (by omega) (rowsZ_fit _ _ _) (by omega)).mono ?_
                rintro e w11 ⟨rfl, hd11⟩
                rw [unhide Hwz]
                have HB11 := hide (hBw.trans (hd11.below _))
                clear hBw hd11 Hwz HBj
                have hFF : (F != F) = false := by simp
                have hnt3 : (nm.toList != [116]) = true := by rw [bne, hnt]; rfl
                by_cases hF0 : F = 0
                · have hFb : (F != 0) = false := by simp [hF0]
                  have hv := unhide HPn
                  rw [if_neg (by simp [hF0]), Nat.add_zero] at hv
                  clear HPn hF0
                  go_wp2
                  go_roundw
                  case rel => exact ⟨iN + 1, by omega, by go_num, by rw [hv]; simp, unhide HB11⟩
                  case measure => simp [intOf]; omega
                · have hFb : (F != 0) = true := by simp [hF0]
                  have hv := unhide HPn
                  rw [if_pos (by simp [hF0])] at hv
                  clear HPn hF0
                  go_wp2
                  go_roundw
                  case rel => exact ⟨iN + 1, by omega, by go_num, by rw [hv]; simp, unhide HB11⟩
                  case measure => simp [intOf]; omega
          · have hie : iN = 16 := by omega
            have hx16 : ¬ (iN : Int) < 16 := by omega
            have hcount : cntTo (fun i => decide (Q.f (padRow (zs2 i)) ≠ 0)) iN = ys.length := by
              rw [hie]
              exact cnt_rows (unhide HR5) (fun y hy => mem_gridB (((unhide HQ).inG y ((unhide HR5).wf y hy) (((unhide HR5).mem y ((unhide HR5).wf y hy)).1 hy)).1 rfl)) row2 row2_all gridB_apart wf_gridB
            rw [hcount]
            have hnl : ((ys.length : Int) != (ys.length : Int)) = false := by simp
            clear hcount hie hcn
            go_wp2
            go_roundw
            case rel => exact ⟨0 + 1, by omega, by simp, (unhide HB6).trans ((unhide HBi).mono (unhide HB6).size)⟩
            case measure => simp [intOf]
      · go_wp2_with fail
        generalize hW4 : World.alloc wr _ = w4
        have hB4 : Below w3.heap.size w3 w4 := by rw [← hW4]; exact (unhide HB).alloc hBs _
        have hE4 : EngRep w4 eb db 3 w.heap.size w1.heap.size (st3 R' S' T') := by rw [← hW4]; exact (unhide HE).below ((Below.refl _ _).alloc (Nat.le_refl _) _)
        generalize hnm : ({ data := #[115] } : ByteArray) = nm
        obtain ⟨Q, hQ⟩ : ∃ Q, Of (st3 R' S' T') bs.flatten nm Q 2 := ⟨S', hnm ▸ (unhide Hof).2.1⟩
        have hnt : (nm.toList == [116]) = false := by rw [← hnm, ByteArray.toList_eq]; decide
        have hn9 : nm.size ≤ maxLen := by rw [← hnm]; exact hnmS
        clear hW4 hnm HE HB hBs
        refine (relRows_any nm w4 hE4 hn9 hQ.at_ (by rw [hQ.ar_]; simp) hQ.n_).mono ?_
        rintro e w5 ⟨vl, ys, rfl, hR5, hA5, hyl, hb5⟩
        rw [hQ.ar_] at hA5
        have hin : ∀ y ∈ ys, InAr 2 y := fun y hy => hQ.inn y (hR5.wf y hy) ((hR5.mem y (hR5.wf y hy)).1 hy)
        have hyn : ys.length ≤ 100000 := Nat.le_trans hyl hQ.n_
        have hrl : (rowsZ 2 Q.f ys).length = ys.length := by simp [rowsZ]
        have Hrise := hide (rises_rows (ar := 2) (by simp) hin hR5)
        have HB5 := hide (hB4.trans (hb5.mono hB4.size))
        have HA5 := hide hA5
        have HR5 := hide hR5
        have HQ := hide hQ
        have Hin := hide hin
        clear hB4 hE4 hR5 hA5 hb5 hQ hin
        go_wp2_with fail
        refine (rising_any vl _ w5 (unhide HA5) (by omega) (rowsZ_fit _ _ _) (unhide Hrise)).mono ?_
        rintro e w6 ⟨rfl, hd6⟩
        have HA6 := hide ((unhide HA5).below (hd6.below _))
        have HB6 := hide ((unhide HB5).trans (hd6.below _))
        clear hd6 Hrise HA5 HB5
        obtain ⟨al, cl, rfl, -⟩ := unhide HA6
        rw [hrl] at HA6
        rw [hrl]
        go_wp2_with fail
        go_loopw [11, 12] (fun n i wq => ∃ iN : Nat, iN ≤ 16 ∧ i = .int .i64 iN ∧ n = .int .i64 (cntTo (fun i => decide (Q.f (padRow (zs2 i)) ≠ 0)) iN) ∧ Below w6.heap.size w6 wq) (fun _ i _ => 16 - (intOf i).toNat)
        case atStart => exact ⟨0, Nat.zero_le _, rfl, rfl, Below.refl _ _⟩
        case round =>
          obtain ⟨iN, hi, rfl, rfl, hBi⟩ := hrel
          have HBi := hide hBi
          have hsi := hBi.size
          have hcn : cntTo (fun i => decide (Q.f (padRow (zs2 i)) ≠ 0)) iN ≤ iN := cntTo_le _ _
          clear hBi
          by_cases hlt16 : iN < 16
          · have hx16 : (iN : Int) < 16 := by omega
            generalize hcnt : cntTo (fun i => decide (Q.f (padRow (zs2 i)) ≠ 0)) iN = cn at *
            go_wp2_with fail
            refine (number_any iN _ (by omega) (by omega)).mono ?_
            rintro e w7 ⟨rfl, hb7⟩
            have HB7 := hide ((unhide HBi).trans (hb7.mono hsi))
            have hs7 := Nat.le_trans hsi hb7.size
            clear hb7 HBi
            go_wp2_with fail
            refine (number_any _ _ (by omega) (by omega)).mono ?_
            rintro e w8 ⟨rfl, hb8⟩
            have HB8 := hide ((unhide HB7).trans (hb8.mono hs7))
            have hs8 := Nat.le_trans hs7 hb8.size
            clear hb8 HB7
            obtain ⟨na, hna⟩ : ∃ na, na = numZ iN := ⟨_, rfl⟩
            obtain ⟨nb, hnb⟩ : ∃ nb, nb = numZ ((iN : Int) / 4) := ⟨_, rfl⟩
            rw [← hna, ← hnb]
            obtain ⟨zs, hzs⟩ : ∃ zs, zs = zs2 iN := ⟨_, rfl⟩
            have hzv : zs = [na, nb] := by rw [hzs, hna, hnb]; rfl
            have hzl : zs.length = 2 := by rw [hzv]; rfl
            have Hzs := hide hzs
            clear hna hnb hzs
            go_wp2_with fail
            generalize hW9 : World.alloc w8 _ = w9
            have HB9 : Hid (Below w6.heap.size w6 w9) := by rw [← hW9]; exact (unhide HB8).alloc hs8 _
            have HI9 : Hid (IntsAt w9 (.slice (some ⟨w8.heap.size, 0, none⟩) 2 2) zs) := by
              rw [← hW9, hzv]
              refine ⟨_, 2, rfl, fun i hi => ⟨w8.heap.size, 0, rfl, ?_⟩⟩
              rw [cell_of_heap (heap_last _ _ _ rfl), Nat.zero_add]
              have : i = 0 ∨ i = 1 := by simp at hi; omega
              rcases this with rfl | rfl <;> rfl
            have hs9 : w6.heap.size ≤ w9.heap.size := (unhide HB9).size
            clear hW9 HB8 hzv
            have hB39 : Below w3.heap.size w3 w9 := (unhide HB6).trans ((unhide HB9).mono (unhide HB6).size)
            have HB39 := hide hB39
            clear hB39
            go_loopw [14, 15] (fun sv jv wq => ∃ jN : Nat, jN ≤ bs.length ∧ jv = .int .i64 jN ∧ sv = .int .i64 (sumP (bs.take jN).flatten nm zs) ∧ Below w9.heap.size w9 wq) (fun _ jv _ => bs.length - (intOf jv).toNat)
            case atStart => exact ⟨0, Nat.zero_le _, rfl, rfl, Below.refl _ _⟩
            case round =>
              obtain ⟨jN, hj, rfl, rfl, hBj⟩ := hrel
              by_cases hltj : jN < bs.length
              · have hxj : (jN : Int) < (bs.length : Int) := by omega
                have hbe : bs[jN]?.getD [] = bs[jN] := by simp [hltj]
                obtain ⟨b, sv, rfl, hcell, hents⟩ := (unhide Hbc) jN hltj
                have hB3j := (unhide HB39).trans (hBj.mono (unhide HB39).size)
                have hcj := (hB3j.cell (p := ⟨b, jN, none⟩) (World.block_lt_of_cell? w3 _ hcell)).trans hcell
                rw [hbe] at hents
                have htf := take_flat_len hltj
                have hfx : ∀ x ∈ (bs.take (jN + 1)).flatten, Fine x := fun x hx => by
                  obtain ⟨y, hy, hxy⟩ := List.mem_flatten.1 hx
                  exact (unhide Hff) x (List.mem_flatten.2 ⟨y, List.mem_of_mem_take hy, hxy⟩)
                have hfl2 := flat_take_le bs (jN + 1)
                rw [htf] at hfx hfl2
                generalize hes : bs[jN] = es at *
                have hel : es.length ≤ 400 := by simp only [List.length_append] at hfl2; omega
                obtain ⟨ae, ce, rfl, hent⟩ := hents
                have Hent := hide hent
                have Hfx := hide hfx
                have Htf := hide htf
                have HBj := hide hBj
                have hsj := hBj.size
                clear hent hfx htf hBj hB3j hcell hbe hes
                go_wp2_with fail
                go_loopw [14, 16] (fun sv mv wq => ∃ mN : Nat, mN ≤ es.length ∧ mv = .int .i64 mN ∧ sv = .int .i64 (sumP ((bs.take jN).flatten ++ es.take mN) nm zs) ∧ Below w9.heap.size w9 wq) (fun _ mv _ => es.length - (intOf mv).toNat)
                case atStart => exact ⟨0, Nat.zero_le _, rfl, by simp, unhide HBj⟩
                case round =>
                  obtain ⟨mN, hm, rfl, rfl, hBm⟩ := hrel
                  have hB3m := (unhide HB39).trans (hBm.mono (unhide HB39).size)
                  have hcm : wr.cell? ⟨b, jN, none⟩ = some (.slice ae es.length ce) := by
                    obtain ⟨b', sv', e1, e2, e3⟩ := (unhide Hbc) jN hltj
                    cases e1
                    rw [hB3m.cell (p := ⟨b, jN, none⟩) (World.block_lt_of_cell? w3 _ e2), e2]
                    rw [← e2, ← (unhide HB39).cell (p := ⟨b, jN, none⟩) (World.block_lt_of_cell? w3 _ e2), ← (unhide HBj).cell (p := ⟨b, jN, none⟩) (Nat.lt_of_lt_of_le (World.block_lt_of_cell? w3 _ e2) (unhide HB39).size)]
                    exact hcj
                  have hsb := sumP_small (es := (bs.take jN).flatten ++ es.take mN) (fun x hx => (unhide Hfx) x (by
                    rcases List.mem_append.1 hx with h | h
                    · exact List.mem_append_left _ h
                    · exact List.mem_append_right _ (List.mem_of_mem_take h))) nm zs
                  have hle : ((bs.take jN).flatten ++ es.take mN).length ≤ 400 := by
                    simp only [List.length_append, List.length_take] at hfl2 ⊢
                    omega
                  have hsm := hBm.size
                  by_cases hltm : mN < es.length
                  · have hxm : (mN : Int) < (es.length : Int) := by omega
                    obtain ⟨g, o, sr, rfl, n1, n2, n3, n4⟩ := (unhide Hent) mN hltm
                    replace n1 := (hB3m.cell (p := ⟨g, _, none⟩) (World.block_lt_of_cell? w3 _ n1)).trans n1
                    replace n2 := (hB3m.cell (p := ⟨g, _, none⟩) (World.block_lt_of_cell? w3 _ n2)).trans n2
                    replace n4 := (hB3m.cell (p := ⟨g, _, none⟩) (World.block_lt_of_cell? w3 _ n4)).trans n4
                    replace n3 := n3.below hB3m
                    obtain ⟨x, hxe⟩ : ∃ x, x = es[mN]?.getD zeroEnt := ⟨_, rfl⟩
                    have hxg : x = es[mN] := by rw [hxe]; simp [hltm]
                    have htm : es.take (mN + 1) = es.take mN ++ [x] := by rw [List.take_succ_eq_append_getElem hltm, hxg]
                    have hfm : Fine x := (unhide Hfx) x (List.mem_append_right _ (by rw [hxg]; exact List.getElem_mem hltm))
                    rw [← hxe] at n1 n3 n4
                    have hnext : sumP ((bs.take jN).flatten ++ es.take (mN + 1)) nm zs = sumP ((bs.take jN).flatten ++ es.take mN) nm zs + (if x.row = zs ∧ x.nm = nm then x.wt else 0) := by
                      rw [htm, ← List.append_assoc, sumP_snoc]
                    have hgood := hfm.good
                    have hxlo := hfm.lo
                    have hxhi := hfm.hi
                    obtain ⟨xn, xr, xw⟩ := x
                    dsimp only at n1 n2 n3 n4 hnext hxlo hxhi hgood
                    have hxrl : xr.length ≤ 1000000000 := by have := hgood.2.1; dsimp only at this; omega
                    have Hnext := hide hnext
                    have Hn3 := hide n3
                    have HBm := hide hBm
                    generalize hS : sumP ((bs.take jN).flatten ++ es.take mN) nm zs = SS at *
                    have hSb : -800 ≤ SS ∧ SS ≤ 800 := by omega
                    obtain ⟨ar3, cr3, rfl, -⟩ := n3
                    clear hnext hxe hxg htm hfm hgood hB3m hBm hsb hle
                    go_wp2_with fail
                    refine (same_any _ _ xr zs _ (unhide Hn3) ((unhide HI9).below (unhide HBm)) hxrl (by rw [hzl]; omega)).mono ?_
                    rintro e w10 ⟨rfl, hd10⟩
                    rw [← hd10.cell] at n1 n2 n4 hcm
                    have HB10 := hide ((unhide HBm).trans (hd10.below _))
                    clear hd10 HBm Hn3
                    have hnb := strB xn nm
                    by_cases hBB : xr = zs
                    · have hsB : sameB xr zs = true := by simp [sameB, hBB]
                      rw [hsB]
                      by_cases hNN : xn = nm
                      · rw [decide_eq_true hNN] at hnb
                        have hval := unhide Hnext
                        rw [if_pos ⟨hBB, hNN⟩] at hval
                        have Hval := hide hval
                        clear hval Hnext hBB hNN
                        go_wp2
                        go_roundw
                        case rel => exact ⟨mN + 1, by omega, by go_num, by rw [unhide Hval], unhide HB10⟩
                        case measure => simp [intOf]; omega
                      · rw [decide_eq_false hNN] at hnb
                        have hval := unhide Hnext
                        rw [if_neg (fun h => hNN h.2), Int.add_zero] at hval
                        have Hval := hide hval
                        clear hval Hnext hBB hNN
                        go_wp2
                        go_roundw
                        case rel => exact ⟨mN + 1, by omega, by go_num, by rw [unhide Hval], unhide HB10⟩
                        case measure => simp [intOf]; omega
                    · have hsB : sameB xr zs = false := by simp [sameB, hBB]
                      rw [hsB]
                      have hval := unhide Hnext
                      rw [if_neg (fun h => hBB h.1), Int.add_zero] at hval
                      have Hval := hide hval
                      clear hval Hnext hBB hnb
                      go_wp2
                      go_roundw
                      case rel => exact ⟨mN + 1, by omega, by go_num, by rw [unhide Hval], unhide HB10⟩
                      case measure => simp [intOf]; omega
                  · have hme : mN = es.length := by omega
                    have hxm : ¬ (mN : Int) < (es.length : Int) := by omega
                    have hval : sumP ((bs.take jN).flatten ++ es.take mN) nm zs = sumP (bs.take (jN + 1)).flatten nm zs := by
                      rw [hme, List.take_length, ← unhide Htf]
                    rw [hval]
                    have HBm := hide hBm
                    clear hme hval hB3m hBm hsb hle
                    go_wp2
                    go_roundw
                    case rel => exact ⟨jN + 1, by omega, by go_num, rfl, unhide HBm⟩
                    case measure => simp [intOf]; omega
              · have hje : jN = bs.length := by omega
                have hxj : ¬ (jN : Int) < (bs.length : Int) := by omega
                have hval : sumP (bs.take jN).flatten nm zs = Q.f (padRow zs) := by
                  rw [hje, List.take_length, (unhide HQ).sum, sumP_eq (unhide Hff) (fun x hx e => by rw [hzl]; exact (unhide HQ).len x hx e) (by omega)]
                have hwz : weightZ (rowsZ 2 Q.f ys) zs = Q.f (padRow zs) := weightZ_eq hzl (by omega) (unhide Hin) (unhide HR5) (by rw [unhide Hzs]; exact wf_row2 iN)
                rw [hval]
                have hPn : cntTo (fun i => decide (Q.f (padRow (zs2 i)) ≠ 0)) (iN + 1) = cn + (if (fun i => decide (Q.f (padRow (zs2 i)) ≠ 0)) iN then 1 else 0) := by
                  rw [cntTo, hcnt]
                have hFz : Q.f (padRow (zs2 iN)) = Q.f (padRow zs) := by rw [unhide Hzs]
                simp only [hFz] at hPn
                have HPn := hide hPn
                have Hwz := hide hwz
                have HBj := hide hBj
                generalize hF : Q.f (padRow zs) = F at *
                clear hval hPn hje hBj hwz
                go_wp2_with fail
                have hBw := (unhide HB9).trans ((unhide HBj).mono hs9)
                refine (weight_any (.slice al ys.length cl) (.slice (some ⟨w8.heap.size, 0, none⟩) 2 2) (rowsZ 2 Q.f ys) zs _ ((unhide HA6).below hBw) ((unhide HI9).below (unhide HBj)) (by omega) (rowsZ_fit _ _ _) (by omega)).mono ?_
                rintro e w11 ⟨rfl, hd11⟩
                rw [unhide Hwz]
                have HB11 := hide (hBw.trans (hd11.below _))
                clear hBw hd11 Hwz HBj
                have hFF : (F != F) = false := by simp
                have hnt3 : (nm.toList != [116]) = true := by rw [bne, hnt]; rfl
                by_cases hF0 : F = 0
                · have hFb : (F != 0) = false := by simp [hF0]
                  have hv := unhide HPn
                  rw [if_neg (by simp [hF0]), Nat.add_zero] at hv
                  clear HPn hF0
                  go_wp2
                  go_roundw
                  case rel => exact ⟨iN + 1, by omega, by go_num, by rw [hv]; simp, unhide HB11⟩
                  case measure => simp [intOf]; omega
                · have hFb : (F != 0) = true := by simp [hF0]
                  have hv := unhide HPn
                  rw [if_pos (by simp [hF0])] at hv
                  clear HPn hF0
                  go_wp2
                  go_roundw
                  case rel => exact ⟨iN + 1, by omega, by go_num, by rw [hv]; simp, unhide HB11⟩
                  case measure => simp [intOf]; omega
          · have hie : iN = 16 := by omega
            have hx16 : ¬ (iN : Int) < 16 := by omega
            have hcount : cntTo (fun i => decide (Q.f (padRow (zs2 i)) ≠ 0)) iN = ys.length := by
              rw [hie]
              exact cnt_rows (unhide HR5) (fun y hy => mem_gridB (((unhide HQ).inG y ((unhide HR5).wf y hy) (((unhide HR5).mem y ((unhide HR5).wf y hy)).1 hy)).1 rfl)) row2 row2_all gridB_apart wf_gridB
            rw [hcount]
            have hnl : ((ys.length : Int) != (ys.length : Int)) = false := by simp
            clear hcount hie hcn
            go_wp2
            go_roundw
            case rel => exact ⟨1 + 1, by omega, by simp, (unhide HB6).trans ((unhide HBi).mono (unhide HB6).size)⟩
            case measure => simp [intOf]
      · go_wp2_with fail
        generalize hW4 : World.alloc wr _ = w4
        have hB4 : Below w3.heap.size w3 w4 := by rw [← hW4]; exact (unhide HB).alloc hBs _
        have hE4 : EngRep w4 eb db 3 w.heap.size w1.heap.size (st3 R' S' T') := by rw [← hW4]; exact (unhide HE).below ((Below.refl _ _).alloc (Nat.le_refl _) _)
        generalize hnm : ({ data := #[116] } : ByteArray) = nm
        obtain ⟨Q, hQ⟩ : ∃ Q, Of (st3 R' S' T') bs.flatten nm Q 1 := ⟨T', hnm ▸ (unhide Hof).2.2⟩
        have hnt : (nm.toList == [116]) = true := by rw [← hnm, ByteArray.toList_eq]; decide
        have hn9 : nm.size ≤ maxLen := by rw [← hnm]; exact hnmT
        clear hW4 hnm HE HB hBs
        refine (relRows_any nm w4 hE4 hn9 hQ.at_ (by rw [hQ.ar_]; simp) hQ.n_).mono ?_
        rintro e w5 ⟨vl, ys, rfl, hR5, hA5, hyl, hb5⟩
        rw [hQ.ar_] at hA5
        have hin : ∀ y ∈ ys, InAr 1 y := fun y hy => hQ.inn y (hR5.wf y hy) ((hR5.mem y (hR5.wf y hy)).1 hy)
        have hyn : ys.length ≤ 100000 := Nat.le_trans hyl hQ.n_
        have hrl : (rowsZ 1 Q.f ys).length = ys.length := by simp [rowsZ]
        have Hrise := hide (rises_rows (ar := 1) (by simp) hin hR5)
        have HB5 := hide (hB4.trans (hb5.mono hB4.size))
        have HA5 := hide hA5
        have HR5 := hide hR5
        have HQ := hide hQ
        have Hin := hide hin
        clear hB4 hE4 hR5 hA5 hb5 hQ hin
        go_wp2_with fail
        refine (rising_any vl _ w5 (unhide HA5) (by omega) (rowsZ_fit _ _ _) (unhide Hrise)).mono ?_
        rintro e w6 ⟨rfl, hd6⟩
        have HA6 := hide ((unhide HA5).below (hd6.below _))
        have HB6 := hide ((unhide HB5).trans (hd6.below _))
        clear hd6 Hrise HA5 HB5
        obtain ⟨al, cl, rfl, -⟩ := unhide HA6
        rw [hrl] at HA6
        rw [hrl]
        go_wp2_with fail
        go_loopw [11, 12] (fun n i wq => ∃ iN : Nat, iN ≤ 16 ∧ i = .int .i64 iN ∧ n = .int .i64 (cntTo (fun i => decide (Q.f (padRow (zs1 i)) ≠ 0) && decide (i < 4)) iN) ∧ Below w6.heap.size w6 wq) (fun _ i _ => 16 - (intOf i).toNat)
        case atStart => exact ⟨0, Nat.zero_le _, rfl, rfl, Below.refl _ _⟩
        case round =>
          obtain ⟨iN, hi, rfl, rfl, hBi⟩ := hrel
          have HBi := hide hBi
          have hsi := hBi.size
          have hcn : cntTo (fun i => decide (Q.f (padRow (zs1 i)) ≠ 0) && decide (i < 4)) iN ≤ iN := cntTo_le _ _
          clear hBi
          by_cases hlt16 : iN < 16
          · have hx16 : (iN : Int) < 16 := by omega
            generalize hcnt : cntTo (fun i => decide (Q.f (padRow (zs1 i)) ≠ 0) && decide (i < 4)) iN = cn at *
            go_wp2_with fail
            refine (number_any iN _ (by omega) (by omega)).mono ?_
            rintro e w7 ⟨rfl, hb7⟩
            have HB7 := hide ((unhide HBi).trans (hb7.mono hsi))
            have hs7 := Nat.le_trans hsi hb7.size
            clear hb7 HBi
            go_wp2_with fail
            refine (number_any _ _ (by omega) (by omega)).mono ?_
            rintro e w8 ⟨rfl, hb8⟩
            have HB8 := hide ((unhide HB7).trans (hb8.mono hs7))
            have hs8 := Nat.le_trans hs7 hb8.size
            clear hb8 HB7
            obtain ⟨na, hna⟩ : ∃ na, na = numZ iN := ⟨_, rfl⟩
            obtain ⟨nb, hnb⟩ : ∃ nb, nb = numZ ((iN : Int) / 4) := ⟨_, rfl⟩
            rw [← hna, ← hnb]
            obtain ⟨zs, hzs⟩ : ∃ zs, zs = zs1 iN := ⟨_, rfl⟩
            have hzv : zs = [na] := by rw [hzs, hna]; rfl
            have hzl : zs.length = 1 := by rw [hzv]; rfl
            have Hzs := hide hzs
            clear hna hnb hzs
            go_wp2_with fail
            generalize hW9 : World.alloc w8 _ = w9
            have HB9 : Hid (Below w6.heap.size w6 w9) := by rw [← hW9]; exact (unhide HB8).alloc hs8 _
            have HI9 : Hid (IntsAt w9 (.slice (some ⟨w8.heap.size, 0, none⟩) 1 2) zs) := by
              rw [← hW9, hzv]
              refine ⟨_, 2, rfl, fun i hi => ⟨w8.heap.size, 0, rfl, ?_⟩⟩
              rw [cell_of_heap (heap_last _ _ _ rfl), Nat.zero_add]
              have : i = 0 := by simpa using hi
              subst this; rfl
            have hs9 : w6.heap.size ≤ w9.heap.size := (unhide HB9).size
            clear hW9 HB8 hzv
            have hB39 : Below w3.heap.size w3 w9 := (unhide HB6).trans ((unhide HB9).mono (unhide HB6).size)
            have HB39 := hide hB39
            clear hB39
            go_loopw [14, 15] (fun sv jv wq => ∃ jN : Nat, jN ≤ bs.length ∧ jv = .int .i64 jN ∧ sv = .int .i64 (sumP (bs.take jN).flatten nm zs) ∧ Below w9.heap.size w9 wq) (fun _ jv _ => bs.length - (intOf jv).toNat)
            case atStart => exact ⟨0, Nat.zero_le _, rfl, rfl, Below.refl _ _⟩
            case round =>
              obtain ⟨jN, hj, rfl, rfl, hBj⟩ := hrel
              by_cases hltj : jN < bs.length
              · have hxj : (jN : Int) < (bs.length : Int) := by omega
                have hbe : bs[jN]?.getD [] = bs[jN] := by simp [hltj]
                obtain ⟨b, sv, rfl, hcell, hents⟩ := (unhide Hbc) jN hltj
                have hB3j := (unhide HB39).trans (hBj.mono (unhide HB39).size)
                have hcj := (hB3j.cell (p := ⟨b, jN, none⟩) (World.block_lt_of_cell? w3 _ hcell)).trans hcell
                rw [hbe] at hents
                have htf := take_flat_len hltj
                have hfx : ∀ x ∈ (bs.take (jN + 1)).flatten, Fine x := fun x hx => by
                  obtain ⟨y, hy, hxy⟩ := List.mem_flatten.1 hx
                  exact (unhide Hff) x (List.mem_flatten.2 ⟨y, List.mem_of_mem_take hy, hxy⟩)
                have hfl2 := flat_take_le bs (jN + 1)
                rw [htf] at hfx hfl2
                generalize hes : bs[jN] = es at *
                have hel : es.length ≤ 400 := by simp only [List.length_append] at hfl2; omega
                obtain ⟨ae, ce, rfl, hent⟩ := hents
                have Hent := hide hent
                have Hfx := hide hfx
                have Htf := hide htf
                have HBj := hide hBj
                have hsj := hBj.size
                clear hent hfx htf hBj hB3j hcell hbe hes
                go_wp2_with fail
                go_loopw [14, 16] (fun sv mv wq => ∃ mN : Nat, mN ≤ es.length ∧ mv = .int .i64 mN ∧ sv = .int .i64 (sumP ((bs.take jN).flatten ++ es.take mN) nm zs) ∧ Below w9.heap.size w9 wq) (fun _ mv _ => es.length - (intOf mv).toNat)
                case atStart => exact ⟨0, Nat.zero_le _, rfl, by simp, unhide HBj⟩
                case round =>
                  obtain ⟨mN, hm, rfl, rfl, hBm⟩ := hrel
                  have hB3m := (unhide HB39).trans (hBm.mono (unhide HB39).size)
                  have hcm : wr.cell? ⟨b, jN, none⟩ = some (.slice ae es.length ce) := by
                    obtain ⟨b', sv', e1, e2, e3⟩ := (unhide Hbc) jN hltj
                    cases e1
                    rw [hB3m.cell (p := ⟨b, jN, none⟩) (World.block_lt_of_cell? w3 _ e2), e2]
                    rw [← e2, ← (unhide HB39).cell (p := ⟨b, jN, none⟩) (World.block_lt_of_cell? w3 _ e2), ← (unhide HBj).cell (p := ⟨b, jN, none⟩) (Nat.lt_of_lt_of_le (World.block_lt_of_cell? w3 _ e2) (unhide HB39).size)]
                    exact hcj
                  have hsb := sumP_small (es := (bs.take jN).flatten ++ es.take mN) (fun x hx => (unhide Hfx) x (by
                    rcases List.mem_append.1 hx with h | h
                    · exact List.mem_append_left _ h
                    · exact List.mem_append_right _ (List.mem_of_mem_take h))) nm zs
                  have hle : ((bs.take jN).flatten ++ es.take mN).length ≤ 400 := by
                    simp only [List.length_append, List.length_take] at hfl2 ⊢
                    omega
                  have hsm := hBm.size
                  by_cases hltm : mN < es.length
                  · have hxm : (mN : Int) < (es.length : Int) := by omega
                    obtain ⟨g, o, sr, rfl, n1, n2, n3, n4⟩ := (unhide Hent) mN hltm
                    replace n1 := (hB3m.cell (p := ⟨g, _, none⟩) (World.block_lt_of_cell? w3 _ n1)).trans n1
                    replace n2 := (hB3m.cell (p := ⟨g, _, none⟩) (World.block_lt_of_cell? w3 _ n2)).trans n2
                    replace n4 := (hB3m.cell (p := ⟨g, _, none⟩) (World.block_lt_of_cell? w3 _ n4)).trans n4
                    replace n3 := n3.below hB3m
                    obtain ⟨x, hxe⟩ : ∃ x, x = es[mN]?.getD zeroEnt := ⟨_, rfl⟩
                    have hxg : x = es[mN] := by rw [hxe]; simp [hltm]
                    have htm : es.take (mN + 1) = es.take mN ++ [x] := by rw [List.take_succ_eq_append_getElem hltm, hxg]
                    have hfm : Fine x := (unhide Hfx) x (List.mem_append_right _ (by rw [hxg]; exact List.getElem_mem hltm))
                    rw [← hxe] at n1 n3 n4
                    have hnext : sumP ((bs.take jN).flatten ++ es.take (mN + 1)) nm zs = sumP ((bs.take jN).flatten ++ es.take mN) nm zs + (if x.row = zs ∧ x.nm = nm then x.wt else 0) := by
                      rw [htm, ← List.append_assoc, sumP_snoc]
                    have hgood := hfm.good
                    have hxlo := hfm.lo
                    have hxhi := hfm.hi
                    obtain ⟨xn, xr, xw⟩ := x
                    dsimp only at n1 n2 n3 n4 hnext hxlo hxhi hgood
                    have hxrl : xr.length ≤ 1000000000 := by have := hgood.2.1; dsimp only at this; omega
                    have Hnext := hide hnext
                    have Hn3 := hide n3
                    have HBm := hide hBm
                    generalize hS : sumP ((bs.take jN).flatten ++ es.take mN) nm zs = SS at *
                    have hSb : -800 ≤ SS ∧ SS ≤ 800 := by omega
                    obtain ⟨ar3, cr3, rfl, -⟩ := n3
                    clear hnext hxe hxg htm hfm hgood hB3m hBm hsb hle
                    go_wp2_with fail
                    refine (same_any _ _ xr zs _ (unhide Hn3) ((unhide HI9).below (unhide HBm)) hxrl (by rw [hzl]; omega)).mono ?_
                    rintro e w10 ⟨rfl, hd10⟩
                    rw [← hd10.cell] at n1 n2 n4 hcm
                    have HB10 := hide ((unhide HBm).trans (hd10.below _))
                    clear hd10 HBm Hn3
                    have hnb := strB xn nm
                    by_cases hBB : xr = zs
                    · have hsB : sameB xr zs = true := by simp [sameB, hBB]
                      rw [hsB]
                      by_cases hNN : xn = nm
                      · rw [decide_eq_true hNN] at hnb
                        have hval := unhide Hnext
                        rw [if_pos ⟨hBB, hNN⟩] at hval
                        have Hval := hide hval
                        clear hval Hnext hBB hNN
                        go_wp2
                        go_roundw
                        case rel => exact ⟨mN + 1, by omega, by go_num, by rw [unhide Hval], unhide HB10⟩
                        case measure => simp [intOf]; omega
                      · rw [decide_eq_false hNN] at hnb
                        have hval := unhide Hnext
                        rw [if_neg (fun h => hNN h.2), Int.add_zero] at hval
                        have Hval := hide hval
                        clear hval Hnext hBB hNN
                        go_wp2
                        go_roundw
                        case rel => exact ⟨mN + 1, by omega, by go_num, by rw [unhide Hval], unhide HB10⟩
                        case measure => simp [intOf]; omega
                    · have hsB : sameB xr zs = false := by simp [sameB, hBB]
                      rw [hsB]
                      have hval := unhide Hnext
                      rw [if_neg (fun h => hBB h.1), Int.add_zero] at hval
                      have Hval := hide hval
                      clear hval Hnext hBB hnb
                      go_wp2
                      go_roundw
                      case rel => exact ⟨mN + 1, by omega, by go_num, by rw [unhide Hval], unhide HB10⟩
                      case measure => simp [intOf]; omega
                  · have hme : mN = es.length := by omega
                    have hxm : ¬ (mN : Int) < (es.length : Int) := by omega
                    have hval : sumP ((bs.take jN).flatten ++ es.take mN) nm zs = sumP (bs.take (jN + 1)).flatten nm zs := by
                      rw [hme, List.take_length, ← unhide Htf]
                    rw [hval]
                    have HBm := hide hBm
                    clear hme hval hB3m hBm hsb hle
                    go_wp2
                    go_roundw
                    case rel => exact ⟨jN + 1, by omega, by go_num, rfl, unhide HBm⟩
                    case measure => simp [intOf]; omega
              · have hje : jN = bs.length := by omega
                have hxj : ¬ (jN : Int) < (bs.length : Int) := by omega
                have hval : sumP (bs.take jN).flatten nm zs = Q.f (padRow zs) := by
                  rw [hje, List.take_length, (unhide HQ).sum, sumP_eq (unhide Hff) (fun x hx e => by rw [hzl]; exact (unhide HQ).len x hx e) (by omega)]
                have hwz : weightZ (rowsZ 1 Q.f ys) zs = Q.f (padRow zs) := weightZ_eq hzl (by omega) (unhide Hin) (unhide HR5) (by rw [unhide Hzs]; exact wf_row1 iN)
                rw [hval]
                have hPn : cntTo (fun i => decide (Q.f (padRow (zs1 i)) ≠ 0) && decide (i < 4)) (iN + 1) = cn + (if (fun i => decide (Q.f (padRow (zs1 i)) ≠ 0) && decide (i < 4)) iN then 1 else 0) := by
                  rw [cntTo, hcnt]
                have hFz : Q.f (padRow (zs1 iN)) = Q.f (padRow zs) := by rw [unhide Hzs]
                simp only [hFz] at hPn
                have HPn := hide hPn
                have Hwz := hide hwz
                have HBj := hide hBj
                generalize hF : Q.f (padRow zs) = F at *
                clear hval hPn hje hBj hwz
                go_wp2_with fail
                have hBw := (unhide HB9).trans ((unhide HBj).mono hs9)
                refine (weight_any (.slice al ys.length cl) (.slice (some ⟨w8.heap.size, 0, none⟩) 1 2) (rowsZ 1 Q.f ys) zs _ ((unhide HA6).below hBw) ((unhide HI9).below (unhide HBj)) (by omega) (rowsZ_fit _ _ _) (by omega)).mono ?_
                rintro e w11 ⟨rfl, hd11⟩
                rw [unhide Hwz]
                have HB11 := hide (hBw.trans (hd11.below _))
                clear hBw hd11 Hwz HBj
                have hFF : (F != F) = false := by simp
                have hnt3 : (nm.toList != [116]) = false := by rw [bne, hnt]; rfl
                by_cases hF0 : F = 0
                · have hFb : (F != 0) = false := by simp [hF0]
                  have hv := unhide HPn
                  rw [if_neg (by simp [hF0]), Nat.add_zero] at hv
                  clear HPn hF0
                  go_wp2
                  go_roundw
                  case rel => exact ⟨iN + 1, by omega, by go_num, by rw [hv]; simp, unhide HB11⟩
                  case measure => simp [intOf]; omega
                · by_cases hi4 : iN < 4
                  · have hFb : (F != 0) = true := by simp [hF0]
                    have hi5 : (iN : Int) < 4 := by omega
                    have hv := unhide HPn
                    rw [if_pos (by simp [hF0, hi4])] at hv
                    clear HPn hF0
                    go_wp2
                    go_roundw
                    case rel => exact ⟨iN + 1, by omega, by go_num, by rw [hv]; simp, unhide HB11⟩
                    case measure => simp [intOf]; omega
                  · have hFb : (F != 0) = true := by simp [hF0]
                    have hi5 : ¬ (iN : Int) < 4 := by omega
                    have hv := unhide HPn
                    rw [if_neg (by simp [hi4]), Nat.add_zero] at hv
                    clear HPn hF0
                    go_wp2
                    go_roundw
                    case rel => exact ⟨iN + 1, by omega, by go_num, by rw [hv]; simp, unhide HB11⟩
                    case measure => simp [intOf]; omega
          · have hie : iN = 16 := by omega
            have hx16 : ¬ (iN : Int) < 16 := by omega
            have hcount : cntTo (fun i => decide (Q.f (padRow (zs1 i)) ≠ 0) && decide (i < 4)) iN = ys.length := by
              rw [hie]
              rw [cnt_four]
              exact cnt_rows (unhide HR5) (fun y hy => ((unhide HQ).inG y ((unhide HR5).wf y hy) (((unhide HR5).mem y ((unhide HR5).wf y hy)).1 hy)).2 rfl) row1 row1_all grid1_apart wf_grid1
            rw [hcount]
            have hnl : ((ys.length : Int) != (ys.length : Int)) = false := by simp
            clear hcount hie hcn
            go_wp2
            go_roundw
            case rel => exact ⟨2 + 1, by omega, by simp, (unhide HB6).trans ((unhide HBi).mono (unhide HB6).size)⟩
            case measure => simp [intOf]
    · have hx : ¬ (k : Int) < 3 := by omega
      have HB := hide hB
      clear hB
      go_wp2
      go_ret
      exact ⟨rfl, (unhide HM0).trans ((unhide HB).mono (unhide HM0).size)⟩

end Go.Proofs.YtoifcnidhfnapaaGreat
