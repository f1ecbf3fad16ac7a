import Derived.Test.YtoifcnidhfnapaaGreatRws
namespace Go.Proofs.YtoifcnidhfnapaaGreat
set_option linter.unusedVariables false
set_option linter.unusedSimpArgs false
open Go.RowKit Go.Maps

theorem fresh_three {R S T : Rel} (h1 : Fresh R 2) (h2 : Fresh S 2) (h3 : Fresh T 1) : Three R S T 0 := by
  obtain ⟨a1, b1, c1⟩ := h1
  obtain ⟨a2, b2, c2⟩ := h2
  obtain ⟨a3, b3, c3⟩ := h3
  have key : ∀ (Q : Rel) (ar : Nat) (G : List Row), Q.ar = ar → Q.n = 0 → (Q.f = fun _ => 0) → Tame Q ar 0 G := fun Q ar G a b c =>
    ⟨a, by omega, fun r _ => by rw [c]; simp, fun r _ => by rw [c]; simp, fun r _ h => by rw [c] at h; simp at h⟩
  exact ⟨key _ _ _ a1 b1 c1, key _ _ _ a2 b2 c2, key _ _ _ a3 b3 c3⟩

theorem batsZ_count (codes : List Int) : (batsZ codes).length ≤ 1000000 := by
  have h := (runB_len (codes.take 400)).2
  have h2 : (codes.take 400).length ≤ 400 := by simp; omega
  unfold batsZ
  split
  · simp; omega
  · omega

/-- 'append(s, x...)', whatever x: nil, or a slice of cells that are known. -/
theorem wpList_append_any {P : Program} (w : World) {ops : Array Oper} {rest : List Oper} {o : Oper} {a : Act} {Q : Exit → Act → World → Prop} (hgd : o.guard = none) (s x : Operand) (t : TypeId)
    (ho : o.op = .call { callee := .builtin .append, args := #[s, x], argTypes := #[t, t] })
    (base : Nat) (e : TypeId) (i : TypeInfo) (z : Value) (size bytes : Nat) (ht : P.underlying t = some (.slice e)) (hi : P.info? e = some i) (hz : i.zero = some z)
    (hsize : i.size = size) (hby : i.bytes = bytes) (hzs : z.cells.size = size) (hsz : 0 < size)
    (v : Value) (n : Nat) (xs : List Value) (hs : a.eval s = v) (hown : w.ownsRow base e size v n xs)
    (p : Option Addr) (m c : Nat) (news : List Value) (hx : a.eval x = .slice p m c) (hp : p = none → m = 0 ∧ c = 0) (hl : news.length = m * size) (hnews : ∀ ad, p = some ad → ∀ j u, news[j]? = some u → w.cell? (ad.add j) = some u) (h1 : ∀ u ∈ news, u.oneCell' = true)
    (h63 : n + m ≤ maxLen) (hbytes : (n + m) * bytes ≤ 140737488355328) (hbase : base ≤ w.heap.size)
    (h : ∀ v' w', w'.ownsRow base e size v' (n + m) (xs ++ news) → w.grownBy w' v.ownBlock → wpList P ops Q rest (a.put o.dst v') w') :
    wpList P ops Q (o :: rest) a w := by
  cases p with
  | some ad => exact wpList_append_own_at w hgd s x t ho base e i z size bytes ht hi hz hsize hby hzs hsz v n xs hs hown ad m c news hx hl (hnews ad rfl) h1 h63 hbytes hbase (fun v' w' h1 h2 _ _ => h v' w' h1 h2)
  | none =>
    obtain ⟨rfl, rfl⟩ := hp rfl
    have hr := run_append_owned_none (P := P) (w := w) base t o.type e i size ht hi v n xs hown
    have hn : news = [] := List.eq_nil_of_length_eq_zero (by omega)
    subst hn
    refine wpList_plain hgd fun K hK => ?_
    unfold Oper.wp execOp
    simp only [ho, resolve, invoke, builtin, Sem.run_bind, Sem.run_pure, Result.andThen_ok, List.map_toArray, List.map_cons, List.map_nil, hs, hx, hr]
    exact hK _ _ (h v w (by simpa using hown) ⟨rfl, rfl, rfl, Nat.le_refl _, fun _ _ _ => rfl⟩)

theorem own_form {w : World} {base : Nat} {e : TypeId} {size : Nat} {v : Value} {n : Nat} {xs : List Value} (h : w.ownsRow base e size v n xs) : ∃ p c, v = .slice p n c ∧ n ≤ c ∧ (p = none → n = 0 ∧ c = 0) ∧ (∀ ad, p = some ad → ∃ g, ad = ⟨g, 0, none⟩ ∧ base ≤ g ∧ g < w.heap.size ∧ ∀ j, j < n * size → w.cell? ⟨g, j, none⟩ = xs[j]?) := by
  have h0 := h
  rcases h.2 with ⟨rfl, rfl⟩ | ⟨g, c, cur, rfl, hb, hg, hc, _⟩
  · exact ⟨none, 0, rfl, Nat.le_refl _, fun _ => ⟨rfl, rfl⟩, fun ad e => by cases e⟩
  · exact ⟨_, c, rfl, hc, (fun e => by cases e), fun ad e => by cases e; exact ⟨g, rfl, hb, (Array.getElem?_eq_some_iff.1 hg).1, fun j hj => by rw [h0.cellAt j hj]⟩⟩

theorem heap_setCell_at {w : World} {b : Nat} {cs : Array Value} {t : TypeId} (off : Nat) (v : Value) (h : w.heap[b]? = some (.cells cs t (0, 0))) : (w.setCell ⟨b, off, none⟩ v).heap[b]? = some (.cells (cs.setIfInBounds off v) t (0, 0)) := by
  obtain ⟨hlt, hk⟩ := Array.getElem?_eq_some_iff.1 h
  show (w.heap.modify b _)[b]? = _
  rw [Array.getElem?_eq_getElem (by rw [Array.size_modify]; exact hlt), Array.getElem_modify_self, hk]
  rfl

theorem below_setCell {w w' : World} {B b off : Nat} {v : Value} (h : Below B w w') (hb : B ≤ b) : Below B w (w'.setCell ⟨b, off, none⟩ v) :=
  h.trans ⟨rfl, rfl, rfl, by simp [World.setCell], fun k hk => Below.heap_setCell _ _ _ k (by dsimp only; omega)⟩

/-- The wrong entry, built. -/
structure Wrong (w W : World) (st : St) (en : Ent) (rowb : Nat) (c : Int) : Prop where
  low : Below w.heap.size w W
  box : W.heap[w.heap.size + 1]? = some (.cells #[.string en.nm, .slice (some ⟨rowb, 0, none⟩) en.row.length en.row.length, .int .i64 en.wt] 39 (0, 0))
  row : W.heap[rowb]? = some (.cells (en.row.map (Value.int .i64)).toArray 2 (0, 0))
  chk : Chk st en c

theorem cellsE_split (xs : List (Ent × Nat)) (q : Nat) : cellsE xs = cellsE (xs.take q) ++ cellsE (xs.drop q) := by
  unfold cellsE
  rw [← List.flatMap_append, List.take_append_drop]

theorem cellsE_one (xs : List (Ent × Nat)) : ∀ u ∈ cellsE xs, u.oneCell' = true := by
  intro u hu
  unfold cellsE at hu
  obtain ⟨p, _, hp⟩ := List.mem_flatMap.1 hu
  simp [entL] at hp
  rcases hp with rfl | rfl | rfl <;> rfl

theorem src_take {w W : World} {m q cap : Nat} {p : Option Addr} {xs : List (Ent × Nat)} (hlow : Below w.heap.size w W) (hown : w.ownsRow m 39 3 (.slice p xs.length cap) xs.length (cellsE xs)) :
    ∀ ad, p = some ad → ∀ j u, (cellsE (xs.take q))[j]? = some u → W.cell? (ad.add j) = some u := by
  intro ad hp j u hj
  obtain ⟨p', c', h1, _, _, h4⟩ := own_form hown
  cases h1
  obtain ⟨g, rfl, _, hg, hc⟩ := h4 ad hp
  have hl := cellsE_len xs
  have hlt : j < (cellsE (xs.take q)).length := (List.getElem?_eq_some_iff.1 hj).1
  have hj' : (cellsE xs)[j]? = some u := by rw [cellsE_split xs q, List.getElem?_append_left hlt]; exact hj
  have hlt' := (List.getElem?_eq_some_iff.1 hj').1
  have ea : (⟨g, 0, none⟩ : Addr).add j = ⟨g, j, none⟩ := by by_cases h : j = 0 <;> simp [Addr.add, h]
  rw [ea, hlow.cell (p := ⟨g, j, none⟩) hg, hc j (by omega)]
  exact hj'

theorem src_drop {w W : World} {m q cap : Nat} {p : Option Addr} {xs : List (Ent × Nat)} (hq : q ≤ xs.length) (hlow : Below w.heap.size w W) (hown : w.ownsRow m 39 3 (.slice p xs.length cap) xs.length (cellsE xs)) :
    ∀ ad, p = some ad → ∀ j u, (cellsE (xs.drop q))[j]? = some u → W.cell? ((ad.add (q * 3)).add j) = some u := by
  intro ad hp j u hj
  obtain ⟨p', c', h1, _, _, h4⟩ := own_form hown
  cases h1
  obtain ⟨g, rfl, _, hg, hc⟩ := h4 ad hp
  have hl := cellsE_len xs
  have hl2 := cellsE_len (xs.take q)
  rw [List.length_take, Nat.min_eq_left hq] at hl2
  have hj' : (cellsE xs)[q * 3 + j]? = some u := by rw [cellsE_split xs q, List.getElem?_append_right (by omega), hl2, Nat.add_sub_cancel_left]; exact hj
  have hlt' := (List.getElem?_eq_some_iff.1 hj').1
  have ea : ((⟨g, 0, none⟩ : Addr).add (q * 3)).add j = ⟨g, q * 3 + j, none⟩ := by
    have h3 : ¬ q * 3 = 0 ∨ q = 0 := by omega
    rcases h3 with h3 | rfl <;> by_cases h : j = 0 <;> simp [Addr.add, *]
  rw [ea, hlow.cell (p := ⟨g, _, none⟩) hg, hc _ (by omega)]
  exact hj'

theorem src_drop3 {w W : World} {m q cap : Nat} {p : Option Addr} {xs : List (Ent × Nat)} (hq : q ≤ xs.length) (hlow : Below w.heap.size w W) (hown : w.ownsRow m 39 3 (.slice p xs.length cap) xs.length (cellsE xs)) (hc : xs.length ≤ cap) :
    ∀ ad, (if cap = q then p else p.map (·.add (q * 3))) = some ad → ∀ j u, (cellsE (xs.drop q))[j]? = some u → W.cell? (ad.add j) = some u := by
  intro ad hp j u hj
  split at hp
  · have : xs.drop q = [] := List.drop_eq_nil_of_le (by omega)
    rw [this] at hj
    simp [cellsE] at hj
  · obtain ⟨a, ha, rfl⟩ := Option.map_eq_some_iff.1 hp
    exact src_drop hq hlow hown a ha j u hj

theorem none_drop3 {q n cap : Nat} {p : Option Addr} (h : p = none → n = 0 ∧ cap = 0) : (if cap = q then p else p.map (·.add (q * 3))) = none → n - q = 0 ∧ cap - q = 0 := by
  intro hp
  have hn : p = none := by
    split at hp
    · exact hp
    · exact Option.map_eq_none_iff.1 hp
  have := h hn
  omega

theorem bad_ents {wr W5 w8 : World} {B q : Nat} {v3 : Value} {st : St} {en : Ent} {rowb : Nat} {c : Int} {xs : List (Ent × Nat)} (hq : q ≤ xs.length)
    (ho3 : w8.ownsRow B 39 3 v3 (q + 1 + (xs.length - q)) (cellsE (xs.take q) ++ [.string en.nm, .slice (some ⟨rowb, 0, none⟩) en.row.length en.row.length, .int .i64 en.wt] ++ cellsE (xs.drop q)))
    (hR : RowsIn wr xs) (hW : Wrong wr W5 st en rowb c) (hL8 : Below W5.heap.size W5 w8) : EntsAt w8 v3 ((xs.take q ++ (en, rowb) :: xs.drop q).map (·.1)) := by
  have hl : (xs.take q ++ (en, rowb) :: xs.drop q).length = q + 1 + (xs.length - q) := by simp; omega
  refine ents_of_own (m := B) ?_ ?_
  · rw [hl]
    have e : cellsE (xs.take q ++ (en, rowb) :: xs.drop q) = cellsE (xs.take q) ++ [.string en.nm, .slice (some ⟨rowb, 0, none⟩) en.row.length en.row.length, .int .i64 en.wt] ++ cellsE (xs.drop q) := by
      simp [cellsE, entL]
    rw [e]; exact ho3
  · have key : ∀ p ∈ xs, w8.heap[p.2]? = some (.cells (p.1.row.map (Value.int .i64)).toArray 2 (0, 0)) := fun p hp => by
      have h1 := hR p hp
      have h2 := (Array.getElem?_eq_some_iff.1 h1).1
      rw [hL8.block p.2 (by have := hW.low.size; omega), hW.low.block p.2 h2]
      exact h1
    intro p hp
    rcases List.mem_append.1 hp with hp | hp
    · exact key p (List.mem_of_mem_take hp)
    · rcases List.mem_cons.1 hp with rfl | hp
      · exact (hL8.block rowb (Array.getElem?_eq_some_iff.1 hW.row).1).trans hW.row
      · exact key p (List.mem_of_mem_drop hp)

theorem bad_chk {st : St} {q : Nat} {en : Ent} {rowb : Nat} {c : Int} {xs : List (Ent × Nat)} (hq : q ≤ xs.length) (hf : ∀ x ∈ xs.map (·.1), Chk st x 0) (hc : Chk st en c) :
    (∀ i, i < q → Chk st (((xs.take q ++ (en, rowb) :: xs.drop q).map (·.1))[i]?.getD zeroEnt) 0) ∧ Chk st (((xs.take q ++ (en, rowb) :: xs.drop q).map (·.1))[q]?.getD zeroEnt) c := by
  have hl : (xs.take q).length = q := by simp; omega
  refine ⟨fun i hi => ?_, ?_⟩
  · have e : ((xs.take q ++ (en, rowb) :: xs.drop q).map (·.1))[i]?.getD zeroEnt = (xs[i]'(by omega)).1 := by
      rw [List.getElem?_map, List.getElem?_append_left (by omega), List.getElem?_take_of_lt hi, List.getElem?_eq_getElem (by omega)]
      rfl
    rw [e]
    exact hf _ (List.mem_map.2 ⟨_, List.getElem_mem _, rfl⟩)
  · have e : ((xs.take q ++ (en, rowb) :: xs.drop q).map (·.1))[q]?.getD zeroEnt = en := by
      rw [List.getElem?_map, List.getElem?_append_right (by omega), hl, Nat.sub_self]
      rfl
    rw [e]; exact hc

theorem rowsZ_short (ar : Nat) (f : Row → Int) (ys : List Row) : shortRows (rowsZ ar f ys) := by
  intro r hr
  obtain ⟨y, _, rfl⟩ := List.mem_map.1 hr
  simp [numsR]
  omega

set_option maxRecDepth 100000 in
set_option maxHeartbeats 4000000 in
theorem refused_any (vc vb : Value) (codes bads : List Int) (at_ how : Int) (w : World) (hc : IntsAt w vc codes) (hb : IntsAt w vb bads) (hcl : codes.length ≤ 9223372036854775807) (hbl : bads.length ≤ 9223372036854775807)
    (hcb : ∀ c ∈ codes, -9223372036854775808 ≤ c ∧ c ≤ 9223372036854775807) (hbb : ∀ c ∈ bads, -9223372036854775808 ≤ c ∧ c ≤ 9223372036854775807) (ha : -9223372036854775808 ≤ at_ ∧ at_ ≤ 9223372036854775807) (hh : -9223372036854775808 ≤ how ∧ how ≤ 9223372036854775807) :
    Calls Tryz.prog 4 #[vc, vb, .int .i64 at_, .int .i64 how] w fun e w' => e = .returned (.bool true) ∧ Below w.heap.size w w' := by
  have Hc := hide hc
  have Hb := hide hb
  have Hcb := hide hcb
  have Hbb := hide hbb
  clear hc hb hcb hbb
  obtain ⟨a, cap, rfl, _⟩ := unhide Hb
  obtain ⟨a2, cap2, rfl, _⟩ := unhide Hc
  obtain ⟨i39, hi, hz0, hz1, hz2⟩ := info_parts Tryz.info39
  go_enter Tryz.func4, Tryz.ntmps4
  go_wp2_with fail
  refine (begun_any _).mono ?_
  rintro e w1 ⟨eb, db, R, S, T, rfl, hE1, fR, fS, fT, hb1⟩
  have h3 := fresh_three fR fS fT
  have HE1 := hide hE1
  have Hb1 := hide hb1
  have H3 := hide h3
  clear hE1 hb1 h3 fR fS fT
  go_wp2_with fail
  refine (bats_any _ codes _ ((unhide Hc).below (unhide Hb1)) hcl (unhide Hcb)).mono ?_
  rintro e w2 ⟨u, rfl, hB2, hb2⟩
  have HB2 := hide hB2
  have Hb2 := hide hb2
  clear hB2 hb2
  go_wp2_with fail
  have hnR : nmR.size ≤ maxLen := by decide
  refine (applies_any u (batsZ codes) w2 ((unhide HE1).below (unhide Hb2)) (unhide H3) (unhide HB2) (Nat.le_refl _) (batsZ_short codes) (batsZ_fine codes) (by rw [batsZ_flat]; simp; omega) (batsZ_count codes)).mono ?_
  rintro e w3 ⟨rfl, hE3, hM3⟩
  have h3 := (unhide H3).add (es := (batsZ codes).flatten) (fun x hx => by rw [batsZ_flat] at hx; obtain ⟨c, _, rfl⟩ := List.mem_map.1 hx; exact entZ_fine c)
  have hfl : (batsZ codes).flatten.length ≤ 400 := by rw [batsZ_flat]; simp; omega
  generalize (batsZ codes).flatten = fl at hE3 h3 hfl
  generalize addRel R fl nmR = R' at hE3 h3
  generalize addRel S fl nmS = S' at hE3 h3
  generalize addRel T fl nmT = T' at hE3 h3
  have hRn : R'.n ≤ 100000 := by have := h3.r.n_; omega
  have hRa := h3.r.ar_
  have Hrows := hide (relRows_any nmR w3 hE3 hnR (st3_R R' S' T') (.inr (.inl hRa)) hRn)
  have hM0 : Below w.heap.size w w3 := ((unhide Hb1).trans ((unhide Hb2).mono (unhide Hb1).size)).trans ⟨hM3.os, hM3.tape, hM3.output, hM3.size, fun k hk => hM3.block k (by have h1 := (unhide Hb1).size; have h2 := (unhide Hb2).size; omega) (.inl hk)⟩
  have H3' := hide h3
  have HE3 := hide hE3
  have HM0 := hide hM0
  clear H3 HE1 Hb1 Hb2 HB2 hE3 hM3 hM0 h3
  go_wp2_with fail
  refine (unhide Hrows).mono ?_
  rintro e w4 ⟨va, ys, rfl, hR4, hA4, hyl, hb4⟩
  have hE4 := (unhide HE3).below hb4
  have hB4 := (unhide HM0).trans (hb4.mono (unhide HM0).size)
  have HR4 := hide hR4
  have HA4 := hide hA4
  have HE4 := hide hE4
  have HB4 := hide hB4
  clear Hrows HE3 HM0 hR4 hA4 hb4 hE4 hB4
  go_wp2_with fail
  have hs4 := (unhide HB4).size
  go_loopw [13, 14] (fun vl i wr => ∃ k : Nat, k ≤ bads.length ∧ k ≤ 20 ∧ i = .int .i64 k ∧ BInv wr w4.heap.size (.slice none 0 0) vl ([], (bads.take k).map entZ) ∧ Below w4.heap.size w4 wr) (fun _ i _ => 20 - (intOf i).toNat)
  case atStart =>
    exact ⟨0, Nat.zero_le _, Nat.zero_le _, rfl, ⟨w4.heap.size, [], [], rfl, World.ownsRow_nil _ _ _ _, fun p hp => by simp at hp, fun p hp => by simp at hp, World.ownsRow_nil _ _ _ _, rfl, fun j hj => by simp at hj, Nat.le_refl _, Nat.le_refl _⟩, Below.refl _ _⟩
  case round =>
    obtain ⟨k, hk, hk4, rfl, hI, hB⟩ := hrel
    by_cases hlt : k < bads.length ∧ k < 20
    · obtain ⟨hlt, hlt4⟩ := hlt
      obtain ⟨a9, cap9, h9e, hc9⟩ := unhide Hb
      cases h9e
      obtain ⟨b, o, rfl, hcell⟩ := hc9 k hlt
      have hx : (k : Int) < (bads.length : Int) := by omega
      have hx4 : (k : Int) < 20 := by omega
      have hbw : b < w.heap.size := World.block_lt_of_cell? w _ hcell
      obtain ⟨c, hce⟩ : ∃ c, c = bads[k]?.getD 0 := ⟨_, rfl⟩
      rw [← hce] at hcell
      rw [← (unhide HB4).cell (p := ⟨b, _, none⟩) hbw, ← hB.cell (p := ⟨b, _, none⟩) (show b < _ by omega)] at hcell
      have hcb : -9223372036854775808 ≤ c ∧ c ≤ 9223372036854775807 := by rw [hce]; simp [hlt]; exact (unhide Hbb) _ (List.getElem_mem hlt)
      have htk : bads.take (k + 1) = bads.take k ++ [c] := by rw [List.take_succ_eq_append_getElem hlt, hce]; simp [hlt]
      have Htk := hide htk
      have HI := hide hI
      have HB := hide hB
      have hBs := hB.size
      clear hce htk hI hB hc9
      go_wp2_with fail
      refine (entry_any c _ hcb.1 hcb.2).mono ?_
      rintro e w5 ⟨rb, rfl, hrb, hrow, hb5⟩
      have hI1 := (unhide HI).below hb5
      have HB5 := hide ((unhide HB).trans (hb5.mono hBs))
      have hs5 := hb5.size
      obtain ⟨x, hxz⟩ : ∃ x, x = entZ c := ⟨_, rfl⟩
      rw [← hxz] at hrow ⊢
      have Hx := hide hxz
      clear hxz hcell
      obtain ⟨nm, row, wt⟩ := x
      rw [entL_val]
      dsimp only at hrow ⊢
      have hI2 := (hI1.below ((Below.refl _ _).alloc (Nat.le_refl _) (.cells #[.string nm, .slice (some ⟨rb, 0, none⟩) row.length row.length, .int .i64 wt] 39))).below ((Below.refl _ _).alloc (Nat.le_refl _) (.cells #[.string nm, .slice (some ⟨rb, 0, none⟩) row.length row.length, .int .i64 wt] 39))
      obtain ⟨m, xs, vos, h1, h2, h3, h4, h5, h6, h7, h8, h9⟩ := hI2
      have hnew := cells3_new (w5.alloc (.cells #[.string nm, .slice (some ⟨rb, 0, none⟩) row.length row.length, .int .i64 wt] 39)) (.string nm) (.slice (some ⟨rb, 0, none⟩) row.length row.length) (.int .i64 wt) 39
      rw [World.size_alloc] at hnew
      have hxl : xs.length ≤ 20 := by
        have := congrArg List.length h1
        simp at this
        omega
      have hrb2 : ((w5.alloc (.cells #[.string nm, .slice (some ⟨rb, 0, none⟩) row.length row.length, .int .i64 wt] 39)).alloc (.cells #[.string nm, .slice (some ⟨rb, 0, none⟩) row.length row.length, .int .i64 wt] 39)).heap[rb]? = some (.cells (row.map (Value.int .i64)).toArray 2 (0, 0)) := by
        have hlt : rb < w5.heap.size := (Array.getElem?_eq_some_iff.1 hrow).1
        rw [Below.heap_alloc _ _ _ (by simp; omega), Below.heap_alloc _ _ _ hlt]
        exact hrow
      have H1 := hide h1
      have H2 := hide h2
      have H3 := hide h3
      have H4 := hide h4
      have H5 := hide h5
      have H6 := hide h6
      have H7 := hide h7
      have Hrb2 := hide hrb2
      clear h1 h3 h4 h5 h6 h7 hrow hI1 hb5 hrb2
      go_wp2_with (first
        | (at_builtin; refine wpList_append_own_at _ rfl _ _ 36 rfl m 39 i39 _ 3 48 Tryz.underlying36 hi hz0 hz1 hz2 rfl (by decide) _ _ _ rfl (unhide H2) ⟨w5.heap.size + 1, 0, none⟩ 1 1 [.string nm, .slice (some ⟨rb, 0, none⟩) row.length row.length, .int .i64 wt] rfl rfl hnew (by simp [Value.oneCell']) (by unfold maxLen; omega) (by omega) h9 ?_; intro vl' w6 ho hgr hnil hloc; obtain ⟨g', cap', rfl⟩ := own_succ ho
           have hI3 := BInv.more (x := ⟨nm, row, wt⟩) (b := rb) (unhide H1) (unhide H2) (unhide H3) (unhide H4) (unhide H5) (unhide H6) (unhide H7) h8 h9 (unhide Hrb2) (by omega) ho hgr
           have HI3 := hide hI3
           have HB3 := hide ((((unhide HB5).alloc (by omega) (.cells #[.string nm, .slice (some ⟨rb, 0, none⟩) row.length row.length, .int .i64 wt] 39)).alloc (by simp; omega) (.cells #[.string nm, .slice (some ⟨rb, 0, none⟩) row.length row.length, .int .i64 wt] 39)).grown hgr (by simp; omega) (fun j e => by have := (own_block (unhide H2) j e).1; omega))
           clear hI3 ho hgr hnil hloc h2 hnew))
      refine ⟨⟨k + 1, by omega, by omega, by go_num, ?_, unhide HB3⟩, by simp [intOf]; omega⟩
      rw [unhide Htk, List.map_append, List.map_cons, List.map_nil, ← unhide Hx]
      exact unhide HI3
    · obtain ⟨m, xs, vos, h1, h2, h3x, h4, -, -, -, h8, h9⟩ := hI
      dsimp only at h1
      obtain ⟨p, cap', rfl⟩ : ∃ p cap', u13 = .slice p xs.length cap' := by
        rcases h2.2 with ⟨rfl, h0⟩ | ⟨g, cap', cur, rfl, _⟩
        · exact ⟨none, 0, by rw [h0]⟩
        · exact ⟨_, _, rfl⟩
      have hxl : xs.length ≤ 20 := by
        have := congrArg List.length h1
        simp at this
        omega
      have hcond : ¬ (k : Int) < (bads.length : Int) ∨ ((k : Int) < (bads.length : Int) ∧ ¬ (k : Int) < 20) := by omega
      have H1 := hide h1
      have H2 := hide h2
      have H3 := hide h3x
      have H4 := hide h4
      have HB := hide hB
      clear h1 h2 h3x h4 hB
      obtain ⟨q, hq⟩ : ∃ q : Nat, (q : Int) = pickZ at_ (xs.length + 1) := ⟨(pickZ at_ (xs.length + 1)).toNat, by have := pickZ_range at_ (xs.length + 1) (by omega); omega⟩
      have hql : q ≤ xs.length := by have := pickZ_range at_ (xs.length + 1) (by omega); omega
      have hh4 := pickZ_range how 4 (by omega)
      have Hq := hide hq
      clear hq
      obtain ⟨hw, hhw⟩ : ∃ hw, hw = pickZ how 4 := ⟨_, rfl⟩
      rw [← hhw] at hh4
      have Hhw := hide hhw
      clear hhw
      have hhow : hw = 0 ∨ hw = 1 ∨ hw = 2 ∨ hw = 3 := by omega
      rcases hcond with hx | ⟨hx, hx4⟩
      all_goals
        go_wp2_with fail
        refine (pick_any at_ _ _ ha.1 ha.2 (by omega) (by omega)).mono ?_
        rintro e w5 ⟨rfl, hw5⟩
        replace hw5 := hw5.symm
        subst hw5
        rw [← unhide Hq]
        go_wp2_with fail
        refine (pick_any how 4 _ hh.1 hh.2 (by omega) (by omega)).mono ?_
        rintro e w5 ⟨rfl, hw5⟩
        rw [← unhide Hhw]
        have r0 : w5.heap[wr.heap.size]? = some (.cells #[.int .i64 0, .int .i64 1] 2 (0, 0)) := by
          rw [hw5, Below.heap_alloc _ _ _ (by simp)]; exact heap_last _ _ _ rfl
        have x0 : w5.heap[wr.heap.size + 1]? = some (.cells #[.string ⟨#[114]⟩, .slice (some ⟨wr.heap.size, 0, none⟩) 2 2, .int .i64 1001] 39 (0, 0)) := by
          rw [hw5]; exact heap_last _ _ _ (by simp)
        have hb5 : Below wr.heap.size wr w5 := by
          rw [hw5]; exact ((Below.refl _ _).alloc (Nat.le_refl _) _).alloc (by simp) _
        have hs5 : w5.heap.size = wr.heap.size + 2 := by rw [hw5]; simp
        clear hw5
        have d0 : w5.cell? ⟨wr.heap.size + 1, 0, none⟩ = some (.string ⟨#[114]⟩) := cell_of_heap x0 0
        have d1 : w5.cell? ⟨wr.heap.size + 1, 1, none⟩ = some (.slice (some ⟨wr.heap.size, 0, none⟩) 2 2) := cell_of_heap x0 1
        have d2 : w5.cell? ⟨wr.heap.size + 1, 2, none⟩ = some (.int .i64 1001) := cell_of_heap x0 2
        have e0 : w5.frozen? ⟨wr.heap.size + 1, 0, none⟩ = false := frozen_of_heap x0 0
        have e1 : w5.frozen? ⟨wr.heap.size + 1, 1, none⟩ = false := frozen_of_heap x0 1
        have e2 : w5.frozen? ⟨wr.heap.size + 1, 2, none⟩ = false := frozen_of_heap x0 2
        have Hb5 := hide hb5
        have hcap : xs.length ≤ cap' := by
          rcases (unhide H2).2 with ⟨h, h0⟩ | ⟨g, c9, cur, h, _, _, h5, _⟩
          · rw [h0]; omega
          · cases h; exact h5
        have hq1 : (q : Int) ≤ (cap' : Int) := by omega
        have hq2 : (q : Int) ≤ (xs.length : Int) := by omega
        clear hb5
        have hpn : p = none → xs.length = 0 ∧ cap' = 0 := by
          obtain ⟨p9, c9, h9, _, h10, _⟩ := own_form (unhide H2)
          cases h9
          exact h10
        rcases hhow with rfl | rfl | rfl | rfl
        · go_wp2_with (first
            | (at_builtin
               refine wpList_append_any _ rfl (.tmp 82) (.tmp 84) 36 rfl W5.heap.size 39 i39 _ 3 48 Tryz.underlying36 hi hz0 hz1 hz2 rfl (by decide) (.slice p1 q c1) q (cellsE (xs.take q)) rfl ((unhide Ho1).alloc _) (some ⟨w6.heap.size, 0, none⟩) 1 1 [.string en.nm, .slice (some ⟨rowb, 0, none⟩) en.row.length en.row.length, .int .i64 en.wt] rfl (fun e => by cases e) rfl (fun ad e => by cases e; exact cells3_new w6 _ _ _ 39) (by simp [Value.oneCell']) (by unfold maxLen; omega) (by omega) (by simp; omega) ?_
               intro v2 w7 ho2 hg2
               obtain ⟨p2, c2, rfl, hc2, hp2, _⟩ := own_form ho2
               have hL7 : Below W5.heap.size W5 w7 := ((unhide HL6).alloc hs6 _).grown hg2 (by simp; omega) (fun k e => (own_block (unhide Ho1) k e).1)
               have hs7 := hL7.size
               have HL7 := hide hL7
               have Ho2 := hide ho2
               clear hL7 ho2 hg2 Ho1 HL6 b0 b1 b2)
            | (at_builtin
               refine wpList_append_any _ rfl (.tmp 86) (.tmp 89) 36 rfl W5.heap.size 39 i39 _ 3 48 Tryz.underlying36 hi hz0 hz1 hz2 rfl (by decide) (.slice p2 (q + 1) c2) (q + 1) _ rfl (unhide Ho2) _ (xs.length - q) (cap' - q) (cellsE (xs.drop q)) rfl (none_drop3 hpn) (by rw [cellsE_len, List.length_drop]) (src_drop3 hql ((unhide HWr).low.trans ((unhide HL7).mono (unhide HWr).low.size)) (unhide H2) hcap) (cellsE_one _) (by unfold maxLen; omega) (by omega) hs7 ?_
               intro v3 w8 ho3 hg3
               have hL8 : Below W5.heap.size W5 w8 := (unhide HL7).grown hg3 hs7 (fun k e => (own_block (unhide Ho2) k e).1)
               have HL8 := hide hL8
               have Ho3 := hide ho3
               clear hL8 ho3 hg3 Ho2 HL7)
            | (at_builtin
               generalize hW : w5.setCell ⟨wr.heap.size + 1, 0, none⟩ (.string ⟨#[113]⟩) = W5
               have hWr : ∃ en rowb, Wrong wr W5 (st3 R' S' T') en rowb 6 := by subst hW; exact ⟨⟨⟨#[113]⟩, [0, 1], 1001⟩, wr.heap.size, ⟨below_setCell (unhide Hb5) (by omega), heap_setCell_at 0 _ x0, (Below.heap_setCell _ _ _ _ (by dsimp only; omega)).trans r0, chk_miss (by decide) (st3_none (by decide) (by decide) (by decide))⟩⟩
               clear hW
               obtain ⟨en, rowb, hWr⟩ := hWr
               refine wpList_append_any W5 rfl (.tmp 77) (.tmp 80) 36 rfl W5.heap.size 39 i39 _ 3 48 Tryz.underlying36 hi hz0 hz1 hz2 rfl (by decide) (.slice none 0 0) 0 [] rfl (World.ownsRow_nil _ _ _ _) p q cap' (cellsE (xs.take q)) rfl (fun e => by have := hpn e; omega) (by rw [cellsE_len, List.length_take, Nat.min_eq_left hql]) (src_take hWr.low (unhide H2)) (cellsE_one _) (by unfold maxLen; omega) (by omega) (Nat.le_refl _) ?_
               intro v1 w6 ho1 hg1
               rw [Nat.zero_add, List.nil_append] at ho1
               obtain ⟨p1, c1, rfl, hc1, hp1, _⟩ := own_form ho1
               have hL6 : Below W5.heap.size W5 w6 := (Below.refl _ _).grown hg1 (Nat.le_refl _) (fun k e => by cases e)
               have hbx : w6.heap[wr.heap.size + 1]? = _ := (hL6.block (wr.heap.size + 1) (Array.getElem?_eq_some_iff.1 hWr.box).1).trans hWr.box
               have b0 : w6.cell? ⟨wr.heap.size + 1, 0, none⟩ = some (.string en.nm) := cell_of_heap hbx 0
               have b1 : w6.cell? ⟨wr.heap.size + 1, 1, none⟩ = some (.slice (some ⟨rowb, 0, none⟩) en.row.length en.row.length) := cell_of_heap hbx 1
               have b2 : w6.cell? ⟨wr.heap.size + 1, 2, none⟩ = some (.int .i64 en.wt) := cell_of_heap hbx 2
               have hs6 := hL6.size
               have HWr := hide hWr
               have HL6 := hide hL6
               have Ho1 := hide ho1
               clear hWr hL6 ho1 hg1 hbx d0 d1 d2 e0 e1 e2 r0 x0))
          all_goals
            have hE8 := (((unhide HE4).below (unhide HB)).below (unhide HWr).low).below (unhide HL8)
            have hfine : ∀ x ∈ xs.map (·.1), Chk (st3 R' S' T') x 0 := fun x hx => by
              rw [← unhide H1] at hx
              obtain ⟨c, _, rfl⟩ := List.mem_map.1 hx
              exact (entZ_fine c).chk (unhide H3')
            have hck := bad_chk (rowb := rowb) hql hfine (unhide HWr).chk
            have hB8 : Below w4.heap.size w4 w8 := ((unhide HB).trans ((unhide HWr).low.mono (unhide HB).size)).trans ((unhide HL8).mono (Nat.le_trans (unhide HB).size (unhide HWr).low.size))
            have HE8 := hide hE8
            have HB8 := hide hB8
            have Hap := hide (apply_bad v3 _ q _ w8 hE8 (bad_ents hql (unhide Ho3) (unhide H3) (unhide HWr) (unhide HL8)) (by simp; omega) (by simp; omega) hck.1 hck.2 (by decide))
            clear hE8 hB8 hck hfine Ho3 HL8 HWr H1 H2 H3 H4 HB HE4
            refine (unhide Hap).mono ?_
            rintro e w9 ⟨rfl, hb9⟩
            have HE9 := hide ((unhide HE8).below hb9)
            have HB9 := hide ((unhide HB8).trans (hb9.mono (unhide HB8).size))
            clear Hap hb9 HE8 HB8
            go_wp2_with fail
            refine (relRows_any nmR w9 (unhide HE9) hnR (st3_R R' S' T') (.inr (.inl hRa)) hRn).mono ?_
            rintro e w10 ⟨vc, ys', rfl, hR10, hA10, hyl', hb10⟩
            obtain rfl := hR10.unique (unhide HR4)
            have HB10 := hide ((unhide HB9).trans (hb10.mono (unhide HB9).size))
            have Hsm := hide (sameRows_eq va vc (rowsZ R'.ar R'.f ys') w10 ((unhide HA4).below (unhide HB10)) hA10 (by simp [rowsZ]; omega) (rowsZ_short _ _ _))
            clear hR10 hA10 hb10 HE9 HB9
            go_wp2_with fail
            refine (unhide Hsm).mono ?_
            rintro e w11 ⟨rfl, hd⟩
            have HB11 := hide (((unhide HB4).trans ((unhide HB10).mono hs4)).trans (hd.below _))
            clear Hsm hd HB10 HB4
            go_wp2
            go_ret
            exact ⟨rfl, unhide HB11⟩
        · go_wp2_with (first
            | (at_builtin
               refine wpList_append_any _ rfl (.tmp 82) (.tmp 84) 36 rfl W5.heap.size 39 i39 _ 3 48 Tryz.underlying36 hi hz0 hz1 hz2 rfl (by decide) (.slice p1 q c1) q (cellsE (xs.take q)) rfl ((unhide Ho1).alloc _) (some ⟨w6.heap.size, 0, none⟩) 1 1 [.string en.nm, .slice (some ⟨rowb, 0, none⟩) en.row.length en.row.length, .int .i64 en.wt] rfl (fun e => by cases e) rfl (fun ad e => by cases e; exact cells3_new w6 _ _ _ 39) (by simp [Value.oneCell']) (by unfold maxLen; omega) (by omega) (by simp; omega) ?_
               intro v2 w7 ho2 hg2
               obtain ⟨p2, c2, rfl, hc2, hp2, _⟩ := own_form ho2
               have hL7 : Below W5.heap.size W5 w7 := ((unhide HL6).alloc hs6 _).grown hg2 (by simp; omega) (fun k e => (own_block (unhide Ho1) k e).1)
               have hs7 := hL7.size
               have HL7 := hide hL7
               have Ho2 := hide ho2
               clear hL7 ho2 hg2 Ho1 HL6 b0 b1 b2)
            | (at_builtin
               refine wpList_append_any _ rfl (.tmp 86) (.tmp 89) 36 rfl W5.heap.size 39 i39 _ 3 48 Tryz.underlying36 hi hz0 hz1 hz2 rfl (by decide) (.slice p2 (q + 1) c2) (q + 1) _ rfl (unhide Ho2) _ (xs.length - q) (cap' - q) (cellsE (xs.drop q)) rfl (none_drop3 hpn) (by rw [cellsE_len, List.length_drop]) (src_drop3 hql ((unhide HWr).low.trans ((unhide HL7).mono (unhide HWr).low.size)) (unhide H2) hcap) (cellsE_one _) (by unfold maxLen; omega) (by omega) hs7 ?_
               intro v3 w8 ho3 hg3
               have hL8 : Below W5.heap.size W5 w8 := (unhide HL7).grown hg3 hs7 (fun k e => (own_block (unhide Ho2) k e).1)
               have HL8 := hide hL8
               have Ho3 := hide ho3
               clear hL8 ho3 hg3 Ho2 HL7)
            | (at_builtin
               generalize hW : (w5.setCell ⟨wr.heap.size + 1, 1, none⟩ (.slice (some ⟨wr.heap.size + 2, 0, none⟩) 1 1)).alloc (.cells #[.int .i64 0] 2) = W5
               have hWr : ∃ en rowb, Wrong wr W5 (st3 R' S' T') en rowb 2 := by subst hW; exact ⟨⟨nmR, [0], 1001⟩, wr.heap.size + 2, ⟨(below_setCell (unhide Hb5) (by omega)).alloc (by simp [World.setCell]; omega) _, (Below.heap_alloc _ _ _ (by simp [World.setCell]; omega)).trans (heap_setCell_at 1 _ x0), heap_last _ _ _ (by simp [World.setCell]; omega), chk_arity (by decide) (st3_R _ _ _) (by simp) (by rw [hRa]; decide) (by omega)⟩⟩
               clear hW
               obtain ⟨en, rowb, hWr⟩ := hWr
               refine wpList_append_any W5 rfl (.tmp 77) (.tmp 80) 36 rfl W5.heap.size 39 i39 _ 3 48 Tryz.underlying36 hi hz0 hz1 hz2 rfl (by decide) (.slice none 0 0) 0 [] rfl (World.ownsRow_nil _ _ _ _) p q cap' (cellsE (xs.take q)) rfl (fun e => by have := hpn e; omega) (by rw [cellsE_len, List.length_take, Nat.min_eq_left hql]) (src_take hWr.low (unhide H2)) (cellsE_one _) (by unfold maxLen; omega) (by omega) (Nat.le_refl _) ?_
               intro v1 w6 ho1 hg1
               rw [Nat.zero_add, List.nil_append] at ho1
               obtain ⟨p1, c1, rfl, hc1, hp1, _⟩ := own_form ho1
               have hL6 : Below W5.heap.size W5 w6 := (Below.refl _ _).grown hg1 (Nat.le_refl _) (fun k e => by cases e)
               have hbx : w6.heap[wr.heap.size + 1]? = _ := (hL6.block (wr.heap.size + 1) (Array.getElem?_eq_some_iff.1 hWr.box).1).trans hWr.box
               have b0 : w6.cell? ⟨wr.heap.size + 1, 0, none⟩ = some (.string en.nm) := cell_of_heap hbx 0
               have b1 : w6.cell? ⟨wr.heap.size + 1, 1, none⟩ = some (.slice (some ⟨rowb, 0, none⟩) en.row.length en.row.length) := cell_of_heap hbx 1
               have b2 : w6.cell? ⟨wr.heap.size + 1, 2, none⟩ = some (.int .i64 en.wt) := cell_of_heap hbx 2
               have hs6 := hL6.size
               have HWr := hide hWr
               have HL6 := hide hL6
               have Ho1 := hide ho1
               clear hWr hL6 ho1 hg1 hbx d0 d1 d2 e0 e1 e2 r0 x0))
          all_goals
            have hE8 := (((unhide HE4).below (unhide HB)).below (unhide HWr).low).below (unhide HL8)
            have hfine : ∀ x ∈ xs.map (·.1), Chk (st3 R' S' T') x 0 := fun x hx => by
              rw [← unhide H1] at hx
              obtain ⟨c, _, rfl⟩ := List.mem_map.1 hx
              exact (entZ_fine c).chk (unhide H3')
            have hck := bad_chk (rowb := rowb) hql hfine (unhide HWr).chk
            have hB8 : Below w4.heap.size w4 w8 := ((unhide HB).trans ((unhide HWr).low.mono (unhide HB).size)).trans ((unhide HL8).mono (Nat.le_trans (unhide HB).size (unhide HWr).low.size))
            have HE8 := hide hE8
            have HB8 := hide hB8
            have Hap := hide (apply_bad v3 _ q _ w8 hE8 (bad_ents hql (unhide Ho3) (unhide H3) (unhide HWr) (unhide HL8)) (by simp; omega) (by simp; omega) hck.1 hck.2 (by decide))
            clear hE8 hB8 hck hfine Ho3 HL8 HWr H1 H2 H3 H4 HB HE4
            refine (unhide Hap).mono ?_
            rintro e w9 ⟨rfl, hb9⟩
            have HE9 := hide ((unhide HE8).below hb9)
            have HB9 := hide ((unhide HB8).trans (hb9.mono (unhide HB8).size))
            clear Hap hb9 HE8 HB8
            go_wp2_with fail
            refine (relRows_any nmR w9 (unhide HE9) hnR (st3_R R' S' T') (.inr (.inl hRa)) hRn).mono ?_
            rintro e w10 ⟨vc, ys', rfl, hR10, hA10, hyl', hb10⟩
            obtain rfl := hR10.unique (unhide HR4)
            have HB10 := hide ((unhide HB9).trans (hb10.mono (unhide HB9).size))
            have Hsm := hide (sameRows_eq va vc (rowsZ R'.ar R'.f ys') w10 ((unhide HA4).below (unhide HB10)) hA10 (by simp [rowsZ]; omega) (rowsZ_short _ _ _))
            clear hR10 hA10 hb10 HE9 HB9
            go_wp2_with fail
            refine (unhide Hsm).mono ?_
            rintro e w11 ⟨rfl, hd⟩
            have HB11 := hide (((unhide HB4).trans ((unhide HB10).mono hs4)).trans (hd.below _))
            clear Hsm hd HB10 HB4
            go_wp2
            go_ret
            exact ⟨rfl, unhide HB11⟩
        · go_wp2_with (first
            | (at_builtin
               refine wpList_append_any _ rfl (.tmp 82) (.tmp 84) 36 rfl W5.heap.size 39 i39 _ 3 48 Tryz.underlying36 hi hz0 hz1 hz2 rfl (by decide) (.slice p1 q c1) q (cellsE (xs.take q)) rfl ((unhide Ho1).alloc _) (some ⟨w6.heap.size, 0, none⟩) 1 1 [.string en.nm, .slice (some ⟨rowb, 0, none⟩) en.row.length en.row.length, .int .i64 en.wt] rfl (fun e => by cases e) rfl (fun ad e => by cases e; exact cells3_new w6 _ _ _ 39) (by simp [Value.oneCell']) (by unfold maxLen; omega) (by omega) (by simp; omega) ?_
               intro v2 w7 ho2 hg2
               obtain ⟨p2, c2, rfl, hc2, hp2, _⟩ := own_form ho2
               have hL7 : Below W5.heap.size W5 w7 := ((unhide HL6).alloc hs6 _).grown hg2 (by simp; omega) (fun k e => (own_block (unhide Ho1) k e).1)
               have hs7 := hL7.size
               have HL7 := hide hL7
               have Ho2 := hide ho2
               clear hL7 ho2 hg2 Ho1 HL6 b0 b1 b2)
            | (at_builtin
               refine wpList_append_any _ rfl (.tmp 86) (.tmp 89) 36 rfl W5.heap.size 39 i39 _ 3 48 Tryz.underlying36 hi hz0 hz1 hz2 rfl (by decide) (.slice p2 (q + 1) c2) (q + 1) _ rfl (unhide Ho2) _ (xs.length - q) (cap' - q) (cellsE (xs.drop q)) rfl (none_drop3 hpn) (by rw [cellsE_len, List.length_drop]) (src_drop3 hql ((unhide HWr).low.trans ((unhide HL7).mono (unhide HWr).low.size)) (unhide H2) hcap) (cellsE_one _) (by unfold maxLen; omega) (by omega) hs7 ?_
               intro v3 w8 ho3 hg3
               have hL8 : Below W5.heap.size W5 w8 := (unhide HL7).grown hg3 hs7 (fun k e => (own_block (unhide Ho2) k e).1)
               have HL8 := hide hL8
               have Ho3 := hide ho3
               clear hL8 ho3 hg3 Ho2 HL7)
            | (at_builtin
               generalize hW : w5.setCell ⟨wr.heap.size + 1, 2, none⟩ (.int .i64 (-1001)) = W5
               have hWr : ∃ en rowb, Wrong wr W5 (st3 R' S' T') en rowb 9 := by subst hW; exact ⟨⟨nmR, [0, 1], -1001⟩, wr.heap.size, ⟨below_setCell (unhide Hb5) (by omega), heap_setCell_at 2 _ x0, (Below.heap_setCell _ _ _ _ (by dsimp only; omega)).trans r0, chk_weight (by decide) (st3_R _ _ _) (by simp) (by rw [hRa]; rfl) (by simp)⟩⟩
               clear hW
               obtain ⟨en, rowb, hWr⟩ := hWr
               refine wpList_append_any W5 rfl (.tmp 77) (.tmp 80) 36 rfl W5.heap.size 39 i39 _ 3 48 Tryz.underlying36 hi hz0 hz1 hz2 rfl (by decide) (.slice none 0 0) 0 [] rfl (World.ownsRow_nil _ _ _ _) p q cap' (cellsE (xs.take q)) rfl (fun e => by have := hpn e; omega) (by rw [cellsE_len, List.length_take, Nat.min_eq_left hql]) (src_take hWr.low (unhide H2)) (cellsE_one _) (by unfold maxLen; omega) (by omega) (Nat.le_refl _) ?_
               intro v1 w6 ho1 hg1
               rw [Nat.zero_add, List.nil_append] at ho1
               obtain ⟨p1, c1, rfl, hc1, hp1, _⟩ := own_form ho1
               have hL6 : Below W5.heap.size W5 w6 := (Below.refl _ _).grown hg1 (Nat.le_refl _) (fun k e => by cases e)
               have hbx : w6.heap[wr.heap.size + 1]? = _ := (hL6.block (wr.heap.size + 1) (Array.getElem?_eq_some_iff.1 hWr.box).1).trans hWr.box
               have b0 : w6.cell? ⟨wr.heap.size + 1, 0, none⟩ = some (.string en.nm) := cell_of_heap hbx 0
               have b1 : w6.cell? ⟨wr.heap.size + 1, 1, none⟩ = some (.slice (some ⟨rowb, 0, none⟩) en.row.length en.row.length) := cell_of_heap hbx 1
               have b2 : w6.cell? ⟨wr.heap.size + 1, 2, none⟩ = some (.int .i64 en.wt) := cell_of_heap hbx 2
               have hs6 := hL6.size
               have HWr := hide hWr
               have HL6 := hide hL6
               have Ho1 := hide ho1
               clear hWr hL6 ho1 hg1 hbx d0 d1 d2 e0 e1 e2 r0 x0))
          all_goals
            have hE8 := (((unhide HE4).below (unhide HB)).below (unhide HWr).low).below (unhide HL8)
            have hfine : ∀ x ∈ xs.map (·.1), Chk (st3 R' S' T') x 0 := fun x hx => by
              rw [← unhide H1] at hx
              obtain ⟨c, _, rfl⟩ := List.mem_map.1 hx
              exact (entZ_fine c).chk (unhide H3')
            have hck := bad_chk (rowb := rowb) hql hfine (unhide HWr).chk
            have hB8 : Below w4.heap.size w4 w8 := ((unhide HB).trans ((unhide HWr).low.mono (unhide HB).size)).trans ((unhide HL8).mono (Nat.le_trans (unhide HB).size (unhide HWr).low.size))
            have HE8 := hide hE8
            have HB8 := hide hB8
            have Hap := hide (apply_bad v3 _ q _ w8 hE8 (bad_ents hql (unhide Ho3) (unhide H3) (unhide HWr) (unhide HL8)) (by simp; omega) (by simp; omega) hck.1 hck.2 (by decide))
            clear hE8 hB8 hck hfine Ho3 HL8 HWr H1 H2 H3 H4 HB HE4
            refine (unhide Hap).mono ?_
            rintro e w9 ⟨rfl, hb9⟩
            have HE9 := hide ((unhide HE8).below hb9)
            have HB9 := hide ((unhide HB8).trans (hb9.mono (unhide HB8).size))
            clear Hap hb9 HE8 HB8
            go_wp2_with fail
            refine (relRows_any nmR w9 (unhide HE9) hnR (st3_R R' S' T') (.inr (.inl hRa)) hRn).mono ?_
            rintro e w10 ⟨vc, ys', rfl, hR10, hA10, hyl', hb10⟩
            obtain rfl := hR10.unique (unhide HR4)
            have HB10 := hide ((unhide HB9).trans (hb10.mono (unhide HB9).size))
            have Hsm := hide (sameRows_eq va vc (rowsZ R'.ar R'.f ys') w10 ((unhide HA4).below (unhide HB10)) hA10 (by simp [rowsZ]; omega) (rowsZ_short _ _ _))
            clear hR10 hA10 hb10 HE9 HB9
            go_wp2_with fail
            refine (unhide Hsm).mono ?_
            rintro e w11 ⟨rfl, hd⟩
            have HB11 := hide (((unhide HB4).trans ((unhide HB10).mono hs4)).trans (hd.below _))
            clear Hsm hd HB10 HB4
            go_wp2
            go_ret
            exact ⟨rfl, unhide HB11⟩
        · go_wp2_with (first
            | (at_builtin
               refine wpList_append_any _ rfl (.tmp 82) (.tmp 84) 36 rfl W5.heap.size 39 i39 _ 3 48 Tryz.underlying36 hi hz0 hz1 hz2 rfl (by decide) (.slice p1 q c1) q (cellsE (xs.take q)) rfl ((unhide Ho1).alloc _) (some ⟨w6.heap.size, 0, none⟩) 1 1 [.string en.nm, .slice (some ⟨rowb, 0, none⟩) en.row.length en.row.length, .int .i64 en.wt] rfl (fun e => by cases e) rfl (fun ad e => by cases e; exact cells3_new w6 _ _ _ 39) (by simp [Value.oneCell']) (by unfold maxLen; omega) (by omega) (by simp; omega) ?_
               intro v2 w7 ho2 hg2
               obtain ⟨p2, c2, rfl, hc2, hp2, _⟩ := own_form ho2
               have hL7 : Below W5.heap.size W5 w7 := ((unhide HL6).alloc hs6 _).grown hg2 (by simp; omega) (fun k e => (own_block (unhide Ho1) k e).1)
               have hs7 := hL7.size
               have HL7 := hide hL7
               have Ho2 := hide ho2
               clear hL7 ho2 hg2 Ho1 HL6 b0 b1 b2)
            | (at_builtin
               refine wpList_append_any _ rfl (.tmp 86) (.tmp 89) 36 rfl W5.heap.size 39 i39 _ 3 48 Tryz.underlying36 hi hz0 hz1 hz2 rfl (by decide) (.slice p2 (q + 1) c2) (q + 1) _ rfl (unhide Ho2) _ (xs.length - q) (cap' - q) (cellsE (xs.drop q)) rfl (none_drop3 hpn) (by rw [cellsE_len, List.length_drop]) (src_drop3 hql ((unhide HWr).low.trans ((unhide HL7).mono (unhide HWr).low.size)) (unhide H2) hcap) (cellsE_one _) (by unfold maxLen; omega) (by omega) hs7 ?_
               intro v3 w8 ho3 hg3
               have hL8 : Below W5.heap.size W5 w8 := (unhide HL7).grown hg3 hs7 (fun k e => (own_block (unhide Ho2) k e).1)
               have HL8 := hide hL8
               have Ho3 := hide ho3
               clear hL8 ho3 hg3 Ho2 HL7)
            | (at_builtin
               obtain ⟨W5, hW⟩ : ∃ W5, W5 = w5 := ⟨_, rfl⟩; rw [← hW]
               have hWr : ∃ en rowb, Wrong wr W5 (st3 R' S' T') en rowb 9 := by subst hW; exact ⟨⟨nmR, [0, 1], 1001⟩, wr.heap.size, ⟨unhide Hb5, x0, r0, chk_weight (by decide) (st3_R _ _ _) (by simp) (by rw [hRa]; rfl) (by simp)⟩⟩
               clear hW
               obtain ⟨en, rowb, hWr⟩ := hWr
               refine wpList_append_any W5 rfl (.tmp 77) (.tmp 80) 36 rfl W5.heap.size 39 i39 _ 3 48 Tryz.underlying36 hi hz0 hz1 hz2 rfl (by decide) (.slice none 0 0) 0 [] rfl (World.ownsRow_nil _ _ _ _) p q cap' (cellsE (xs.take q)) rfl (fun e => by have := hpn e; omega) (by rw [cellsE_len, List.length_take, Nat.min_eq_left hql]) (src_take hWr.low (unhide H2)) (cellsE_one _) (by unfold maxLen; omega) (by omega) (Nat.le_refl _) ?_
               intro v1 w6 ho1 hg1
               rw [Nat.zero_add, List.nil_append] at ho1
               obtain ⟨p1, c1, rfl, hc1, hp1, _⟩ := own_form ho1
               have hL6 : Below W5.heap.size W5 w6 := (Below.refl _ _).grown hg1 (Nat.le_refl _) (fun k e => by cases e)
               have hbx : w6.heap[wr.heap.size + 1]? = _ := (hL6.block (wr.heap.size + 1) (Array.getElem?_eq_some_iff.1 hWr.box).1).trans hWr.box
               have b0 : w6.cell? ⟨wr.heap.size + 1, 0, none⟩ = some (.string en.nm) := cell_of_heap hbx 0
               have b1 : w6.cell? ⟨wr.heap.size + 1, 1, none⟩ = some (.slice (some ⟨rowb, 0, none⟩) en.row.length en.row.length) := cell_of_heap hbx 1
               have b2 : w6.cell? ⟨wr.heap.size + 1, 2, none⟩ = some (.int .i64 en.wt) := cell_of_heap hbx 2
               have hs6 := hL6.size
               have HWr := hide hWr
               have HL6 := hide hL6
               have Ho1 := hide ho1
               clear hWr hL6 ho1 hg1 hbx d0 d1 d2 e0 e1 e2 r0 x0))
          all_goals
            have hE8 := (((unhide HE4).below (unhide HB)).below (unhide HWr).low).below (unhide HL8)
            have hfine : ∀ x ∈ xs.map (·.1), Chk (st3 R' S' T') x 0 := fun x hx => by
              rw [← unhide H1] at hx
              obtain ⟨c, _, rfl⟩ := List.mem_map.1 hx
              exact (entZ_fine c).chk (unhide H3')
            have hck := bad_chk (rowb := rowb) hql hfine (unhide HWr).chk
            have hB8 : Below w4.heap.size w4 w8 := ((unhide HB).trans ((unhide HWr).low.mono (unhide HB).size)).trans ((unhide HL8).mono (Nat.le_trans (unhide HB).size (unhide HWr).low.size))
            have HE8 := hide hE8
            have HB8 := hide hB8
            have Hap := hide (apply_bad v3 _ q _ w8 hE8 (bad_ents hql (unhide Ho3) (unhide H3) (unhide HWr) (unhide HL8)) (by simp; omega) (by simp; omega) hck.1 hck.2 (by decide))
            clear hE8 hB8 hck hfine Ho3 HL8 HWr H1 H2 H3 H4 HB HE4
            refine (unhide Hap).mono ?_
            rintro e w9 ⟨rfl, hb9⟩
            have HE9 := hide ((unhide HE8).below hb9)
            have HB9 := hide ((unhide HB8).trans (hb9.mono (unhide HB8).size))
            clear Hap hb9 HE8 HB8
            go_wp2_with fail
            refine (relRows_any nmR w9 (unhide HE9) hnR (st3_R R' S' T') (.inr (.inl hRa)) hRn).mono ?_
            rintro e w10 ⟨vc, ys', rfl, hR10, hA10, hyl', hb10⟩
            obtain rfl := hR10.unique (unhide HR4)
            have HB10 := hide ((unhide HB9).trans (hb10.mono (unhide HB9).size))
            have Hsm := hide (sameRows_eq va vc (rowsZ R'.ar R'.f ys') w10 ((unhide HA4).below (unhide HB10)) hA10 (by simp [rowsZ]; omega) (rowsZ_short _ _ _))
            clear hR10 hA10 hb10 HE9 HB9
            go_wp2_with fail
            refine (unhide Hsm).mono ?_
            rintro e w11 ⟨rfl, hd⟩
            have HB11 := hide (((unhide HB4).trans ((unhide HB10).mono hs4)).trans (hd.below _))
            clear Hsm hd HB10 HB4
            go_wp2
            go_ret
            exact ⟨rfl, unhide HB11⟩

end Go.Proofs.YtoifcnidhfnapaaGreat
