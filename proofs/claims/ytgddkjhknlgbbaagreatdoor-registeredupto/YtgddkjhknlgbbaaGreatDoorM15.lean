import Derived.Test.YtgddkjhknlgbbaaGreatDoorM14
set_option linter.unusedVariables false
set_option linter.unusedSimpArgs false

namespace Go.Proofs.YtgddkjhknlgbbaaGreatDoor
set_option linter.unusedVariables false
set_option linter.unusedSimpArgs false
open Go.RowKit Go.Maps

set_option maxRecDepth 100000 in
set_option maxHeartbeats 1000000 in
theorem refRows_miss (fb : Nat) (v : Value) (rs : List RRel) (nm : ByteArray) (w : World) (c0 : w.cell? ⟨fb, 0, none⟩ = some v) (hv : RelsAt w v rs) (hl : rs.length ≤ 1000000000) (hp : placeZ rs nm 0 = -1) :
    Calls Tryz.prog 53 #[.pointer (some ⟨fb, 0, none⟩), .string nm] w fun e w' => e = .returned (.tuple #[.slice none 0 0, .int .i64 6]) ∧ w' = w := by
  have H2 := hide (relation_any fb v v rs nm w c0 hv hl)
  go_enter Tryz.func53, Tryz.ntmps53
  go_wp2_with fail
  refine (unhide H2).mono ?_
  rintro e w1 ⟨rfl, hw1⟩
  replace hw1 := hw1.symm
  subst hw1
  rw [hp]
  clear H2 hp hv
  go_wp2
  go_ret2
  exact ⟨rfl, rfl⟩

set_option maxRecDepth 100000 in
set_option maxHeartbeats 1000000 in
theorem refRows_hit (fb : Nat) (v : Value) (rs : List RRel) (nm : ByteArray) (k : Nat) (a2 : Option Addr) (n2 cap2 : Nat) (w : World) (c0 : w.cell? ⟨fb, 0, none⟩ = some v) (hv : RelsAt w v rs) (hl : rs.length ≤ 1000000000) (hk : k < rs.length) (hp : placeZ rs nm 0 = k) (hr : (rs[k]?.getD zeroRR).rows = .slice a2 n2 cap2) :
    Calls Tryz.prog 53 #[.pointer (some ⟨fb, 0, none⟩), .string nm] w fun e w' => e = .returned (.tuple #[.slice a2 n2 cap2, .int .i64 0]) ∧ w' = w := by
  have H2 := hide (relation_any fb v v rs nm w c0 hv hl)
  obtain ⟨a, cap, rfl, hc⟩ := hv
  obtain ⟨b, rfl, d0, d1, d2⟩ := hc k hk
  rw [hr] at d2
  have hkx : (k : Int) < (rs.length : Int) := by omega
  have hk0 : ¬ (k : Int) < 0 := by omega
  clear hc d0 d1 hr
  go_enter Tryz.func53, Tryz.ntmps53
  go_wp2_with fail
  refine (unhide H2).mono ?_
  rintro e w1 ⟨rfl, hw1⟩
  replace hw1 := hw1.symm
  subst hw1
  rw [hp]
  clear H2 hp
  go_wp2
  go_ret2
  exact ⟨rfl, rfl⟩

end Go.Proofs.YtgddkjhknlgbbaaGreatDoor

namespace Go.Proofs.YtgddkjhknlgbbaaGreatDoor
set_option linter.unusedVariables false
set_option linter.unusedSimpArgs false
open Go.RowKit Go.Maps

/-- A row as it lies: its numbers' slice, its weight. -/
structure Raw where
  a : Option Addr
  n : Nat
  cap : Nat
  wt : Int

def zeroRaw : Raw := ⟨none, 0, 0, 0⟩
def rawL (r : Raw) : List Value := [.slice r.a r.n r.cap, .int .i64 r.wt]
def rawCells (rs : List Raw) : List Value := rs.flatMap rawL

/-- The slice v reads as the rows rs, as they lie. -/
def RawAt (w : World) (v : Value) (rs : List Raw) : Prop :=
  ∃ p cap, v = .slice p rs.length cap ∧ ∀ i, i < rs.length → ∃ b o, p = some ⟨b, o, none⟩ ∧ w.cell? ⟨b, o + i * 2, none⟩ = some (.slice (rs[i]?.getD zeroRaw).a (rs[i]?.getD zeroRaw).n (rs[i]?.getD zeroRaw).cap) ∧
    w.cell? ⟨b, o + i * 2 + 1, none⟩ = some (.int .i64 (rs[i]?.getD zeroRaw).wt)

theorem RawAt.below {w w' : World} {v : Value} {rs : List Raw} (h : RawAt w v rs) (hb : Below w.heap.size w w') : RawAt w' v rs := by
  obtain ⟨p, cap, rfl, hc⟩ := h
  exact ⟨p, cap, rfl, fun i hi => by
    obtain ⟨b, o, ha, h1, h2⟩ := hc i hi
    exact ⟨b, o, ha, (hb.cell (p := ⟨b, _, none⟩) (World.block_lt_of_cell? w _ h1)).trans h1, (hb.cell (p := ⟨b, _, none⟩) (World.block_lt_of_cell? w _ h2)).trans h2⟩⟩

def kept (rs : List Raw) : List Raw := rs.filter fun r => decide (r.wt ≠ 0)

theorem kept_len (rs : List Raw) : (kept rs).length ≤ rs.length := List.length_filter_le _ _

set_option maxRecDepth 100000 in
set_option maxHeartbeats 1000000 in
theorem there_any (v : Value) (rs : List Raw) (w : World) (hv : RawAt w v rs) (hl : rs.length ≤ 1000000000) :
    Calls Tryz.prog 38 #[v] w fun e w' => ∃ v', e = .returned v' ∧ w'.ownsRow w.heap.size 86 2 v' (kept rs).length (rawCells (kept rs)) ∧ Below w.heap.size w w' := by
  obtain ⟨p, cap, rfl, hc⟩ := hv
  have Hc := hide hc
  clear hc
  obtain ⟨i85, hi, hz0, hz1, hz2⟩ := info_parts Tryz.info86
  go_enter Tryz.func38, Tryz.ntmps38
  go_wp2
  go_loopw [3, 4] (fun vo i wr => ∃ k : Nat, k ≤ rs.length ∧ i = .int .i64 k ∧ wr.ownsRow w.heap.size 86 2 vo (kept (rs.take k)).length (rawCells (kept (rs.take k))) ∧ Below w.heap.size w wr) (fun _ i _ => rs.length - (intOf i).toNat)
  case atStart => exact ⟨0, Nat.zero_le _, rfl, World.ownsRow_nil _ _ _ _, Below.refl _ _⟩
  case round =>
    obtain ⟨k, hk, rfl, ho, hB⟩ := hrel
    have hBs := hB.size
    by_cases hlt : k < rs.length
    · have hx : (k : Int) < (rs.length : Int) := by omega
      obtain ⟨b, o, rfl, d0, d1⟩ := (unhide Hc) k hlt
      replace d0 := (hB.cell (p := ⟨b, _, none⟩) (World.block_lt_of_cell? w _ d0)).trans d0
      replace d1 := (hB.cell (p := ⟨b, _, none⟩) (World.block_lt_of_cell? w _ d1)).trans d1
      obtain ⟨x, hxe⟩ : ∃ x, x = rs[k]?.getD zeroRaw := ⟨_, rfl⟩
      have hxg : x = rs[k] := by rw [hxe]; simp [hlt]
      have htk : rs.take (k + 1) = rs.take k ++ [x] := by rw [List.take_succ_eq_append_getElem hlt, hxg]
      rw [← hxe] at d0 d1
      have hkl : (kept (rs.take k)).length ≤ 1000000000 := Nat.le_trans (kept_len _) (by simp; omega)
      obtain ⟨xa, xn, xc, xw⟩ := x
      dsimp only at d0 d1
      have Htk := hide htk
      have Ho := hide ho
      have HB := hide hB
      clear hxe hxg htk ho hB
      by_cases hw : xw = 0
      · have hwb : (xw != 0) = false := by simp [hw]
        have Hk : Hid (kept (rs.take (k + 1)) = kept (rs.take k)) := by
          unfold Hid; rw [unhide Htk]; unfold kept; rw [List.filter_append]; simp [hw]
        clear hw
        go_wp2
        go_roundw
        case rel => exact ⟨k + 1, by omega, by go_num, by rw [unhide Hk]; exact unhide Ho, unhide HB⟩
        case measure => simp [intOf]; omega
      · have hwb : (xw != 0) = true := by simp [hw]
        have Hk : Hid (kept (rs.take (k + 1)) = kept (rs.take k) ++ [⟨xa, xn, xc, xw⟩]) := by
          unfold Hid; rw [unhide Htk]; unfold kept; rw [List.filter_append]; simp [hw]
        have hnew := cells2_new wr (.slice xa xn xc) (.int .i64 xw) 86
        clear hw
        obtain ⟨vp, vc, rfl⟩ : ∃ vp vc, u3 = .slice vp (kept (rs.take k)).length vc := by
          rcases (unhide Ho).2 with ⟨rfl, h0⟩ | ⟨g, cap', cur, rfl, _⟩
          · exact ⟨none, 0, by rw [h0]⟩
          · exact ⟨_, _, rfl⟩
        go_wp2_with (first
          | (at_builtin; refine wpList_append_own_at _ rfl _ _ 70 rfl w.heap.size 86 i85 _ 2 32 Tryz.underlying70 hi hz0 hz1 hz2 rfl (by decide) _ _ _ rfl ((unhide Ho).alloc _) ⟨wr.heap.size, 0, none⟩ 1 1 [.slice xa xn xc, .int .i64 xw] rfl rfl hnew (by simp [Value.oneCell']) (by unfold maxLen; omega) (by omega) (by simp; omega) ?_; intro v' w2 ho2 hg2 _ _; have HB2 := hide (((unhide HB).alloc hBs _).grown hg2 (by simp; omega) (fun j e => (own_block (unhide Ho) j e).1)); obtain ⟨g', cap', rfl⟩ := own_succ ho2; have Ho2 := hide ho2; clear ho2 hg2 hnew))
        go_roundw
        case rel => exact ⟨k + 1, by omega, by go_num, by rw [unhide Hk]; simpa [rawCells, rawL] using unhide Ho2, unhide HB2⟩
        case measure => simp [intOf]; omega
    · have hke : k = rs.length := by omega
      have hx : ¬ (k : Int) < (rs.length : Int) := by omega
      rw [hke, List.take_length] at ho
      have Ho := hide ho
      have HB := hide hB
      clear ho hB hke
      go_wp2
      go_ret
      exact ⟨_, rfl, unhide Ho, unhide HB⟩

end Go.Proofs.YtgddkjhknlgbbaaGreatDoor

namespace Go.Proofs.YtgddkjhknlgbbaaGreatDoor
set_option linter.unusedVariables false
set_option linter.unusedSimpArgs false
open Go.RowKit Go.Maps

/-- The rows' numbers, as they read. -/
def RawVals (w : World) (rs : List Raw) (zss : List (List Int)) : Prop :=
  zss.length = rs.length ∧ ∀ i, i < rs.length → IntsAt w (.slice (rs[i]?.getD zeroRaw).a (rs[i]?.getD zeroRaw).n (rs[i]?.getD zeroRaw).cap) (zss[i]?.getD [])

/-- How many rows stand ahead of these numbers. -/
def aheadZ : List (List Int) → List Int → Nat
  | [], _ => 0
  | y :: r, zs => if lessZ y zs then aheadZ r zs + 1 else 0

theorem aheadZ_le : ∀ (zss : List (List Int)) (zs : List Int), aheadZ zss zs ≤ zss.length
  | [], _ => Nat.le_refl _
  | y :: r, zs => by
    simp only [aheadZ]
    split
    · have := aheadZ_le r zs; simp; omega
    · simp

theorem aheadZ_lt : ∀ (zss : List (List Int)) (zs : List Int) (i : Nat), i < zss.length → (i < aheadZ zss zs → lessZ (zss[i]?.getD []) zs = true) ∧ (i = aheadZ zss zs → lessZ (zss[i]?.getD []) zs = false)
  | [], _, i, h => by simp at h
  | y :: r, zs, i, h => by
    simp only [aheadZ]
    by_cases e : lessZ y zs = true
    · rw [if_pos e]
      cases i with
      | zero => exact ⟨fun _ => by simpa using e, fun h => by omega⟩
      | succ i =>
        have ih := aheadZ_lt r zs i (by simpa using h)
        simp only [List.getElem?_cons_succ]
        exact ⟨fun h => ih.1 (by omega), fun h => ih.2 (by omega)⟩
    · rw [if_neg e]
      exact ⟨fun h => by omega, fun h => by subst h; simpa using e⟩

set_option maxRecDepth 100000 in
set_option maxHeartbeats 2000000 in
/-- put, where the row is there: its weight grows, in place. -/
theorem put_there (g cap : Nat) (u : Value) (base : Nat) (rs : List Raw) (zss : List (List Int)) (zs : List Int) (wt : Int) (w : World) (hown : w.ownsRow base 86 2 (.slice (some ⟨g, 0, none⟩) rs.length cap) rs.length (rawCells rs)) (hraw : RawAt w (.slice (some ⟨g, 0, none⟩) rs.length cap) rs) (hvals : RawVals w rs zss) (hu : IntsAt w u zs) (hl : rs.length ≤ 1000000000)
    (hzl : zs.length ≤ 1000000000000) (hsl : ∀ y ∈ zss, y.length ≤ 1000000000000) (hat : aheadZ zss zs < rs.length) (hnot : lessZ zs (zss[aheadZ zss zs]?.getD []) = false) (hw1 : -1000000000000 ≤ wt ∧ wt ≤ 1000000000000) (hw2 : -1000000000000 ≤ (rs[aheadZ zss zs]?.getD zeroRaw).wt ∧ (rs[aheadZ zss zs]?.getD zeroRaw).wt ≤ 1000000000000) :
    Calls Tryz.prog 37 #[.slice (some ⟨g, 0, none⟩) rs.length cap, u, .int .i64 wt] w fun e w' => e = .returned (.slice (some ⟨g, 0, none⟩) rs.length cap) ∧
      ∃ w2, Drawn w w2 ∧ w' = w2.setCell ⟨g, aheadZ zss zs * 2 + 1, none⟩ (.int .i64 ((rs[aheadZ zss zs]?.getD zeroRaw).wt + wt)) := by
  obtain ⟨p, cap', hpe, hc⟩ := hraw
  cases hpe
  have hfz : ∀ j, w.frozen? ⟨g, j, none⟩ = false := fun j => hown.frozenAt j
  have Hc := hide hc
  have Hfz := hide hfz
  have Hv := hide hvals
  have Hu := hide hu
  have Hsl := hide hsl
  have hzz := hvals.1
  clear hc hvals hu hsl hfz hown
  obtain ⟨m, hm⟩ : ∃ m, m = aheadZ zss zs := ⟨_, rfl⟩
  have hal := aheadZ_lt zss zs
  rw [← hm] at hat hnot hal hw2
  rw [← hm]
  have Hal := hide hal
  have Hnot := hide hnot
  clear hal hnot hm
  go_enter Tryz.func37, Tryz.ntmps37
  go_wp2
  go_loopw [7] (fun i wr => ∃ k : Nat, k ≤ m ∧ i = .int .i64 k ∧ Drawn w wr) (fun i _ => m - (intOf i).toNat)
  case atStart => exact ⟨0, Nat.zero_le _, rfl, Drawn.refl _⟩
  case round =>
    obtain ⟨k, hk, rfl, hdr⟩ := hrel
    have hlt : k < rs.length := by omega
    have hx : (k : Int) < (rs.length : Int) := by omega
    obtain ⟨b, o, hbo, d0, d1⟩ := (unhide Hc) k hlt
    cases hbo
    rw [Nat.zero_add, ← hdr.cell] at d0 d1
    have hiv := (unhide Hv).2 k hlt
    have hys : (zss[k]?.getD []).length ≤ 1000000000000 := by
      have hlt' : k < zss.length := by omega
      simp [hlt']
      exact (unhide Hsl) _ (List.getElem_mem hlt')
    have hlk := (unhide Hal) k (by omega)
    obtain ⟨x, hxe⟩ : ∃ x, x = rs[k]?.getD zeroRaw := ⟨_, rfl⟩
    rw [← hxe] at d0 d1 hiv
    obtain ⟨xa, xn, xc, xw⟩ := x
    dsimp only at d0 d1 hiv
    have Hless := hide (less_any _ _ _ zs wr (hiv.drawn hdr) ((unhide Hu).drawn hdr) hys hzl)
    have Hless2 := fun (w2 : World) (h2 : Drawn w w2) => less_any _ _ zs (zss[k]?.getD []) w2 ((unhide Hu).drawn h2) (hiv.drawn h2) hzl hys
    have Hdr := hide hdr
    have HL2 := hide Hless2
    have Hlk := hide hlk
    clear hdr hiv hlk Hless2 hys
    by_cases hkm : k < m
    · have ht := (unhide Hlk).1 hkm
      go_wp2_with fail
      refine (unhide Hless).mono ?_
      rintro e w1 ⟨rfl, hd1⟩
      rw [ht]
      have Hd1 := hide ((unhide Hdr).trans hd1)
      clear hd1 ht Hless HL2 Hlk hxe
      go_wp2
      go_roundw
      case rel => exact ⟨k + 1, by omega, by go_num, unhide Hd1⟩
      case measure => simp [intOf]; omega
    · have hke : k = m := by omega
      subst hke
      have ht := (unhide Hlk).2 rfl
      go_wp2_with fail
      refine (unhide Hless).mono ?_
      rintro e w1 ⟨rfl, hd1⟩
      rw [ht]
      have Hd1 := hide ((unhide Hdr).trans hd1)
      rw [← hd1.cell] at d0 d1
      rw [← hxe] at hw2
      dsimp only at hw2
      have Hxe := hide hxe
      clear hd1 ht Hless Hlk hxe
      go_wp2_with fail
      refine ((unhide HL2) w1 (unhide Hd1)).mono ?_
      rintro e w2 ⟨rfl, hd2⟩
      rw [unhide Hnot]
      rw [← hd2.cell] at d0 d1
      have Hd2 := hide ((unhide Hd1).trans hd2)
      have hff : w2.frozen? ⟨g, k * 2 + 1, none⟩ = false := by
        obtain ⟨n9, h9⟩ := (unhide Hd1).trans hd2
        rw [h9]; exact (unhide Hfz) _
      clear hd2 HL2 Hnot
      go_wp2_with fail
      go_ret
      refine ⟨rfl, w2, unhide Hd2, ?_⟩
      rw [← unhide Hxe]

end Go.Proofs.YtgddkjhknlgbbaaGreatDoor

namespace Go.Proofs.YtgddkjhknlgbbaaGreatDoor
set_option linter.unusedVariables false
set_option linter.unusedSimpArgs false
open Go.RowKit Go.Maps

/-- 'append(s, x...)', whatever x: nil, or a slice of cells that are known. -/
theorem wpList_append_any {P : Program} (w : World) {ops : Array Oper} {rest : List Oper} {o : Oper} {a : Act} {Q : Exit → Act → World → Prop} (hgd : o.guard = none) (s x : Operand) (t : TypeId)
    (ho : o.op = .call { callee := .builtin .append, args := #[s, x], argTypes := #[t, t] })
    (base : Nat) (e : TypeId) (i : TypeInfo) (z : Value) (size bytes : Nat) (ht : P.underlying t = some (.slice e)) (hi : P.info? e = some i) (hz : i.zero = some z)
    (hsize : i.size = size) (hby : i.bytes = bytes) (hzs : z.cells.size = size) (hsz : 0 < size)
    (v : Value) (n : Nat) (xs : List Value) (hs : a.eval s = v) (hown : w.ownsRow base e size v n xs)
    (p : Option Addr) (m c : Nat) (news : List Value) (hx : a.eval x = .slice p m c) (hp : p = none → m = 0 ∧ c = 0) (hl : news.length = m * size) (hnews : ∀ ad, p = some ad → ∀ j u, news[j]? = some u → w.cell? (ad.add j) = some u) (h1 : ∀ u ∈ news, u.oneCell' = true)
    (h63 : n + m ≤ maxLen) (hbytes : (n + m) * bytes ≤ 140737488355328) (hbase : base ≤ w.heap.size)
    (h : ∀ v' w', w'.ownsRow base e size v' (n + m) (xs ++ news) → w.grownBy w' v.ownBlock → wpList P ops Q rest (a.put o.dst v') w') :
    wpList P ops Q (o :: rest) a w := by
  cases p with
  | some ad => exact wpList_append_own_at w hgd s x t ho base e i z size bytes ht hi hz hsize hby hzs hsz v n xs hs hown ad m c news hx hl (hnews ad rfl) h1 h63 hbytes hbase (fun v' w' h1 h2 _ _ => h v' w' h1 h2)
  | none =>
    obtain ⟨rfl, rfl⟩ := hp rfl
    have hr := run_append_owned_none (P := P) (w := w) base t o.type e i size ht hi v n xs hown
    have hn : news = [] := List.eq_nil_of_length_eq_zero (by omega)
    subst hn
    refine wpList_plain hgd fun K hK => ?_
    unfold Oper.wp execOp
    simp only [ho, resolve, invoke, builtin, Sem.run_bind, Sem.run_pure, Result.andThen_ok, List.map_toArray, List.map_cons, List.map_nil, hs, hx, hr]
    exact hK _ _ (h v w (by simpa using hown) ⟨rfl, rfl, rfl, Nat.le_refl _, fun _ _ _ => rfl⟩)

theorem own_form {w : World} {base : Nat} {e : TypeId} {size : Nat} {v : Value} {n : Nat} {xs : List Value} (h : w.ownsRow base e size v n xs) : ∃ p c, v = .slice p n c ∧ n ≤ c ∧ (p = none → n = 0 ∧ c = 0) ∧ (∀ ad, p = some ad → ∃ g, ad = ⟨g, 0, none⟩ ∧ base ≤ g ∧ g < w.heap.size ∧ ∀ j, j < n * size → w.cell? ⟨g, j, none⟩ = xs[j]?) := by
  have h0 := h
  rcases h.2 with ⟨rfl, rfl⟩ | ⟨g, c, cur, rfl, hb, hg, hc, _⟩
  · exact ⟨none, 0, rfl, Nat.le_refl _, fun _ => ⟨rfl, rfl⟩, fun ad e => by cases e⟩
  · exact ⟨_, c, rfl, hc, (fun e => by cases e), fun ad e => by cases e; exact ⟨g, rfl, hb, (Array.getElem?_eq_some_iff.1 hg).1, fun j hj => by rw [h0.cellAt j hj]⟩⟩


theorem Tryz.info2 : (Tryz.prog.info? 2).map (fun i => (i.zero, i.size, i.bytes)) = some (some (.int .i64 0), 1, 8) := by kernel_rfl

theorem rawCells_len (rs : List Raw) : (rawCells rs).length = rs.length * 2 := by
  induction rs with
  | nil => rfl
  | cons p ps ih => simp only [rawCells, List.flatMap_cons, List.length_append, List.length_cons] at ih ⊢; rw [ih]; simp [rawL]; omega

theorem rawCells_split (rs : List Raw) (q : Nat) : rawCells rs = rawCells (rs.take q) ++ rawCells (rs.drop q) := by
  unfold rawCells
  rw [← List.flatMap_append, List.take_append_drop]

theorem rawCells_one (rs : List Raw) : ∀ u ∈ rawCells rs, u.oneCell' = true := by
  intro u hu
  unfold rawCells at hu
  obtain ⟨p, _, hp⟩ := List.mem_flatMap.1 hu
  simp [rawL] at hp
  rcases hp with rfl | rfl <;> rfl

theorem raw_take {w W : World} {m q cap : Nat} {p : Option Addr} {rs : List Raw} (hlow : Below w.heap.size w W) (hown : w.ownsRow m 86 2 (.slice p rs.length cap) rs.length (rawCells rs)) :
    ∀ ad, p = some ad → ∀ j u, (rawCells (rs.take q))[j]? = some u → W.cell? (ad.add j) = some u := by
  intro ad hp j u hj
  obtain ⟨p', c', h1, _, _, h4⟩ := own_form hown
  cases h1
  obtain ⟨g, rfl, _, hg, hc⟩ := h4 ad hp
  have hl := rawCells_len rs
  have hlt : j < (rawCells (rs.take q)).length := (List.getElem?_eq_some_iff.1 hj).1
  have hj' : (rawCells rs)[j]? = some u := by rw [rawCells_split rs q, List.getElem?_append_left hlt]; exact hj
  have hlt' := (List.getElem?_eq_some_iff.1 hj').1
  have ea : (⟨g, 0, none⟩ : Addr).add j = ⟨g, j, none⟩ := by by_cases h : j = 0 <;> simp [Addr.add, h]
  rw [ea, hlow.cell (p := ⟨g, j, none⟩) hg, hc j (by omega)]
  exact hj'

theorem raw_drop {w W : World} {m q cap : Nat} {p : Option Addr} {rs : List Raw} (hq : q ≤ rs.length) (hlow : Below w.heap.size w W) (hown : w.ownsRow m 86 2 (.slice p rs.length cap) rs.length (rawCells rs)) (hc9 : rs.length ≤ cap) :
    ∀ ad, (if cap = q then p else p.map (·.add (q * 2))) = some ad → ∀ j u, (rawCells (rs.drop q))[j]? = some u → W.cell? (ad.add j) = some u := by
  intro ad hp j u hj
  split at hp
  · have : rs.drop q = [] := List.drop_eq_nil_of_le (by omega)
    rw [this] at hj
    simp [rawCells] at hj
  · obtain ⟨a0, ha, rfl⟩ := Option.map_eq_some_iff.1 hp
    obtain ⟨p', c', h1, _, _, h4⟩ := own_form hown
    cases h1
    obtain ⟨g, rfl, _, hg, hc⟩ := h4 a0 ha
    have hl := rawCells_len rs
    have hl2 := rawCells_len (rs.take q)
    rw [List.length_take, Nat.min_eq_left hq] at hl2
    have hj' : (rawCells rs)[q * 2 + j]? = some u := by rw [rawCells_split rs q, List.getElem?_append_right (by omega), hl2, Nat.add_sub_cancel_left]; exact hj
    have hlt' := (List.getElem?_eq_some_iff.1 hj').1
    have ea : ((⟨g, 0, none⟩ : Addr).add (q * 2)).add j = ⟨g, q * 2 + j, none⟩ := by
      have h3 : ¬ q * 2 = 0 ∨ q = 0 := by omega
      rcases h3 with h3 | rfl <;> by_cases h : j = 0 <;> simp [Addr.add, *]
    rw [ea, hlow.cell (p := ⟨g, _, none⟩) hg, hc _ (by omega)]
    exact hj'

theorem none_drop2 {q n cap : Nat} {p : Option Addr} (h : p = none → n = 0 ∧ cap = 0) : (if cap = q then p else p.map (·.add (q * 2))) = none → n - q = 0 ∧ cap - q = 0 := by
  intro hp
  have hn : p = none := by
    split at hp
    · exact hp
    · exact Option.map_eq_none_iff.1 hp
  have := h hn
  omega

end Go.Proofs.YtgddkjhknlgbbaaGreatDoor
