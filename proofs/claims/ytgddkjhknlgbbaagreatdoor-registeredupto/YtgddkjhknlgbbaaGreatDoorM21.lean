import Derived.Test.YtgddkjhknlgbbaaGreatDoorM20
set_option linter.unusedVariables false
set_option linter.unusedSimpArgs false

namespace Go.Proofs.YtgddkjhknlgbbaaGreatDoor
set_option linter.unusedVariables false
set_option linter.unusedSimpArgs false
open Go.RowKit Go.Maps

/-- How several keeps, one behind the other, leave the law's books; L: the blocks of the lists that are kept. -/
structure KeptMany (w w' : World) (wb : Nat) (pv hv : Value) (hs : List Nat) (L : Nat → Prop) (hv' : Value) (hs2 : List Nat) : Prop where
  spine : Spine w' wb pv hv' (hs ++ hs2)
  hold : ∀ h ∈ hs2, HoldRep (fun b => (w.heap.size ≤ b ∨ L b) ∧ b ≠ wb ∧ hv'.ownBlock ≠ some b ∧ b < w'.heap.size) w' h
  mid : Mid (fun b => b = wb ∨ hv.ownBlock = some b ∨ L b) w w'
  hvb : hv'.ownBlock = hv.ownBlock ∨ ∀ g, hv'.ownBlock = some g → w.heap.size ≤ g

theorem KeptMany.snoc {w w1 w2 : World} {wb : Nat} {pv hv hv1 hv2 l : Value} {hs hs1 : List Nat} {L L' : Nat → Prop} {h : Nat} (k : KeptMany w w1 wb pv hv hs L hv1 hs1) (j : KeptBy w1 w2 wb pv hv1 (hs ++ hs1) l hv2 h) (hL : ∀ b, L b → L' b) (hl : ∀ b, l.ownBlock = some b → L' b ∧ ¬ L b ∧ b < w.heap.size) : KeptMany w w2 wb pv hv hs L' hv2 (hs1 ++ [h]) := by
  have hs12 := k.mid.size
  have hs23 := j.mid.size
  have hvne : ∀ b, b < w1.heap.size → hv1.ownBlock ≠ some b → hv2.ownBlock ≠ some b := fun b hb hne e => by
    rcases j.hvb with h1 | h1
    · rw [h1] at e; exact hne e
    · have := h1 b e; omega
  refine ⟨by rw [← List.append_assoc]; exact j.spine, fun h' hh' => ?_, ?_, ?_⟩
  · rcases List.mem_append.1 hh' with hm | hm
    · have h1 := (k.hold h' hm).kept (W' := w2) (fun b hb hlt => j.mid.block b hlt (fun hq => by
        rcases hq with e | e | e
        · exact hb.2.1 e
        · exact hb.2.2.1 e
        · have := hl b e
          rcases hb.1 with h9 | h9
          · omega
          · exact this.2.1 h9))
      exact h1.imp (fun b hb => ⟨hb.1.imp id (hL b), hb.2.1, hvne b hb.2.2.2 hb.2.2.1, by omega⟩)
    · simp at hm
      subst hm
      exact j.hold.imp (fun b hb => ⟨by
        rcases hb.1 with h1 | h1
        · left; omega
        · right; exact (hl b h1).1, hb.2.1, hb.2.2.1, hb.2.2.2⟩)
  · refine ⟨j.mid.os.trans k.mid.os, j.mid.tape.trans k.mid.tape, j.mid.output.trans k.mid.output, by omega, fun b hb hq => ?_⟩
    have h1 := k.mid.block b hb (fun h => hq (h.imp id (·.imp id (hL b))))
    refine (j.mid.block b (by omega) (fun h => ?_)).trans h1
    rcases h with h | h | h
    · exact hq (.inl h)
    · rcases k.hvb with h2 | h2
      · rw [h2] at h; exact hq (.inr (.inl h))
      · have := h2 b h; omega
    · exact hq (.inr (.inr (hl b h).1))
  · rcases j.hvb with h1 | h1
    · rw [h1]; exact k.hvb
    · right; intro g hg; have := h1 g hg; omega

theorem KeptBy.many {w w' : World} {wb : Nat} {pv hv l hv' : Value} {hs : List Nat} {h : Nat} (k : KeptBy w w' wb pv hv hs l hv' h) : KeptMany w w' wb pv hv hs (fun b => l.ownBlock = some b) hv' [h] :=
  ⟨k.spine, fun h' hh => by simp at hh; subst hh; exact k.hold, k.mid, k.hvb⟩

theorem Spine.below {w w' : World} {wb : Nat} {pv hv : Value} {hs : List Nat} (h : Spine w wb pv hv hs) (hb : Below w.heap.size w w') : Spine w' wb pv hv hs := by
  obtain ⟨base, ho⟩ := h.own
  exact ⟨(hb.block wb (heap_lt h.box)).trans h.box, ⟨base, own_below ho hb⟩⟩

def valS (r : Raw) : Value := .slice r.a r.n r.cap

theorem pat2_set {ys : List Value} {n k : Nat} {a b : Value} (hl : ys.length = n * 2) (hk : k < n) (h : Pat ys k 2 [a, b]) : Pat ((ys.set (k * 2) a).set (k * 2 + 1) b) (k + 1) 2 [a, b] := by
  intro i j hi hj
  by_cases e : i = k
  · subst e
    have : j = 0 ∨ j = 1 := by omega
    rcases this with rfl | rfl
    · rw [List.getElem?_set_ne (by omega), Nat.add_zero, List.getElem?_set_self (by omega)]; rfl
    · rw [List.getElem?_set_self (by simp; omega)]; rfl
  · rw [List.getElem?_set_ne (by omega), List.getElem?_set_ne (by omega)]
    exact h i j (by omega) hj

end Go.Proofs.YtgddkjhknlgbbaaGreatDoor

namespace Go.Proofs.YtgddkjhknlgbbaaGreatDoor
set_option linter.unusedVariables false
set_option linter.unusedSimpArgs false
open Go.RowKit Go.Maps

set_option maxRecDepth 100000 in
set_option maxHeartbeats 8000000 in
/-- keepRows: the list of rows is written full, eight places behind it too, and held; then the numbers of each row. -/
theorem keepRows_any (wb : Nat) (pv hv : Value) (hs : List Nat) (base : Nat) (l : Value) (rsx : List Raw) (w : World) (hS : Spine w wb pv hv hs) (hhl : hs.length ≤ 10000000000) (ho : w.ownsRow base 86 2 l rsx.length (rawCells rsx)) (hn : rsx.length ≤ 100000000) (hbw : base ≤ w.heap.size)
    (hvs : ∀ r ∈ rsx, ∃ b xs, w.ownsRow b 2 1 (valS r) r.n xs ∧ b ≤ w.heap.size ∧ r.n ≤ 100000000) (hap : rsx.Pairwise fun r r' => ∀ g, (valS r).ownBlock = some g → (valS r').ownBlock ≠ some g) :
    Calls Tryz.prog 59 #[.pointer (some ⟨wb, 0, none⟩), l] w fun e w' => ∃ hv' hs2, e = .returned (.tuple #[]) ∧ KeptMany w w' wb pv hv hs (fun b => l.ownBlock = some b ∨ ∃ r ∈ rsx, (valS r).ownBlock = some b) hv' hs2 ∧ hs2.length = rsx.length + 1 := by
  obtain ⟨m, hm⟩ : ∃ m : Int, m = -1000000 - hs.length := ⟨_, rfl⟩
  obtain ⟨p, c, hle, hcap, hpn, hps⟩ := own_form ho
  subst hle
  have hraw := raw_of_own ho
  obtain ⟨p', c', hpe, hcr⟩ := hraw
  cases hpe
  have HS := hide hS
  have Ho := hide ho
  have Hcr := hide hcr
  have Hvs := hide hvs
  have Hap := hide hap
  have Hm := hide hm
  obtain ⟨n, hnn⟩ : ∃ n, n = rsx.length := ⟨_, rfl⟩
  obtain ⟨i86, ji, jz0, jz1, jz2⟩ := info_parts Tryz.info86
  obtain ⟨i73, hi, hz0, hz1, hz2⟩ := info_parts Tryz.info73
  obtain ⟨i70, li, lz0, lz1, lz2⟩ := info_parts Tryz.info70
  obtain ⟨i59, ki, kz0, kz1, kz2⟩ := info_parts Tryz.info59
  clear hS ho hcr hvs hap hm hps
  go_enter Tryz.func59, Tryz.ntmps59
  go_wp2
  go_loopw [4, 5] (fun nmv i wr => ∃ k : Nat, k ≤ rsx.length ∧ i = .int .i64 k ∧ wr.ownsRow w.heap.size 73 1 nmv k ((rsx.take k).map valS) ∧ Below w.heap.size w wr) (fun _ i _ => rsx.length - (intOf i).toNat)
  case atStart => exact ⟨0, Nat.zero_le _, rfl, World.ownsRow_nil _ _ _ _, Below.refl _ _⟩
  case round =>
    obtain ⟨k, hk, rfl, hok, hBk⟩ := hrel
    have hBs := hBk.size
    obtain ⟨pm, cm, rfl, _, _, _⟩ := own_form hok
    by_cases hlt : k < rsx.length
    · have hx : (k : Int) < (rsx.length : Int) := by omega
      obtain ⟨b, o, rfl, d0, d1⟩ := (unhide Hcr) k hlt
      have hbl : b < w.heap.size := World.block_lt_of_cell? w _ d0
      rw [← hBk.cell (p := ⟨b, _, none⟩) hbl] at d0 d1
      have htk : (rsx.take (k + 1)).map valS = (rsx.take k).map valS ++ [valS (rsx[k]?.getD zeroRaw)] := by
        have h9 : rsx[k]?.getD zeroRaw = rsx[k] := by simp [hlt]
        rw [h9, List.take_succ_eq_append_getElem hlt, List.map_append]; rfl
      obtain ⟨x, hxe⟩ : ∃ x, x = rsx[k]?.getD zeroRaw := ⟨_, rfl⟩
      rw [← hxe] at d0 d1 htk
      obtain ⟨xa, xn, xc, xw⟩ := x
      dsimp only at d0 d1
      have Htk := hide htk
      have Hok := hide hok
      have HBk := hide hBk
      clear hxe htk hok hBk
      go_wp2_with (first
        | (at_builtin
           refine wpList_append_any _ rfl _ _ 50 rfl w.heap.size 73 i73 _ 1 24 Tryz.underlying50 hi hz0 hz1 hz2 rfl (by decide) (.slice pm k cm) k ((rsx.take k).map valS) rfl ((unhide Hok).alloc _) (some ⟨wr.heap.size, 0, none⟩) 1 1 [.slice xa xn xc] rfl (fun e => by cases e) rfl (fun ad e => by cases e; exact cell_one_new wr _ 73) (by simp [Value.oneCell']) (by unfold maxLen; omega) (by omega) (by simp; omega) ?_
           intro v3 w3 ho3 hg3
           have hB3 : Below w.heap.size w w3 := ((unhide HBk).alloc hBs _).grown hg3 (by simp; omega) (fun j e => (own_block (unhide Hok) j e).1)
           obtain ⟨g3, c3, rfl⟩ := own_succ ho3
           have Ho3 := hide ho3
           have HB3 := hide hB3
           clear ho3 hg3 hB3))
      go_roundw
      case rel => exact ⟨k + 1, by omega, by go_num, by rw [unhide Htk]; exact unhide Ho3, unhide HB3⟩
      case measure => simp [intOf]; omega
    · have hx : ¬ (k : Int) < (rsx.length : Int) := by omega
      obtain ⟨w0, hw0⟩ : ∃ w0, w0 = wr := ⟨_, rfl⟩
      subst hw0
      have hke : k = rsx.length := by omega
      subst hke
      rw [List.take_length] at hok
      have hS0 := (unhide HS).below hBk
      have hl0 := own_below (unhide Ho) hBk
      have Hmark := hide (mark_any wb pv hv hs w0 hS0 (by omega))
      rw [← unhide Hm] at Hmark
      have HS0 := hide hS0
      have Hl0 := hide hl0
      have Hok := hide hok
      have HBk0 := hide hBk
      clear hok hBk hS0 hl0 Hcr
      go_wp2_with fail
      refine (unhide Hmark).mono ?_
      rintro e w1 ⟨rfl, hw1⟩
      replace hw1 := hw1.symm
      subst hw1
      clear Hmark
      go_wp2
      obtain ⟨w1, hw1⟩ : ∃ w1, w1 = (w0.alloc (.cells #[.slice none 0 0, .slice none 0 0, .slice none 0 0, .int .i64 m] 91)).alloc (.cells #[.slice none 0 0, .int .i64 m] 86) := ⟨_, rfl⟩
      rw [← hw1]
      have hg01 : w0.grownBy w1 none := by rw [hw1]; exact (World.grownBy_alloc _ _ _).trans (World.grownBy_alloc _ _ _)
      have hs1 : w1.heap.size = w0.heap.size + 2 := by rw [hw1]; simp
      have hB0 : w1.heap[w0.heap.size]? = some (Obj.cells #[.slice none 0 0, .slice none 0 0, .slice none 0 0, .int .i64 m] 91 (0, 0)) := by
        rw [hw1]
        have h0 : (w0.alloc (.cells #[.slice none 0 0, .slice none 0 0, .slice none 0 0, .int .i64 m] 91)).heap[w0.heap.size]? = some (Obj.cells #[.slice none 0 0, .slice none 0 0, .slice none 0 0, .int .i64 m] 91 (0, 0)) := heap_last _ _ _ rfl
        exact (Below.heap_alloc _ _ _ (heap_lt h0)).trans h0
      have hR0 : w1.heap[w0.heap.size + 1]? = some (Obj.cells #[.slice none 0 0, .int .i64 m] 86 (0, 0)) := by rw [hw1]; exact heap_last _ _ _ (by simp)
      have Ho1 : Hid (w1.ownsRow base 86 2 (.slice p rsx.length c) rsx.length (rawCells rsx)) := by rw [hw1]; exact ((unhide Hl0).alloc _).alloc _
      have Hne0 : Hid (∀ g, Value.ownBlock (.slice p rsx.length c) = some g → g < w.heap.size) := fun g hg => by obtain ⟨cur, h⟩ := own_type (unhide Ho) hg; exact heap_lt h
      have HB0 := hide hB0
      have HR0 := hide hR0
      have Hg01 := hide hg01
      clear hw1 hB0 hR0 hg01
      go_loopw [8] (fun i wr => ∃ (k : Nat) (ys : List Value), k ≤ rsx.length ∧ i = .int .i64 k ∧ wr.ownsRow base 86 2 (.slice p rsx.length c) rsx.length ys ∧ Pat ys k 2 (markR m) ∧ w1.grownBy wr (Value.ownBlock (.slice p rsx.length c))) (fun i _ => rsx.length - (intOf i).toNat)
      case atStart => exact ⟨0, _, Nat.zero_le _, rfl, unhide Ho1, fun i j hi _ => absurd hi (Nat.not_lt_zero _), ⟨rfl, rfl, rfl, Nat.le_refl _, fun _ _ _ => rfl⟩⟩
      case round =>
        obtain ⟨k, ys, hk, rfl, hok, hpt, hgk⟩ := hrel
        have hnb : ∀ b, w.heap.size ≤ b → some b ≠ Value.ownBlock (.slice p rsx.length c) := fun b hb e => by have := (unhide Hne0) b e.symm; omega
        have hBk : wr.heap[w0.heap.size]? = some (Obj.cells #[.slice none 0 0, .slice none 0 0, .slice none 0 0, .int .i64 m] 91 (0, 0)) := (hgk.block _ (by omega) (hnb _ hBs)).trans (unhide HB0)
        have hRk : wr.heap[w0.heap.size + 1]? = some (Obj.cells #[.slice none 0 0, .int .i64 m] 86 (0, 0)) := (hgk.block _ (by omega) (hnb _ (by omega))).trans (unhide HR0)
        have r0 : wr.cell? ⟨w0.heap.size + 1, 0, none⟩ = some (.slice none 0 0) := cell_of_heap hRk 0
        have r1 : wr.cell? ⟨w0.heap.size + 1, 1, none⟩ = some (.int .i64 m) := cell_of_heap hRk 1
        have HBk := hide hBk
        have HRk := hide hRk
        have Hpt := hide hpt
        have Hgk := hide hgk
        clear hBk hRk hpt hgk hnb
        by_cases hlt : k < rsx.length
        · have hx : (k : Int) < (rsx.length : Int) := by omega
          obtain ⟨p', c', he', _, hpn', hps'⟩ := own_form hok
          cases he'
          cases p with
          | none => have := hpn' rfl; omega
          | some ad =>
            obtain ⟨g, rfl, hgb, hgl, hcl⟩ := hps' ad rfl
            have hyl : ys.length = rsx.length * 2 := hok.1
            obtain ⟨xo, cS⟩ : ∃ xo, wr.cell? ⟨g, k * 2, none⟩ = some xo := ⟨ys[k * 2]'(by omega), by rw [hcl _ (by omega)]; simp⟩
            obtain ⟨xo2, cS2⟩ : ∃ xo2, wr.cell? ⟨g, k * 2 + 1, none⟩ = some xo2 := ⟨ys[k * 2 + 1]'(by omega), by rw [hcl _ (by omega)]; simp⟩
            have fS : wr.frozen? ⟨g, k * 2, none⟩ = false := hok.frozenAt _
            have fS2 : wr.frozen? ⟨g, k * 2 + 1, none⟩ = false := hok.frozenAt _
            have h1 := hok.stored (k * 2) (.slice none 0 0)
            have h2 := h1.1.stored (k * 2 + 1) (.int .i64 m)
            have Hst := hide (And.intro h2.1 (h1.2.trans h2.2))
            have Hts : Hid (Pat ((ys.set (k * 2) (.slice none 0 0)).set (k * 2 + 1) (.int .i64 m)) (k + 1) 2 (markR m)) := pat2_set hyl hlt (unhide Hpt)
            clear hcl hps' hpn' hok h1 h2
            go_wp2
            go_roundw
            case rel => exact ⟨k + 1, _, by omega, by go_num, (unhide Hst).1, unhide Hts, (unhide Hgk).trans (unhide Hst).2⟩
            case measure => simp [intOf]; omega
        · have hx : ¬ (k : Int) < (rsx.length : Int) := by omega
          obtain ⟨w2, hw2⟩ : ∃ w2, w2 = wr := ⟨_, rfl⟩
          subst hw2
          have hke : k = rsx.length := by omega
          rw [hke] at Hpt
          have b1 : w2.cell? ⟨w0.heap.size, 1, none⟩ = some (.slice none 0 0) := cell_of_heap (unhide HBk) 1
          have f1 : w2.frozen? ⟨w0.heap.size, 1, none⟩ = false := frozen_of_heap (unhide HBk) 1
          have hsw : w0.heap.size + 1 < w2.heap.size := heap_lt (unhide HRk)
          have Hlk := hide hok
          clear hok
          go_wp2_with (first
            | (at_builtin
               refine wpList_append_any _ rfl _ _ 83 rfl w.heap.size 70 i70 _ 1 24 Tryz.underlying83 li lz0 lz1 lz2 rfl (by decide) (.slice none 0 0) 0 [] rfl (World.ownsRow_nil _ _ _ _) (some ⟨w2.heap.size, 0, none⟩) 1 1 [.slice p rsx.length c] rfl (fun e => by cases e) rfl (fun ad e => by cases e; exact cell_one_new w2 _ 70) (by simp [Value.oneCell']) (by unfold maxLen; omega) (by omega) (by simp; omega) ?_
               intro v3 w3 ho3 hg3
               rw [Nat.zero_add, List.nil_append] at ho3
               have hg23 : w2.grownBy w3 none := (World.grownBy_alloc _ _ _).trans hg3
               have hB3 : w3.heap[w0.heap.size]? = some (Obj.cells #[.slice none 0 0, .slice none 0 0, .slice none 0 0, .int .i64 m] 91 (0, 0)) := (hg23.block _ (by omega) (by simp)).trans (unhide HBk)
               have b03 : w3.cell? ⟨w0.heap.size, 1, none⟩ = some (.slice none 0 0) := cell_of_heap hB3 1
               have f03 : w3.frozen? ⟨w0.heap.size, 1, none⟩ = false := frozen_of_heap hB3 1
               obtain ⟨g3, c3, rfl⟩ := own_succ ho3
               have Ho3 := hide ho3
               have Hg23 := hide hg23
               have HB3 := hide hB3
               clear ho3 hg3 hg23 hB3))
          obtain ⟨w4, hw4⟩ : ∃ w4, w4 = w3.setCell ⟨w0.heap.size, 1, none⟩ (.slice (some ⟨g3, 0, none⟩) 1 c3) := ⟨_, rfl⟩
          rw [← hw4]
          have hB4 : w4.heap[w0.heap.size]? = some (Obj.cells #[.slice none 0 0, .slice (some ⟨g3, 0, none⟩) 1 c3, .slice none 0 0, .int .i64 m] 91 (0, 0)) := by
            rw [hw4, heap_setCell_same w3 w0.heap.size 1 _ 91 _ (unhide HB3)]; rfl
          have hg34 : w3.grownBy w4 (some w0.heap.size) := by
            rw [hw4]
            exact ⟨rfl, rfl, rfl, by simp, fun k _ hk => heap_setCell_other w3 ⟨w0.heap.size, 1, none⟩ k _ (fun e => hk (by rw [e]))⟩
          have hrow3 : ∀ g, some w0.heap.size = some g → ∃ cur : Array Value, w3.heap[g]? = some (Obj.cells cur 91 (0, 0)) := fun g e => by cases e; exact ⟨_, unhide HB3⟩
          have ho4 : w4.ownsRow w.heap.size 70 1 (.slice (some ⟨g3, 0, none⟩) 1 c3) 1 [.slice p rsx.length c] := own_grown (unhide Ho3) hg34 (other_type hrow3 (by decide))
          have hl3 : w3.ownsRow base 86 2 (.slice p rsx.length c) rsx.length ys := own_grown (unhide Hlk) (unhide Hg23) (fun g cur e => by cases e)
          have hl4 : w4.ownsRow base 86 2 (.slice p rsx.length c) rsx.length ys := own_grown hl3 hg34 (other_type hrow3 (by decide))
          have hR3 : w3.heap[w0.heap.size + 1]? = some (Obj.cells #[.slice none 0 0, .int .i64 m] 86 (0, 0)) := ((unhide Hg23).block _ (by omega) (by simp)).trans (unhide HRk)
          have hR4 : w4.heap[w0.heap.size + 1]? = some (Obj.cells #[.slice none 0 0, .int .i64 m] 86 (0, 0)) := (hg34.block _ (heap_lt hR3) (by simp)).trans hR3
          have hm3 : w3.ownsRow w.heap.size 73 1 (.slice pm rsx.length cm) rsx.length (rsx.map valS) := by
            have q1 := own_grown (unhide Hok) (unhide Hg01) (fun g cur e => by cases e)
            have q2 := own_grown q1 (unhide Hgk) (other_type (t := 86) (fun g e => own_type (unhide Ho1) e) (by decide))
            exact own_grown q2 (unhide Hg23) (fun g cur e => by cases e)
          have hm4 : w4.ownsRow w.heap.size 73 1 (.slice pm rsx.length cm) rsx.length (rsx.map valS) := own_grown hm3 hg34 (other_type hrow3 (by decide))
          obtain ⟨T1, hT1⟩ : ∃ T1 : Nat → Prop, T1 = fun b => w.heap.size ≤ b ∨ Value.ownBlock (.slice p rsx.length c) = some b := ⟨_, rfl⟩
          have hTl : ∀ g, Value.ownBlock (.slice p rsx.length c) = some g → T1 g ∧ g ≠ w0.heap.size + 1 := fun g hg => ⟨by rw [hT1]; exact .inr hg, by have := (unhide Hne0) g hg; omega⟩
          have hmk : ∀ u ∈ [Value.slice p rsx.length c], MarkB T1 w4 86 2 (markR m) u (rsx.length + 0) := fun u hu => by
            simp at hu; subst hu
            exact MarkB.of_own hl4 (unhide Hpt) (fun g hg => (hTl g hg).1)
          have hmid : Mid (fun b => Value.ownBlock (.slice p rsx.length c) = some b) w w4 := by
            have h0 := unhide HBk0
            have h1 := unhide Hg01
            have h2 := unhide Hgk
            have h3 := unhide Hg23
            refine ⟨hg34.os.trans (h3.os.trans (h2.os.trans (h1.os.trans h0.os))), hg34.tape.trans (h3.tape.trans (h2.tape.trans (h1.tape.trans h0.tape))), hg34.output.trans (h3.output.trans (h2.output.trans (h1.output.trans h0.output))), Nat.le_trans h0.size (Nat.le_trans h1.size (Nat.le_trans h2.size (Nat.le_trans h3.size hg34.size))), fun k hk hq => ?_⟩
            have s0 := h0.size
            have s1 := h1.size
            have s2 := h2.size
            have s3 := h3.size
            exact (hg34.block k (by omega) (fun e => by cases e; omega)).trans ((h3.block k (by omega) (by simp)).trans ((h2.block k (by omega) (fun e => hq e.symm)).trans ((h1.block k (by omega) (by simp)).trans (h0.block k hk))))
          have HB4 := hide hB4
          have HR4 := hide hR4
          have Ho4 := hide ho4
          have Hm4 := hide hm4
          have Hl4 : Hid (w4.ownsRow base 86 2 (.slice p rsx.length c) (rsx.length + 0) ys ∧ Pat ys (rsx.length + 0) 2 (markR m)) := ⟨hl4, unhide Hpt⟩
          have Hmk := hide hmk
          have Hmid := hide hmid
          have HTl := hide hTl
          have HT1 := hide hT1
          clear hw4 hB4 hg34 hrow3 ho4 hl3 hl4 hmk hmid hTl hT1 hR3 hR4 hm3 hm4 HB3 Ho3 Hg23 Hok HBk HRk b1 f1 b03 f03 r0 r1
          go_wp2
          go_loopw [1, 9] (fun lv i wr => ∃ (k : Nat) (nv : Value) (ns : List Value) (zs : List Value), k ≤ 8 ∧ i = .int .i64 k ∧ (wr.ownsRow base 86 2 lv (rsx.length + k) zs ∧ Pat zs (rsx.length + k) 2 (markR m)) ∧ (∀ g, lv.ownBlock = some g → T1 g ∧ g ≠ w0.heap.size + 1) ∧ wr.heap[w0.heap.size]? = some (Obj.cells #[.slice none 0 0, nv, .slice none 0 0, .int .i64 m] 91 (0, 0)) ∧ wr.heap[w0.heap.size + 1]? = some (Obj.cells #[.slice none 0 0, .int .i64 m] 86 (0, 0)) ∧ wr.ownsRow w.heap.size 70 1 nv (k + 1) ns ∧ (∀ u ∈ ns, MarkB T1 wr 86 2 (markR m) u (rsx.length + k)) ∧ wr.ownsRow w.heap.size 73 1 (.slice pm rsx.length cm) rsx.length (rsx.map valS) ∧ Mid (fun b => Value.ownBlock (.slice p rsx.length c) = some b) w wr) (fun _ i _ => 8 - (intOf i).toNat)
          case atStart => exact ⟨0, _, _, _, by omega, rfl, unhide Hl4, unhide HTl, unhide HB4, unhide HR4, unhide Ho4, unhide Hmk, unhide Hm4, unhide Hmid⟩
          case round =>
            obtain ⟨q, nv, ns, zs, hq, rfl, ⟨hlq, hpq⟩, hTq, hBq, hRq, hnq, hmq, hmq2, hMq⟩ := hrel
            have b1 : wr.cell? ⟨w0.heap.size, 1, none⟩ = some nv := cell_of_heap hBq 1
            have r0 : wr.cell? ⟨w0.heap.size + 1, 0, none⟩ = some (.slice none 0 0) := cell_of_heap hRq 0
            have r1 : wr.cell? ⟨w0.heap.size + 1, 1, none⟩ = some (.int .i64 m) := cell_of_heap hRq 1
            have hsq : w0.heap.size + 1 < wr.heap.size := heap_lt hRq
            by_cases hq8 : q < 8
            · have hx2 : (q : Int) < 8 := by omega
              obtain ⟨pl, cl, rfl, _, _, _⟩ := own_form hlq
              obtain ⟨pn, cn, rfl, _, _, _⟩ := own_form hnq
              have Hlq := hide hlq
              have Hpq := hide hpq
              have HTq := hide hTq
              have HBq := hide hBq
              have HRq := hide hRq
              have Hnq := hide hnq
              have Hmq := hide hmq
              have Hmq2 := hide hmq2
              have HMq := hide hMq
              clear hlq hpq hTq hBq hRq hnq hmq hmq2 hMq
              go_wp2_with (first
                | (at_builtin
                   refine wpList_append_any _ rfl _ _ 83 rfl w.heap.size 70 i70 _ 1 24 Tryz.underlying83 li lz0 lz1 lz2 rfl (by decide) (.slice pn (q + 1) cn) (q + 1) ns rfl ((unhide Hn5).alloc _) (some ⟨w5.heap.size, 0, none⟩) 1 1 [.slice p5 (rsx.length + q + 1) c5] rfl (fun e => by cases e) rfl (fun ad e => by cases e; exact cell_one_new w5 _ 70) (by simp [Value.oneCell']) (by unfold maxLen; omega) (by omega) (by simp; omega) ?_
                   intro v6 w6 ho6 hg6
                   have hgA : w5.grownBy (w5.alloc (.cells #[.slice p5 (rsx.length + q + 1) c5] 70)) none := World.grownBy_alloc _ _ _
                   have hrow6 : ∀ g, Value.ownBlock (.slice pn (q + 1) cn) = some g → ∃ cur : Array Value, (w5.alloc (.cells #[.slice p5 (rsx.length + q + 1) c5] 70)).heap[g]? = some (Obj.cells cur 70 (0, 0)) := fun g e => own_type ((unhide Hn5).alloc _) e
                   have hB6 : w6.heap[w0.heap.size]? = some (Obj.cells #[.slice none 0 0, .slice pn (q + 1) cn, .slice none 0 0, .int .i64 m] 91 (0, 0)) := by
                     have h1 := (hgA.block _ (heap_lt (unhide HB5)) (by simp)).trans (unhide HB5)
                     exact (hg6.block _ (heap_lt h1) (fun e => other_type hrow6 (by decide) _ _ e.symm h1)).trans h1
                   have hR6 : w6.heap[w0.heap.size + 1]? = some (Obj.cells #[.slice none 0 0, .int .i64 m] 86 (0, 0)) := by
                     have h1 := (hgA.block _ (heap_lt (unhide HR5)) (by simp)).trans (unhide HR5)
                     exact (hg6.block _ (heap_lt h1) (fun e => other_type hrow6 (by decide) _ _ e.symm h1)).trans h1
                   have hl6 : w6.ownsRow base 86 2 (.slice p5 (rsx.length + q + 1) c5) (rsx.length + q + 1) (zs ++ markR m) := own_grown (own_grown (unhide Hl5) hgA (fun g cur e => by cases e)) hg6 (other_type hrow6 (by decide))
                   have hm6 : ∀ u ∈ ns ++ [.slice p5 (rsx.length + q + 1) c5], MarkB T1 w6 86 2 (markR m) u (rsx.length + q + 1) := fun u hu =>
                     (((unhide Hm5) u hu).grown hgA (fun g cur e => by cases e)).grown hg6 (fun g cur e _ => other_type hrow6 (by decide) g cur e)
                   have hnm6 : w6.ownsRow w.heap.size 73 1 (.slice pm rsx.length cm) rsx.length (rsx.map valS) := own_grown (own_grown (unhide Hnm5) hgA (fun g cur e => by cases e)) hg6 (other_type hrow6 (by decide))
                   have hM6 : Mid (fun b => Value.ownBlock (.slice p rsx.length c) = some b) w w6 := by
                     have hg56 : w5.grownBy w6 (Value.ownBlock (.slice pn (q + 1) cn)) := ⟨hg6.os, hg6.tape, hg6.output, Nat.le_trans hgA.size hg6.size, fun k hk e => (hg6.block k (Nat.lt_of_lt_of_le hk hgA.size) e).trans (hgA.block k hk (by simp))⟩
                     have h5 := unhide HM5
                     refine ⟨hg56.os.trans h5.os, hg56.tape.trans h5.tape, hg56.output.trans h5.output, Nat.le_trans h5.size hg56.size, fun k hk hq' => (hg56.block k (Nat.lt_of_lt_of_le hk h5.size) (fun e => ?_)).trans (h5.block k hk hq')⟩
                     have := (own_block (unhide Hn5) k e.symm).1
                     omega
                   have b06 : w6.cell? ⟨w0.heap.size, 1, none⟩ = some (.slice pn (q + 1) cn) := cell_of_heap hB6 1
                   have f06 : w6.frozen? ⟨w0.heap.size, 1, none⟩ = false := frozen_of_heap hB6 1
                   obtain ⟨g6, c6, rfl⟩ := own_succ ho6
                   have HB6 := hide hB6
                   have HR6 := hide hR6
                   have Hl6 := hide hl6
                   have Hm6 := hide hm6
                   have Hnm6 := hide hnm6
                   have HM6 := hide hM6
                   have Ho6 := hide ho6
                   clear hgA hrow6 hB6 hR6 hl6 hm6 hnm6 hM6 ho6 hg6)
                | (at_builtin
                   refine wpList_append_sharp _ rfl _ _ 70 rfl base 86 i86 _ 2 32 Tryz.underlying70 ji jz0 jz1 jz2 rfl (by decide) (.slice pl (rsx.length + q) cl) (rsx.length + q) zs rfl ((unhide Hlq).alloc _) ⟨wr.heap.size, 0, none⟩ 1 (markR m) rfl rfl (cells2_new wr (.slice none 0 0) (.int .i64 m) 86) (by simp [markR, Value.oneCell']) (by unfold maxLen; omega) (by omega) (by simp; omega) ?_
                   intro v5 w5 ho5 hg5 hs5
                   have hgA : wr.grownBy (wr.alloc (.cells #[.slice none 0 0, .int .i64 m] 86)) none := World.grownBy_alloc _ _ _
                   have hrow5 : ∀ g, Value.ownBlock (.slice pl (rsx.length + q) cl) = some g → ∃ cur : Array Value, (wr.alloc (.cells #[.slice none 0 0, .int .i64 m] 86)).heap[g]? = some (Obj.cells cur 86 (0, 0)) := fun g e => own_type ((unhide Hlq).alloc _) e
                   have hp5 : Pat (zs ++ markR m) (rsx.length + q + 1) 2 (markR m) := (unhide Hpq).snoc (unhide Hlq).1
                   have hB5 : w5.heap[w0.heap.size]? = some (Obj.cells #[.slice none 0 0, .slice pn (q + 1) cn, .slice none 0 0, .int .i64 m] 91 (0, 0)) := by
                     have h1 := (hgA.block _ (heap_lt (unhide HBq)) (by simp)).trans (unhide HBq)
                     exact (hg5.block _ (heap_lt h1) (fun e => other_type hrow5 (by decide) _ _ e.symm h1)).trans h1
                   have hR5 : w5.heap[w0.heap.size + 1]? = some (Obj.cells #[.slice none 0 0, .int .i64 m] 86 (0, 0)) := by
                     have h1 := (hgA.block _ (heap_lt (unhide HRq)) (by simp)).trans (unhide HRq)
                     exact (hg5.block _ (heap_lt h1) (fun e => ((unhide HTq) _ e.symm).2 rfl)).trans h1
                   have hn5 : w5.ownsRow w.heap.size 70 1 (.slice pn (q + 1) cn) (q + 1) ns := own_grown (own_grown (unhide Hnq) hgA (fun g cur e => by cases e)) hg5 (other_type hrow5 (by decide))
                   have hnm5 : w5.ownsRow w.heap.size 73 1 (.slice pm rsx.length cm) rsx.length (rsx.map valS) := own_grown (own_grown (unhide Hmq2) hgA (fun g cur e => by cases e)) hg5 (other_type hrow5 (by decide))
                   have hT5 : ∀ g, v5.ownBlock = some g → T1 g ∧ g ≠ w0.heap.size + 1 := fun g hg => by
                     rcases hs5 with h | ⟨_, h⟩
                     · rw [h] at hg; exact (unhide HTq) g hg
                     · rw [h] at hg; cases hg
                       refine ⟨?_, by simp; omega⟩
                       rw [unhide HT1]; left; simp; omega
                   have hm5 : ∀ u ∈ ns ++ [v5], MarkB T1 w5 86 2 (markR m) u (rsx.length + q + 1) := fun u hu => by
                     rcases List.mem_append.1 hu with hu | hu
                     · exact (((unhide Hmq) u hu).grown hgA (fun g cur e => by cases e)).append ((unhide Hlq).alloc _) ho5 hp5 hg5 (hs5.imp id (·.1))
                     · simp at hu; subst hu
                       exact MarkB.of_own ho5 hp5 (fun g hg => (hT5 g hg).1)
                   have hM5 : Mid (fun b => Value.ownBlock (.slice p rsx.length c) = some b) w w5 := by
                     have h4 := unhide HMq
                     refine ⟨hg5.os.trans h4.os, hg5.tape.trans h4.tape, hg5.output.trans h4.output, Nat.le_trans h4.size (Nat.le_trans hgA.size hg5.size), fun k hk hq' => (hg5.block k (Nat.lt_of_lt_of_le hk (Nat.le_trans h4.size hgA.size)) (fun e => ?_)).trans ((hgA.block k (Nat.lt_of_lt_of_le hk h4.size) (by simp)).trans (h4.block k hk hq'))⟩
                     have h9 := ((unhide HTq) k e.symm).1
                     rw [unhide HT1] at h9
                     rcases h9 with h9 | h9
                     · omega
                     · exact hq' h9
                   have hs5' : w0.heap.size + 1 < w5.heap.size := heap_lt hR5
                   have b05 : w5.cell? ⟨w0.heap.size, 1, none⟩ = some (.slice pn (q + 1) cn) := cell_of_heap hB5 1
                   obtain ⟨p5, c5, rfl, _, _, _⟩ := own_form ho5
                   have HB5 := hide hB5
                   have HR5 := hide hR5
                   have Hl5 := hide ho5
                   have Hp5 := hide hp5
                   have Hn5 := hide hn5
                   have Hnm5 := hide hnm5
                   have Hm5 := hide hm5
                   have HM5 := hide hM5
                   have HT5 := hide hT5
                   clear hgA hrow5 hB5 hR5 hn5 hnm5 hm5 hM5 hT5 ho5 hg5 hs5 hp5))
              obtain ⟨w7, hw7⟩ : ∃ w7, w7 = w6.setCell ⟨w0.heap.size, 1, none⟩ (.slice (some ⟨g6, 0, none⟩) (q + 1 + 1) c6) := ⟨_, rfl⟩
              have hR7 : (w7.ownsRow base 86 2 (.slice p5 (rsx.length + (q + 1)) c5) (rsx.length + (q + 1)) (zs ++ markR m) ∧ Pat (zs ++ markR m) (rsx.length + (q + 1)) 2 (markR m)) ∧ w7.heap[w0.heap.size]? = some (Obj.cells #[.slice none 0 0, .slice (some ⟨g6, 0, none⟩) (q + 1 + 1) c6, .slice none 0 0, .int .i64 m] 91 (0, 0)) ∧ w7.heap[w0.heap.size + 1]? = some (Obj.cells #[.slice none 0 0, .int .i64 m] 86 (0, 0)) ∧ w7.ownsRow w.heap.size 70 1 (.slice (some ⟨g6, 0, none⟩) (q + 1 + 1) c6) (q + 1 + 1) (ns ++ [.slice p5 (rsx.length + q + 1) c5]) ∧ (∀ u ∈ ns ++ [.slice p5 (rsx.length + q + 1) c5], MarkB T1 w7 86 2 (markR m) u (rsx.length + (q + 1))) ∧ w7.ownsRow w.heap.size 73 1 (.slice pm rsx.length cm) rsx.length (rsx.map valS) ∧ Mid (fun b => Value.ownBlock (.slice p rsx.length c) = some b) w w7 := by
                have hg67 : w6.grownBy w7 (some w0.heap.size) := by
                  rw [hw7]
                  exact ⟨rfl, rfl, rfl, by simp, fun k _ hk => heap_setCell_other w6 ⟨w0.heap.size, 1, none⟩ k _ (fun e => hk (by rw [e]))⟩
                have hrow6 : ∀ g, some w0.heap.size = some g → ∃ cur : Array Value, w6.heap[g]? = some (Obj.cells cur 91 (0, 0)) := fun g e => by cases e; exact ⟨_, unhide HB6⟩
                refine ⟨⟨own_grown (unhide Hl6) hg67 (other_type hrow6 (by decide)), unhide Hp5⟩, ?_, (hg67.block _ (heap_lt (unhide HR6)) (by simp)).trans (unhide HR6), own_grown (unhide Ho6) hg67 (other_type hrow6 (by decide)), fun u hu => ((unhide Hm6) u hu).grown hg67 (fun g cur e _ => other_type hrow6 (by decide) g cur e), own_grown (unhide Hnm6) hg67 (other_type hrow6 (by decide)), ?_⟩
                · rw [hw7, heap_setCell_same w6 w0.heap.size 1 _ 91 _ (unhide HB6)]; rfl
                · have h6 := unhide HM6
                  exact ⟨hg67.os.trans h6.os, hg67.tape.trans h6.tape, hg67.output.trans h6.output, Nat.le_trans h6.size hg67.size, fun k hk hq' => (hg67.block k (Nat.lt_of_lt_of_le hk h6.size) (fun e => by cases e; omega)).trans (h6.block k hk hq')⟩
              rw [hw7] at hR7
              have HR7 := hide hR7
              clear hR7 hw7
              go_wp2
              go_roundw
              case rel => exact ⟨q + 1, _, _, _, by omega, by go_num, (unhide HR7).1, unhide HT5, (unhide HR7).2.1, (unhide HR7).2.2.1, (unhide HR7).2.2.2.1, (unhide HR7).2.2.2.2.1, (unhide HR7).2.2.2.2.2.1, (unhide HR7).2.2.2.2.2.2⟩
              case measure => simp [intOf]; omega
            · have hx2 : ¬ (q : Int) < 8 := by omega
              have hS := unhide HS
              obtain ⟨base9, ho9⟩ := hS.own
              have hwbl : wb < w.heap.size := heap_lt hS.box
              have hbox : wr.heap[wb]? = some (Obj.cells #[pv, hv] 29 (0, 0)) := (hMq.block wb hwbl (fun e => by
                obtain ⟨cur, h⟩ := own_type (unhide Ho) e
                exact absurd (type_ne hS.box h) (by decide))).trans hS.box
              have hhv : wr.ownsRow 0 59 1 hv hs.length (ptrs hs) := by
                refine own_lower (base := base9) ?_ (Nat.zero_le _)
                refine ⟨ho9.1, ?_⟩
                rcases ho9.2 with h1 | ⟨g, cap, cur, h1, h2, h3, h4⟩
                · exact .inl h1
                · exact .inr ⟨g, cap, cur, h1, h2, (hMq.block g (heap_lt h3) (fun e => by
                    obtain ⟨cur', h⟩ := own_type (unhide Ho) e
                    exact absurd (type_ne h3 h) (by decide))).trans h3, h4⟩
              have bw : wr.cell? ⟨wb, 1, none⟩ = some hv := cell_of_heap hbox 1
              have hhb : ∀ g, hv.ownBlock = some g → g < w.heap.size := fun g hg => by obtain ⟨cur, h⟩ := own_type ho9 hg; exact heap_lt h
              obtain ⟨ph, ch, hve, _, _, _⟩ := own_form hhv
              subst hve
              have Hbox := hide hbox
              have Hhv := hide hhv
              have Hhb := hide hhb
              have HTq := hide hTq
              have HBq := hide hBq
              have Hnq := hide hnq
              have Hmq := hide hmq
              have HMq := hide hMq
              have Hmq2 := hide hmq2
              clear hlq hpq hTq hBq hRq hnq hmq hmq2 hMq hbox hhv hS ho9 hhb
              go_wp2_with (first
                | (at_builtin
                   refine wpList_append_sharp _ rfl _ _ 27 rfl 0 59 i59 _ 1 8 Tryz.underlying27 ki kz0 kz1 kz2 rfl (by decide) (.slice ph hs.length ch) hs.length (ptrs hs) rfl ((unhide Hhv).alloc _) ⟨wr.heap.size, 0, none⟩ 1 [.pointer (some ⟨w0.heap.size, 0, none⟩)] rfl rfl (cell_one_new wr _ 59) (by simp [Value.oneCell']) (by unfold maxLen; omega) (by omega) (by simp) ?_
                   intro v8 w8 ho8 hg8 hs8
                   have hgA : wr.grownBy (wr.alloc (.cells #[.pointer (some ⟨w0.heap.size, 0, none⟩)] 59)) none := World.grownBy_alloc _ _ _
                   have hrow8 : ∀ g, Value.ownBlock (.slice ph hs.length ch) = some g → ∃ cur : Array Value, (wr.alloc (.cells #[.pointer (some ⟨w0.heap.size, 0, none⟩)] 59)).heap[g]? = some (Obj.cells cur 59 (0, 0)) := fun g e => own_type ((unhide Hhv).alloc _) e
                   have hbox8 : w8.heap[wb]? = some (Obj.cells #[pv, .slice ph hs.length ch] 29 (0, 0)) := by
                     have h1 := (hgA.block _ (heap_lt (unhide Hbox)) (by simp)).trans (unhide Hbox)
                     exact (hg8.block _ (heap_lt h1) (fun e => other_type hrow8 (by decide) _ _ e.symm h1)).trans h1
                   have b8 : w8.cell? ⟨wb, 1, none⟩ = some (.slice ph hs.length ch) := cell_of_heap hbox8 1
                   have f8 : w8.frozen? ⟨wb, 1, none⟩ = false := frozen_of_heap hbox8 1
                   obtain ⟨p8, c8, rfl, _, _, _⟩ := own_form ho8
                   have Hbox8 := hide hbox8
                   have HgA := hide hgA
                   have Hrow8 := hide hrow8
                   have Ho8 := hide ho8
                   have Hg8 := hide hg8
                   have Hs8 := hide hs8
                   clear hgA hrow8 hbox8 ho8 hg8 hs8))
              have hK : KeptBy w (w8.setCell ⟨wb, 1, none⟩ (.slice p8 (hs.length + 1) c8)) wb pv (.slice ph hs.length ch) hs (.slice p rsx.length c) (.slice p8 (hs.length + 1) c8) w0.heap.size := by
                obtain ⟨w9, hw9⟩ : ∃ w9, w9 = w8.setCell ⟨wb, 1, none⟩ (.slice p8 (hs.length + 1) c8) := ⟨_, rfl⟩
                rw [← hw9]
                have hg89 : w8.grownBy w9 (some wb) := by
                  rw [hw9]
                  exact ⟨rfl, rfl, rfl, by simp, fun k _ hk => heap_setCell_other w8 ⟨wb, 1, none⟩ k _ (fun e => hk (by rw [e]))⟩
                have hrowb : ∀ g, some wb = some g → ∃ cur : Array Value, w8.heap[g]? = some (Obj.cells cur 29 (0, 0)) := fun g e => by cases e; exact ⟨_, unhide Hbox8⟩
                have hg8 := unhide Hg8
                have hgA := unhide HgA
                have hrow8 := unhide Hrow8
                have ho9 : w9.ownsRow 0 59 1 (.slice p8 (hs.length + 1) c8) (hs.length + 1) (ptrs hs ++ [.pointer (some ⟨w0.heap.size, 0, none⟩)]) := own_grown (unhide Ho8) hg89 (other_type hrowb (by decide))
                have hbox9 : w9.heap[wb]? = some (Obj.cells #[pv, .slice p8 (hs.length + 1) c8] 29 (0, 0)) := by
                  rw [hw9, heap_setCell_same w8 wb 1 _ 29 _ (unhide Hbox8)]; rfl
                have hB9 : w9.heap[w0.heap.size]? = some (Obj.cells #[.slice none 0 0, nv, .slice none 0 0, .int .i64 m] 91 (0, 0)) := by
                  have h1 := (hgA.block _ (heap_lt (unhide HBq)) (by simp)).trans (unhide HBq)
                  have h2 := (hg8.block _ (heap_lt h1) (fun e => other_type hrow8 (by decide) _ _ e.symm h1)).trans h1
                  exact (hg89.block _ (heap_lt h2) (fun e => other_type hrowb (by decide) _ _ e.symm h2)).trans h2
                have hn9 : w9.ownsRow w.heap.size 70 1 nv (q + 1) ns := own_grown (own_grown (own_grown (unhide Hnq) hgA (fun g cur e => by cases e)) hg8 (other_type hrow8 (by decide))) hg89 (other_type hrowb (by decide))
                have hm9 : ∀ u ∈ ns, MarkB T1 w9 86 2 (markR m) u (rsx.length + q) := fun u hu =>
                  ((((unhide Hmq) u hu).grown hgA (fun g cur e => by cases e)).grown hg8 (fun g cur e _ => other_type hrow8 (by decide) g cur e)).grown hg89 (fun g cur e _ => other_type hrowb (by decide) g cur e)
                have hM := unhide HMq
                have hmid : Mid (fun b => b = wb ∨ Value.ownBlock (.slice ph hs.length ch) = some b ∨ Value.ownBlock (.slice p rsx.length c) = some b) w w9 := by
                  refine ⟨hg89.os.trans (hg8.os.trans hM.os), hg89.tape.trans (hg8.tape.trans hM.tape), hg89.output.trans (hg8.output.trans hM.output), Nat.le_trans hM.size (Nat.le_trans hgA.size (Nat.le_trans hg8.size hg89.size)), fun k hk hq' => ?_⟩
                  have s1 := Nat.lt_of_lt_of_le hk hM.size
                  have s2 := Nat.lt_of_lt_of_le s1 hgA.size
                  have s3 := Nat.lt_of_lt_of_le s2 hg8.size
                  exact (hg89.block k s3 (fun e => hq' (.inl (by cases e; rfl)))).trans ((hg8.block k s2 (fun e => hq' (.inr (.inl e.symm)))).trans ((hgA.block k s1 (by simp)).trans (hM.block k hk (fun e => hq' (.inr (.inr e))))))
                have hTf : ∀ b cur (t : TypeId), T1 b → w9.heap[b]? = some (Obj.cells cur t (0, 0)) → t ≠ 29 → t ≠ 59 → (w.heap.size ≤ b ∨ Value.ownBlock (.slice p rsx.length c) = some b) ∧ b ≠ wb ∧ Value.ownBlock (.slice p8 (hs.length + 1) c8) ≠ some b ∧ b < w9.heap.size := fun b cur t hb hc h29 h59 => by
                  rw [unhide HT1] at hb
                  refine ⟨hb, fun e => ?_, fun e => ?_, heap_lt hc⟩
                  · subst e; exact h29 (type_ne hc hbox9)
                  · obtain ⟨cur', h⟩ := own_type ho9 e
                    exact h59 (type_ne hc h)
                have hT0 : T1 w0.heap.size := by rw [unhide HT1]; exact .inl hBs
                have hnl : ns.length = q + 1 := by have := hn9.1; omega
                have hmb : (-1000000000000 ≤ m ∧ m ≤ 1000000000000) := by rw [unhide Hm]; omega
                refine ⟨⟨hbox9, ⟨0, ?_⟩⟩, ⟨.slice none 0 0, nv, .slice none 0 0, m, [], ns, hB9, hTf _ _ _ hT0 hB9 (by decide) (by decide), hmb, by simp, by omega, ⟨⟨0, World.ownsRow_nil _ _ _ _⟩, fun g hg => by cases hg⟩, fun u hu => by simp at hu, ⟨⟨w.heap.size, by rw [hnl]; exact hn9⟩, fun g hg => ?_⟩, fun u hu => ?_, ⟨none, 0, 0, rfl, by omega, fun i hi => absurd hi (Nat.not_lt_zero _)⟩⟩, hmid, ?_, hBs⟩
                · have e1 : (hs ++ [w0.heap.size]).length = hs.length + 1 := by simp
                  have e2 : ptrs (hs ++ [w0.heap.size]) = ptrs hs ++ [.pointer (some ⟨w0.heap.size, 0, none⟩)] := by simp [ptrs]
                  rw [e1, e2]; exact ho9
                · obtain ⟨cur, h⟩ := own_type hn9 hg
                  refine hTf g cur 70 ?_ h (by decide) (by decide)
                  rw [unhide HT1]
                  exact .inl (own_block hn9 g hg).1
                · exact ((hm9 u hu).refine (fun b cur hb hc => hTf b cur 86 hb hc (by decide) (by decide))).marks (by omega)
                · rcases unhide Hs8 with h | ⟨_, h⟩
                  · exact .inl h
                  · refine .inr (fun g hg => ?_)
                    rw [h] at hg
                    cases hg
                    have := hM.size
                    simp; omega
              have hnm9 : (w8.setCell ⟨wb, 1, none⟩ (.slice p8 (hs.length + 1) c8)).ownsRow w.heap.size 73 1 (.slice pm rsx.length cm) rsx.length (rsx.map valS) := by
                have hg89 : w8.grownBy (w8.setCell ⟨wb, 1, none⟩ (.slice p8 (hs.length + 1) c8)) (some wb) := ⟨rfl, rfl, rfl, by simp, fun k _ hk => heap_setCell_other w8 ⟨wb, 1, none⟩ k _ (fun e => hk (by rw [e]))⟩
                have hrowb : ∀ g, some wb = some g → ∃ cur : Array Value, w8.heap[g]? = some (Obj.cells cur 29 (0, 0)) := fun g e => by cases e; exact ⟨_, unhide Hbox8⟩
                exact own_grown (own_grown (own_grown (unhide Hmq2) (unhide HgA) (fun g cur e => by cases e)) (unhide Hg8) (other_type (unhide Hrow8) (by decide))) hg89 (other_type hrowb (by decide))
              obtain ⟨w9, hw9⟩ : ∃ w9, w9 = w8.setCell ⟨wb, 1, none⟩ (.slice p8 (hs.length + 1) c8) := ⟨_, rfl⟩
              have HK0 : Hid (KeptMany w w9 wb pv (.slice ph hs.length ch) hs (fun b => Value.ownBlock (.slice p rsx.length c) = some b ∨ ∃ r ∈ rsx.take 0, (valS r).ownBlock = some b) (.slice p8 (hs.length + 1) c8) [w0.heap.size]) := by
                have h1 := hK.many
                rw [← hw9] at h1
                have e : (fun b => Value.ownBlock (.slice p rsx.length c) = some b ∨ ∃ r ∈ rsx.take 0, (valS r).ownBlock = some b) = fun b => Value.ownBlock (.slice p rsx.length c) = some b := by funext b; simp
                unfold Hid
                rw [e]; exact h1
              have HN9 : Hid (w9.ownsRow w.heap.size 73 1 (.slice pm rsx.length cm) rsx.length (rsx.map valS)) := by rw [hw9]; exact hnm9
              have Hw9 := hide hw9
              clear hK hnm9 hw9 HBq Hnq Hmq HMq Hbox Hhv Hmq2
              go_wp2
              rw [← unhide Hw9]
              go_loopw [10] (fun i wr => ∃ (k : Nat) (hvk : Value) (hsk : List Nat), k ≤ rsx.length ∧ i = .int .i64 k ∧ KeptMany w wr wb pv (.slice ph hs.length ch) hs (fun b => Value.ownBlock (.slice p rsx.length c) = some b ∨ ∃ r ∈ rsx.take k, (valS r).ownBlock = some b) hvk hsk ∧ hsk.length = k + 1 ∧ wr.ownsRow w.heap.size 73 1 (.slice pm rsx.length cm) rsx.length (rsx.map valS)) (fun i _ => rsx.length - (intOf i).toNat)
              case atStart => exact ⟨0, _, _, Nat.zero_le _, rfl, unhide HK0, rfl, unhide HN9⟩
              case round =>
                obtain ⟨k4, hvk, hsk, hk4, rfl, hKk, hsl, hnk⟩ := hrel
                by_cases hlt4 : k4 < rsx.length
                · have hx4 : (k4 : Int) < (rsx.length : Int) := by omega
                  obtain ⟨r, hre⟩ : ∃ r, r = rsx[k4] := ⟨_, rfl⟩
                  have hrm : r ∈ rsx := by rw [hre]; exact List.getElem_mem hlt4
                  obtain ⟨bb, xs, hor, hbb, hrn⟩ := (unhide Hvs) r hrm
                  have hnotL : ∀ g, (valS r).ownBlock = some g → ¬ (Value.ownBlock (.slice p rsx.length c) = some g ∨ ∃ r' ∈ rsx.take k4, (valS r').ownBlock = some g) := fun g hg h => by
                    rcases h with h | ⟨r', hr', h⟩
                    · obtain ⟨c1, h1⟩ := own_type (unhide Ho) h
                      obtain ⟨c2, h2⟩ := own_type hor hg
                      exact absurd (type_ne h1 h2) (by decide)
                    · obtain ⟨i', hi', hri⟩ := List.getElem_of_mem hr'
                      have hi2 : i' < k4 := by simp at hi'; omega
                      have h9 := List.pairwise_iff_getElem.1 (unhide Hap) i' k4 (by omega) hlt4 hi2
                      have h8 : rsx[i'] = r' := by rw [← hri]; simp
                      rw [h8, ← hre] at h9
                      exact h9 g h hg
                  have hgl : ∀ g, (valS r).ownBlock = some g → g < w.heap.size := fun g hg => by obtain ⟨cur, h⟩ := own_type hor hg; exact heap_lt h
                  have hork : wr.ownsRow bb 2 1 (valS r) r.n xs := by
                    refine ⟨hor.1, ?_⟩
                    rcases hor.2 with h1 | ⟨g, cap, cur, h1, h2, h3, h4⟩
                    · exact .inl h1
                    · refine .inr ⟨g, cap, cur, h1, h2, (hKk.mid.block g (heap_lt h3) (fun hq => ?_)).trans h3, h4⟩
                      have hgo : (valS r).ownBlock = some g := by rw [h1]; rfl
                      rcases hq with e | e | e
                      · subst e; exact absurd (type_ne (unhide HS).box h3) (by decide)
                      · obtain ⟨_, h9⟩ := (unhide HS).own
                        obtain ⟨c1, h9⟩ := own_type h9 e
                        exact absurd (type_ne h9 h3) (by decide)
                      · exact hnotL g hgo e
                  have Hcall := hide (keepNumbers_any wb pv hvk (hs ++ hsk) bb r.n (valS r) xs wr hKk.spine (by simp; omega) hork hrn (Nat.le_trans hbb hKk.mid.size))
                  obtain ⟨pm', cm', hme, _, hmn, hms⟩ := own_form hnk
                  cases hme
                  cases pm with
                  | none => have := hmn rfl; omega
                  | some adm =>
                    obtain ⟨gm, rfl, _, _, hcm⟩ := hms adm rfl
                    have d4 : wr.cell? ⟨gm, k4, none⟩ = some (.slice r.a r.n r.cap) := by
                      rw [hcm k4 (by omega), hre]
                      simp [hlt4, valS]
                    have Hstep : Hid (∀ w' hv' h, KeptBy wr w' wb pv hvk (hs ++ hsk) (valS r) hv' h → KeptMany w w' wb pv (.slice ph hs.length ch) hs (fun b => Value.ownBlock (.slice p rsx.length c) = some b ∨ ∃ r ∈ rsx.take (k4 + 1), (valS r).ownBlock = some b) hv' (hsk ++ [h]) ∧ w'.ownsRow w.heap.size 73 1 (.slice (some ⟨gm, 0, none⟩) rsx.length cm) rsx.length (rsx.map valS)) := by
                      intro w' hv' h hkb
                      have htk : rsx.take (k4 + 1) = rsx.take k4 ++ [r] := by rw [List.take_succ_eq_append_getElem hlt4, hre]
                      refine ⟨hKk.snoc hkb (fun b hb => ?_) (fun b hb => ⟨?_, hnotL b hb, hgl b hb⟩), ?_⟩
                      · rw [htk]
                        exact hb.imp id (fun ⟨r', h1, h2⟩ => ⟨r', List.mem_append_left _ h1, h2⟩)
                      · rw [htk]
                        exact .inr ⟨r, by simp, hb⟩
                      · refine ⟨hnk.1, ?_⟩
                        rcases hnk.2 with h1 | ⟨g, cap, cur, h1, h2, h3, h4⟩
                        · exact .inl h1
                        · refine .inr ⟨g, cap, cur, h1, h2, (hkb.mid.block g (heap_lt h3) (fun hq => ?_)).trans h3, h4⟩
                          rcases hq with e | e | e
                          · subst e; exact absurd (type_ne hKk.spine.box h3) (by decide)
                          · obtain ⟨_, h9⟩ := hKk.spine.own
                            obtain ⟨c1, h9⟩ := own_type h9 e
                            exact absurd (type_ne h9 h3) (by decide)
                          · obtain ⟨c1, h9⟩ := own_type hork e
                            exact absurd (type_ne h9 h3) (by decide)
                    unfold valS at Hcall
                    clear hcm hms hmn hork hgl hnotL hor hre hnk hKk
                    go_wp2_with fail
                    refine (unhide Hcall).mono ?_
                    rintro e w' ⟨hv', h, rfl, hkb⟩
                    have HS' := hide ((unhide Hstep) w' hv' h hkb)
                    clear hkb Hcall Hstep
                    go_wp2
                    go_roundw
                    case rel => exact ⟨k4 + 1, hv', hsk ++ [h], by omega, by go_num, (unhide HS').1, by simp [hsl], (unhide HS').2⟩
                    case measure => simp [intOf]; omega
                · have hx4 : ¬ (k4 : Int) < (rsx.length : Int) := by omega
                  have hke4 : rsx.take k4 = rsx := List.take_of_length_le (by omega)
                  rw [hke4] at hKk
                  have hk5 : k4 = rsx.length := by omega
                  have HKk := hide hKk
                  have Hsl : Hid (hsk.length = rsx.length + 1) := by unfold Hid; omega
                  obtain ⟨pm', cm', hme, _, _, _⟩ := own_form hnk
                  clear hKk hnk hsl hke4
                  go_wp2
                  go_end0
                  exact ⟨rfl, hvk, hsk, unhide HKk, unhide Hsl⟩

end Go.Proofs.YtgddkjhknlgbbaaGreatDoor
