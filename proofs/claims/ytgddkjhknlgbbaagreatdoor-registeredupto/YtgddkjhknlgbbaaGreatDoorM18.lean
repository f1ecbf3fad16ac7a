import Derived.BigRegion
import Derived.Test.YtgddkjhknlgbbaaGreatDoorM17
set_option linter.unusedVariables false
set_option linter.unusedSimpArgs false

namespace Go.Proofs.YtgddkjhknlgbbaaGreatDoor
set_option linter.unusedVariables false
set_option linter.unusedSimpArgs false
open Go.RowKit Go.Maps

/-- What becomes of a relation by a batch, rows of weight 0 too. -/
def midZ (es : List Ent) (zs : List ZRel) (i : Nat) : List RowZ := putAll (zs[i]?.getD zeroZR).nm es (zs[i]?.getD zeroZR).L
def endZ (es : List Ent) (z : ZRel) : ZRel := { z with L := thereZ (putAll z.nm es z.L) }

theorem RefRep.kept0 {T : Nat → Prop} {W W' : World} {fb : Nat} {v : Value} {rs : List RRel} {zs : List ZRel} (h : RefRep T W fb v rs zs) (hb : Below W.heap.size W W') : RefRep T W' fb v rs zs := by
  obtain ⟨⟨vw, h1⟩, h2, h3, h4, h5⟩ := h
  exact ⟨⟨vw, (hb.block fb (heap_lt h1)).trans h1⟩, h2, h3.kept (fun g cur _ hg => hb.block g (heap_lt hg)), h4, fun i hi => by
    obtain ⟨a, b, base, rsx, hr⟩ := h5 i hi
    exact ⟨a, b, base, rsx, hr.below hb⟩⟩

/-- The batch's entries are all right by themselves. -/
structure GoodB (zs : List ZRel) (es : List Ent) : Prop where
  len : es.length ≤ 64
  wt : ∀ x ∈ es, -1000 ≤ x.wt ∧ x.wt ≤ 1000
  row : ∀ x ∈ es, x.row.length ≤ 3
  zlen : zs.length ≤ 6
  zL : ∀ z ∈ zs, z.L.length ≤ 16 ∧ ∀ p ∈ z.L, p.1.length ≤ 3 ∧ -1000 ≤ p.2 ∧ p.2 ≤ 1000

theorem zmem {zs : List ZRel} {i : Nat} (h : i < zs.length) : zs[i]?.getD zeroZR ∈ zs := by simp [h]

theorem GoodB.mid {zs : List ZRel} {es : List Ent} (h : GoodB zs es) {i : Nat} (hi : i < zs.length) (k : Nat) : (putAll (zs[i]?.getD zeroZR).nm (es.take k) (zs[i]?.getD zeroZR).L).length ≤ 80 ∧
    ∀ p ∈ putAll (zs[i]?.getD zeroZR).nm (es.take k) (zs[i]?.getD zeroZR).L, p.1.length ≤ 3 ∧ -100000 ≤ p.2 ∧ p.2 ≤ 100000 := by
  have hz := h.zL _ (zmem hi)
  have hl := h.len
  have htl : (es.take k).length ≤ 64 := by simp; omega
  refine ⟨?_, fun p hp => ⟨?_, ?_⟩⟩
  · have := putAll_len (zs[i]?.getD zeroZR).nm (es.take k) (zs[i]?.getD zeroZR).L
    omega
  · exact putAll_mem3 (fun x hx _ => h.row x (List.mem_of_mem_take hx)) (fun q hq => (hz.2 q hq).1) p hp
  · have := putAll_bd (M := 1000) (by omega) (fun x hx => h.wt x (List.mem_of_mem_take hx)) (fun q hq => (hz.2 q hq).2) p hp
    omega

theorem Drawn.drew {a b : World} (h : Drawn a b) : Drawn a b.drew := h.thenN 1

theorem grown_none_below {a b : World} (h : a.grownBy b none) : Below a.heap.size a b := ⟨h.os, h.tape, h.output, h.size, fun k hk => h.block k hk (by simp)⟩

theorem IntsAt.nil_ok {W : World} {pu : Option Addr} {n cu : Nat} {zs : List Int} (h : IntsAt W (.slice pu n cu) zs) : n = zs.length := by
  obtain ⟨a, cap, h1, _⟩ := h
  cases h1
  rfl

/-- How the reference's Apply ends, where all entries are right by themselves. -/
def ApplySaid (T : Nat → Prop) (fb : Nat) (v : Value) (zs : List ZRel) (es : List Ent) (w w' : World) (e : Ending) : Prop := ∃ c : Int, e = .returned (.tuple #[.int .i64 c, .int .i64 0]) ∧
  ((c = 9 ∧ (∃ i, i < zs.length ∧ BadW (midZ es zs i)) ∧ Below w.heap.size w w') ∨
   (c = 10 ∧ (∀ i, i < zs.length → ¬ BadW (midZ es zs i)) ∧ (∃ i, i < zs.length ∧ 16 < (thereZ (midZ es zs i)).length) ∧ Below w.heap.size w w') ∨
   (c = 0 ∧ (∀ i, i < zs.length → ¬ BadW (midZ es zs i)) ∧ (∀ i, i < zs.length → (thereZ (midZ es zs i)).length ≤ 16) ∧ (∃ rs', RefRep (fun b => T b ∨ w.heap.size ≤ b) w' fb v rs' (zs.map (endZ es))) ∧ w.grownBy w' v.ownBlock))

/-- A row that is nil is empty. -/
def EntsNil (W : World) (bv : Value) : Prop := ∀ b o n cap i, bv = .slice (some ⟨b, o, none⟩) n cap → i < n → ∀ p m c, W.cell? ⟨b, o + i * 3 + 1, none⟩ = some (.slice p m c) → p = none → m = 0 ∧ c = 0

set_option maxRecDepth 100000 in
set_option maxHeartbeats 8000000 in
theorem refApply_gen (T : Nat → Prop) (fb : Nat) (v bv : Value) (rs : List RRel) (zs : List ZRel) (es : List Ent) (w : World) (hF : RefRep T w fb v rs zs) (hb : EntsAt w bv es) (hG : GoodB zs es) (hnil : EntsNil w bv)
    (hok : ∀ i, i < es.length → entryZ rs (es[i]?.getD zeroEnt) = 0) :
    Calls Tryz.prog 16 #[.pointer (some ⟨fb, 0, none⟩), bv] w fun e w' => ApplySaid T fb v zs es w w' e := by
  obtain ⟨vw, hbox⟩ := hF.box
  obtain ⟨⟨base, hown⟩, hTv⟩ := hF.own
  have hrl : rs.length ≤ 6 := by rw [hF.len]; exact hG.zlen
  have hle := hG.len
  have hv := rels_of_own hown
  have c0 : w.cell? ⟨fb, 0, none⟩ = some v := cell_of_heap hbox 0
  have hfb : fb < w.heap.size := heap_lt hbox
  have HG := hide hG
  have HF := hide hF
  have Hbv := hide hb
  have Hnil := hide hnil
  have Hzl := hide (show rs.length = zs.length from hF.len)
  obtain ⟨a, cap, rfl, hcs⟩ := hb
  have Hc := hide hcs
  have Hv := hide hv
  have Hok := hide hok
  have Hown := hide hown
  have HTv := hide hTv
  obtain ⟨i70, hi70, hz0, hz1, hz2⟩ := info_parts Tryz.info70
  obtain ⟨i86, hi86, jz0, jz1, jz2⟩ := info_parts Tryz.info86
  clear hcs hv hok hF hG hnil hown hTv
  go_enter Tryz.func16, Tryz.ntmps16
  go_wp2
  go_loopw [6] (fun i wr => ∃ j : Nat, j ≤ es.length ∧ i = .int .i64 j ∧ Below w.heap.size w wr) (fun i _ => es.length - (intOf i).toNat)
  case atStart => exact ⟨0, Nat.zero_le _, rfl, Below.refl _ _⟩
  case round =>
    obtain ⟨j, hj, rfl, hB⟩ := hrel
    by_cases hlt : j < es.length
    · obtain ⟨b, o, sv, rfl, h1, h2, h3, h4⟩ := (unhide Hc) j hlt
      have hx : (j : Int) < (es.length : Int) := by omega
      have hbl : b < w.heap.size := World.block_lt_of_cell? w _ h1
      obtain ⟨a2, cap2, rfl, _⟩ := h3
      have hz := (unhide Hok) j hlt
      have hrw : (es[j]?.getD zeroEnt).row.length ≤ 3 := (unhide HG).row _ (by simp [hlt])
      obtain ⟨x, hxe⟩ : ∃ x, x = es[j]?.getD zeroEnt := ⟨_, rfl⟩
      rw [← hxe] at h1 h2 h4 hrw hz
      rw [← hB.cell (p := ⟨b, _, none⟩) hbl] at h1 h2 h4
      have cW := (hB.cell (p := ⟨fb, 0, none⟩) hfb).trans c0
      have Hent := hide (refEntry_any fb v rs x a2 cap2 wr cW ((unhide Hv).below hB) (by omega) (by omega))
      have HB := hide hB
      have hBs := hB.size
      rw [hz] at Hent
      obtain ⟨nm, row, wt⟩ := x
      dsimp only at h1 h2 h4
      unfold entV at Hent
      dsimp only at Hent
      clear hxe hB hz hrw
      go_wp2_with fail
      refine (unhide Hent).mono ?_
      rintro e w2 ⟨rfl, hb2⟩
      have Hb2 := hide hb2
      clear hb2 Hent
      go_wp2
      go_roundw
      case rel => exact ⟨j + 1, by omega, by go_num, (unhide HB).trans ((unhide Hb2).mono hBs)⟩
      case measure => simp [intOf]; omega
    · have hx : ¬ (j : Int) < (es.length : Int) := by omega
      obtain ⟨w0, hw0⟩ : ∃ w0, w0 = wr := ⟨_, rfl⟩
      subst hw0
      have HB0 := hide hB
      have hs0 := hB.size
      clear hB
      have HT' : Hid (∀ g, w.heap.size ≤ g → (fun b => T b ∨ w.heap.size ≤ b) g) := fun g hg => Or.inr hg
      obtain ⟨T', hT'⟩ : ∃ T' : Nat → Prop, T' = fun b => T b ∨ w.heap.size ≤ b := ⟨_, rfl⟩
      rw [← hT'] at HT'
      have HTT := hide hT'
      clear hT'
      go_wp2
      go_loopw [8, 9] (fun vr i wr => ∃ (k : Nat) (us : List Value), k ≤ rs.length ∧ i = .int .i64 k ∧ us.length = k ∧ Lists T' wr w.heap.size vr us (midZ es zs) ∧ Below w.heap.size w wr) (fun _ i _ => rs.length - (intOf i).toNat)
      case atStart => exact ⟨0, [], Nat.zero_le _, rfl, rfl, ⟨World.ownsRow_nil _ _ _ _, fun j hj => by simp at hj⟩, unhide HB0⟩
      case round =>
        obtain ⟨k, us, hk, rfl, hus, hLs, hB⟩ := hrel
        obtain ⟨wk, hwk⟩ : ∃ wk, wk = wr := ⟨_, rfl⟩
        subst hwk
        have hBs := hB.size
        have hvk := (unhide Hv).below hB
        have cF := (hB.cell (p := ⟨fb, 0, none⟩) hfb).trans c0
        obtain ⟨av, capv, hve, hcv⟩ := hvk
        have HB := hide hB
        have HL := hide hLs
        by_cases hlk : k < rs.length
        · have hx : (k : Int) < (rs.length : Int) := by omega
          obtain ⟨bv2, hav, d0, d1, d2⟩ := hcv k hlk
          obtain ⟨hen, hea, baseR, rsx0, hR0⟩ := (unhide HF).each k hlk
          have hRk := (hR0.below hB).imp (T' := T') (fun g hg => by rw [unhide HTT]; exact Or.inl hg)
          obtain ⟨p0, c00, hu0, hcap0, hpn0, hps0⟩ := own_form hRk.own
          rw [hu0] at d2
          rw [hen] at d0
          subst hav
          subst hve
          have hrx : rsx0.length ≤ 16 := by rw [← hRk.len]; exact ((unhide HG).zL _ (zmem (by have := unhide Hzl; omega))).1
          have HRk := hide hRk
          have Hu0 := hide hu0
          have hsrc := own_src (hu0 ▸ hRk.own)
          have Hsrc := hide hsrc
          have hkz : k < zs.length := by have := unhide Hzl; omega
          obtain ⟨z, hz⟩ : ∃ z, z = zs[k]?.getD zeroZR := ⟨_, rfl⟩
          rw [← hz] at d0 HRk
          have Hz := hide hz
          clear hB hLs hcv hen hea hR0 hRk hu0 hsrc hps0 hz
          go_wp2_with (first
            | (at_builtin
               refine wpList_append_any _ rfl _ _ 70 rfl wk.heap.size 86 i86 _ 2 32 Tryz.underlying70 hi86 jz0 jz1 jz2 rfl (by decide) (.slice none 0 0) 0 [] rfl (World.ownsRow_nil _ _ _ _) p0 rsx0.length c00 (rawCells rsx0) rfl hpn0 (rawCells_len _) (unhide Hsrc) (rawCells_one _) (by unfold maxLen; omega) (by omega) (Nat.le_refl _) ?_
               intro v2 w4 ho2 hg2
               rw [Nat.zero_add, List.nil_append] at ho2
               have hb4 : Below wk.heap.size wk w4 := grown_none_below hg2
               have hR4 := (unhide HRk).copy hb4 ho2 (fun g hg => (unhide HT') g (Nat.le_trans hBs hg))
               have HR4 := hide hR4
               have Hb4 := hide hb4
               clear ho2 hg2 hb4 hR4))
          go_loopw [10, 11] (fun l i wq => ∃ (q : Nat) (rsx : List Raw), q ≤ es.length ∧ i = .int .i64 q ∧ RowsT T' wq wk.heap.size l rsx (putAll z.nm (es.take q) z.L) ∧ Below wk.heap.size wk wq) (fun _ i _ => es.length - (intOf i).toNat)
          case atStart => exact ⟨0, rsx0, Nat.zero_le _, rfl, unhide HR4, unhide Hb4⟩
          case round =>
            obtain ⟨q, rsx, hq, rfl, hRq, hBq⟩ := hrel
            have hBq0 : Below w.heap.size w wr := (unhide HB).trans (hBq.mono hBs)
            have hBqs := hBq.size
            have hgm := (unhide HG).mid hkz q
            rw [← unhide Hz] at hgm
            by_cases hlq : q < es.length
            · have hx2 : (q : Int) < (es.length : Int) := by omega
              obtain ⟨b, o, sv, rfl, h1, h2, h3, h4⟩ := (unhide Hc) q hlq
              have h2n := h2
              have h3' := h3.below hBq0
              obtain ⟨a2, cap2, rfl, _⟩ := h3
              have hpu := (unhide Hnil) b o es.length cap q rfl hlq a2 _ cap2 h2n
              obtain ⟨x, hxe⟩ : ∃ x, x = es[q]?.getD zeroEnt := ⟨_, rfl⟩
              have hxm : x ∈ es := by rw [hxe]; simp [hlq]
              have hxw := (unhide HG).wt x hxm
              have hxr := (unhide HG).row x hxm
              have htk : es.take (q + 1) = es.take q ++ [x] := by rw [List.take_succ_eq_append_getElem hlq, hxe]; simp [hlq]
              rw [← hxe] at h1 h2 h4 h3' hpu
              have hbl : b < w.heap.size := World.block_lt_of_cell? w _ h1
              rw [← hBq0.cell (p := ⟨b, _, none⟩) hbl] at h1 h2 h4
              have e0 := (hBq.cell (p := ⟨bv2, _, none⟩) (World.block_lt_of_cell? wk _ d0)).trans d0
              have eF := (hBq.cell (p := ⟨fb, 0, none⟩) (World.block_lt_of_cell? wk _ cF)).trans cF
              have hput : ∀ w9, Drawn wr w9 → _ := fun w9 hd9 => put_any T' w9 wk.heap.size u10 rsx (putAll z.nm (es.take q) z.L) x.row x.wt a2 cap2 (hRq.below (hd9.below _)) (fun g hg => (unhide HT') g (Nat.le_trans hBs hg)) (Nat.le_trans hBqs (hd9.below 0).size) (h3'.drawn hd9) hpu (by rw [← hRq.len]; omega) (by omega) (fun p hp => by have := (hgm.2 p hp).1; omega) (by omega) (fun p hp => by have := (hgm.2 p hp).2; omega)
              have Hput := hide hput
              obtain ⟨nm, row, wt⟩ := x
              dsimp only at h1 h2 h4 Hput
              have hse := strEq nm z.nm
              have Htk := hide htk
              have HRq := hide hRq
              have HBq := hide hBq
              clear hput hxe hxm hxw hxr htk hRq hBq hgm h3' h2n hpu
              by_cases hN : nm = z.nm
              · rw [decide_eq_true hN] at hse
                have HN := hide hN
                clear hN
                obtain ⟨pl, cl, rfl⟩ : ∃ pl cl, u10 = .slice pl rsx.length cl := by
                  obtain ⟨p, c, h, _⟩ := own_form (unhide HRq).own
                  exact ⟨p, c, h⟩
                have hbk : b < wk.heap.size := by omega
                go_wp2
                go_quiet (fail)
                go_wp2
                go_region_held3 (fun W' => W'.cell? ⟨b, o + q * 3 + 1, none⟩ = some (.slice a2 row.length cap2) ∧ W'.cell? ⟨b, o + q * 3 + 2, none⟩ = some (.int .i64 wt))
                  (first
                    | go_keep
                    | (go_split_ands; refine ⟨?_, ?_⟩ <;> (rw [hb5.cell (p := ⟨b, _, none⟩) hbk]; assumption)))
                  (first
                    | (go_at_call 37; refine ((unhide Hput) _ ?_).mono ?_; exact (Drawn.ofN _ _).drew; rintro e w5 ⟨u', rsx', rfl, hR5, hb5⟩))
                have HR5 := hide hR5
                have Hb5 := hide (Below.trans ((Drawn.ofN wr nq).drew.below wk.heap.size) hb5)
                clear hR5 hb5 Hput
                go_wp2
                go_roundw
                case rel => exact ⟨q + 1, rsx', by omega, by go_num, by rw [unhide Htk, putAll_snoc, if_pos (unhide HN)]; exact unhide HR5, (unhide HBq).trans (unhide Hb5)⟩
                case measure => simp [intOf]; omega
              · rw [decide_eq_false hN] at hse
                have HN := hide hN
                clear hN Hput
                go_wp2
                go_quiet (fail)
                go_wp2
                go_roundw
                case rel => exact ⟨q + 1, rsx, by omega, by go_num, by rw [unhide Htk, putAll_snoc, if_neg (unhide HN)]; exact (unhide HRq).below ((Drawn.ofN _ _).below _), (unhide HBq).trans ((Drawn.ofN _ _).below _)⟩
                case measure => simp [intOf]; omega
            · have hx2 : ¬ (q : Int) < (es.length : Int) := by omega
              have hqe : es.take q = es := List.take_of_length_le (by omega)
              rw [hqe] at hRq
              obtain ⟨pl, cl, rfl⟩ : ∃ pl cl, u10 = .slice pl rsx.length cl := by
                obtain ⟨p, c, h, _⟩ := own_form hRq.own
                exact ⟨p, c, h⟩
              have hLq := (unhide HL).below hBq
              have hRl := hRq.lower hBs
              have hmz : midZ es zs us.length = putAll z.nm es z.L := by unfold midZ; rw [hus, ← unhide Hz]
              rw [← hmz] at hRl
              have hLo := hLq.own
              rw [hus] at hLo
              obtain ⟨pr, cr, rfl⟩ : ∃ pr cr, u8 = .slice pr k cr := by
                obtain ⟨p, c, h, _⟩ := own_form hLo
                exact ⟨p, c, h⟩
              have HLo := hide hLo
              have HLq := hide hLq
              have HRl := hide hRl
              have HB6 := hide hBq0
              have hs6 := hBq0.size
              clear hRq hqe hLq hRl hmz hLo hBq hBq0 hgm
              go_wp2_with (first
                | (at_builtin
                   refine wpList_append_any _ rfl _ _ 83 rfl w.heap.size 70 i70 _ 1 24 Tryz.underlying83 hi70 hz0 hz1 hz2 rfl (by decide) (.slice pr k cr) k us rfl ((unhide HLo).alloc _) (some ⟨wr.heap.size, 0, none⟩) 1 1 [.slice pl rsx.length cl] rfl (fun e => by cases e) rfl (fun ad e => by cases e; exact cell_one_new wr _ 70) (by simp [Value.oneCell']) (by unfold maxLen; omega) (by omega) (by simp; omega) ?_
                   intro v6 w6 ho6 hg6
                   have hgw : wr.grownBy w6 (Value.ownBlock (.slice pr k cr)) := (World.grownBy_alloc _ _ _).trans hg6
                   have hL6 := (unhide HLq).snoc (by rw [hus]; exact ho6) hgw (unhide HRl)
                   have hB6 : Below w.heap.size w w6 := (unhide HB6).grown hgw hs6 (fun j e => (own_block (unhide HLo) j e).1)
                   obtain ⟨g6, c6, rfl⟩ := own_succ ho6
                   have HL6 := hide hL6
                   have HBB6 := hide hB6
                   clear ho6 hg6 hgw hL6 hB6))
              go_roundw
              case rel => exact ⟨k + 1, us ++ [.slice pl rsx.length cl], by omega, by go_num, by simp [hus], unhide HL6, unhide HBB6⟩
              case measure => simp [intOf]; omega
        · have hx : ¬ (k : Int) < (rs.length : Int) := by omega
          have hke : k = rs.length := by omega
          subst hve
          rw [hke] at hus
          have hLown := hLs.own
          obtain ⟨p8, c8, h8, hcap8, hpn8, hps8⟩ := own_form hLown
          rw [hus] at h8 hcap8 hpn8
          have Hps8 := hide hps8
          subst h8
          have H9 : Hid (∀ {e : Ending} {w9 : World} (i : Nat), i < zs.length → BadW (midZ es zs i) → Below w.heap.size w w9 → e = .returned (.tuple #[.int .i64 9, .int .i64 0]) → ApplySaid T fb (.slice av rs.length capv) zs es w w9 e) :=
            fun i h1 h2 h3 he => ⟨9, he, .inl ⟨rfl, ⟨i, h1, h2⟩, h3⟩⟩
          clear hB hLs hcv hps8 hLown hke hk
          go_wp2
          go_loopw [12] (fun i wr => ∃ m : Nat, m ≤ rs.length ∧ i = .int .i64 m ∧ (∀ j, j < m → ¬ BadW (midZ es zs j)) ∧ wr = wk) (fun i _ => rs.length - (intOf i).toNat)
          case atStart => exact ⟨0, Nat.zero_le _, rfl, fun j hj => absurd hj (Nat.not_lt_zero _), rfl⟩
          case round =>
            obtain ⟨m, hm, rfl, hgd, hwe⟩ := hrel
            replace hwe := hwe.symm
            subst hwe
            have Hgd := hide hgd
            clear hgd
            by_cases hlm : m < rs.length
            · have hx3 : (m : Int) < (rs.length : Int) := by omega
              obtain ⟨rsx, hRm⟩ := (unhide HL).each m (by omega)
              obtain ⟨p2, c2, hu2, _, hpn2, _⟩ := own_form hRm.own
              have hraw := raw_of_own hRm.own
              cases p8 with
              | none => have := hpn8 rfl; omega
              | some ad8 =>
                obtain ⟨g8, rfl, _, hgl8, hc8⟩ := (unhide Hps8) ad8 rfl
                have e8 : wk.cell? ⟨g8, m, none⟩ = some (.slice p2 rsx.length c2) := by
                  rw [hc8 m (by omega), ← hu2]
                  have : m < us.length := by omega
                  simp [this]
                have hwt := hRm.wt
                have hlen2 := hRm.len
                rw [hu2] at hraw
                obtain ⟨pp, cc, hpe, hcraw⟩ := hraw
                cases hpe
                have hgm := (unhide HG).mid (i := m) (by have := unhide Hzl; omega) es.length
                have hmz : midZ es zs m = putAll (zs[m]?.getD zeroZR).nm (es.take es.length) (zs[m]?.getD zeroZR).L := by rw [List.take_length]; rfl
                rw [← hmz] at hgm
                have hrx2 : rsx.length ≤ 80 := by omega
                have Hcraw := hide hcraw
                have Hwt := hide hwt
                have Hlen2 := hide hlen2
                clear hcraw hwt hu2 hRm hpn2 hmz hgm hlen2 hc8
                go_wp2
                go_loopw [13] (fun i wr => ∃ q : Nat, q ≤ rsx.length ∧ i = .int .i64 q ∧ (∀ j, j < q → -1000 ≤ (rsx[j]?.getD zeroRaw).wt ∧ (rsx[j]?.getD zeroRaw).wt ≤ 1000) ∧ wr = wk) (fun i _ => rsx.length - (intOf i).toNat)
                case atStart => exact ⟨0, Nat.zero_le _, rfl, fun j hj => absurd hj (Nat.not_lt_zero _), rfl⟩
                case round =>
                  obtain ⟨q, hq, rfl, hgq, hwe⟩ := hrel
                  replace hwe := hwe.symm
                  subst hwe
                  have Hgq := hide hgq
                  clear hgq
                  by_cases hlq : q < rsx.length
                  · have hx4 : (q : Int) < (rsx.length : Int) := by omega
                    obtain ⟨b2, o2, rfl, f0, f1⟩ := (unhide Hcraw) q hlq
                    obtain ⟨wt, hwe⟩ : ∃ wt, wt = (rsx[q]?.getD zeroRaw).wt := ⟨_, rfl⟩
                    rw [← hwe] at f1
                    have Hwe := hide hwe
                    clear f0 hwe
                    have Hbad : Hid ((wt < -1000 ∨ 1000 < wt) → BadW (midZ es zs m)) := fun h => by
                      have h5 := (unhide Hwt) q hlq
                      have h6 : q < (midZ es zs m).length := by have := unhide Hlen2; omega
                      refine ⟨(midZ es zs m)[q]?.getD ([], 0), by simp [h6], ?_⟩
                      rw [← h5, ← unhide Hwe]; exact h
                    by_cases t1 : wt < -1000
                    · go_wp2
                      go_ret2
                      exact (unhide H9) m (by have := unhide Hzl; omega) ((unhide Hbad) (.inl t1)) (unhide HB) rfl
                    · by_cases t2 : 1000 < wt
                      · go_wp2
                        go_ret2
                        exact (unhide H9) m (by have := unhide Hzl; omega) ((unhide Hbad) (.inr t2)) (unhide HB) rfl
                      · go_wp2
                        go_roundw
                        case rel =>
                          refine ⟨q + 1, by omega, by go_num, fun j hj => ?_, by simp⟩
                          by_cases e : j = q
                          · rw [e, ← unhide Hwe]; omega
                          · exact (unhide Hgq) j (by omega)
                        case measure => simp [intOf]; omega
                  · have hx4 : ¬ (q : Int) < (rsx.length : Int) := by omega
                    go_wp2
                    go_roundw
                    case rel =>
                      refine ⟨m + 1, by omega, by go_num, fun j hj => ?_, by simp⟩
                      by_cases e : j = m
                      · subst e
                        rintro ⟨p, hp, hbad⟩
                        obtain ⟨i, hi, hpi⟩ := List.getElem_of_mem hp
                        have h6 : i < rsx.length := by have := unhide Hlen2; omega
                        have h5 := (unhide Hwt) i h6
                        have h7 := (unhide Hgq) i (by omega)
                        rw [h5] at h7
                        simp [hi, hpi] at h7
                        omega
                      · exact (unhide Hgd) j (by omega)
                    case measure => simp [intOf]; omega
            · have hx3 : ¬ (m : Int) < (rs.length : Int) := by omega
              have Hall : Hid (∀ i, i < zs.length → ¬ BadW (midZ es zs i)) := fun i hi => (unhide Hgd) i (by have := unhide Hzl; omega)
              clear Hgd H9
              have H10 : Hid (∀ {e : Ending} {w9 : World} (i : Nat), i < zs.length → 16 < (thereZ (midZ es zs i)).length → Below w.heap.size w w9 → e = .returned (.tuple #[.int .i64 10, .int .i64 0]) → ApplySaid T fb (.slice av rs.length capv) zs es w w9 e) :=
                fun i h1 h2 h3 he => ⟨10, he, .inr (.inl ⟨rfl, unhide Hall, ⟨i, h1, h2⟩, h3⟩)⟩
              have HL0 : Hid (Lists T' wk w.heap.size (.slice p8 rs.length c8) us (fun j => if j < 0 then thereZ (midZ es zs j) else midZ es zs j)) := by
                have e : (fun j => if j < 0 then thereZ (midZ es zs j) else midZ es zs j) = midZ es zs := by funext j; simp
                unfold Hid
                rw [e]; exact unhide HL
              clear Hps8 HL
              go_wp2
              go_loopw [14] (fun i wr => ∃ (m : Nat) (us' : List Value), m ≤ rs.length ∧ i = .int .i64 m ∧ us'.length = rs.length ∧ Lists T' wr w.heap.size (.slice p8 rs.length c8) us' (fun j => if j < m then thereZ (midZ es zs j) else midZ es zs j) ∧ (∀ j, j < m → (thereZ (midZ es zs j)).length ≤ 16) ∧ Below w.heap.size w wr) (fun i _ => rs.length - (intOf i).toNat)
              case atStart => exact ⟨0, us, Nat.zero_le _, rfl, hus, unhide HL0, fun j hj => absurd hj (Nat.not_lt_zero _), unhide HB⟩
              case round =>
                obtain ⟨m, us', hm, rfl, hus', hLm, hgd, hBm⟩ := hrel
                have Hgd := hide hgd
                have hBms := hBm.size
                clear hgd
                by_cases hlm : m < rs.length
                · have hx3 : (m : Int) < (rs.length : Int) := by omega
                  obtain ⟨rsx, hRm⟩ := hLm.each m (by omega)
                  rw [if_neg (Nat.lt_irrefl m)] at hRm
                  obtain ⟨p2, c2, hu2, _, hpn2, _⟩ := own_form hRm.own
                  have hraw := raw_of_own hRm.own
                  obtain ⟨p8', c8', h8', _, _, hps8'⟩ := own_form hLm.own
                  rw [hus'] at h8'
                  cases h8'
                  cases p8 with
                  | none => have := hpn8 rfl; omega
                  | some ad8 =>
                    obtain ⟨g8, rfl, hgb8, hgl8, hc8⟩ := hps8' ad8 rfl
                    have e8 : wr.cell? ⟨g8, m, none⟩ = some (.slice p2 rsx.length c2) := by
                      rw [hc8 m (by omega), ← hu2]
                      have : m < us'.length := by omega
                      simp [this]
                    have f8 : wr.frozen? ⟨g8, m, none⟩ = false := by
                      have ho := hLm.own
                      rw [hus'] at ho
                      exact ho.frozenAt m
                    rw [hu2] at hraw
                    have hlen2 := hRm.len
                    have hgm := (unhide HG).mid (i := m) (by have := unhide Hzl; omega) es.length
                    have hmz : midZ es zs m = putAll (zs[m]?.getD zeroZR).nm (es.take es.length) (zs[m]?.getD zeroZR).L := by rw [List.take_length]; rfl
                    rw [← hmz] at hgm
                    have Hth := hide (there_any _ rsx wr hraw (by omega))
                    have HRm := hide hRm
                    have HLm := hide hLm
                    have HBm := hide hBm
                    clear hraw hRm hLm hBm hu2 hpn2 hmz hgm hlen2 hc8 hps8'
                    go_wp2_with fail
                    refine (unhide Hth).mono ?_
                    rintro e w5 ⟨v', rfl, ho5, hb5⟩
                    have hR5 := rowsT_there (unhide HRm) hb5 ho5 (fun g hg => (unhide HT') g (Nat.le_trans hBms hg))
                    have hR5' := hR5.lower hBms
                    have hkl := hR5.len
                    have e9 : w5.cell? ⟨g8, m, none⟩ = some (.slice p2 rsx.length c2) := (hb5.cell (p := ⟨g8, _, none⟩) hgl8).trans e8
                    have f9 : w5.frozen? ⟨g8, m, none⟩ = false := (World.frozen?_of_block (a := ⟨g8, m, none⟩) (hb5.block g8 hgl8)).trans f8
                    obtain ⟨p5, c5, hv5, _⟩ := own_form ho5
                    subst hv5
                    have hset := ((unhide HLm).below hb5).set hus'.symm m (by omega) (.slice p5 (kept rsx).length c5) (f' := fun j => if j < m + 1 then thereZ (midZ es zs j) else midZ es zs j) (by rw [if_pos (Nat.lt_succ_self m)]; exact hR5') (fun j hj => by
                      have e1 : (j < m + 1) = (j < m) := by simp; omega
                      simp only [e1])
                    have hB5 : Below w.heap.size w (w5.setCell ⟨g8, m, none⟩ (.slice p5 (kept rsx).length c5)) := by
                      have h1 := (unhide HBm).trans (hb5.mono hBms)
                      refine ⟨h1.os, h1.tape, h1.output, by simpa using h1.size, fun k hk => ?_⟩
                      rw [heap_setCell_other w5 ⟨g8, m, none⟩ k _ (by show k ≠ g8; omega)]
                      exact h1.block k hk
                    have Hset := hide hset
                    have HB5 := hide hB5
                    have Hkl := hide hkl
                    have hkb : (kept rsx).length ≤ 1000000 := Nat.le_trans (kept_len _) (by have := (unhide HRm).len; have := ((unhide HG).mid (i := m) (by have := unhide Hzl; omega) es.length).1; rw [List.take_length] at this; unfold midZ at *; omega)
                    clear hR5 hR5' hset hB5 hkl ho5 hb5 Hth
                    by_cases h16 : 16 < (kept rsx).length
                    · have hx6 : (16 : Int) < ((kept rsx).length : Int) := by omega
                      go_wp2
                      go_ret2
                      exact (unhide H10) m (by have := unhide Hzl; omega) (by have := unhide Hkl; omega) (unhide HB5) rfl
                    · have hx6 : ¬ (16 : Int) < ((kept rsx).length : Int) := by omega
                      go_wp2
                      go_roundw
                      case rel =>
                        refine ⟨m + 1, us'.set m (.slice p5 (kept rsx).length c5), by omega, by go_num, by simp [hus'], unhide Hset, fun j hj => ?_, unhide HB5⟩
                        by_cases e : j = m
                        · subst e; have := unhide Hkl; omega
                        · exact (unhide Hgd) j (by omega)
                      case measure => simp [intOf]; omega
                · have hx3 : ¬ (m : Int) < (rs.length : Int) := by omega
                  have hme : m = rs.length := by omega
                  subst hme
                  obtain ⟨w4, hw4⟩ : ∃ w4, w4 = wr := ⟨_, rfl⟩
                  subst hw4
                  have HL4 := hide hLm
                  have HB4 := hide hBm
                  clear hLm hBm H10 HL0
                  have hOw := own_below (unhide Hown) (unhide HB4)
                  go_wp2
                  go_loopw [15] (fun i wr => ∃ (m : Nat) (rs' : List RRel), m ≤ rs.length ∧ i = .int .i64 m ∧ rs'.length = rs.length ∧ wr.ownsRow base 72 3 (.slice av rs.length capv) rs.length (cellsRR rs') ∧ (∀ j, j < rs.length → (rs'[j]?.getD zeroRR).nm = (rs[j]?.getD zeroRR).nm ∧ (rs'[j]?.getD zeroRR).ar = (rs[j]?.getD zeroRR).ar ∧ (rs'[j]?.getD zeroRR).rows = if j < m then us'[j]?.getD nilV else (rs[j]?.getD zeroRR).rows) ∧ w4.grownBy wr (Value.ownBlock (.slice av rs.length capv))) (fun i _ => rs.length - (intOf i).toNat)
                  case atStart => exact ⟨0, rs, Nat.zero_le _, rfl, rfl, hOw, fun j hj => ⟨rfl, rfl, by simp⟩, ⟨rfl, rfl, rfl, Nat.le_refl _, fun _ _ _ => rfl⟩⟩
                  case round =>
                    obtain ⟨m, rs', hm, rfl, hrl', hom, hem, hgm⟩ := hrel
                    have Hem := hide hem
                    have Hgm := hide hgm
                    have Hom := hide hom
                    have hbox4 : w4.heap[fb]? = some (.cells #[.slice av rs.length capv, vw] 41 (0, 0)) := ((unhide HB4).block fb hfb).trans hbox
                    have hboxr : wr.heap[fb]? = some (.cells #[.slice av rs.length capv, vw] 41 (0, 0)) := (hgm.block fb (heap_lt hbox4) (fun e => by
                      obtain ⟨cur, hc⟩ := own_type hOw e.symm
                      exact absurd (type_ne hbox4 hc) (by decide))).trans hbox4
                    have eF : wr.cell? ⟨fb, 0, none⟩ = some (.slice av rs.length capv) := cell_of_heap hboxr 0
                    have Hboxr := hide hboxr
                    clear hem hboxr hbox4
                    by_cases hlm : m < rs.length
                    · have hx5 : (m : Int) < (rs.length : Int) := by omega
                      obtain ⟨rsx, hRm⟩ := (unhide HL4).each m (by omega)
                      obtain ⟨p2, c2, hu2, _, hpn2, _⟩ := own_form hRm.own
                      obtain ⟨p8', c8', h8', _, _, hps8'⟩ := own_form (unhide HL4).own
                      rw [hus'] at h8'
                      cases h8'
                      obtain ⟨pv, cv, hve2, _, hpv, hpsv⟩ := own_form hom
                      cases hve2
                      cases p8 with
                      | none => have := hpn8 rfl; omega
                      | some ad8 =>
                        cases av with
                        | none => have := hpv rfl; omega
                        | some adv =>
                          obtain ⟨g8, rfl, hgb8, hgl8, hc8⟩ := hps8' ad8 rfl
                          obtain ⟨gv, rfl, hgbv, hglv, hcv⟩ := hpsv adv rfl
                          have hne8 : g8 ≠ gv := fun e => by
                            obtain ⟨c1, h1⟩ := own_type (unhide HL4).own (g := g8) rfl
                            obtain ⟨c2, h2⟩ := own_type hOw (g := gv) rfl
                            rw [e] at h1
                            exact absurd (type_ne h1 h2) (by decide)
                          have hnef : fb ≠ gv := fun e => by
                            obtain ⟨c2, h2⟩ := own_type hom (g := gv) rfl
                            have h1 := unhide Hboxr
                            rw [e] at h1
                            exact absurd (type_ne h1 h2) (by decide)
                          have e8 : wr.cell? ⟨g8, m, none⟩ = some (.slice p2 rsx.length c2) := by
                            rw [World.cell?_of_block (w := w4) (a := ⟨g8, m, none⟩) (hgm.block g8 hgl8 (by simpa [Value.ownBlock] using hne8)), hc8 m (by omega), ← hu2]
                            have : m < us'.length := by omega
                            simp [this]
                          obtain ⟨xo, cS⟩ : ∃ xo, wr.cell? ⟨gv, m * 3 + 2, none⟩ = some xo := by
                            rw [hcv _ (by omega)]
                            have := cellsRR_len rs'
                            have h9 : m * 3 + 2 < (cellsRR rs').length := by omega
                            exact ⟨(cellsRR rs')[m * 3 + 2], by simp [h9]⟩
                          have fS : wr.frozen? ⟨gv, m * 3 + 2, none⟩ = false := hom.frozenAt _
                          have Hu2 := hide hu2
                          clear hRm hpn2 hps8' hcv hpsv hc8 hom hgm hu2
                          go_wp2
                          have hst := (unhide Hom).stored (m * 3 + 2) (.slice p2 rsx.length c2)
                          rw [cellsRR_set rs' m _ (by omega)] at hst
                          have Hst := hide hst
                          clear hst
                          go_region
                          go_wp2
                          go_roundw
                          case rel =>
                            refine ⟨m + 1, rs'.set m { (rs'[m]?.getD zeroRR) with rows := .slice p2 rsx.length c2 }, by omega, by go_num, by simp [hrl'], (unhide Hst).1, fun j hj => ?_, (unhide Hgm).trans ⟨(unhide Hst).2.os, (unhide Hst).2.tape, (unhide Hst).2.output, (unhide Hst).2.size, (unhide Hst).2.block⟩⟩
                            have h1 := (unhide Hem) j hj
                            have hj' : j < rs'.length := by omega
                            by_cases e : m = j
                            · subst e
                              rw [List.getElem?_set_self hj']
                              refine ⟨h1.1, h1.2.1, ?_⟩
                              rw [if_pos (Nat.lt_succ_self m)]
                              exact (unhide Hu2).symm
                            · rw [List.getElem?_set_ne e]
                              refine ⟨h1.1, h1.2.1, ?_⟩
                              rw [h1.2.2]
                              have e1 : (j < m + 1) = (j < m) := by simp; omega
                              simp only [e1]
                          case measure => simp [intOf]; omega
                    · have hx5 : ¬ (m : Int) < (rs.length : Int) := by omega
                      have hme : m = rs.length := by omega
                      subst hme
                      have HR : Hid (RefRep (fun b => T b ∨ w.heap.size ≤ b) wr fb (.slice av rs.length capv) rs' (zs.map (endZ es))) := by
                        refine ⟨⟨vw, unhide Hboxr⟩, .inl (unhide HF).tfb, ⟨⟨base, by rw [hrl']; exact unhide Hom⟩, fun g hg => .inl ((unhide HTv) g hg)⟩, by rw [hrl', List.length_map]; exact unhide Hzl, fun i hi => ?_⟩
                        have hi' : i < rs.length := by omega
                        have hiz : i < zs.length := by have := unhide Hzl; omega
                        obtain ⟨h1, h2, h3⟩ := (unhide Hem) i hi'
                        obtain ⟨g1, g2, _⟩ := (unhide HF).each i hi'
                        have hz : (zs.map (endZ es))[i]?.getD zeroZR = endZ es (zs[i]?.getD zeroZR) := by simp [hiz]
                        rw [hz, h1, h2, h3, if_pos hi', g1, g2]
                        refine ⟨rfl, rfl, w.heap.size, ?_⟩
                        obtain ⟨rsx, hr⟩ := (unhide HL4).each i (by omega)
                        rw [if_pos hi'] at hr
                        refine ⟨rsx, ?_⟩
                        have hr2 := hr.grown (unhide Hgm) (t := 72) (fun g hg => own_type hOw hg) (by decide) (by decide)
                        rw [unhide HTT] at hr2
                        exact hr2
                      have HG2 : Hid (w.grownBy wr (Value.ownBlock (.slice av rs.length capv))) := by
                        have h1 := unhide HB4
                        have h2 := unhide Hgm
                        exact ⟨h2.os.trans h1.os, h2.tape.trans h1.tape, h2.output.trans h1.output, Nat.le_trans h1.size h2.size, fun k hk hr => (h2.block k (Nat.lt_of_lt_of_le hk h1.size) hr).trans (h1.block k hk)⟩
                      go_wp2
                      go_ret2
                      exact ⟨0, rfl, .inr (.inr ⟨rfl, unhide Hall, fun i hi => (unhide Hgd) i (by have := unhide Hzl; omega), ⟨rs', unhide HR⟩, unhide HG2⟩)⟩

end Go.Proofs.YtgddkjhknlgbbaaGreatDoor
