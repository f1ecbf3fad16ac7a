import Derived.Test.YtoifcnidhfnapaaGreatDoorM34
set_option linter.unusedVariables false
set_option linter.unusedSimpArgs false

namespace Go.Proofs.YtoifcnidhfnapaaGreatDoor
set_option linter.unusedVariables false
set_option linter.unusedSimpArgs false
open Go.RowKit Go.Maps

/-- An op of a script: its cells, and the batch that it reads as. -/
structure OpR where
  k : Int
  m : Int
  a : Int
  s : ByteArray
  t : ByteArray
  u : ByteArray
  p : Option Addr
  nb : Nat
  cb : Nat
  es : List Ent

def zeroOp : OpR := ⟨0, 0, 0, ⟨#[]⟩, ⟨#[]⟩, ⟨#[]⟩, none, 0, 0, []⟩
def opC (x : OpR) : List Value := [.int .i64 x.k, .int .i64 x.m, .int .i64 x.a, .string x.s, .string x.t, .string x.u, .slice x.p x.nb x.cb]

/-- A script as it lies. -/
def ScriptAt (w : World) (v : Value) (ops : List OpR) : Prop :=
  ∃ a cap, v = .slice a ops.length cap ∧ ∀ i, i < ops.length → (∃ b o, a = some ⟨b, o, none⟩ ∧ ∀ j, j < 7 → w.cell? ⟨b, o + i * 7 + j, none⟩ = (opC (ops[i]?.getD zeroOp))[j]?) ∧
    EntsAt w (.slice (ops[i]?.getD zeroOp).p (ops[i]?.getD zeroOp).nb (ops[i]?.getD zeroOp).cb) (ops[i]?.getD zeroOp).es ∧ EntsNil w (.slice (ops[i]?.getD zeroOp).p (ops[i]?.getD zeroOp).nb (ops[i]?.getD zeroOp).cb) ∧ FineB (ops[i]?.getD zeroOp).es ∧ (ops[i]?.getD zeroOp).s.size ≤ 10000000

def entSum (ops : List OpR) : Nat := (ops.map fun x => x.es.length).sum

theorem step_all (o : Nat → Nat) (W : World) (wb : Nat) (ps : List (Nat × Nat)) (zss : List (List ZRel)) (hs : List Nat) (N B0 : Nat) (h : Law o W wb ps zss hs N B0) (hpos : 0 < ps.length) (hpl : ps.length ≤ 900000000) (hB : B0 ≤ W.heap.size) (hhl : hs.length ≤ 10000000000) (hN : N ≤ 900000000) (w0 : World) (hw0 : w0.heap.size = B0) (hB0 : Below B0 w0 W) (x : OpR) (hk : x.k ≤ 4)
    (hea : EntsAt w0 (.slice x.p x.nb x.cb) x.es) (hnil : EntsNil w0 (.slice x.p x.nb x.cb)) (hF : FineB x.es) (hsz : x.s.size ≤ 10000000) :
    Calls Tryz.prog 31 #[.pointer (some ⟨wb, 0, none⟩), opV x.k x.m x.a x.s x.t x.u (.slice x.p x.nb x.cb)] W fun e w' => e = .returned (.bool true) ∧ ∃ o' ps' zss' hs2, Law o' w' wb ps' zss' (hs ++ hs2) (N + 128) B0 ∧ Mid (fun b => o b ≠ 0) W w' ∧ 0 < ps'.length ∧ ps'.length ≤ ps.length + 1 ∧ hs2.length ≤ x.es.length + 17 := by
  obtain ⟨k, m, a, s, t, u, p, nb, cb, es⟩ := x
  dsimp only at *
  by_cases k1 : k = 1
  · subst k1
    refine (step_new o W wb ps zss hs N B0 h hpos (by omega) hB m a s t u p nb cb).mono ?_
    rintro e w' ⟨rfl, o', eb, fb, h1, h2⟩
    exact ⟨rfl, o', _, _, [], by simpa using h1.more (Nat.le_add_right _ _), h2, by simp, by simp, by simp⟩
  · by_cases k2 : k = 2
    · subst k2
      refine (step_create o W wb ps zss hs N B0 h hpos (by omega) hB m a s t u p nb cb (by omega)).mono ?_
      rintro e w' ⟨rfl, o', zss', h1, h2⟩
      exact ⟨rfl, o', _, _, [], by simpa using h1.more (Nat.le_add_right _ _), h2, hpos, by omega, by simp⟩
    · by_cases k3 : k = 3
      · subst k3
        refine (step_apply o W wb ps zss hs N B0 h hpos (by omega) hB m a s t u p nb cb hhl hN w0 es hw0 hB0 hea hnil hF).mono ?_
        rintro e w' ⟨rfl, o', zss', hs2, h1, h2, h3⟩
        exact ⟨rfl, o', _, _, hs2, h1, h2, hpos, by omega, by omega⟩
      · by_cases k4 : k = 4
        · subst k4
          refine (step_rows o W wb ps zss hs N B0 h hpos (by omega) hB m a s t u p nb cb hhl hN (by unfold maxLen; omega)).mono ?_
          rintro e w' ⟨rfl, o', hs2, h1, h2, h3⟩
          exact ⟨rfl, o', _, _, hs2, h1.more (Nat.le_add_right _ _), h2, hpos, by omega, by omega⟩
        · refine (step_other o W wb ps zss hs N B0 h hpos (by omega) hB m a s t u p nb cb hhl hN k (by omega)).mono ?_
          rintro e w' ⟨rfl, o', hs2, h1, h2, h3⟩
          exact ⟨rfl, o', _, _, hs2, h1.more (Nat.le_add_right _ _), h2, hpos, by omega, by omega⟩

theorem law_start (w : World) : Law (fun b => if b = w.heap.size then 1 else 0) (w.alloc (.cells #[.slice none 0 0, .slice none 0 0] 56)) w.heap.size [] [] [] 0 w.heap.size := by
  refine ⟨⟨.slice none 0 0, .slice none 0 0, 0, ⟨heap_last _ _ _ rfl, ⟨0, World.ownsRow_nil _ _ _ _⟩⟩, World.ownsRow_nil _ _ _ _, by simp, fun g hg => (by cases hg), fun g hg => (by cases hg)⟩, rfl, fun i hi => by simp at hi, fun i hi => by simp at hi, fun i hi => by simp at hi, fun x hx => by simp at hx, fun b hb => ?_, fun b hb => ?_⟩
  · have : b ≠ w.heap.size := by simp at hb; omega
    simp [this]
  · have : b ≠ w.heap.size := by omega
    simp [this]

theorem Mid.args {o : Nat → Nat} {w0 W W' : World} {wb : Nat} {ps : List (Nat × Nat)} {zss : List (List ZRel)} {hs : List Nat} {N B0 : Nat} (hw0 : w0.heap.size = B0) (h : Law o W wb ps zss hs N B0) (hB : B0 ≤ W.heap.size) (hb : Below B0 w0 W) (hm : Mid (fun b => o b ≠ 0) W W') : Below B0 w0 W' :=
  hb.trans ⟨hm.os, hm.tape, hm.output, hm.size, fun b hlt => hm.block b (by omega) (fun hq => hq (h.args b hlt))⟩

set_option maxRecDepth 100000 in
set_option maxHeartbeats 8000000 in
theorem plays_any (v : Value) (ops : List OpR) (lo hi : Int) (w : World) (hv : ScriptAt w v ops) (hl : ops.length ≤ 2000000) (hsum : entSum ops ≤ 1000000000) :
    Calls Tryz.prog 13 #[v, .int .i64 lo, .int .i64 hi, .int .i64 4] w fun e w' => e = .returned (.bool true) ∧ Below w.heap.size w w' := by
  obtain ⟨a, cap, rfl, hcs⟩ := hv
  have Hc := hide hcs
  obtain ⟨w1, hw1⟩ : ∃ w1, w1 = w.alloc (.cells #[.slice none 0 0, .slice none 0 0] 56) := ⟨_, rfl⟩
  have hL1 := law_start w
  rw [← hw1] at hL1
  have hb1 : Below w.heap.size w w1 := by rw [hw1]; exact (Below.refl _ _).alloc (Nat.le_refl _) _
  have hs1 := hb1.size
  have Hbeg := hide (begin_any _ w1 w.heap.size [] [] [] 0 w.heap.size hL1 hs1 (by simp))
  have HL1 := hide hL1
  have Hb1 := hide hb1
  have Hw1 := hide hw1
  clear hcs hL1 hb1 hw1
  go_enter Tryz.func13, Tryz.ntmps13
  go_upto_region 2 with fail
  rw [← unhide Hw1]
  go_wp2_with fail
  refine (unhide Hbeg).mono ?_
  rintro e w2 ⟨rfl, o2, eb, fb, hL2, hM2⟩
  have hB2 : Below w.heap.size w w2 := Mid.args rfl (unhide HL1) hs1 (unhide Hb1) hM2
  have hs2 := hB2.size
  have Hst := hide (step_create o2 w2 w.heap.size _ _ _ 0 w.heap.size hL2 (by simp) (by simp) hs2 0 2 ⟨#[114]⟩ ⟨#[]⟩ ⟨#[]⟩ none 0 0 (by decide))
  have HL2 := hide hL2
  have HB2 := hide hB2
  unfold opV at Hst
  clear hL2 hM2 hB2 Hbeg
  go_wp2_with fail
  refine (unhide Hst).mono ?_
  rintro e w3 ⟨rfl, o3, zss3, hL3, hM3⟩
  have hB3 : Below w.heap.size w w3 := Mid.args rfl (unhide HL2) hs2 (unhide HB2) hM3
  have HL3 := hide hL3
  have HB3 := hide hB3
  clear hL3 hM3 hB3 Hst
  go_wp2
  go_loopw [11] (fun i wr => ∃ (k : Nat) (o : Nat → Nat) (ps : List (Nat × Nat)) (zss : List (List ZRel)) (hs : List Nat), k ≤ ops.length ∧ i = .int .i64 k ∧ Law o wr w.heap.size ps zss hs (128 * k) w.heap.size ∧ 0 < ps.length ∧ ps.length ≤ k + 1 ∧ hs.length ≤ entSum (ops.take k) + 17 * k ∧ Below w.heap.size w wr) (fun i _ => ops.length - (intOf i).toNat)
  case atStart => exact ⟨0, o3, _, _, _, Nat.zero_le _, rfl, unhide HL3, by simp, by simp, by simp, unhide HB3⟩
  case round =>
    obtain ⟨k, o, ps, zss, hs, hk, rfl, hL, hp0, hp1, hhs, hB⟩ := hrel
    have hBs := hB.size
    by_cases hlt : k < ops.length
    · have hx : (k : Int) < (ops.length : Int) := by omega
      obtain ⟨⟨b, oo, rfl, hcell⟩, hea, hnl, hFB, hsz⟩ := (unhide Hc) k hlt
      obtain ⟨x, hxe⟩ : ∃ x, x = ops[k]?.getD zeroOp := ⟨_, rfl⟩
      rw [← hxe] at hcell hea hnl hFB hsz
      have htk : entSum (ops.take (k + 1)) = entSum (ops.take k) + x.es.length := by
        have hxg : x = ops[k] := by rw [hxe]; simp [hlt]
        rw [List.take_succ_eq_append_getElem hlt]
        unfold entSum
        rw [List.map_append, List.sum_append, ← hxg]
        simp
      have hle9 : entSum (ops.take (k + 1)) ≤ entSum ops := by
        have e9 := List.take_append_drop (k + 1) ops
        have : entSum ops = entSum (ops.take (k + 1)) + entSum (ops.drop (k + 1)) := by
          unfold entSum
          rw [← List.sum_append, ← List.map_append, e9]
        omega
      have hle8 : entSum (ops.take k) ≤ 1000000000 := by omega
      have hc0 : o wr.heap.size = 0 := hL.fresh _ (Nat.le_refl _)
      have d0 := hcell 0 (by omega)
      have d1 := hcell 1 (by omega)
      have d2 := hcell 2 (by omega)
      have d3 := hcell 3 (by omega)
      have d4 := hcell 4 (by omega)
      have d5 := hcell 5 (by omega)
      have d6 := hcell 6 (by omega)
      simp only [opC, Nat.add_zero, List.getElem?_cons_zero, List.getElem?_cons_succ] at d0 d1 d2 d3 d4 d5 d6
      have hbl : b < w.heap.size := World.block_lt_of_cell? w _ d0
      rw [← hB.cell (p := ⟨b, _, none⟩) hbl] at d0 d1 d2 d3 d4 d5 d6
      obtain ⟨wa, hwa⟩ : ∃ wa, wa = wr.alloc (.cells #[.int .i64 x.k, .int .i64 x.m, .int .i64 x.a, .string x.s, .string x.t, .string x.u, .slice x.p x.nb x.cb] 59) := ⟨_, rfl⟩
      have hba : Below wr.heap.size wr wa := by rw [hwa]; exact (Below.refl _ _).alloc (Nat.le_refl _) _
      have xa : wa.heap[wr.heap.size]? = some (Obj.cells #[.int .i64 x.k, .int .i64 x.m, .int .i64 x.a, .string x.s, .string x.t, .string x.u, .slice x.p x.nb x.cb] 59 (0, 0)) := by rw [hwa]; exact heap_last _ _ _ rfl
      have hLa := hL.below hba
      have hBa : Below w.heap.size w wa := hB.trans (hba.mono hBs)
      have Hdat := hide (And.intro hea (And.intro hnl (And.intro hFB hsz)))
      have HLa := hide hLa
      have HBa := hide hBa
      have Hxa := hide xa
      have Hwa := hide hwa
      have Hba := hide hba
      have Htk := hide htk
      have hbb : b < wr.heap.size := by omega
      obtain ⟨xk, xm, xav, xs, xt, xu, xp, xnb, xcb, xes⟩ := x
      dsimp only at d0 d1 d2 d3 d4 d5 d6 Hdat Hxa Hwa Htk
      clear hcell hea hnl hFB hsz hxe htk hL hB hwa hba xa hLa hBa
      by_cases hk4 : xk ≤ 4
      · have hk4' : ¬ (4 : Int) < xk := by omega
        have hsa := (unhide HBa).size
        have Hst := hide (step_all o wa w.heap.size ps zss hs (128 * k) w.heap.size (unhide HLa) hp0 (by omega) hsa (by omega) (by omega) w rfl (unhide HBa) ⟨xk, xm, xav, xs, xt, xu, xp, xnb, xcb, xes⟩ hk4 (unhide Hdat).1 (unhide Hdat).2.1 (unhide Hdat).2.2.1 (unhide Hdat).2.2.2)
        dsimp only at Hst
        unfold opV at Hst
        go_upto_region 12 with fail
        rw [← unhide Hwa]
        have y0 : wa.cell? ⟨wr.heap.size, 0, none⟩ = some (.int .i64 xk) := cell_of_heap (unhide Hxa) 0
        have y1 : wa.cell? ⟨wr.heap.size, 1, none⟩ = some (.int .i64 xm) := cell_of_heap (unhide Hxa) 1
        have y2 : wa.cell? ⟨wr.heap.size, 2, none⟩ = some (.int .i64 xav) := cell_of_heap (unhide Hxa) 2
        have y3 : wa.cell? ⟨wr.heap.size, 3, none⟩ = some (.string xs) := cell_of_heap (unhide Hxa) 3
        have y4 : wa.cell? ⟨wr.heap.size, 4, none⟩ = some (.string xt) := cell_of_heap (unhide Hxa) 4
        have y5 : wa.cell? ⟨wr.heap.size, 5, none⟩ = some (.string xu) := cell_of_heap (unhide Hxa) 5
        have y6 : wa.cell? ⟨wr.heap.size, 6, none⟩ = some (.slice xp xnb xcb) := cell_of_heap (unhide Hxa) 6
        have hxal : wr.heap.size < wa.heap.size := heap_lt (unhide Hxa)
        clear d0 d1 d2 d3 d4 d5 d6
        go_wp2_with fail
        refine (unhide Hst).mono ?_
        rintro e w4 ⟨rfl, o4, ps4, zss4, hs4, hL4, hM4, hq0, hq1, hq2⟩
        have z0 : w4.cell? ⟨wr.heap.size, 0, none⟩ = some (.int .i64 xk) := by rw [World.cell?_of_block (w := wa) (a := ⟨wr.heap.size, 0, none⟩) (hM4.block wr.heap.size hxal (fun hq => hq hc0))]; exact y0
        have hB4 : Below w.heap.size w w4 := Mid.args rfl (unhide HLa) hsa (unhide HBa) hM4
        obtain ⟨pv4, hv4, base4, hS4, hpv4, hwb4, hcp4, hch4⟩ := hL4.ex
        obtain ⟨bh4, hoh4⟩ := hS4.own
        have hhl4 : (hs ++ hs4).length ≤ 1000000000000 := by have := (unhide Hdat).2.2.1.len; simp; omega
        have Hlook := hide (looks_any (fun b => o4 b = 1) w.heap.size pv4 hv4 (hs ++ hs4) w4 hS4.box ⟨⟨bh4, hoh4⟩, hch4⟩ (fun b => o4 b = 0) hL4.holds hhl4)
        have HL4 := hide hL4
        have HB4 := hide hB4
        clear hL4 hM4 hB4 hS4 hpv4 hwb4 hcp4 hch4 hoh4 Hst y0 y1 y2 y3 y4 y5 y6
        by_cases hk1 : xk = 1
        · have k1 : (xk == 1) = true := by simpa using hk1
          have Hk1 := hide hk1
          clear hk1
          go_wp2_with fail
          refine (unhide Hlook).mono ?_
          rintro e w5 ⟨rfl, hd5⟩
          have HL5 := hide (((unhide HL4).below (hd5.below _)).more (N' := 128 * (k + 1)) (by omega))
          have HB5 := hide ((unhide HB4).trans ((hd5.below _).mono (unhide HB4).size))
          have Hq := hide (And.intro hq0 (And.intro hq1 hq2))
          clear hd5 Hlook hq0 hq1 hq2
          go_wp2
          go_roundw
          case rel =>
            obtain ⟨a1, a2, a3⟩ := unhide Hq
            exact ⟨k + 1, o4, ps4, zss4, hs ++ hs4, by omega, by go_num, unhide HL5, a1, by omega, by have := unhide Htk; simp at a3 ⊢; omega, unhide HB5⟩
          case measure => simp [intOf]; omega
        · have k1 : (xk == 1) = false := by simpa using hk1
          have Hk1 := hide hk1
          clear hk1
          by_cases hlo : lo ≤ xk
          · by_cases hhi : xk ≤ hi
            · go_wp2_with fail
              refine (unhide Hlook).mono ?_
              rintro e w5 ⟨rfl, hd5⟩
              have HL5 := hide (((unhide HL4).below (hd5.below _)).more (N' := 128 * (k + 1)) (by omega))
              have HB5 := hide ((unhide HB4).trans ((hd5.below _).mono (unhide HB4).size))
              have Hq := hide (And.intro hq0 (And.intro hq1 hq2))
              clear hd5 Hlook hq0 hq1 hq2
              go_wp2
              go_roundw
              case rel =>
                obtain ⟨a1, a2, a3⟩ := unhide Hq
                exact ⟨k + 1, o4, ps4, zss4, hs ++ hs4, by omega, by go_num, unhide HL5, a1, by omega, by have := unhide Htk; simp at a3 ⊢; omega, unhide HB5⟩
              case measure => simp [intOf]; omega
            · go_wp2_with fail
              refine (unhide Hlook).mono ?_
              rintro e w5 ⟨rfl, hd5⟩
              have HL5 := hide (((unhide HL4).below (hd5.below _)).more (N' := 128 * (k + 1)) (by omega))
              have HB5 := hide ((unhide HB4).trans ((hd5.below _).mono (unhide HB4).size))
              have Hq := hide (And.intro hq0 (And.intro hq1 hq2))
              clear hd5 Hlook hq0 hq1 hq2
              go_wp2
              go_roundw
              case rel =>
                obtain ⟨a1, a2, a3⟩ := unhide Hq
                exact ⟨k + 1, o4, ps4, zss4, hs ++ hs4, by omega, by go_num, unhide HL5, a1, by omega, by have := unhide Htk; simp at a3 ⊢; omega, unhide HB5⟩
              case measure => simp [intOf]; omega
          · go_wp2_with fail
            refine (unhide Hlook).mono ?_
            rintro e w5 ⟨rfl, hd5⟩
            have HL5 := hide (((unhide HL4).below (hd5.below _)).more (N' := 128 * (k + 1)) (by omega))
            have HB5 := hide ((unhide HB4).trans ((hd5.below _).mono (unhide HB4).size))
            have Hq := hide (And.intro hq0 (And.intro hq1 hq2))
            clear hd5 Hlook hq0 hq1 hq2
            go_wp2
            go_roundw
            case rel =>
              obtain ⟨a1, a2, a3⟩ := unhide Hq
              exact ⟨k + 1, o4, ps4, zss4, hs ++ hs4, by omega, by go_num, unhide HL5, a1, by omega, by have := unhide Htk; simp at a3 ⊢; omega, unhide HB5⟩
            case measure => simp [intOf]; omega
      · have hk4' : (4 : Int) < xk := by omega
        have HLa' := HLa
        go_upto_region 12 with fail
        rw [← unhide Hwa]
        have y0 : wa.cell? ⟨wr.heap.size, 0, none⟩ = some (.int .i64 xk) := cell_of_heap (unhide Hxa) 0
        clear d0 d1 d2 d3 d4 d5 d6
        go_wp2
        go_roundw
        case rel => exact ⟨k + 1, o, ps, zss, hs, by omega, by go_num, (unhide HLa).more (by omega), hp0, by omega, by have := unhide Htk; omega, unhide HBa⟩
        case measure => simp [intOf]; omega
    · have hx : ¬ (k : Int) < (ops.length : Int) := by omega
      have HB := hide hB
      clear hL hB
      go_wp2
      go_ret
      exact ⟨rfl, unhide HB⟩

end Go.Proofs.YtoifcnidhfnapaaGreatDoor
