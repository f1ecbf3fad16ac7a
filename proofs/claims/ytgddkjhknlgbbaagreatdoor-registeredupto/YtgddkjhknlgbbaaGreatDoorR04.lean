import Derived.Test.YtgddkjhknlgbbaaGreatDoorR03
import Derived.Deep.CutRange
set_option linter.unusedVariables false
set_option linter.unusedSimpArgs false

namespace Go.Proofs.YtgddkjhknlgbbaaGreatDoor
set_option linter.unusedVariables false
set_option linter.unusedSimpArgs false
open Go.RowKit Go.Maps
attribute [local go_sem ↓] Go.wp_at_zero Go.wp_at_succ

/-- What readAtom says. -/
def AtomSaid (W : World) (RB : Nat) (s : ByteArray) (p : Nat) (e : Ending) (w' : World) : Prop :=
  (∃ a q tv, atomP s p = .ok (a, q) ∧ e = .returned (.tuple #[.agg #[.string a.nm, .int .i64 a.pl, tv], .nilIface]) ∧ Rdr w' RB s q ∧ w'.ownsRow W.heap.size 187 2 tv a.ts.length (termsC a.ts) ∧ KeepX (fun q => q = RB) W w') ∨
  (∃ q v n m ta tn tc, atomP s p = .error q ∧ e = .returned (.tuple #[.agg #[.string n, .int .i64 m, .slice ta tn tc], v]) ∧ ErrAt W.heap.size w' v 5 q ∧ KeepX (fun q => q = RB) W w')

theorem strSlice (s : ByteArray) (q0 q : Nat) (h1 : q0 ≤ q) (h2 : q ≤ s.size) (w : World) : (Instr.sliceAt 9 (.string s) (some (.int .i64 q0)) (some (.int .i64 q)) none).run Tryz.prog w = .ok (.string (s.extract q0 q)) w := by
  rw [run_sliceAt_string _ _ _ _ _ _ Tryz.underlying9]
  have e1 : (0 : Int) ≤ (q0 : Int) := by omega
  have e2 : (0 : Int) ≤ (q : Int) := by omega
  have e3 : (q0 : Int) ≤ (q : Int) := by omega
  have e4 : (q : Int) ≤ (s.size : Int) := by omega
  simp [Instr.slice, run_underlying Tryz.underlying9, Instr.sliceBounds, run_sliceBound, e1, e2, e3, e4, h1, h2]

/-- The atom's block is laid. -/
structure AtomC (W wx : World) (RB : Nat) (s nm : ByteArray) (q q0 AB : Nat) : Prop where
  atom : AtomB wx (W.heap.size + 2) RB W.heap.size AB nm q0 []
  rdr : Rdr wx RB s q
  keep : KeepX (fun q => q = RB) W wx
  res : wx.heap[W.heap.size + 1]? = some (.cells #[.string ⟨#[]⟩, .int .i64 0, .slice none 0 0] 185 (0, 0))
  lo : W.heap.size + 2 ≤ AB

theorem keepR_keep {W w : World} {RB : Nat} (h : KeepR W.heap.size RB W w) : KeepX (fun q => q = RB) W w :=
  ⟨h.os, h.tape, h.output, h.size, fun q hq hx => h.blk q hq (fun e => e.elim hx (fun e => by omega))⟩

theorem own_baseG {w : World} {b b' : Nat} {e : TypeId} {size : Nat} {v : Value} {n : Nat} {xs : List Value} (h : w.ownsRow b e size v n xs) (hb : b' ≤ b) : w.ownsRow b' e size v n xs := by
  refine ⟨h.1, ?_⟩
  rcases h.2 with h1 | ⟨g, cap, cur, h1, h2, h3⟩
  · exact .inl h1
  · exact .inr ⟨g, cap, cur, h1, Nat.le_trans hb h2, h3⟩
theorem keepR_then {W w5 w6 : World} {RB B : Nat} (h : KeepX (fun q => q = RB) W w5) (k : KeepR B RB w5 w6) (hB : W.heap.size ≤ B) : KeepX (fun q => q = RB) W w6 :=
  ⟨k.os.trans h.os, k.tape.trans h.tape, k.output.trans h.output, Nat.le_trans h.size k.size, fun q hq hx => (k.blk q (Nat.lt_of_lt_of_le hq h.size) (fun e => e.elim hx (fun e => by omega))).trans (h.blk q hq hx)⟩
theorem must_one (RB : Nat) (s : ByteArray) (p c : Nat) (hc0 : c ≠ 0) (W : World) (h : Rdr W RB s p) :
    Calls Tryz.prog 104 #[.pointer (some ⟨RB, 0, none⟩), .int .u8 c] W fun e w' => ∃ v, e = .returned v ∧ Hid ((∃ q, mustP s c p = .ok q ∧ v = .nilIface ∧ Rdr w' RB s q) ∨ (∃ q, mustP s c p = .error q ∧ ErrAt W.heap.size w' v 5 q)) ∧ KeepX (fun q => q = RB) W w' := by
  refine (must_any RB s p c hc0 W h).mono ?_
  rintro e w' (⟨q, h1, rfl, h2, h3⟩ | ⟨q, v, h1, rfl, h2, h3⟩)
  · exact ⟨_, rfl, .inl ⟨q, h1, rfl, h2⟩, h3⟩
  · exact ⟨_, rfl, .inr ⟨q, h1, h2⟩, h3⟩

set_option maxRecDepth 100000 in
set_option maxHeartbeats 2000000 in
theorem readAtom_any (RB : Nat) (s : ByteArray) (p : Nat) (W : World) (h : Rdr W RB s p) :
    Calls Tryz.prog 112 #[.pointer (some ⟨RB, 0, none⟩)] W (AtomSaid W RB s p) := by
  have hsz := h.sz
  have hl := h.lt
  obtain ⟨W2, hW2⟩ : ∃ W2, W2 = (W.alloc (.cells #[.pointer (some ⟨RB, 0, none⟩)] 160)).alloc (.cells #[.string ⟨#[]⟩, .int .i64 0, .slice none 0 0] 185) := ⟨_, rfl⟩
  have hb2 : Below W.heap.size W W2 := by rw [hW2]; exact ((Below.refl _ _).alloc (Nat.le_refl _) _).alloc (by simp) _
  have hs2 : W2.heap.size = W.heap.size + 2 := by rw [hW2]; simp
  have hR2 := h.below hb2
  have hbox : Boxed W2 W.heap.size 160 (.pointer (some ⟨RB, 0, none⟩)) := by
    rw [hW2]; exact (Boxed.new W 160 _).alloc _
  have hres : W2.heap[W.heap.size + 1]? = some (.cells #[.string ⟨#[]⟩, .int .i64 0, .slice none 0 0] 185 (0, 0)) := by
    rw [hW2]; exact heap_last _ _ _ (by simp)
  have H := hide (upcoming_any RB s p W2 hR2)
  have c0 : W2.cell? ⟨W.heap.size, 0, none⟩ = some (.pointer (some ⟨RB, 0, none⟩)) := hbox.cell
  have Hb2 := hide hb2
  have Hbox := hide hbox
  have Hres := hide hres
  clear h hb2 hR2 hbox hres
  go_enter Tryz.func112, Tryz.ntmps112
  go_wp2_with fail
  rw [← hW2]
  refine (unhide H).mono ?_
  rintro e w1 ⟨rfl, hR1, hK1⟩
  have ha : atomP s p = if lettersP s (skipP s p) = skipP s p then .error (skipP s p) else
    match mustP s 40 (lettersP s (skipP s p)) with
    | .error r => .error r
    | .ok p1 => match listP (termP s) s 3 p1 [] with
      | .error r => .error r
      | .ok (ts, p2) => match mustP s 41 p2 with
        | .error r => .error r
        | .ok p3 => .ok (⟨s.extract (skipP s p) (lettersP s (skipP s p)), skipP s p, ts⟩, p3) := rfl
  obtain ⟨q0, hq0⟩ : ∃ q0, q0 = skipP s p := ⟨_, rfl⟩
  rw [← hq0] at ha hR1 ⊢
  clear hq0
  generalize byteAt s q0 = bq0
  have Ha := hide ha
  have hbox1 : Boxed w1 W.heap.size 160 (.pointer (some ⟨RB, 0, none⟩)) := (hK1.blk W.heap.size (by omega) (by omega)).trans (unhide Hbox)
  have hres1 := (hK1.blk (W.heap.size + 1) (by omega) (by omega)).trans (unhide Hres)
  have hs1 : W.heap.size + 2 ≤ w1.heap.size := by have := hK1.size; omega
  have HK1 := hide ((KeepX.ofBelow (unhide Hb2)).trans hK1)
  have HR1 := hide hR1
  have Hbox1 := hide hbox1
  have Hres1 := hide hres1
  clear ha hR1 hK1 hbox1 hres1 H hW2 hs2 c0 Hb2 Hbox Hres
  go_wp2
  (try go_frame)
  go_loopw [] (fun wr => ∃ q, Rdr wr RB s q ∧ lettersP s q = lettersP s q0 ∧ q0 ≤ q ∧ KeepX (fun q => q = RB) w1 wr) (fun wr => s.size - (match wr.cell? ⟨RB, 1, none⟩ with | some (.int _ z) => z.toNat | _ => 0))
  case atStart => exact ⟨q0, unhide HR1, rfl, Nat.le_refl _, KeepX.refl _ _⟩
  case round =>
    obtain ⟨q, hR, hs, hq, hK⟩ := hrel
    have hh := here_any RB s q wr hR
    have cb : wr.cell? ⟨W.heap.size, 0, none⟩ = some (.pointer (some ⟨RB, 0, none⟩)) := Boxed.cell (t := 160) ((hK.blk W.heap.size (by omega) (by omega)).trans (unhide Hbox1))
    have hli := fun w => isLt_any (byteAt s q) w
    by_cases hb : isLt (byteAt s q) = true
    · have hlt : q < s.size := byteAt_ne (fun e => by rw [e] at hb; cases hb)
      have hgo : lettersP s q = lettersP s (q + 1) := runP_go hlt hb
      rw [hb] at hli
      generalize byteAt s q = bq at *
      have Hli := hide hli
      have c1 := hR.c1
      have Hh := hide hh
      have HR := hide hR
      have HK := hide hK
      have Hs := hide (hgo.symm.trans hs)
      have Hcb := hide cb
      clear hh hR hK hs hgo hli
      go_wp2_with (first
        | (go_at_call 123; refine ((unhide Hli) _).mono ?_; rintro e w4 ⟨rfl, rfl⟩)
        | (go_at_call 110; refine (unhide Hh).mono ?_; rintro e w3 ⟨rfl, hd⟩; have hR3 := (unhide HR).below hd.bel; have d1 := hR3.c1; have f1 := hR3.f1; have cb3 : w3.cell? ⟨W.heap.size, 0, none⟩ = some (.pointer (some ⟨RB, 0, none⟩)) := (hd.bel.cell (p := ⟨W.heap.size, 0, none⟩) (World.block_lt_of_cell? wr _ (unhide Hcb))).trans (unhide Hcb); have HR3 := hide hR3; have Hd := hide hd; clear hR3 hd))
      have hset : Rdr (w4.setCell ⟨RB, 1, none⟩ (.int .i64 ((q : Int) + 1))) RB s (q + 1) := setPlace (q := q + 1) (unhide HR3) (by omega)
      refine ⟨⟨q + 1, hset, unhide Hs, by omega, ((unhide HK).trans (KeepX.ofBelow (unhide Hd).bel)).trans (keepX_set1 _ _ _ _)⟩, ?_⟩
      rw [hset.c1, c1]
      simp
      omega
    · have hbf : isLt (byteAt s q) = false := by simpa using hb
      have hst : lettersP s q0 = q := by rw [← hs]; exact runP_stop hbf
      rw [hbf] at hli
      generalize byteAt s q = bq at *
      have Hli := hide hli
      have Hh := hide hh
      have HR := hide hR
      have HK := hide hK
      have Hst := hide hst
      have Hcb := hide cb
      clear hh hR hK hs hst hli
      go_wp2_with (first
        | (go_at_call 123; refine ((unhide Hli) _).mono ?_; rintro e w4 ⟨rfl, rfl⟩)
        | (go_at_call 110; refine (unhide Hh).mono ?_; rintro e w3 ⟨rfl, hd⟩; have hR3 := (unhide HR).below hd.bel; have d0 := hR3.c0; have d1 := hR3.c1; have f1 := hR3.f1; have cb3 : w3.cell? ⟨W.heap.size, 0, none⟩ = some (.pointer (some ⟨RB, 0, none⟩)) := (hd.bel.cell (p := ⟨W.heap.size, 0, none⟩) (World.block_lt_of_cell? wr _ (unhide Hcb))).trans (unhide Hcb); have HR3 := hide hR3; have Hd := hide hd; clear hR3 hd))
      have hle := (unhide HR3).le
      have hsl : ∀ w, (Instr.slice 9 (.string s) (some (.int .i64 q0)) (some (.int .i64 q)) none).run Tryz.prog w = .ok (.string (s.extract q0 q)) w := fun w => (run_sliceAt_string _ _ _ _ _ _ Tryz.underlying9).symm.trans (strSlice s q0 q hq hle w)
      have hRl : RB < w4.heap.size := (unhide HR3).lt
      have hBl : W.heap.size < w4.heap.size := World.block_lt_of_cell? w4 _ cb3
      have HF : Hid (AtomC W (w4.alloc (.cells #[.string (s.extract q0 q), .int .i64 q0, .slice none 0 0] 185)).drew RB s (s.extract q0 q) q q0 w4.heap.size) := by
        have hbw : Below w4.heap.size w4 (w4.alloc (.cells #[.string (s.extract q0 q), .int .i64 q0, .slice none 0 0] 185)).drew := ((Below.refl _ _).alloc (Nat.le_refl _) _).trans (belowD _ _)
        have hKK : KeepX (fun q => q = RB) w1 (w4.alloc (.cells #[.string (s.extract q0 q), .int .i64 q0, .slice none 0 0] 185)).drew := ((unhide HK).trans (KeepX.ofBelow (unhide Hd).bel)).trans (KeepX.ofBelow hbw)
        have hs4 : w1.heap.size ≤ w4.heap.size := ((unhide HK).trans (KeepX.ofBelow (unhide Hd).bel)).size
        refine ⟨⟨(hKK.blk W.heap.size (by omega) (by omega)).trans (unhide Hbox1), ⟨_, heap_last _ _ _ rfl, World.ownsRow_nil _ _ _ _⟩, by omega, by omega, by omega⟩, (unhide HR3).below hbw, (unhide HK1).trans hKK, (hKK.blk (W.heap.size + 1) (by omega) (by omega)).trans (unhide Hres1), by omega⟩
      go_cut [6] from 24 to 35 (fun s6 wx => ∃ AB, s6 = .pointer (some ⟨AB, 0, none⟩) ∧ AtomC W wx RB s (s.extract q0 q) q q0 AB)
      case first =>
        go_region_with fail
        all_goals
          go_wp2_with fail
          go_meet
          case rel => exact ⟨_, rfl, unhide HF⟩
      case rest =>
        obtain ⟨AB, rfl, hC⟩ := hcut
        obtain ⟨tv, hab, hto⟩ := hC.atom.blk
        have a0 : wc.cell? ⟨AB, 0, none⟩ = some (.string (s.extract q0 q)) := cell_of_heap hab 0
        have a1 : wc.cell? ⟨AB, 1, none⟩ = some (.int .i64 q0) := cell_of_heap hab 1
        have a2 : wc.cell? ⟨AB, 2, none⟩ = some tv := cell_of_heap hab 2
        have ab : wc.cell? ⟨W.heap.size, 0, none⟩ = some (.pointer (some ⟨RB, 0, none⟩)) := hC.atom.box.cell
        have hst := unhide Hst
        have ha := unhide Ha
        rw [hst] at ha
        have Ha' := hide ha
        clear ha Ha hst Hst
        have hRc := hC.rdr
        have hKc := hC.keep
        have hrs := hC.res
        have hlo := hC.lo
        have hAl : AB < wc.heap.size := (Array.getElem?_eq_some_iff.1 hab).1
        have hem0 : s.extract q q = ⟨#[]⟩ := by simp; rfl
        have r0 : wc.cell? ⟨W.heap.size + 1, 0, none⟩ = some (.string ⟨#[]⟩) := cell_of_heap hrs 0
        have hmust := hide (must_any RB s q 40 (by omega) wc hRc)
        by_cases hem : q = q0
        · rw [if_pos hem] at Ha'
          have hnm : s.extract q0 q = ⟨#[]⟩ := by rw [hem]; simp; rfl
          rw [hnm] at a0 hab
          obtain ⟨ta, tc, rfl, _⟩ := own_form hto
          have hts : ∃ tn, tn = ([] : List (Nat × Int)).length := ⟨_, rfl⟩
          obtain ⟨tn, htn⟩ := hts
          rw [← htn] at hab a2
          have r1 : wc.cell? ⟨W.heap.size + 1, 1, none⟩ = some (.int .i64 0) := cell_of_heap hrs 1
          have r2 : wc.cell? ⟨W.heap.size + 1, 2, none⟩ = some (.slice none 0 0) := cell_of_heap hrs 2
          have hrl : W.heap.size + 1 < wc.heap.size := (Array.getElem?_eq_some_iff.1 hrs).1
          have hAR : AB ≠ W.heap.size + 1 := by omega
          have Hf := hide (fault_any RB s q wc.drew (hRc.keep rfl))
          have hem1 : (⟨#[]⟩ : ByteArray).toList.isEmpty = true := by rw [ByteArray.toList_eq]; rfl
          have HKc := hide hKc
          have Hrs := hide hrs
          have Hab := hide hab
          clear hC hRc hKc hrs hto hab hem0 hmust htn
          go_wp2_with fail
          go_region_with (first
            | (go_at_call 109; refine (unhide Hf).mono ?_; rintro e w5 ⟨v5, rfl, hE5, hb5⟩; have hb5w : Below wc.heap.size wc w5 := (belowD _ _).trans hb5; have hab5 := (hb5w.block AB hAl).trans (unhide Hab); have hrs5 := (hb5w.block (W.heap.size + 1) hrl).trans (unhide Hrs); have m0 : w5.cell? ⟨AB, 0, none⟩ = some (.string ⟨#[]⟩) := cell_of_heap hab5 0; have m1 : w5.cell? ⟨AB, 1, none⟩ = some (.int .i64 q0) := cell_of_heap hab5 1; have m2 : w5.cell? ⟨AB, 2, none⟩ = some (.slice ta tn tc) := cell_of_heap hab5 2; have Hin := hide (in_err ⟨#[110, 97, 109, 101]⟩ v5 _ 5 q w5 hE5 hb5.size); have Hb5w := hide hb5w; have Hab5 := hide hab5; have Hrs5 := hide hrs5; clear hE5 hb5 hb5w hab5 hrs5)
            | (go_at_call 87; refine (unhide Hin).mono ?_; rintro e w7 ⟨v7, rfl, hE7, hb7⟩; have hl5 : AB < w5.heap.size ∧ W.heap.size + 1 < w5.heap.size := ⟨Nat.lt_of_lt_of_le hAl (unhide Hb5w).size, Nat.lt_of_lt_of_le hrl (unhide Hb5w).size⟩; have hab7 := (hb7.block AB hl5.1).trans (unhide Hab5); have hrs7 := (hb7.block (W.heap.size + 1) hl5.2).trans (unhide Hrs5); have p0 : w7.cell? ⟨AB, 0, none⟩ = some (.string ⟨#[]⟩) := cell_of_heap hab7 0; have p1 : w7.cell? ⟨AB, 1, none⟩ = some (.int .i64 q0) := cell_of_heap hab7 1; have p2 : w7.cell? ⟨AB, 2, none⟩ = some (.slice ta tn tc) := cell_of_heap hab7 2; have n0 : w7.cell? ⟨W.heap.size + 1, 0, none⟩ = some (.string ⟨#[]⟩) := cell_of_heap hrs7 0; have n1 : w7.cell? ⟨W.heap.size + 1, 1, none⟩ = some (.int .i64 0) := cell_of_heap hrs7 1; have n2 : w7.cell? ⟨W.heap.size + 1, 2, none⟩ = some (.slice none 0 0) := cell_of_heap hrs7 2; have o0 : w7.frozen? ⟨W.heap.size + 1, 0, none⟩ = false := frozen_of_heap hrs7 0; have o1 : w7.frozen? ⟨W.heap.size + 1, 1, none⟩ = false := frozen_of_heap hrs7 1; have o2 : w7.frozen? ⟨W.heap.size + 1, 2, none⟩ = false := frozen_of_heap hrs7 2; have HE7 := hide hE7; have Hb7 := hide hb7; clear hE7 hb7 hab7 hrs7))
          all_goals
            go_wp2_with fail
            refine bodyPost_ret (v := .tuple #[.agg #[.string ⟨#[]⟩, .int .i64 q0, .slice ta tn tc], v7]) (by simp [results, Tryz.results112, go_sem, n0, n1, n2, o0, o1, o2]) rfl ?_
            have hKW : KeepX (fun q => q = RB) W w7 := ((unhide HKc).trans (KeepX.ofBelow (unhide Hb5w))).trans (KeepX.ofBelow (unhide Hb7))
            have hKF := keep_new (keep_new (keep_new hKW (b := W.heap.size + 1) (by omega) 0 (.string ⟨#[]⟩)) (b := W.heap.size + 1) (by omega) 1 (.int .i64 q0)) (b := W.heap.size + 1) (by omega) 2 (.slice ta tn tc)
            have hE7 : ErrAt wc.heap.size w7 v7 5 q0 := hem ▸ unhide HE7
            exact .inr ⟨q0, v7, ⟨#[]⟩, q0, ta, tn, tc, unhide Ha', rfl, ((((hE7.setO hrl _ _).setO hrl _ _).setO hrl _ _)).mono (Nat.le_of_lt (Nat.lt_of_succ_lt hrl)), hKF⟩
        · have hne : ¬ s.extract q0 q = ⟨#[]⟩ := fun e => by
            have := congrArg ByteArray.size e
            rw [show (⟨#[]⟩ : ByteArray).size = 0 from rfl, ByteArray.size_extract] at this
            omega
          rw [if_neg hem] at Ha'
          have HabB := hide hC.atom
          have HKc := hide hKc
          have Hrs := hide hrs
          generalize hnm : s.extract q0 q = nm at *
          clear hC hRc hKc hrs hto hab hem0
          have hnb : nm.toList.isEmpty = false := by
            rw [ByteArray.toList_eq]
            cases hl : nm.data.toList with
            | nil => exact absurd (by cases nm; simp at hl; subst hl; rfl) hne
            | cons _ _ => rfl
          clear hne
          go_wp2_with fail
          refine (unhide hmust).mono ?_
          rintro e w5 (⟨q1, hm1, rfl, hR5, hK5⟩ | ⟨q1, v, hm1, rfl, hE5, hK5⟩)
          · have hab5 := (unhide HabB).keep hK5
            have ab5 : w5.cell? ⟨W.heap.size, 0, none⟩ = some (.pointer (some ⟨RB, 0, none⟩)) := hab5.box.cell
            have HL := hide (list_217 RB (W.heap.size + 2) s ⟨#[116, 101, 114, 109]⟩ (by decide) 3 (by omega) (by omega) (.pointer (some ⟨W.heap.size, 0, none⟩)) (.pointer (some ⟨AB, 0, none⟩)) (termP s) (fun acc w => AtomB w (W.heap.size + 2) RB W.heap.size AB nm q0 acc) (fun w => ∃ acc, AtomB w (W.heap.size + 2) RB W.heap.size AB nm q0 acc) (fun acc w w' h hk => h.keep hk) (fun w w' ⟨acc, h⟩ hk => ⟨acc, h.keep hk⟩) (fun acc p w hl3 hR hA hB => readAtom1_any RB W.heap.size AB (W.heap.size + 2) s nm p q0 acc (by omega) w hR hA) q1 w5 hR5 hab5 (by have := hK5.size; omega))
            have HK5 := hide ((unhide HKc).trans hK5)
            have Hrs5 := hide ((hK5.blk (W.heap.size + 1) (by omega) (by omega)).trans (unhide Hrs))
            have hs5 : wc.heap.size ≤ w5.heap.size := hK5.size
            clear hR5 hK5 hab5
            go_wp2_with fail
            refine (unhide HL).mono ?_
            rintro e w6 (⟨ts, q2, hl6, rfl, hR6, hA6, hK6⟩ | ⟨q2, v, hl6, rfl, hE6, ⟨acc, hA6⟩, hK6⟩)
            · obtain ⟨tv6, hb6, ho6⟩ := hA6.blk
              obtain ⟨ta, tc, rfl, _⟩ := own_form ho6
              obtain ⟨tn, htn⟩ : ∃ tn, tn = ts.length := ⟨_, rfl⟩
              rw [← htn] at hb6 ho6
              have Htn := hide htn
              clear htn
              have hrs6 := (hK6.blk (W.heap.size + 1) (by omega) (by omega)).trans (unhide Hrs5)
              have a0 : w6.drew.cell? ⟨AB, 0, none⟩ = some (.string nm) := cell_of_heap hb6 0
              have a1 : w6.drew.cell? ⟨AB, 1, none⟩ = some (.int .i64 q0) := cell_of_heap hb6 1
              have a2 : w6.drew.cell? ⟨AB, 2, none⟩ = some (.slice ta tn tc) := cell_of_heap hb6 2
              have k0 : w6.drew.cell? ⟨W.heap.size + 1, 0, none⟩ = some (.string ⟨#[]⟩) := cell_of_heap hrs6 0
              have k1 : w6.drew.cell? ⟨W.heap.size + 1, 1, none⟩ = some (.int .i64 0) := cell_of_heap hrs6 1
              have k2 : w6.drew.cell? ⟨W.heap.size + 1, 2, none⟩ = some (.slice none 0 0) := cell_of_heap hrs6 2
              have g0 : w6.drew.frozen? ⟨W.heap.size + 1, 0, none⟩ = false := frozen_of_heap hrs6 0
              have g1 : w6.drew.frozen? ⟨W.heap.size + 1, 1, none⟩ = false := frozen_of_heap hrs6 1
              have g2 : w6.drew.frozen? ⟨W.heap.size + 1, 2, none⟩ = false := frozen_of_heap hrs6 2
              have hAR : AB ≠ W.heap.size + 1 := by omega
              have hbx6 : w6.drew.cell? ⟨W.heap.size, 0, none⟩ = some (.pointer (some ⟨RB, 0, none⟩)) := hA6.box.cell
              have hbx6' : w6.cell? ⟨W.heap.size, 0, none⟩ = some (.pointer (some ⟨RB, 0, none⟩)) := hA6.box.cell
              have Hm := hide (must_one RB s q2 41 (by omega) w6.drew (hR6.keep rfl))
              have hbl6 : AB < w6.heap.size ∧ W.heap.size + 1 < w6.heap.size := ⟨(Array.getElem?_eq_some_iff.1 hb6).1, (Array.getElem?_eq_some_iff.1 hrs6).1⟩
              have Hb6 := hide hb6
              have Hrs6 := hide hrs6
              have Ho6 := hide ho6
              have HK6 := hide (keepR_then (unhide HK5) hK6 (by omega))
              have HF := hide (show atomP s p = match mustP s 41 q2 with
                | .error r => .error r
                | .ok p3 => .ok (⟨nm, q0, ts⟩, p3) by rw [unhide Ha', hm1]; simp only [hl6])
              clear hK6 hA6 hb6 hrs6 hl6 hm1 HL ho6 hR6
              go_wp2_with fail
              go_region_with (first
                | (go_at_call 104; refine (unhide Hm).mono ?_; rintro e w7 ⟨v7, rfl, Hs7, hK7⟩; have hb7 := (hK7.blk AB hbl6.1 (by omega)).trans (unhide Hb6); have hrs7 := (hK7.blk (W.heap.size + 1) hbl6.2 (by omega)).trans (unhide Hrs6); have m0 : w7.cell? ⟨AB, 0, none⟩ = some (.string nm) := cell_of_heap hb7 0; have m1 : w7.cell? ⟨AB, 1, none⟩ = some (.int .i64 q0) := cell_of_heap hb7 1; have m2 : w7.cell? ⟨AB, 2, none⟩ = some (.slice ta tn tc) := cell_of_heap hb7 2; have n0 : w7.cell? ⟨W.heap.size + 1, 0, none⟩ = some (.string ⟨#[]⟩) := cell_of_heap hrs7 0; have n1 : w7.cell? ⟨W.heap.size + 1, 1, none⟩ = some (.int .i64 0) := cell_of_heap hrs7 1; have n2 : w7.cell? ⟨W.heap.size + 1, 2, none⟩ = some (.slice none 0 0) := cell_of_heap hrs7 2; have o0 : w7.frozen? ⟨W.heap.size + 1, 0, none⟩ = false := frozen_of_heap hrs7 0; have o1 : w7.frozen? ⟨W.heap.size + 1, 1, none⟩ = false := frozen_of_heap hrs7 1; have o2 : w7.frozen? ⟨W.heap.size + 1, 2, none⟩ = false := frozen_of_heap hrs7 2; have HK7 := hide hK7; clear hb7 hrs7 hK7))
              all_goals
                go_wp2_with fail
                refine bodyPost_ret (v := .tuple #[.agg #[.string nm, .int .i64 q0, .slice ta tn tc], v7]) (by simp [results, Tryz.results112, go_sem, n0, n1, n2, o0, o1, o2]) rfl ?_
                have hKW : KeepX (fun q => q = RB) W w7 := ((unhide HK6).trans (KeepX.ofBelow (belowD _ _))).trans (unhide HK7)
                have hKF := keep_new (keep_new (keep_new hKW (b := W.heap.size + 1) (by omega) 0 (.string nm)) (b := W.heap.size + 1) (by omega) 1 (.int .i64 q0)) (b := W.heap.size + 1) (by omega) 2 (.slice ta tn tc)
                rcases unhide Hs7 with ⟨q3, h3, rfl, hR7⟩ | ⟨q3, h3, hE7⟩
                · refine .inl ⟨⟨nm, q0, ts⟩, q3, .slice ta tn tc, by rw [unhide HF, h3], rfl, ((hR7.setO (by omega) _ _).setO (by omega) _ _).setO (by omega) _ _, ?_, hKF⟩
                  have hw7 : w7.ownsRow (W.heap.size + 2) 187 2 (.slice ta tn tc) tn (termsC ts) := own_keepR (W := w6) (unhide Ho6) ((KeepX.ofBelow (belowD _ _)).trans (unhide HK7)) (fun g hg => by omega)
                  show World.ownsRow _ _ _ _ _ ts.length _
                  rw [← unhide Htn]
                  exact own_baseG (own_keepR (own_keepR (own_keepR hw7 (keepX_set1 _ _ _ _) (fun g hg => by omega)) (keepX_set1 _ _ _ _) (fun g hg => by omega)) (keepX_set1 _ _ _ _) (fun g hg => by omega)) (by omega)
                · have h6s : W.heap.size + 1 < w6.heap.size := hbl6.2
                  exact .inr ⟨q3, v7, nm, q0, ta, tn, tc, by rw [unhide HF, h3], rfl, ((((hE7.setO h6s _ _).setO h6s _ _).setO h6s _ _)).mono (Nat.le_of_lt (Nat.lt_of_succ_lt h6s)), hKF⟩
            · obtain ⟨ty, b, rfl, hty⟩ := hE6.form
              obtain ⟨tv6, hb6, ho6⟩ := hA6.blk
              obtain ⟨ta, tc, rfl, _⟩ := own_form ho6
              obtain ⟨tn, htn⟩ : ∃ tn, tn = acc.length := ⟨_, rfl⟩
              rw [← htn] at hb6
              have hrs6 := (hK6.blk (W.heap.size + 1) (by omega) (by omega)).trans (unhide Hrs5)
              have a0 : w6.cell? ⟨AB, 0, none⟩ = some (.string nm) := cell_of_heap hb6 0
              have a1 : w6.cell? ⟨AB, 1, none⟩ = some (.int .i64 q0) := cell_of_heap hb6 1
              have a2 : w6.cell? ⟨AB, 2, none⟩ = some (.slice ta tn tc) := cell_of_heap hb6 2
              have k0 : w6.cell? ⟨W.heap.size + 1, 0, none⟩ = some (.string ⟨#[]⟩) := cell_of_heap hrs6 0
              have k1 : w6.cell? ⟨W.heap.size + 1, 1, none⟩ = some (.int .i64 0) := cell_of_heap hrs6 1
              have k2 : w6.cell? ⟨W.heap.size + 1, 2, none⟩ = some (.slice none 0 0) := cell_of_heap hrs6 2
              have g0 : w6.frozen? ⟨W.heap.size + 1, 0, none⟩ = false := frozen_of_heap hrs6 0
              have g1 : w6.frozen? ⟨W.heap.size + 1, 1, none⟩ = false := frozen_of_heap hrs6 1
              have g2 : w6.frozen? ⟨W.heap.size + 1, 2, none⟩ = false := frozen_of_heap hrs6 2
              have hAR : AB ≠ W.heap.size + 1 := by omega
              have HE6 := hide hE6
              have HK6 := hide (keepR_then (unhide HK5) hK6 (by omega))
              have HF := hide (show atomP s p = .error q2 by rw [unhide Ha', hm1]; simp only [hl6])
              clear hE6 hK6 hA6 hb6 hrs6 hl6 hm1 HL ho6 htn
              go_wp2_with fail
              refine bodyPost_ret (v := .tuple #[.agg #[.string nm, .int .i64 q0, .slice ta tn tc], .iface ty (.pointer (some ⟨b, 0, none⟩))]) (by simp [results, Tryz.results112, go_sem, k0, k1, k2, g0, g1, g2]) rfl (.inr ⟨_, _, _, _, _, _, _, unhide HF, rfl, ?_, ?_⟩)
              · exact ((((unhide HE6).setO (by omega) _ _).setO (by omega) _ _).setO (by omega) _ _).mono (by omega)
              · exact keep_new (keep_new (keep_new (unhide HK6) (by omega) _ _) (by omega) _ _) (by omega) _ _
          · have hab5 := (unhide HabB).keep hK5
            · obtain ⟨ty, b, rfl, hty⟩ := hE5.form
              obtain ⟨tv5, hb5, ho5⟩ := hab5.blk
              obtain ⟨ta, tc, rfl, _⟩ := own_form ho5
              obtain ⟨tn, htn⟩ : ∃ tn, tn = ([] : List (Nat × Int)).length := ⟨_, rfl⟩
              rw [← htn] at hb5
              have hrs5 := (hK5.blk (W.heap.size + 1) (by omega) (by omega)).trans (unhide Hrs)
              have a0 : w5.cell? ⟨AB, 0, none⟩ = some (.string nm) := cell_of_heap hb5 0
              have a1 : w5.cell? ⟨AB, 1, none⟩ = some (.int .i64 q0) := cell_of_heap hb5 1
              have a2 : w5.cell? ⟨AB, 2, none⟩ = some (.slice ta tn tc) := cell_of_heap hb5 2
              have k0 : w5.cell? ⟨W.heap.size + 1, 0, none⟩ = some (.string ⟨#[]⟩) := cell_of_heap hrs5 0
              have k1 : w5.cell? ⟨W.heap.size + 1, 1, none⟩ = some (.int .i64 0) := cell_of_heap hrs5 1
              have k2 : w5.cell? ⟨W.heap.size + 1, 2, none⟩ = some (.slice none 0 0) := cell_of_heap hrs5 2
              have g0 : w5.frozen? ⟨W.heap.size + 1, 0, none⟩ = false := frozen_of_heap hrs5 0
              have g1 : w5.frozen? ⟨W.heap.size + 1, 1, none⟩ = false := frozen_of_heap hrs5 1
              have g2 : w5.frozen? ⟨W.heap.size + 1, 2, none⟩ = false := frozen_of_heap hrs5 2
              have hAR : AB ≠ W.heap.size + 1 := by omega
              have HE5 := hide hE5
              have HK5 := hide ((unhide HKc).trans hK5)
              have HF := hide (show atomP s p = .error q1 by rw [unhide Ha', hm1])
              clear hE5 hK5 hab5 hb5 hrs5 hm1 ho5 htn
              go_wp2_with fail
              refine bodyPost_ret (v := .tuple #[.agg #[.string nm, .int .i64 q0, .slice ta tn tc], .iface ty (.pointer (some ⟨b, 0, none⟩))]) (by simp [results, Tryz.results112, go_sem, k0, k1, k2, g0, g1, g2]) rfl (.inr ⟨_, _, _, _, _, _, _, unhide HF, rfl, ?_, ?_⟩)
              · exact ((((unhide HE5).setO (by omega) _ _).setO (by omega) _ _).setO (by omega) _ _).mono (by omega)
              · exact keep_new (keep_new (keep_new (unhide HK5) (by omega) _ _) (by omega) _ _) (by omega) _ _

end Go.Proofs.YtgddkjhknlgbbaaGreatDoor

namespace Go.Proofs.YtgddkjhknlgbbaaGreatDoor
set_option linter.unusedVariables false
set_option linter.unusedSimpArgs false
open Go.RowKit Go.Maps

theorem Tryz.info208 : (Tryz.prog.info? 208).map (fun i => (i.zero, i.size, i.bytes)) = some (some (.agg #[.int .u8 0, .int .i64 0]), 2, 16) := by kernel_rfl

def headC (xs : List (Nat × Nat)) : List Value := xs.flatMap fun x => [.int .u8 x.1, .int .i64 x.2]

/-- A head that is being read. -/
structure HeadB (W : World) (B0 RB Bb Bq QB : Nat) (bv : Value) (acc : List (Nat × Nat)) : Prop where
  box : Boxed W Bb 160 (.pointer (some ⟨RB, 0, none⟩))
  boxq : Boxed W Bq 94 (.pointer (some ⟨QB, 0, none⟩))
  blk : ∃ hv, W.heap[QB]? = some (.cells #[hv, bv] 166 (0, 0)) ∧ W.ownsRow B0 208 2 hv acc.length (headC acc)
  lo : Bb ≠ RB ∧ Bq ≠ RB ∧ B0 ≤ QB ∧ RB < B0

theorem HeadB.keep {W w : World} {B0 RB Bb Bq QB : Nat} {bv : Value} {acc : List (Nat × Nat)} (h : HeadB W B0 RB Bb Bq QB bv acc) (hk : KeepX (fun q => q = RB) W w) : HeadB w B0 RB Bb Bq QB bv acc := by
  obtain ⟨hb, hq, ⟨tv, h1, h2⟩, h3, h4, h5, h6⟩ := h
  exact ⟨(hk.blk Bb (Array.getElem?_eq_some_iff.1 hb).1 h3).trans hb, (hk.blk Bq (Array.getElem?_eq_some_iff.1 hq).1 h4).trans hq, ⟨tv, (hk.blk QB (Array.getElem?_eq_some_iff.1 h1).1 (by omega)).trans h1, own_keepR h2 hk (fun g hg => by omega)⟩, h3, h4, h5, h6⟩

theorem own307_cells {W : World} {B0 n : Nat} {tv : Value} {xs : List Value} (h : W.ownsRow B0 208 2 tv n xs) {g : Nat} (hg : tv.ownBlock = some g) : B0 ≤ g ∧ ∃ cur, W.heap[g]? = some (.cells cur 208 (0, 0)) := by
  rcases h.2 with ⟨rfl, _⟩ | ⟨g', cap, cur, rfl, hb, hgh, _⟩
  · simp [Value.ownBlock] at hg
  · simp only [Value.ownBlock] at hg
    injection hg with hg
    subst hg
    exact ⟨hb, cur, hgh⟩

section
attribute [local go_sem ↓] inv_ap
set_option maxRecDepth 100000 in
set_option maxHeartbeats 2000000 in
theorem readHead1_any (RB Bb Bq QB B0 : Nat) (s : ByteArray) (bv : Value) (p : Nat) (acc : List (Nat × Nat)) (hacc : acc.length ≤ 100) (W : World) (h : Rdr W RB s p) (hA : HeadB W B0 RB Bb Bq QB bv acc) (hB0 : B0 ≤ W.heap.size) :
    Calls Tryz.prog 107 #[.pointer (some ⟨Bb, 0, none⟩), .pointer (some ⟨Bq, 0, none⟩)] W (ItemSaid B0 RB s (headVarP s p) (fun x w => HeadB w B0 RB Bb Bq QB bv (acc ++ [x])) (fun w => ∃ acc', HeadB w B0 RB Bb Bq QB bv acc') W) := by
  have cb : W.cell? ⟨Bb, 0, none⟩ = some (.pointer (some ⟨RB, 0, none⟩)) := hA.box.cell
  have H := hide (upcoming_any RB s p W h)
  have hsz := h.sz
  have ht : headVarP s p = if isVr (byteAt s (skipP s p)) then .ok ((byteAt s (skipP s p), skipP s p), skipP s p + 1) else .error (skipP s p) := rfl
  obtain ⟨q, hq⟩ : ∃ q, q = skipP s p := ⟨_, rfl⟩
  rw [← hq] at H ht
  clear hq h
  obtain ⟨bq, hbq⟩ : ∃ bq, bq = byteAt s q := ⟨_, rfl⟩
  rw [← hbq] at H ht
  have hv := fun w => isVr_any bq w
  have HA := hide hA
  clear hA
  by_cases hb : isVr bq = true
  · have hlt : q < s.size := byteAt_ne (by rw [← hbq]; intro e; rw [e] at hb; cases hb)
    rw [hb] at hv
    rw [if_pos hb] at ht
    have Ht := hide ht
    have Hv := hide hv
    clear hbq hb hv ht
    go_enter Tryz.func107, Tryz.ntmps107
    go_wp2_with (first
      | (go_at_call 74; refine ((unhide Hv) _).mono ?_; rintro e w4 ⟨rfl, rfl⟩)
      | (go_at_call 108; refine (unhide H).mono ?_; rintro e w1 ⟨rfl, hR1, hK1⟩; have d1 := hR1.c1; have f1 := hR1.f1; have hA1 := (unhide HA).keep hK1; have cb1 : w1.cell? ⟨Bb, 0, none⟩ = some (.pointer (some ⟨RB, 0, none⟩)) := hA1.box.cell; have HR1 := hide hR1; have HK1 := hide hK1; have HA1 := hide hA1; clear hR1 hK1 hA1))
    have hR5 : Rdr (w4.setCell ⟨RB, 1, none⟩ (.int .i64 ((q : Int) + 1))) RB s (q + 1) := setPlace (q := q + 1) (unhide HR1) (by omega)
    have hK5 : KeepX (fun q => q = RB) W (w4.setCell ⟨RB, 1, none⟩ (.int .i64 ((q : Int) + 1))) := (unhide HK1).trans (keepX_set1 _ _ _ _)
    have hA5 : HeadB (w4.setCell ⟨RB, 1, none⟩ (.int .i64 ((q : Int) + 1))) B0 RB Bb Bq QB bv acc := (unhide HA1).keep (keepX_set1 _ _ _ _)
    generalize w4.setCell ⟨RB, 1, none⟩ (.int .i64 ((q : Int) + 1)) = w5 at *
    obtain ⟨hvv, hqb, hown⟩ := hA5.blk
    have hown' : w5.drew.ownsRow B0 208 2 hvv acc.length (headC acc) := own_keepR hown (KeepX.ofBelow (X := fun _ => False) (belowD _ _)) (fun _ _ h => h)
    obtain ⟨g', cap', w6, hA6, hown6, hg6⟩ := apAny (w2 := w5.drew) #[.int .u8 bq, .int .i64 q] 163 208 Tryz.underlying163 Tryz.info208 rfl (by decide) rfl (by simp [Value.oneCell']) hown' (Nat.le_trans hB0 hK5.size) (by omega) (by omega)
    have q1 : w5.drew.cell? ⟨Bq, 0, none⟩ = some (.pointer (some ⟨QB, 0, none⟩)) := hA5.boxq.cell
    have q0 : w5.drew.cell? ⟨QB, 0, none⟩ = some hvv := cell_of_heap hqb 0
    have hbA : Below w5.heap.size w5 (w5.drew.alloc (.cells #[.int .u8 bq, .int .i64 q] 208)) := (belowD _ _).alloc (Nat.le_refl _) _
    have hql : QB < w5.heap.size := (Array.getElem?_eq_some_iff.1 hqb).1
    have hbql : Bq < w5.heap.size := hA5.boxq.lt
    have hbbl : Bb < w5.heap.size := hA5.box.lt
    have hA6' : (apSem #[163, 163] 163 #[hvv, .slice (some ⟨w5.heap.size, 0, none⟩) 1 1]).run Tryz.prog (w5.alloc (.cells #[.int .u8 bq, .int .i64 q] 208)).drew = .ok (.slice (some ⟨g', 0, none⟩) (acc.length + 1) cap') w6 := hA6
    have q1A : (w5.alloc (.cells #[.int .u8 bq, .int .i64 q] 208)).drew.cell? ⟨Bq, 0, none⟩ = some (.pointer (some ⟨QB, 0, none⟩)) := (hbA.cell (p := ⟨Bq, 0, none⟩) hbql).trans hA5.boxq.cell
    have q0A : (w5.alloc (.cells #[.int .u8 bq, .int .i64 q] 208)).drew.cell? ⟨QB, 0, none⟩ = some hvv := (hbA.cell (p := ⟨QB, 0, none⟩) hql).trans (cell_of_heap hqb 0)
    have hnq : hvv.ownBlock ≠ some QB := fun e => by
      obtain ⟨_, cur, hc⟩ := own307_cells hown e
      rw [hqb] at hc; simp at hc
    have hnb : hvv.ownBlock ≠ some Bb := fun e => by
      obtain ⟨_, cur, hc⟩ := own307_cells hown e
      rw [show w5.heap[Bb]? = _ from hA5.box] at hc; simp at hc
    have hnB : hvv.ownBlock ≠ some Bq := fun e => by
      obtain ⟨_, cur, hc⟩ := own307_cells hown e
      rw [show w5.heap[Bq]? = _ from hA5.boxq] at hc; simp at hc
    have hK6 : KeepX (fun q => hvv.ownBlock = some q) w5 w6 := (KeepX.ofBelow hbA).trans ⟨hg6.os, hg6.tape, hg6.output, hg6.size, fun q hq hx => hg6.block q hq (fun e => hx e.symm)⟩
    have hqb6 := (hK6.blk QB hql hnq).trans hqb
    have hbq6 : Boxed w6 Bq 94 (.pointer (some ⟨QB, 0, none⟩)) := (hK6.blk Bq hbql hnB).trans hA5.boxq
    have hbb6 : Boxed w6 Bb 160 (.pointer (some ⟨RB, 0, none⟩)) := (hK6.blk Bb hbbl hnb).trans hA5.box
    have q1B : w6.cell? ⟨Bq, 0, none⟩ = some (.pointer (some ⟨QB, 0, none⟩)) := hbq6.cell
    have q0B : w6.cell? ⟨QB, 0, none⟩ = some hvv := cell_of_heap hqb6 0
    have fB : w6.frozen? ⟨QB, 0, none⟩ = false := frozen_of_heap hqb6 0
    have hgQ : g' ≠ QB := fun e => by
      obtain ⟨_, cur, hc⟩ := own307_cells hown6 (g := g') rfl
      rw [e, hqb6] at hc; simp at hc
    have hnqq : Bb ≠ QB ∧ Bq ≠ QB := ⟨fun e => by have h1 := hqb; rw [← e, show w5.heap[Bb]? = _ from hA5.box] at h1; simp at h1, fun e => by have h1 := hqb; rw [← e, show w5.heap[Bq]? = _ from hA5.boxq] at h1; simp at h1⟩
    obtain ⟨hl1, hl2, hl3, hl4⟩ := hA5.lo
    have hFin : ItemSaid B0 RB s (headVarP s p) (fun x w => HeadB w B0 RB Bb Bq QB bv (acc ++ [x])) (fun w => ∃ acc', HeadB w B0 RB Bb Bq QB bv acc') W (.returned .nilIface) (w6.setCell ⟨QB, 0, none⟩ (.slice (some ⟨g', 0, none⟩) (acc.length + 1) cap')) := by
      have hK7 : KeepX (fun q => hvv.ownBlock = some q ∨ q = QB) w5 (w6.setCell ⟨QB, 0, none⟩ (.slice (some ⟨g', 0, none⟩) (acc.length + 1) cap')) := (hK6.mono fun q _ e => .inl e).trans ((keepX_set1 w6 QB 0 _).mono fun q _ e => .inr e)
      have hX : ∀ q, (hvv.ownBlock = some q ∨ q = QB) → B0 ≤ q := fun q hq => by
        rcases hq with hq | hq
        · exact (own307_cells hown hq).1
        · omega
      refine .inl ⟨(bq, q), q + 1, unhide Ht, rfl, hR5.keep (hK7.blk RB hR5.lt (fun e => by have := hX RB e; omega)), ?_, (hK5.mono fun q _ e => .inl e).trans (hK7.mono fun q _ e => .inr (hX q e))⟩
      refine ⟨(hK7.blk Bb hbbl (fun e => e.elim hnb hnqq.1)).trans hA5.box, (hK7.blk Bq hbql (fun e => e.elim hnB hnqq.2)).trans hA5.boxq, ⟨.slice (some ⟨g', 0, none⟩) (acc.length + 1) cap', ?_, ?_⟩, hl1, hl2, hl3, hl4⟩
      · simp only [World.setCell]
        rw [Array.getElem?_modify, if_pos rfl, hqb6]
        rfl
      · have e : headC (acc ++ [(bq, q)]) = headC acc ++ [.int .u8 bq, .int .i64 q] := by simp [headC]
        rw [e, List.length_append]
        refine own_keepX hown6 (keepX_set1 w6 QB 0 _) (fun g hg => ?_)
        simp only [Value.ownBlock] at hg
        injection hg with hg
        omega
    have HFin := hide hFin
    clear hA6
    clear hFin hR5 hK5 hA5 hqb hown hown' hown6 hg6 hbA hK6 hqb6 hbq6 hbb6 hnq hnb hnB
    go_wp2_with fail
    go_region_with fail
    all_goals
      go_wp2
      go_ret
      exact unhide HFin
  · have hbf : isVr bq = false := by simpa using hb
    rw [hbf] at hv
    rw [if_neg (by simp [hbf])] at ht
    have Ht := hide ht
    have Hv := hide hv
    clear hbq hb hv ht
    go_enter Tryz.func107, Tryz.ntmps107
    go_wp2_with (first
      | (go_at_call 74; refine ((unhide Hv) _).mono ?_; rintro e w4 ⟨rfl, rfl⟩)
      | (go_at_call 108; refine (unhide H).mono ?_; rintro e w1 ⟨rfl, hR1, hK1⟩; have hA1 := (unhide HA).keep hK1; have cb1 : w1.cell? ⟨Bb, 0, none⟩ = some (.pointer (some ⟨RB, 0, none⟩)) := hA1.box.cell; have HR1 := hide hR1; have HK1 := hide hK1; have HA1 := hide hA1; clear hR1 hK1 hA1)
      | (go_at_call 109; refine (fault_any RB s q _ (unhide HR1)).mono ?_; rintro e w6 ⟨v, rfl, hE6, hb6⟩; have HE6 := hide hE6; have Hb6 := hide hb6; clear hE6 hb6))
    go_ret
    exact .inr ⟨q, v, unhide Ht, rfl, (unhide HE6).mono (Nat.le_trans hB0 (unhide HK1).size), ⟨acc, (unhide HA1).keep (KeepX.ofBelow (unhide Hb6))⟩, ((unhide HK1).trans (KeepX.ofBelow (unhide Hb6))).mono fun q _ e => .inl e⟩
end

end Go.Proofs.YtgddkjhknlgbbaaGreatDoor

namespace Go.Proofs.YtgddkjhknlgbbaaGreatDoor
set_option linter.unusedVariables false
set_option linter.unusedSimpArgs false
open Go.RowKit Go.Maps

/-- What readHead says. -/
def HeadSaid (W : World) (B0 RB QB : Nat) (bv : Value) (s : ByteArray) (p : Nat) (e : Ending) (w' : World) : Prop :=
  (∃ hs q hv, headP s p = .ok (hs, q) ∧ e = .returned .nilIface ∧ Rdr w' RB s q ∧ w'.heap[QB]? = some (.cells #[hv, bv] 166 (0, 0)) ∧ w'.ownsRow B0 208 2 hv hs.length (headC hs) ∧ KeepR B0 RB W w') ∨
  (∃ q v, headP s p = .error q ∧ e = .returned v ∧ ErrAt B0 w' v 5 q ∧ KeepR B0 RB W w')

set_option maxRecDepth 100000 in
set_option maxHeartbeats 2000000 in
theorem readHead_any (RB QB B0 : Nat) (s : ByteArray) (bv : Value) (p : Nat) (W : World) (h : Rdr W RB s p) (hQ : W.heap[QB]? = some (.cells #[.slice none 0 0, bv] 166 (0, 0))) (hl1 : B0 ≤ QB) (hl2 : RB < B0) :
    Calls Tryz.prog 88 #[.pointer (some ⟨RB, 0, none⟩), .pointer (some ⟨QB, 0, none⟩)] W (HeadSaid W B0 RB QB bv s p) := by
  have hRl := h.lt
  have hQl : QB < W.heap.size := (Array.getElem?_eq_some_iff.1 hQ).1
  obtain ⟨W2, hW2⟩ : ∃ W2, W2 = (W.alloc (.cells #[.pointer (some ⟨RB, 0, none⟩)] 160)).alloc (.cells #[.pointer (some ⟨QB, 0, none⟩)] 94) := ⟨_, rfl⟩
  have hb2 : Below W.heap.size W W2 := by rw [hW2]; exact ((Below.refl _ _).alloc (Nat.le_refl _) _).alloc (by simp) _
  have hbox : Boxed W2 W.heap.size 160 (.pointer (some ⟨RB, 0, none⟩)) := by rw [hW2]; exact (Boxed.new W 160 _).alloc _
  have hboxq : Boxed W2 (W.heap.size + 1) 94 (.pointer (some ⟨QB, 0, none⟩)) := by rw [hW2]; exact heap_last _ _ _ (by simp)
  have hH : HeadB W2 B0 RB W.heap.size (W.heap.size + 1) QB bv [] := ⟨hbox, hboxq, ⟨_, (hb2.block QB hQl).trans hQ, World.ownsRow_nil _ _ _ _⟩, by omega, by omega, hl1, hl2⟩
  have c0 : W2.cell? ⟨W.heap.size, 0, none⟩ = some (.pointer (some ⟨RB, 0, none⟩)) := hbox.cell
  have Hm := hide (must_any RB s p 40 (by omega) W2 (h.below hb2))
  have HH := hide hH
  have Hb2 := hide hb2
  clear h hQ hbox hboxq hH hb2
  go_enter Tryz.func88, Tryz.ntmps88
  go_wp2_with fail
  rw [← hW2]
  refine (unhide Hm).mono ?_
  clear hW2
  rintro e w1 (⟨p1, hm1, rfl, hR1, hK1⟩ | ⟨q, v, hm1, rfl, hE1, hK1⟩)
  · have hH1 := (unhide HH).keep hK1
    have c1 : w1.cell? ⟨W.heap.size, 0, none⟩ = some (.pointer (some ⟨RB, 0, none⟩)) := hH1.box.cell
    have Ht := hide (take_any RB s p1 41 (by omega) w1 hR1)
    have HK1 := hide ((KeepX.ofBelow (unhide Hb2)).trans hK1)
    have HH1 := hide hH1
    have hp : headP s p = if byteAt s (skipP s p1) = 41 then .ok ([], skipP s p1 + 1) else
      match listP (headVarP s) s 4 (skipP s p1) [] with
      | .error r => .error r
      | .ok (hs, p2) => match mustP s 41 p2 with
        | .error r => .error r
        | .ok p3 => .ok (hs, p3) := by unfold headP; rw [hm1]; rfl
    clear hR1 hK1 hH1 Hm hm1
    by_cases hc : byteAt s (skipP s p1) = 41
    · rw [if_pos hc] at hp Ht
      rw [decide_eq_true hc] at Ht
      have Hp := hide hp
      clear hp hc
      go_wp2_with (first | (go_at_call 105; refine (unhide Ht).mono ?_; rintro e w2 ⟨rfl, hR2, hK2⟩; have HR2 := hide hR2; have HK2 := hide hK2; clear hR2 hK2))
      go_ret
      obtain ⟨hv, hb, ho⟩ := ((unhide HH1).keep (unhide HK2)).blk
      exact .inl ⟨[], _, hv, unhide Hp, rfl, unhide HR2, hb, ho, ((unhide HK1).trans (unhide HK2)).mono fun q _ e => .inl e⟩
    · rw [if_neg hc] at hp Ht
      rw [decide_eq_false hc] at Ht
      have Hp := hide hp
      clear hp hc
      go_wp2_with (first | (go_at_call 105; refine (unhide Ht).mono ?_; rintro e w2 ⟨rfl, hR2, hK2⟩; have hH2 := (unhide HH1).keep hK2; have c2 : w2.cell? ⟨W.heap.size, 0, none⟩ = some (.pointer (some ⟨RB, 0, none⟩)) := hH2.box.cell; have HH2 := hide hH2; have HR2 := hide hR2; have HK2 := hide hK2; clear hR2 hK2 hH2))
      have hB2 : B0 ≤ w2.heap.size := by have := (unhide HK1).size; have := (unhide HK2).size; omega
      refine (list_179 RB B0 s ⟨#[118, 97, 114, 105, 97, 98, 108, 101]⟩ (by decide) 4 (by omega) (by omega) (.pointer (some ⟨W.heap.size, 0, none⟩)) (.pointer (some ⟨W.heap.size + 1, 0, none⟩)) (headVarP s) (fun acc w => HeadB w B0 RB W.heap.size (W.heap.size + 1) QB bv acc) (fun w => ∃ acc, HeadB w B0 RB W.heap.size (W.heap.size + 1) QB bv acc) (fun acc w w' h hk => h.keep hk) (fun w w' ⟨acc, h⟩ hk => ⟨acc, h.keep hk⟩) (fun acc p w hl3 hR hA hB => readHead1_any RB W.heap.size (W.heap.size + 1) QB B0 s bv p acc (by omega) w hR hA hB) _ w2 (unhide HR2) (unhide HH2) hB2).mono ?_
      rintro e w3 (⟨hs, q2, hl3, rfl, hR3, hH3, hK3⟩ | ⟨q2, v, hl3, rfl, hE3, _, hK3⟩)
      · have c3 : w3.cell? ⟨W.heap.size, 0, none⟩ = some (.pointer (some ⟨RB, 0, none⟩)) := hH3.box.cell
        have Hm3 := hide (must_any RB s q2 41 (by omega) w3 hR3)
        have HK3 := hide ((((unhide HK1).trans (unhide HK2)).mono fun q _ e => .inl e).trans hK3 : KeepR B0 RB W w3)
        have HH3 := hide hH3
        have hs3 := hK3.size
        have Hp3 := hide (show headP s p = match mustP s 41 q2 with
          | .error r => .error r
          | .ok p3 => .ok (hs, p3) by rw [unhide Hp, hl3])
        clear hR3 hH3 hK3 hl3
        go_wp2_with fail
        refine (unhide Hm3).mono ?_
        rintro e w4 (⟨q3, hm4, rfl, hR4, hK4⟩ | ⟨q3, v, hm4, rfl, hE4, hK4⟩)
        · obtain ⟨hv, hb, ho⟩ := ((unhide HH3).keep hK4).blk
          have HF := hide (show HeadSaid W B0 RB QB bv s p (.returned .nilIface) w4 from .inl ⟨hs, q3, hv, by rw [unhide Hp3, hm4], rfl, hR4, hb, ho, (unhide HK3).trans (hK4.mono fun q _ e => .inl e)⟩)
          clear hR4 hK4 hb ho hm4
          go_wp2
          go_ret
          exact unhide HF
        · have HF := hide (show HeadSaid W B0 RB QB bv s p (.returned v) w4 from .inr ⟨q3, v, by rw [unhide Hp3, hm4], rfl, hE4.mono (by omega), (unhide HK3).trans (hK4.mono fun q _ e => .inl e)⟩)
          clear hE4 hK4 hm4
          go_wp2
          go_ret
          exact unhide HF
      · obtain ⟨ty, b, rfl, hty⟩ := hE3.form
        have HF := hide (show HeadSaid W B0 RB QB bv s p (.returned (.iface ty (.pointer (some ⟨b, 0, none⟩)))) w3 from .inr ⟨q2, _, by rw [unhide Hp, hl3], rfl, hE3, (((unhide HK1).trans (unhide HK2)).mono fun q _ e => .inl e).trans hK3⟩)
        clear hE3 hK3 hl3
        go_wp2
        go_ret
        exact unhide HF
  · obtain ⟨ty, b, rfl, hty⟩ := hE1.form
    have HF := hide (show HeadSaid W B0 RB QB bv s p (.returned (.iface ty (.pointer (some ⟨b, 0, none⟩)))) w1 from .inr ⟨q, _, by unfold headP; rw [hm1], rfl, hE1.mono (by have := (unhide Hb2).size; omega), (((KeepX.ofBelow (unhide Hb2)).trans hK1).mono fun q _ e => .inl e)⟩)
    clear hE1 hK1 hm1
    go_wp2
    go_ret
    exact unhide HF

end Go.Proofs.YtgddkjhknlgbbaaGreatDoor

namespace Go.Proofs.YtgddkjhknlgbbaaGreatDoor
set_option linter.unusedVariables false
set_option linter.unusedSimpArgs false
open Go.RowKit Go.Maps

theorem Tryz.info185 : (Tryz.prog.info? 185).map (fun i => (i.zero, i.size, i.bytes)) = some (some (.agg #[.string ⟨#[]⟩, .int .i64 0, .slice none 0 0]), 3, 48) := by kernel_rfl

def atomsC (xs : List (AtomP × Value)) : List Value := xs.flatMap fun x => [.string x.1.nm, .int .i64 x.1.pl, x.2]

/-- A body that is being read. -/
structure BodyB (W : World) (B0 RB Bb Bq QB : Nat) (hv : Value) (hs : List (Nat × Nat)) (acc : List AtomP) : Prop where
  box : Boxed W Bb 160 (.pointer (some ⟨RB, 0, none⟩))
  boxq : Boxed W Bq 94 (.pointer (some ⟨QB, 0, none⟩))
  blk : ∃ bv xs, xs.map (·.1) = acc ∧ W.heap[QB]? = some (.cells #[hv, bv] 166 (0, 0)) ∧ W.ownsRow B0 185 3 bv xs.length (atomsC xs) ∧ ∀ x ∈ xs, W.ownsRow B0 187 2 x.2 x.1.ts.length (termsC x.1.ts)
  lo : Bb ≠ RB ∧ Bq ≠ RB ∧ B0 ≤ QB ∧ RB < B0
  head : W.ownsRow B0 208 2 hv hs.length (headC hs)

theorem BodyB.keep {W w : World} {B0 RB Bb Bq QB : Nat} {hv : Value} {hs : List (Nat × Nat)} {acc : List AtomP} (h : BodyB W B0 RB Bb Bq QB hv hs acc) (hk : KeepX (fun q => q = RB) W w) : BodyB w B0 RB Bb Bq QB hv hs acc := by
  obtain ⟨hb, hq, ⟨bv, xs, h0, h1, h2, h2'⟩, ⟨h3, h4, h5, h6⟩, h7⟩ := h
  exact ⟨(hk.blk Bb (Array.getElem?_eq_some_iff.1 hb).1 h3).trans hb, (hk.blk Bq (Array.getElem?_eq_some_iff.1 hq).1 h4).trans hq, ⟨bv, xs, h0, (hk.blk QB (Array.getElem?_eq_some_iff.1 h1).1 (by omega)).trans h1, own_keepR h2 hk (fun g hg => by omega), fun x hx => own_keepR (h2' x hx) hk (fun g hg => by omega)⟩, ⟨h3, h4, h5, h6⟩, own_keepR h7 hk (fun g hg => by omega)⟩

theorem own268_cells {W : World} {B0 n : Nat} {tv : Value} {xs : List Value} (h : W.ownsRow B0 185 3 tv n xs) {g : Nat} (hg : tv.ownBlock = some g) : B0 ≤ g ∧ ∃ cur, W.heap[g]? = some (.cells cur 185 (0, 0)) := by
  rcases h.2 with ⟨rfl, _⟩ | ⟨g', cap, cur, rfl, hb, hgh, _⟩
  · simp [Value.ownBlock] at hg
  · simp only [Value.ownBlock] at hg
    injection hg with hg
    subst hg
    exact ⟨hb, cur, hgh⟩

/-- The atom as it comes, and how it ends. -/
theorem atom_one (RB : Nat) (s : ByteArray) (p : Nat) (W : World) (h : Rdr W RB s p) :
    Calls Tryz.prog 112 #[.pointer (some ⟨RB, 0, none⟩)] W fun e w' => ∃ (n : ByteArray) (m : Int) (ta : Option Addr) (tn tc : Nat) (v : Value), e = .returned (.tuple #[.agg #[.string n, .int .i64 m, .slice ta tn tc], v]) ∧
      Hid ((∃ a q, atomP s p = .ok (a, q) ∧ v = .nilIface ∧ a.nm = n ∧ (a.pl : Int) = m ∧ Rdr w' RB s q ∧ w'.ownsRow W.heap.size 187 2 (.slice ta tn tc) a.ts.length (termsC a.ts)) ∨ (∃ q, atomP s p = .error q ∧ ErrAt W.heap.size w' v 5 q)) ∧ KeepX (fun q => q = RB) W w' := by
  refine (readAtom_any RB s p W h).mono ?_
  rintro e w' (⟨a, q, tv, h1, rfl, h2, h3, h4⟩ | ⟨q, v, n, m, ta, tn, tc, h1, rfl, h2, h3⟩)
  · obtain ⟨ta, tc, rfl, _⟩ := own_form h3
    exact ⟨a.nm, a.pl, ta, a.ts.length, tc, .nilIface, rfl, .inl ⟨a, q, h1, rfl, rfl, rfl, h2, h3⟩, h4⟩
  · exact ⟨n, m, ta, tn, tc, v, rfl, .inr ⟨q, h1, h2⟩, h3⟩

section
attribute [local go_sem ↓] inv_ap
set_option maxRecDepth 100000 in
set_option maxHeartbeats 2000000 in
theorem readBody1_any (RB Bb Bq QB B0 : Nat) (s : ByteArray) (hv : Value) (hs : List (Nat × Nat)) (p : Nat) (acc : List AtomP) (hacc : acc.length ≤ 100) (W : World) (h : Rdr W RB s p) (hA : BodyB W B0 RB Bb Bq QB hv hs acc) (hB0 : B0 ≤ W.heap.size) :
    Calls Tryz.prog 111 #[.pointer (some ⟨Bb, 0, none⟩), .pointer (some ⟨Bq, 0, none⟩)] W (ItemSaid B0 RB s (atomP s p) (fun x w => BodyB w B0 RB Bb Bq QB hv hs (acc ++ [x])) (fun _ => True) W) := by
  have cb : W.cell? ⟨Bb, 0, none⟩ = some (.pointer (some ⟨RB, 0, none⟩)) := hA.box.cell
  have H := hide (atom_one RB s p W h)
  have HA := hide hA
  clear hA h
  go_enter Tryz.func111, Tryz.ntmps111
  go_wp2_with fail
  refine (unhide H).mono ?_
  rintro e w1 ⟨n, m, ta, tn, tc, v, rfl, Hs, hK1⟩
  have hA1 := (unhide HA).keep hK1
  obtain ⟨w5, hw5⟩ : ∃ w5, w5 = w1.alloc (.cells #[.string n, .int .i64 m, .slice ta tn tc] 185) := ⟨_, rfl⟩
  have hb5 : Below w1.heap.size w1 w5 := by rw [hw5]; exact (Below.refl _ _).alloc (Nat.le_refl _) _
  have hA5 := hA1.keep (KeepX.ofBelow hb5)
  have hx5 : w5.heap[w1.heap.size]? = some (.cells #[.string n, .int .i64 m, .slice ta tn tc] 185 (0, 0)) := by rw [hw5]; exact heap_last _ _ _ rfl
  obtain ⟨bv, xs, hxs, hqb, hown, hall⟩ := hA5.blk
  have hxl : xs.length = acc.length := by rw [← hxs]; simp
  have hs5 : w1.heap.size < w5.heap.size := (Array.getElem?_eq_some_iff.1 hx5).1
  have hown' : w5.drew.ownsRow B0 185 3 bv xs.length (atomsC xs) := own_keepR hown (KeepX.ofBelow (X := fun _ => False) (belowD _ _)) (fun _ _ h => h)
  obtain ⟨g', cap', w6, hA6, hown6, hg6⟩ := apAny (w2 := w5.drew) #[.string n, .int .i64 m, .slice ta tn tc] 164 185 Tryz.underlying164 Tryz.info185 rfl (by decide) rfl (by simp [Value.oneCell']) hown' (Nat.le_trans hB0 (Nat.le_trans hK1.size hb5.size)) (by omega) (by omega)
  have hbA : Below w5.heap.size w5 (w5.drew.alloc (.cells #[.string n, .int .i64 m, .slice ta tn tc] 185)) := (belowD _ _).alloc (Nat.le_refl _) _
  have hql : QB < w5.heap.size := (Array.getElem?_eq_some_iff.1 hqb).1
  have hbql : Bq < w5.heap.size := hA5.boxq.lt
  have hbbl : Bb < w5.heap.size := hA5.box.lt
  have hA6' : (apSem #[164, 164] 164 #[bv, .slice (some ⟨w5.heap.size, 0, none⟩) 1 1]).run Tryz.prog (w5.alloc (.cells #[.string n, .int .i64 m, .slice ta tn tc] 185)).drew = .ok (.slice (some ⟨g', 0, none⟩) (xs.length + 1) cap') w6 := hA6
  have q1 : w5.drew.cell? ⟨Bq, 0, none⟩ = some (.pointer (some ⟨QB, 0, none⟩)) := hA5.boxq.cell
  have q0 : w5.drew.cell? ⟨QB, 1, none⟩ = some bv := cell_of_heap hqb 1
  have y0 : w5.drew.cell? ⟨w1.heap.size, 0, none⟩ = some (.string n) := cell_of_heap hx5 0
  have y1 : w5.drew.cell? ⟨w1.heap.size, 1, none⟩ = some (.int .i64 m) := cell_of_heap hx5 1
  have y2 : w5.drew.cell? ⟨w1.heap.size, 2, none⟩ = some (.slice ta tn tc) := cell_of_heap hx5 2
  have q1A : (w5.alloc (.cells #[.string n, .int .i64 m, .slice ta tn tc] 185)).drew.cell? ⟨Bq, 0, none⟩ = some (.pointer (some ⟨QB, 0, none⟩)) := (hbA.cell (p := ⟨Bq, 0, none⟩) hbql).trans hA5.boxq.cell
  have q0A : (w5.alloc (.cells #[.string n, .int .i64 m, .slice ta tn tc] 185)).drew.cell? ⟨QB, 1, none⟩ = some bv := (hbA.cell (p := ⟨QB, 1, none⟩) hql).trans (cell_of_heap hqb 1)
  have hnq : bv.ownBlock ≠ some QB := fun e => by
    obtain ⟨_, cur, hc⟩ := own268_cells hown e
    rw [hqb] at hc; simp at hc
  have hnb : bv.ownBlock ≠ some Bb := fun e => by
    obtain ⟨_, cur, hc⟩ := own268_cells hown e
    rw [show w5.heap[Bb]? = _ from hA5.box] at hc; simp at hc
  have hnB : bv.ownBlock ≠ some Bq := fun e => by
    obtain ⟨_, cur, hc⟩ := own268_cells hown e
    rw [show w5.heap[Bq]? = _ from hA5.boxq] at hc; simp at hc
  have hK6 : KeepX (fun q => bv.ownBlock = some q) w5 w6 := (KeepX.ofBelow hbA).trans ⟨hg6.os, hg6.tape, hg6.output, hg6.size, fun q hq hx => hg6.block q hq (fun e => hx e.symm)⟩
  have hqb6 := (hK6.blk QB hql hnq).trans hqb
  have hbq6 : Boxed w6 Bq 94 (.pointer (some ⟨QB, 0, none⟩)) := (hK6.blk Bq hbql hnB).trans hA5.boxq
  have q1B : w6.cell? ⟨Bq, 0, none⟩ = some (.pointer (some ⟨QB, 0, none⟩)) := hbq6.cell
  have q0B : w6.cell? ⟨QB, 1, none⟩ = some bv := cell_of_heap hqb6 1
  have fB : w6.frozen? ⟨QB, 1, none⟩ = false := frozen_of_heap hqb6 1
  have hgQ : g' ≠ QB := fun e => by
    obtain ⟨_, cur, hc⟩ := own268_cells hown6 (g := g') rfl
    rw [e, hqb6] at hc; simp at hc
  have hnqq : Bb ≠ QB ∧ Bq ≠ QB := ⟨fun e => by have h1 := hqb; rw [← e, show w5.heap[Bb]? = _ from hA5.box] at h1; simp at h1, fun e => by have h1 := hqb; rw [← e, show w5.heap[Bq]? = _ from hA5.boxq] at h1; simp at h1⟩
  obtain ⟨hl1, hl2, hl3, hl4⟩ := hA5.lo
  have hFin : ItemSaid B0 RB s (atomP s p) (fun x w => BodyB w B0 RB Bb Bq QB hv hs (acc ++ [x])) (fun _ => True) W (.returned v) (w6.setCell ⟨QB, 1, none⟩ (.slice (some ⟨g', 0, none⟩) (xs.length + 1) cap')) := by
    have hK7 : KeepX (fun q => bv.ownBlock = some q ∨ q = QB) w5 (w6.setCell ⟨QB, 1, none⟩ (.slice (some ⟨g', 0, none⟩) (xs.length + 1) cap')) := (hK6.mono fun q _ e => .inl e).trans ((keepX_set1 w6 QB 1 _).mono fun q _ e => .inr e)
    have hX : ∀ q, (bv.ownBlock = some q ∨ q = QB) → B0 ≤ q := fun q hq => by
      rcases hq with hq | hq
      · exact (own268_cells hown hq).1
      · omega
    have hXW : ∀ q, (bv.ownBlock = some q ∨ q = QB) → q < W.heap.size := fun q hq => by
      obtain ⟨bv', xs', _, hqb0, hown0, _⟩ := (unhide HA).blk
      have hq0 : QB < W.heap.size := (Array.getElem?_eq_some_iff.1 hqb0).1
      rcases hq with hq | hq
      · have e1 := (hK1.blk QB hq0 (by omega)).trans hqb0
        have e2 := (hb5.block QB (Nat.lt_of_lt_of_le hq0 hK1.size)).trans e1
        rw [hqb] at e2
        simp at e2
        rw [e2] at hq
        obtain ⟨_, cur, hc⟩ := own268_cells hown0 hq
        exact (Array.getElem?_eq_some_iff.1 hc).1
      · omega
    have hKW : KeepR B0 RB W (w6.setCell ⟨QB, 1, none⟩ (.slice (some ⟨g', 0, none⟩) (xs.length + 1) cap')) := ((hK1.mono fun q _ e => .inl e).trans (KeepX.ofBelow hb5)).trans (hK7.mono fun q _ e => .inr (hX q e))
    rcases unhide Hs with ⟨a, q, h1, rfl, rfl, rfl, hR, ho⟩ | ⟨q, h1, hE⟩
    · have hR5 := hR.below hb5
      refine .inl ⟨a, q, h1, rfl, hR5.keep (hK7.blk RB hR5.lt (fun e => by have := hX RB e; omega)), ?_, hKW⟩
      have hox : ∀ (u : Value) (k : Nat) (l : List Value), w5.ownsRow B0 187 2 u k l → (w6.setCell ⟨QB, 1, none⟩ (.slice (some ⟨g', 0, none⟩) (xs.length + 1) cap')).ownsRow B0 187 2 u k l := fun u k l hu => own_keepX hu hK7 (fun g hg => by
        obtain ⟨_, cur, hc⟩ := own327_cells hu hg
        rintro (e | e)
        · obtain ⟨_, cur', hc'⟩ := own268_cells hown e
          rw [hc] at hc'; simp at hc'
        · rw [e, hqb] at hc; simp at hc)
      refine ⟨(hK7.blk Bb hbbl (fun e => e.elim hnb hnqq.1)).trans hA5.box, (hK7.blk Bq hbql (fun e => e.elim hnB hnqq.2)).trans hA5.boxq, ⟨.slice (some ⟨g', 0, none⟩) (xs.length + 1) cap', xs ++ [(a, .slice ta tn tc)], by simp [hxs], ?_, ?_, fun x hx => ?_⟩, ⟨hl1, hl2, hl3, hl4⟩, own_keepX hA5.head hK7 (fun g hg => by
        obtain ⟨_, cur, hc⟩ := own307_cells hA5.head hg
        rintro (e | e)
        · obtain ⟨_, cur', hc'⟩ := own268_cells hown e
          rw [hc] at hc'; simp at hc'
        · rw [e, hqb] at hc; simp at hc)⟩
      · simp only [World.setCell]
        rw [Array.getElem?_modify, if_pos rfl, hqb6]
        rfl
      · have e : atomsC (xs ++ [(a, .slice ta tn tc)]) = atomsC xs ++ [.string a.nm, .int .i64 a.pl, .slice ta tn tc] := by simp [atomsC]
        rw [e, List.length_append]
        refine own_keepX hown6 (keepX_set1 w6 QB 1 _) (fun g hg => ?_)
        simp only [Value.ownBlock] at hg
        injection hg with hg
        omega
      · rcases List.mem_append.1 hx with hx | hx
        · exact hox _ _ _ (hall x hx)
        · simp at hx
          subst hx
          exact hox _ _ _ (own_baseG (own_keepR ho (KeepX.ofBelow (X := fun _ => False) hb5) (fun _ _ h => h)) hB0)
    · exact .inr ⟨q, v, h1, rfl, ((hE.bel hb5).keep hK7 (fun k hk => hXW k hk)).mono hB0, trivial, hKW⟩
  have HFin := hide hFin
  clear hA6 hFin hK1 hA1 hA5 hqb hown hown' hown6 hg6 hbA hK6 hqb6 hbq6 hnq hnb hnB hall hx5 hb5 hxs Hs hxl
  go_wp2_with fail
  rw [← hw5]
  clear hw5
  go_region_with fail
  all_goals
    go_wp2
    go_ret
    exact unhide HFin
end

end Go.Proofs.YtgddkjhknlgbbaaGreatDoor
