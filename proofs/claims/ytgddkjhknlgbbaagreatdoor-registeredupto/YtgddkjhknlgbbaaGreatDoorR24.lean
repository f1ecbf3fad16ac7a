import Derived.BigRegion
import Derived.Test.YtgddkjhknlgbbaaGreatDoorR23
set_option linter.unusedVariables false
set_option linter.unusedSimpArgs false

set_option linter.unusedVariables false
set_option linter.unusedSimpArgs false

namespace Go.Proofs.YtgddkjhknlgbbaaGreatDoor
set_option linter.unusedVariables false
set_option linter.unusedSimpArgs false
open Go.RowKit Go.Maps

set_option maxRecDepth 100000 in
set_option maxHeartbeats 8000000 in
theorem step_create (o : Nat → Nat) (W : World) (wb : Nat) (ps : List (Nat × Nat)) (zss : List ZV) (hs : List Nat) (N B0 : Nat) (h : Law o W wb ps zss hs N B0) (hpos : 0 < ps.length) (hpl : ps.length ≤ 1000000000) (hB : B0 ≤ W.heap.size) (m a : Int) (s t u : ByteArray) (p : Option Addr) (nb cb : Nat) (hsz : s.size ≤ 9223372036854775807) :
    Calls Tryz.prog 9 #[.pointer (some ⟨wb, 0, none⟩), opV 2 m a s t u (.slice p nb cb)] W fun e w' => e = .returned (.bool true) ∧ ∃ o' zss', Law o' w' wb ps zss' hs N B0 ∧ Mid (fun b => o b ≠ 0) W w' := by
  obtain ⟨pv, hv, base, hS, hpv, hwb, hcp, hch⟩ := h.ex
  obtain ⟨j, r, hj, hr, hr1, hr2, hjj⟩ := pick_pair m ps.length hpos
  obtain ⟨pp, cp, hpe, _, hpn, hps⟩ := own_form hpv
  cases pp with
  | none => have := hpn rfl; omega
  | some ad =>
  obtain ⟨gp, rfl, _, hgl, hcl⟩ := hps ad rfl
  obtain ⟨eb, heb⟩ : ∃ eb, eb = (ps[j]?.getD (0, 0)).1 := ⟨_, rfl⟩
  obtain ⟨fb, hfb⟩ : ∃ fb, fb = (ps[j]?.getD (0, 0)).2 := ⟨_, rfl⟩
  have hpc := cellsP_at ps j hj
  have hp0 := hcl (j * 2) (by omega)
  have hp1 := hcl (j * 2 + 1) (by omega)
  rw [hpc.1, ← heb] at hp0
  rw [hpc.2, ← hfb] at hp1
  have hwl := heap_lt hS.box
  obtain ⟨w1, hw1⟩ : ∃ w1, w1 = W.alloc (.cells #[.int .i64 2, .int .i64 m, .int .i64 a, .string s, .string t, .string u, .slice p nb cb] 34) := ⟨_, rfl⟩
  have x1 : w1.heap[W.heap.size]? = some (Obj.cells #[.int .i64 2, .int .i64 m, .int .i64 a, .string s, .string t, .string u, .slice p nb cb] 34 (0, 0)) := by rw [hw1]; exact heap_last _ _ _ rfl
  have hb1 : Below W.heap.size W w1 := by rw [hw1]; exact (Below.refl _ _).alloc (Nat.le_refl _) _
  have hbox1 := (hb1.block wb hwl).trans hS.box
  rw [hpe] at hbox1
  have y0 : w1.cell? ⟨W.heap.size, 0, none⟩ = some (.int .i64 2) := cell_of_heap x1 0
  have y1 : w1.cell? ⟨W.heap.size, 1, none⟩ = some (.int .i64 m) := cell_of_heap x1 1
  have b0 : w1.cell? ⟨wb, 0, none⟩ = some (.slice (some ⟨gp, 0, none⟩) ps.length cp) := cell_of_heap hbox1 0
  have e0 := (hb1.cell (p := ⟨gp, _, none⟩) hgl).trans hp0
  have e1 := (hb1.cell (p := ⟨gp, _, none⟩) hgl).trans hp1
  have s1 : W.heap.size < w1.heap.size := heap_lt x1
  have s2 : wb < w1.heap.size := by omega
  have s3 : gp < w1.heap.size := by omega
  have hn0 : ¬ ps.length = 0 := by omega
  have hjx : (j : Int) < (ps.length : Int) := by omega
  obtain ⟨w2, hw2⟩ : ∃ w2, w2 = (w1.alloc (.cells #[.pointer (some ⟨eb, 0, none⟩), .pointer (some ⟨fb, 0, none⟩)] 43)).drew := ⟨_, rfl⟩
  have hb2 : Below w1.heap.size w1 w2 := by rw [hw2]; exact ((Below.refl _ _).alloc (Nat.le_refl _) _).trans ((Drawn.refl _).drew.below _)
  have x2 : w2.heap[w1.heap.size]? = some (Obj.cells #[.pointer (some ⟨eb, 0, none⟩), .pointer (some ⟨fb, 0, none⟩)] 43 (0, 0)) := by
    rw [hw2]
    have h0 : (w1.alloc (.cells #[.pointer (some ⟨eb, 0, none⟩), .pointer (some ⟨fb, 0, none⟩)] 43)).heap[w1.heap.size]? = some (Obj.cells #[.pointer (some ⟨eb, 0, none⟩), .pointer (some ⟨fb, 0, none⟩)] 43 (0, 0)) := heap_last _ _ _ rfl
    exact h0
  have x12 := (hb2.block W.heap.size s1).trans x1
  have hB12 : Below W.heap.size W w2 := hb1.trans (hb2.mono (by omega))
  have hs2 := hB12.size
  have hLaw := h.below hB12
  have hE := hLaw.eng j hj
  have hR := hLaw.ref j hj
  have hz := hLaw.ok j hj
  rw [← heb] at hE
  rw [← hfb] at hR
  have X1 := hide x12
  have X2 := hide x2
  have Hw1 := hide hw1
  have Hw2 := hide hw2
  have HLaw := hide hLaw
  have HB12 := hide hB12
  have HE := hide hE
  have HR := hide hR
  have Hz := hide hz
  have Heb := hide heb
  have Hfb := hide hfb
  have H := hide h
  obtain ⟨n, hnn⟩ : ∃ n, n = ps.length := ⟨_, rfl⟩
  rw [← hnn] at b0 hn0 hjx hr hr1 hr2 hjj
  have hnb : n ≤ 1000000000 := by omega
  have hnp : 0 < n := by omega
  have Hj := hide hj
  clear h hS hpv hwb hcp hch hpn hps hcl hpc hp0 hp1 x1 hb1 hbox1 hw1 hw2 hb2 x2 x12 hB12 hLaw hE hR hz heb hfb hpe hj hnn hpos hpl
  unfold opV
  go_enter Tryz.func9, Tryz.ntmps9
  go_upto_region 1 with fail
  rw [← unhide Hw1]
  go_wp2
  go_region
  rw [← unhide Hw2]
  have z0 : w2.cell? ⟨w1.heap.size, 0, none⟩ = some (.pointer (some ⟨eb, 0, none⟩)) := cell_of_heap (unhide X2) 0
  have z1 : w2.cell? ⟨w1.heap.size, 1, none⟩ = some (.pointer (some ⟨fb, 0, none⟩)) := cell_of_heap (unhide X2) 1
  have o0 : w2.cell? ⟨W.heap.size, 0, none⟩ = some (.int .i64 2) := cell_of_heap (unhide X1) 0
  have o1 : w2.cell? ⟨W.heap.size, 1, none⟩ = some (.int .i64 m) := cell_of_heap (unhide X1) 1
  have o2 : w2.cell? ⟨W.heap.size, 2, none⟩ = some (.int .i64 a) := cell_of_heap (unhide X1) 2
  have o3 : w2.cell? ⟨W.heap.size, 3, none⟩ = some (.string s) := cell_of_heap (unhide X1) 3
  have o4 : w2.cell? ⟨W.heap.size, 4, none⟩ = some (.string t) := cell_of_heap (unhide X1) 4
  have o5 : w2.cell? ⟨W.heap.size, 5, none⟩ = some (.string u) := cell_of_heap (unhide X1) 5
  have o6 : w2.cell? ⟨W.heap.size, 6, none⟩ = some (.slice p nb cb) := cell_of_heap (unhide X1) 6
  have t1l : w1.heap.size < w2.heap.size := heap_lt (unhide X2)
  have t0l : W.heap.size < w2.heap.size := by omega
  clear y0 y1 b0 e0 e1 hr hjj hr1 hr2
  have Hc := hide (engCreateV _ w2 eb (zss[j]?.getD zV0) N s a (unhide HE) (unhide Hz) hsz)
  go_wp2_with fail
  refine (unhide Hc).mono ?_
  rintro e w3 ⟨rfl, hE3, hM3⟩
  have hs3 := hM3.size
  have hk3 : ∀ b, b < w2.heap.size → o b ≠ 2 * j + 2 → w3.heap[b]? = w2.heap[b]? := fun b hb hc => hM3.block b hb hc
  have hW0 : o W.heap.size = 0 := (unhide H).fresh _ (Nat.le_refl _)
  have hw0 : o w1.heap.size = 0 := (unhide H).fresh _ (by omega)
  have q1 : w3.cell? ⟨w1.heap.size, 1, none⟩ = some (.pointer (some ⟨fb, 0, none⟩)) := by rw [World.cell?_of_block (w := w2) (a := ⟨w1.heap.size, 1, none⟩) (hk3 w1.heap.size t1l (by omega))]; exact z1
  have q2 : w3.cell? ⟨W.heap.size, 2, none⟩ = some (.int .i64 a) := by rw [World.cell?_of_block (w := w2) (a := ⟨W.heap.size, 2, none⟩) (hk3 W.heap.size t0l (by omega))]; exact o2
  have q3 : w3.cell? ⟨W.heap.size, 3, none⟩ = some (.string s) := by rw [World.cell?_of_block (w := w2) (a := ⟨W.heap.size, 3, none⟩) (hk3 W.heap.size t0l (by omega))]; exact o3
  have hR3 := (unhide HR).kept (W' := w3) (fun b hb hlt => hk3 b hlt (by omega))
  have Hr := hide (refCreateV _ w3 fb (zss[j]?.getD zV0) s a hR3 (unhide Hz) hsz)
  have HE3 := hide hE3
  have HM3 := hide hM3
  clear hE3 hM3 hk3 hR3 hW0 hw0 Hc z0 z1 o0 o1 o2 o3 o4 o5 o6
  generalize hcc : createC (zss[j]?.getD zV0).1 s a = cc at *
  go_wp2_with fail
  refine (unhide Hr).mono ?_
  rintro e w4 ⟨rfl, hR4, hM4⟩
  have hfin : ∃ o' zss', Law o' w4 wb ps zss' hs N B0 ∧ Mid (fun b => o b ≠ 0) W w4 := by
    have hE3 := unhide HE3
    rw [unhide Heb] at hE3
    rw [unhide Hfb] at hR4
    obtain ⟨o', g1, g2⟩ := (unhide HLaw).made (unhide Hj) (unhide HM3) hM4 hE3 (Nat.le_refl _) hR4 ((unhide Hz).created s a) (by omega)
    exact ⟨o', _, g1, Mid.after (unhide HB12) g2⟩
  have Hfin := hide hfin
  have hcq : (cc == cc) = true := by simp
  clear hfin hR4 hM4 Hr hcc
  go_wp2
  go_ret
  exact ⟨by simp, unhide Hfin⟩

end Go.Proofs.YtgddkjhknlgbbaaGreatDoor
