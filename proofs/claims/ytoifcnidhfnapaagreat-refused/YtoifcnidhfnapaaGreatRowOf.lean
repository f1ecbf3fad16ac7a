import Derived.Test.YtoifcnidhfnapaaGreatWts
import Derived.Laws.CopyOwn
namespace Go.Proofs.YtoifcnidhfnapaaGreat
set_option linter.unusedVariables false
set_option linter.unusedSimpArgs false
open Go.RowKit Go.Maps

def padRow (zs : List Int) : Row := (zs[0]?.getD 0, zs[1]?.getD 0, zs[2]?.getD 0)

theorem Tryz.infoSize2 : (Tryz.prog.info? 2).map (·.size) = some 1 := by kernel_rfl

theorem pad_splice (zs : List Int) (h : zs.length ≤ 3) : splice [Value.int .i64 0, .int .i64 0, .int .i64 0] 0 (zs.map (Value.int .i64)) = [.int .i64 (padRow zs).1, .int .i64 (padRow zs).2.1, .int .i64 (padRow zs).2.2] := by
  match zs, h with
  | [], _ => rfl
  | [_], _ => rfl
  | [_, _], _ => rfl
  | [_, _, _], _ => rfl

theorem cell_of_heap {w : World} {g : Nat} {cs : Array Value} {t : TypeId} {fr : Nat × Nat} (h : w.heap[g]? = some (.cells cs t fr)) (o : Nat) : w.cell? ⟨g, o, none⟩ = cs[o]? := by
  simp [World.cell?, h]
theorem frozen_of_heap {w : World} {g : Nat} {cs : Array Value} {t : TypeId} (h : w.heap[g]? = some (.cells cs t (0, 0))) (o : Nat) : w.frozen? ⟨g, o, none⟩ = false := by
  simp [World.frozen?, h]

set_option maxRecDepth 100000 in
set_option maxHeartbeats 400000 in
theorem rowOf_any (v : Value) (zs : List Int) (w : World) (hv : IntsAt w v zs) (hl : zs.length ≤ 3) :
    Calls Tryz.prog 33 #[v] w fun e w' => e = .returned (rowVal (padRow zs)) ∧ Below w.heap.size w w' := by
  obtain ⟨a, cap, rfl, hc⟩ := hv
  have Hc := hide hc
  clear hc
  have hmin : (zs.map (Value.int .i64)).length = Nat.min zs.length 3 := by
    rw [List.length_map]
    exact (Nat.min_eq_left hl).symm
  have Hpos : Hid (0 < (zs.map (Value.int .i64)).length → some (⟨w.heap.size + 1, 0, none⟩ : Addr) = some ⟨w.heap.size + 1, 0, none⟩ ∧ ∃ ad, a = some ad ∧ ∀ j u, (zs.map (Value.int .i64))[j]? = some u →
      ((w.alloc (.cells #[.int .i64 0, .int .i64 0, .int .i64 0] 62)).alloc (.cells #[.int .i64 0, .int .i64 0, .int .i64 0] 62)).cell? (ad.add j) = some u) := by
    intro hpos
    refine ⟨rfl, ?_⟩
    rw [List.length_map] at hpos
    obtain ⟨b, o, ha, _⟩ := (unhide Hc) 0 hpos
    refine ⟨_, ha, fun j u hj => ?_⟩
    have hjl : j < zs.length := by simpa using (List.getElem?_eq_some_iff.1 hj).1
    obtain ⟨b', o', ha', hcell⟩ := (unhide Hc) j hjl
    rw [ha] at ha'
    cases ha'
    have hbl : b < w.heap.size := World.block_lt_of_cell? w _ hcell
    rw [Addr.add_lit, (((Below.refl _ w).alloc (Nat.le_refl _) _).alloc (by simp) _).cell (p := ⟨b, o + j, none⟩) hbl, hcell]
    simp [hjl] at hj ⊢
    exact hj
  have hsp := pad_splice zs hl
  obtain ⟨p, hp⟩ : ∃ p, p = padRow zs := ⟨_, rfl⟩
  rw [← hp] at hsp ⊢
  clear hp
  have Hsp := hide hsp
  clear hsp
  go_enter Tryz.func33, Tryz.ntmps33
  go_wp2_with (first
    | (refine wpList_copy_splice rfl (.tmp 4) (.tmp 5) 35 35 rfl 2 Tryz.underlying35 Tryz.infoSize2 (some ⟨w.heap.size + 1, 0, none⟩) a 3 3 zs.length cap rfl rfl (w.heap.size + 1) 0 [.int .i64 0, .int .i64 0, .int .i64 0] 62 (heap_last _ _ _ (by simp)) (zs.map (Value.int .i64)) hmin (unhide Hpos) (by simpa using hl) (ints_oneCell _ _) (w.heap.size + 1) _ (Below.refl _ _) (Nat.le_refl _) ?_; intro w1 hg1 hb1; rw [unhide Hsp] at hg1
       have c0 : w1.cell? ⟨w.heap.size + 1, 0, none⟩ = some (.int .i64 p.1) := cell_of_heap hg1.out 0
       have c1 : w1.cell? ⟨w.heap.size + 1, 1, none⟩ = some (.int .i64 p.2.1) := cell_of_heap hg1.out 1
       have c2 : w1.cell? ⟨w.heap.size + 1, 2, none⟩ = some (.int .i64 p.2.2) := cell_of_heap hg1.out 2
       have k0 : w1.heap[w.heap.size]? = some (.cells #[.int .i64 0, .int .i64 0, .int .i64 0] 62 (0, 0)) := by
         rw [hb1.block w.heap.size (by omega)]; rw [Below.heap_alloc _ _ _ (by simp)]; exact heap_last _ _ _ rfl
       have d0 : w1.cell? ⟨w.heap.size, 0, none⟩ = some (.int .i64 0) := cell_of_heap k0 0
       have d1 : w1.cell? ⟨w.heap.size, 1, none⟩ = some (.int .i64 0) := cell_of_heap k0 1
       have d2 : w1.cell? ⟨w.heap.size, 2, none⟩ = some (.int .i64 0) := cell_of_heap k0 2
       have f0 := frozen_of_heap k0 0
       have f1 := frozen_of_heap k0 1
       have f2 := frozen_of_heap k0 2
       have HB := hide (((Below.refl w.heap.size w).alloc (Nat.le_refl _) (.cells #[.int .i64 0, .int .i64 0, .int .i64 0] 62)).alloc (by simp) (.cells #[.int .i64 0, .int .i64 0, .int .i64 0] 62) |>.trans (hb1.mono (Nat.le_succ _)))
       clear k0 hb1 hg1))
  refine bodyPost_ret (v := rowVal p) (by simp [results, Tryz.results33, go_sem, d0, d1, d2, f0, f1, f2, rowVal]) rfl ?_
  exact ⟨rfl, (((unhide HB).setCell (p := ⟨w.heap.size, 0, none⟩) (Nat.le_refl _) _).setCell (p := ⟨w.heap.size, 1, none⟩) (Nat.le_refl _) _).setCell (p := ⟨w.heap.size, 2, none⟩) (Nat.le_refl _) _⟩

end Go.Proofs.YtoifcnidhfnapaaGreat
