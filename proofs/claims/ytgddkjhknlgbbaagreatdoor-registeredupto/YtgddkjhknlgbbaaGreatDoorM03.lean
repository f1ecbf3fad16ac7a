import Derived.Test.YtgddkjhknlgbbaaGreatDoorM02
import Derived.Laws.CopyOwn
set_option linter.unusedVariables false
set_option linter.unusedSimpArgs false

namespace Go.Proofs.YtgddkjhknlgbbaaGreatDoor
set_option linter.unusedVariables false
set_option linter.unusedSimpArgs false
open Go.RowKit Go.Maps

def padRow (zs : List Int) : Row := (zs[0]?.getD 0, zs[1]?.getD 0, zs[2]?.getD 0)

theorem Tryz.infoSize2 : (Tryz.prog.info? 2).map (·.size) = some 1 := by kernel_rfl

theorem pad_splice (zs : List Int) (h : zs.length ≤ 3) : splice [Value.int .i64 0, .int .i64 0, .int .i64 0] 0 (zs.map (Value.int .i64)) = [.int .i64 (padRow zs).1, .int .i64 (padRow zs).2.1, .int .i64 (padRow zs).2.2] := by
  match zs, h with
  | [], _ => rfl
  | [_], _ => rfl
  | [_, _], _ => rfl
  | [_, _, _], _ => rfl

theorem cell_of_heap {w : World} {g : Nat} {cs : Array Value} {t : TypeId} {fr : Nat × Nat} (h : w.heap[g]? = some (.cells cs t fr)) (o : Nat) : w.cell? ⟨g, o, none⟩ = cs[o]? := by
  simp [World.cell?, h]
theorem frozen_of_heap {w : World} {g : Nat} {cs : Array Value} {t : TypeId} (h : w.heap[g]? = some (.cells cs t (0, 0))) (o : Nat) : w.frozen? ⟨g, o, none⟩ = false := by
  simp [World.frozen?, h]

set_option maxRecDepth 100000 in
set_option maxHeartbeats 400000 in
theorem rowOf_any (v : Value) (zs : List Int) (w : World) (hv : IntsAt w v zs) (hl : zs.length ≤ 3) :
    Calls Tryz.prog 66 #[v] w fun e w' => e = .returned (rowVal (padRow zs)) ∧ Below w.heap.size w w' := by
  obtain ⟨a, cap, rfl, hc⟩ := hv
  have Hc := hide hc
  clear hc
  have hmin : (zs.map (Value.int .i64)).length = Nat.min zs.length 3 := by
    rw [List.length_map]
    exact (Nat.min_eq_left hl).symm
  have Hpos : Hid (0 < (zs.map (Value.int .i64)).length → some (⟨w.heap.size + 1, 0, none⟩ : Addr) = some ⟨w.heap.size + 1, 0, none⟩ ∧ ∃ ad, a = some ad ∧ ∀ j u, (zs.map (Value.int .i64))[j]? = some u →
      ((w.alloc (.cells #[.int .i64 0, .int .i64 0, .int .i64 0] 127)).alloc (.cells #[.int .i64 0, .int .i64 0, .int .i64 0] 127)).cell? (ad.add j) = some u) := by
    intro hpos
    refine ⟨rfl, ?_⟩
    rw [List.length_map] at hpos
    obtain ⟨b, o, ha, _⟩ := (unhide Hc) 0 hpos
    refine ⟨_, ha, fun j u hj => ?_⟩
    have hjl : j < zs.length := by simpa using (List.getElem?_eq_some_iff.1 hj).1
    obtain ⟨b', o', ha', hcell⟩ := (unhide Hc) j hjl
    rw [ha] at ha'
    cases ha'
    have hbl : b < w.heap.size := World.block_lt_of_cell? w _ hcell
    rw [Addr.add_lit, (((Below.refl _ w).alloc (Nat.le_refl _) _).alloc (by simp) _).cell (p := ⟨b, o + j, none⟩) hbl, hcell]
    simp [hjl] at hj ⊢
    exact hj
  have hsp := pad_splice zs hl
  obtain ⟨p, hp⟩ : ∃ p, p = padRow zs := ⟨_, rfl⟩
  rw [← hp] at hsp ⊢
  clear hp
  have Hsp := hide hsp
  clear hsp
  go_enter Tryz.func66, Tryz.ntmps66
  go_wp2_with (first
    | (refine wpList_copy_splice rfl (.tmp 4) (.tmp 5) 73 73 rfl 2 Tryz.underlying73 Tryz.infoSize2 (some ⟨w.heap.size + 1, 0, none⟩) a 3 3 zs.length cap rfl rfl (w.heap.size + 1) 0 [.int .i64 0, .int .i64 0, .int .i64 0] 127 (heap_last _ _ _ (by simp)) (zs.map (Value.int .i64)) hmin (unhide Hpos) (by simpa using hl) (ints_oneCell _ _) (w.heap.size + 1) _ (Below.refl _ _) (Nat.le_refl _) ?_; intro w1 hg1 hb1; rw [unhide Hsp] at hg1
       have c0 : w1.cell? ⟨w.heap.size + 1, 0, none⟩ = some (.int .i64 p.1) := cell_of_heap hg1.out 0
       have c1 : w1.cell? ⟨w.heap.size + 1, 1, none⟩ = some (.int .i64 p.2.1) := cell_of_heap hg1.out 1
       have c2 : w1.cell? ⟨w.heap.size + 1, 2, none⟩ = some (.int .i64 p.2.2) := cell_of_heap hg1.out 2
       have k0 : w1.heap[w.heap.size]? = some (.cells #[.int .i64 0, .int .i64 0, .int .i64 0] 127 (0, 0)) := by
         rw [hb1.block w.heap.size (by omega)]; rw [Below.heap_alloc _ _ _ (by simp)]; exact heap_last _ _ _ rfl
       have d0 : w1.cell? ⟨w.heap.size, 0, none⟩ = some (.int .i64 0) := cell_of_heap k0 0
       have d1 : w1.cell? ⟨w.heap.size, 1, none⟩ = some (.int .i64 0) := cell_of_heap k0 1
       have d2 : w1.cell? ⟨w.heap.size, 2, none⟩ = some (.int .i64 0) := cell_of_heap k0 2
       have f0 := frozen_of_heap k0 0
       have f1 := frozen_of_heap k0 1
       have f2 := frozen_of_heap k0 2
       have HB := hide (((Below.refl w.heap.size w).alloc (Nat.le_refl _) (.cells #[.int .i64 0, .int .i64 0, .int .i64 0] 127)).alloc (by simp) (.cells #[.int .i64 0, .int .i64 0, .int .i64 0] 127) |>.trans (hb1.mono (Nat.le_succ _)))
       clear k0 hb1 hg1))
  refine bodyPost_ret (v := rowVal p) (by simp [results, Tryz.results66, go_sem, d0, d1, d2, f0, f1, f2, rowVal]) rfl ?_
  exact ⟨rfl, (((unhide HB).setCell (p := ⟨w.heap.size, 0, none⟩) (Nat.le_refl _) _).setCell (p := ⟨w.heap.size, 1, none⟩) (Nat.le_refl _) _).setCell (p := ⟨w.heap.size, 2, none⟩) (Nat.le_refl _) _⟩

end Go.Proofs.YtgddkjhknlgbbaaGreatDoor

namespace Go.Proofs.YtgddkjhknlgbbaaGreatDoor
open Go.RowKit Go.Maps

theorem grown_below {w w' : World} {b : Nat} (h : w.grownBy w' (some b)) (hb : w.heap.size ≤ b) : Below w.heap.size w w' :=
  (Below.refl _ _).grown h (Nat.le_refl _) (fun k e => by cases e; exact hb)

/-- How a pointer to a block's head reads; how a map reads: by its block's number. -/
def ptrElem : Value → Option (DataW Unit × List MemPlace)
  | .pointer (some ⟨b, 0, none⟩) => some (.lit (.int .i64 b), [])
  | .pointer none => some (.lit (.int .i64 (-1)), [])
  | _ => none
def mapElem : Value → Option (DataW Unit × List MemPlace)
  | .map (some b) => some (.lit (.int .i64 b), [])
  | .map none => some (.lit (.int .i64 (-1)), [])
  | _ => none

def strLit (s : ByteArray) : Lit := .string s.data.toList

theorem strLit_inj {a b : ByteArray} (h : strLit a = strLit b) : a = b := by
  unfold strLit at h
  injection h with h
  cases a; cases b
  simp at h
  rw [h]

theorem keyOf_str {s : ByteArray} (h : s.size ≤ maxLen) : keyOf Tryz.prog 9 (.string s) = some (strLit s) := by simp [keyOf, Tryz.underlying9, mapKey, h, strLit]

/-- A relation of the engine's: its struct's block, its map's block, its arity, a bound on its entries, its weights. -/
structure Rel where
  rb : Nat
  mb : Nat
  ar : Nat
  n : Nat
  f : Row → Int

abbrev St := ByteArray → Option Rel

structure EngRep (w : World) (eb db nD S E : Nat) (st : St) : Prop where
  eng : ∃ xs : Array Value, w.heap[eb]? = some (.cells xs 63 (0, 0)) ∧ xs[0]? = some (.map (some db))
  dir : ∃ D, w.ownsMap Tryz.prog 9 ptrElem db nD D ∧ Maps.size D = nD ∧ (∀ nm, nm.size ≤ maxLen → Maps.has D (strLit nm) = (st nm).isSome) ∧
    (∀ nm R, nm.size ≤ maxLen → st nm = some R → ∀ zd, D.atKey (strLit nm) zd = .lit (.int .i64 R.rb))
  rel : ∀ nm R, st nm = some R → w.heap[R.rb]? = some (.cells #[.int .i64 R.ar, .map (some R.mb)] 122 (0, 0)) ∧ WMap w R.mb R.n R.f
  apart : ∀ nm nm' R R', st nm = some R → st nm' = some R' → nm ≠ nm' → R.mb ≠ R'.mb
  inn : S ≤ eb ∧ eb < E ∧ S ≤ db ∧ db < E
  inr : ∀ nm R, st nm = some R → S ≤ R.rb ∧ R.rb < E ∧ S ≤ R.mb ∧ R.mb < E ∧ R.mb ≠ db
  top : E ≤ w.heap.size

theorem EngRep.c0 {w : World} {eb db nD S E : Nat} {st : St} (h : EngRep w eb db nD S E st) : w.cell? ⟨eb, 0, none⟩ = some (.map (some db)) := by
  obtain ⟨xs, h1, h2⟩ := h.eng
  exact (cell_of_heap h1 0).trans h2

set_option maxHeartbeats 400000 in
theorem new_any (w : World) : Calls Tryz.prog 11 #[] w fun e w' => e = .returned (.pointer (some ⟨w.heap.size + 2, 0, none⟩)) ∧ EngRep w' (w.heap.size + 2) w.heap.size 0 w.heap.size w'.heap.size (fun _ => none) ∧ Below w.heap.size w w' := by
  have hmm := @run_makeMap Tryz.prog
  go_enter Tryz.func11, Tryz.ntmps11
  go_wp2
  go_ret
  refine ⟨rfl, ⟨⟨_, heap_last _ _ _ (by simp), rfl⟩, ⟨.map [], ((World.ownsMap_made _ _ _ _).alloc _).alloc _, rfl, fun _ _ => rfl, fun _ _ _ h => by cases h⟩, fun _ _ h => (by cases h), fun _ _ _ _ h => (by cases h), by simp; omega, fun _ _ h => (by cases h), Nat.le_refl _⟩, (((Below.refl _ _).alloc (Nat.le_refl _) _).alloc (by simp) _).alloc (by simp; omega) _⟩

set_option maxHeartbeats 400000 in
theorem relNew_any (a : Nat) (w : World) : Calls Tryz.prog 28 #[.int .i64 a] w fun e w' => e = .returned (.pointer (some ⟨w.heap.size + 1, 0, none⟩)) ∧ w'.heap[w.heap.size + 1]? = some (.cells #[.int .i64 a, .map (some w.heap.size)] 122 (0, 0)) ∧
    WMap w' w.heap.size 0 (fun _ => 0) ∧ w'.heap.size = w.heap.size + 2 ∧ Below w.heap.size w w' := by
  have hmm := @run_makeMap Tryz.prog
  go_enter Tryz.func28, Tryz.ntmps28
  go_wp2
  go_ret
  exact ⟨rfl, heap_last _ _ _ (by simp), ⟨.map [], (World.ownsMap_made _ _ _ _).alloc _, ⟨fun _ _ => rfl, fun _ _ => by simp [Maps.has], fun _ h => by simp [Maps.has] at h⟩⟩, by simp, ((Below.refl _ _).alloc (Nat.le_refl _) _).alloc (by simp) _⟩

theorem arity_any (rb ar mb : Nat) (w : World) (h : w.heap[rb]? = some (.cells #[.int .i64 ar, .map (some mb)] 122 (0, 0))) :
    Calls Tryz.prog 64 #[.pointer (some ⟨rb, 0, none⟩)] w fun e w' => e = .returned (.int .i64 ar) ∧ w' = w := by
  have c0 : w.cell? ⟨rb, 0, none⟩ = some (.int .i64 ar) := cell_of_heap h 0
  clear h
  go_enter Tryz.func64, Tryz.ntmps64
  go_wp2
  go_ret
  exact ⟨rfl, rfl⟩

theorem len_any {D : DataW Unit} (rb ar mb n : Nat) (w : World) (h : w.heap[rb]? = some (.cells #[.int .i64 ar, .map (some mb)] 122 (0, 0))) (hown : w.ownsMap Tryz.prog 127 (plainElem Tryz.prog 3) mb n D) :
    Calls Tryz.prog 83 #[.pointer (some ⟨rb, 0, none⟩)] w fun e w' => e = .returned (.int .i64 (Maps.size D)) ∧ w' = w := by
  have c0 : w.cell? ⟨rb, 1, none⟩ = some (.map (some mb)) := cell_of_heap h 1
  clear h
  go_enter Tryz.func83, Tryz.ntmps83
  go_wp2_with (first
    | (at_len; refine wpList_len_own _ rfl _ 81 rfl 127 3 Tryz.underlying81 _ mb n D rfl hown ?_)
    | go_in)
  go_ret
  exact ⟨rfl, rfl⟩

end Go.Proofs.YtgddkjhknlgbbaaGreatDoor

namespace Go.Proofs.YtgddkjhknlgbbaaGreatDoor
set_option linter.unusedVariables false
set_option linter.unusedSimpArgs false
open Go.RowKit Go.Maps

def lowB (c : UInt8) : Bool := decide (97 ≤ c.toNat) && decide (c.toNat ≤ 122)
def nameB (s : ByteArray) : Bool := decide (1 ≤ s.size) && decide (s.size ≤ 8) && s.data.toList.all lowB

theorem all_snoc (s : ByteArray) (k : Nat) (h : k < s.size) : (s.data.toList.take (k + 1)).all lowB = ((s.data.toList.take k).all lowB && lowB s[k]) := by
  have e : s.data.toList.take (k + 1) = s.data.toList.take k ++ [s[k]] := by
    rw [List.take_succ_eq_append_getElem (by simpa using h)]; rfl
  rw [e, List.all_append]
  simp

theorem nameB_bad {s : ByteArray} {k : Nat} (h : k < s.size) (hb : lowB s[k] = false) : nameB s = false := by
  unfold nameB
  have : s.data.toList.all lowB = false := by
    rw [List.all_eq_false]
    refine ⟨s[k], ?_, by simp [hb]⟩
    have : s[k] = s.data.toList[k]'(by simpa using h) := rfl
    rw [this]
    exact List.getElem_mem _
  simp [this]

theorem nameB_good {s : ByteArray} (h1 : 1 ≤ s.size) (h2 : s.size ≤ 8) (h : (s.data.toList.take s.size).all lowB = true) : nameB s = true := by
  unfold nameB
  rw [List.take_of_length_le (by simp)] at h
  simp [h1, h2, h]

set_option maxHeartbeats 400000 in
theorem isName_any (s : ByteArray) (w : World) (hs : s.size ≤ 9223372036854775807) :
    Calls Tryz.prog 27 #[.string s] w fun e w' => e = .returned (.bool (nameB s)) ∧ w' = w := by
  by_cases h1 : s.size < 1
  · have hf : nameB s = false := by unfold nameB; simp [show ¬ 1 ≤ s.size by omega]
    go_enter Tryz.func27, Tryz.ntmps27
    go_wp2
    go_ret
    exact ⟨by simp [hf], rfl⟩
  · by_cases h2 : 8 < s.size
    · have hf : nameB s = false := by unfold nameB; simp [show ¬ s.size ≤ 8 by omega]
      go_enter Tryz.func27, Tryz.ntmps27
      go_wp2
      go_ret
      exact ⟨by simp [hf], rfl⟩
    · go_enter Tryz.func27, Tryz.ntmps27
      go_wp2
      go_loop [14] (fun i => ∃ k : Nat, k ≤ s.size ∧ i = .int .i64 k ∧ (s.data.toList.take k).all lowB = true) (fun i => s.size - (intOf i).toNat)
      case atStart => exact ⟨0, Nat.zero_le _, rfl, by simp⟩
      case round =>
        obtain ⟨k, hk, rfl, hall⟩ := hrel
        have Hall := hide hall
        clear hall
        by_cases hlt : k < s.size
        · by_cases hl : lowB s[k] = true
          · have Hn : Hid ((s.data.toList.take (k + 1)).all lowB = true) := by
              unfold Hid; rw [all_snoc s k hlt, unhide Hall, hl]; rfl
            have hl' := hl
            unfold lowB at hl'
            simp at hl'
            obtain ⟨g1, g2⟩ := hl'
            have g1' : ¬ ((s[k].toNat : Int) < 97) := by omega
            have g2' : ¬ (122 < (s[k].toNat : Int)) := by omega
            clear hl
            go_wp2
            all_goals
              go_round
              case rel => exact ⟨k + 1, by omega, by go_num, unhide Hn⟩
              case measure => simp [intOf]; omega
          · have hf : Hid (nameB s = false) := nameB_bad hlt (by simpa using hl)
            have hl' := hl
            unfold lowB at hl'
            simp at hl'
            clear hl
            by_cases g1 : (s[k].toNat : Int) < 97
            · go_wp2
              go_ret
              exact ⟨by rw [hf.out]; rfl, rfl⟩
            · have g2 : 122 < (s[k].toNat : Int) := by have := hl' (by omega); omega
              clear hl'
              go_wp2
              go_ret
              exact ⟨by rw [hf.out]; rfl, rfl⟩
        · have hf : Hid (nameB s = true) := by
            have : k = s.size := by omega
            subst this
            exact nameB_good (by omega) (by omega) (unhide Hall)
          go_wp2
          go_ret
          exact ⟨by rw [hf.out]; rfl, rfl⟩

end Go.Proofs.YtgddkjhknlgbbaaGreatDoor

namespace Go.Proofs.YtgddkjhknlgbbaaGreatDoor
set_option linter.unusedVariables false
set_option linter.unusedSimpArgs false
open Go.RowKit Go.Maps

theorem zero50 (w : World) : (zeroValue 65).run Tryz.prog w = .ok (.pointer none) w := by kernel_rfl
theorem zero68 (w : World) : (zeroValue 81).run Tryz.prog w = .ok (.map none) w := by kernel_rfl

theorem ptrElem_inv {v : Value} {b : Nat} {ps : List MemPlace} (h : ptrElem v = some (.lit (.int .i64 b), ps)) : v = .pointer (some ⟨b, 0, none⟩) := by
  unfold ptrElem at h
  split at h
  · simp at h
    obtain ⟨h, _⟩ := h
    have h : _ = b := Int.ofNat_inj.1 h
    rw [h]
  · simp at h
  · simp at h

theorem ptrElem_none {v : Value} {ps : List MemPlace} (h : ptrElem v = some (.lit (.int .i64 (-1)), ps)) : v = .pointer none := by
  unfold ptrElem at h
  split at h
  · simp at h
  · rfl
  · simp at h

section
variable {w w' : World} {eb db nD S E : Nat} {st : St}

theorem WMap.kept {b n : Nat} {f : Row → Int} (h : WMap w b n f) (hb : w'.heap[b]? = w.heap[b]?) : WMap w' b n f := by
  obtain ⟨D, ⟨es, clock, h1, h2⟩, hr⟩ := h
  exact ⟨D, ⟨es, clock, hb.trans h1, h2⟩, hr⟩

/-- What the engine is, it stays while none of its blocks turns. -/
theorem EngRep.kept (h : EngRep w eb db nD S E st) (hs : w.heap.size ≤ w'.heap.size) (hk : ∀ k, S ≤ k → k < E → w'.heap[k]? = w.heap[k]?) : EngRep w' eb db nD S E st := by
  obtain ⟨e, ⟨D, ⟨es, clock, h1, h2⟩, hD⟩, r, ap, inn, inr, top⟩ := h
  obtain ⟨xe, e, e0⟩ := e
  refine ⟨⟨xe, (hk _ inn.1 inn.2.1).trans e, e0⟩, ⟨D, ⟨es, clock, (hk _ inn.2.2.1 inn.2.2.2).trans h1, h2⟩, hD⟩, fun nm R hR => ?_, ap, inn, inr, Nat.le_trans top hs⟩
  have i := inr nm R hR
  exact ⟨(hk _ i.1 i.2.1).trans (r nm R hR).1, (r nm R hR).2.kept (hk _ i.2.2.1 i.2.2.2.1)⟩

theorem EngRep.below (h : EngRep w eb db nD S E st) (hb : Below w.heap.size w w') : EngRep w' eb db nD S E st :=
  h.kept hb.size (fun k _ hk => hb.block k (Nat.lt_of_lt_of_le hk h.top))

theorem EngRep.drawn (h : EngRep w eb db nD S E st) (hd : Drawn w w') : EngRep w' eb db nD S E st := h.below (hd.below _)

theorem EngRep.hit (h : EngRep w eb db nD S E st) {nm : ByteArray} {R : Rel} (hn : nm.size ≤ maxLen) (hR : st nm = some R) :
    (Instr.lookup 60 (.map (some db)) (.string nm) true).run Tryz.prog w = .ok (.tuple #[.pointer (some ⟨R.rb, 0, none⟩), .bool true]) w := by
  obtain ⟨D, hown, _, hhas, hat⟩ := h.dir
  obtain ⟨v, ps, hrun, hv⟩ := hown.look_ok law9 Tryz.underlying60 (zero50 _) (zd := .lit (.int .i64 (-1))) (zp := []) rfl (keyOf_str hn)
  rw [hat nm R hn hR] at hv
  rw [ptrElem_inv hv, hhas nm hn, hR] at hrun
  exact hrun

theorem EngRep.miss (h : EngRep w eb db nD S E st) {nm : ByteArray} (hn : nm.size ≤ maxLen) (hR : st nm = none) :
    (Instr.lookup 60 (.map (some db)) (.string nm) true).run Tryz.prog w = .ok (.tuple #[.pointer none, .bool false]) w := by
  obtain ⟨D, hown, _, hhas, hat⟩ := h.dir
  obtain ⟨v, ps, hrun, hv⟩ := hown.look_ok law9 Tryz.underlying60 (zero50 _) (zd := .lit (.int .i64 (-1))) (zp := []) rfl (keyOf_str hn)
  have h0 : Maps.has D (strLit nm) = false := by rw [hhas nm hn, hR]; rfl
  rw [atKey_of_not_has h0] at hv
  rw [ptrElem_none hv, h0] at hrun
  exact hrun

theorem EngRep.get (h : EngRep w eb db nD S E st) {nm : ByteArray} {R : Rel} (hn : nm.size ≤ maxLen) (hR : st nm = some R) :
    (Instr.lookup 60 (.map (some db)) (.string nm) false).run Tryz.prog w = .ok (.pointer (some ⟨R.rb, 0, none⟩)) w := by
  obtain ⟨D, hown, _, hhas, hat⟩ := h.dir
  obtain ⟨v, ps, hrun, hv⟩ := hown.lookup law9 Tryz.underlying60 (zero50 _) (zd := .lit (.int .i64 (-1))) (zp := []) rfl (keyOf_str hn)
  rw [hat nm R hn hR] at hv
  rw [ptrElem_inv hv] at hrun
  exact hrun

end

/-- An entry's value, whatever slice its row is. -/
def entV (x : Ent) (v : Value) : Value := .agg #[.string x.nm, v, .int .i64 x.wt]

set_option maxHeartbeats 400000 in
theorem check_miss (x : Ent) (v : Value) (w : World) {eb db nD S E : Nat} {st : St} (h : EngRep w eb db nD S E st) (hn : x.nm.size ≤ maxLen) (hR : st x.nm = none) :
    Calls Tryz.prog 32 #[.pointer (some ⟨eb, 0, none⟩), entV x v] w fun e w' => e = .returned (.int .i64 6) ∧ Below w.heap.size w w' := by
  obtain ⟨nm, row, wt⟩ := x
  have hrun : ∀ n, (Instr.lookup 60 (.map (some db)) (.string nm) true).run Tryz.prog ((w.alloc (.cells #[.string nm, v, .int .i64 wt] 75)).drewN n) = .ok (.tuple #[.pointer none, .bool false]) ((w.alloc (.cells #[.string nm, v, .int .i64 wt] 75)).drewN n) :=
    fun n => ((h.below ((Below.refl _ _).alloc (Nat.le_refl _) _)).drawn (Drawn.ofN _ n)).miss hn hR
  have c0 : w.cell? ⟨eb, 0, none⟩ = some (.map (some db)) := h.c0
  have hne : ¬ eb = w.heap.size := by have := h.inn; have := h.top; omega
  have hlt : eb < w.heap.size := by have := h.inn; have := h.top; omega
  have H := hide h
  clear h hR
  unfold entV
  dsimp only
  go_enter Tryz.func32, Tryz.ntmps32
  go_wp2
  go_quiet (fail)
  go_wp2
  go_ret
  exact ⟨rfl, ((Below.refl _ _).alloc (Nat.le_refl _) _).trans ((Drawn.ofN _ _).below _)⟩


set_option maxHeartbeats 400000 in
theorem check_arity (x : Ent) (a : Option Addr) (cap : Nat) (w : World) {eb db nD S E : Nat} {st : St} {R : Rel} (h : EngRep w eb db nD S E st) (hn : x.nm.size ≤ maxLen) (hR : st x.nm = some R) (hl : x.row.length ≤ 1000000000) (ha : x.row.length ≠ R.ar) (hra : R.ar ≤ 1000000) :
    Calls Tryz.prog 32 #[.pointer (some ⟨eb, 0, none⟩), entV x (.slice a x.row.length cap)] w fun e w' => e = .returned (.int .i64 2) ∧ Below w.heap.size w w' := by
  obtain ⟨nm, row, wt⟩ := x
  dsimp only at hn hR hl ha
  have hE : EngRep (w.alloc (.cells #[.string nm, .slice a row.length cap, .int .i64 wt] 75)) eb db nD S E st := h.below ((Below.refl _ _).alloc (Nat.le_refl _) _)
  have hrun : ∀ n, (Instr.lookup 60 (.map (some db)) (.string nm) true).run Tryz.prog ((w.alloc (.cells #[.string nm, .slice a row.length cap, .int .i64 wt] 75)).drewN n) = .ok (.tuple #[.pointer (some ⟨R.rb, 0, none⟩), .bool true]) ((w.alloc (.cells #[.string nm, .slice a row.length cap, .int .i64 wt] 75)).drewN n) :=
    fun n => (hE.drawn (Drawn.ofN _ n)).hit hn hR
  have hrel : (w.alloc (.cells #[.string nm, .slice a row.length cap, .int .i64 wt] 75)).heap[R.rb]? = some (.cells #[.int .i64 R.ar, .map (some R.mb)] 122 (0, 0)) := (hE.rel nm R hR).1
  have c0 : w.cell? ⟨eb, 0, none⟩ = some (.map (some db)) := h.c0
  have hne : ¬ eb = w.heap.size := by have := h.inn; have := h.top; omega
  have hlt : eb < w.heap.size := by have := h.inn; have := h.top; omega
  have hab : ((row.length : Int) != (R.ar : Int)) = true := by rw [bne_iff_ne]; omega
  have HR := hide hrel
  clear h hR hE hrel
  unfold entV
  dsimp only
  go_enter Tryz.func32, Tryz.ntmps32
  go_wp2
  go_quiet (fail)
  go_wp2_with fail
  have k0 : ((w.alloc (.cells #[.string nm, .slice a row.length cap, .int .i64 wt] 75)).drewN nq).heap[w.heap.size]? = some (.cells #[.string nm, .slice a row.length cap, .int .i64 wt] 75 (0, 0)) := heap_last w _ _ rfl
  have HR' : Hid (((w.alloc (.cells #[.string nm, .slice a row.length cap, .int .i64 wt] 75)).drewN nq).heap[R.rb]? = some (.cells #[.int .i64 R.ar, .map (some R.mb)] 122 (0, 0))) := unhide HR
  have HB := hide (((Below.refl w.heap.size w).alloc (Nat.le_refl _) (.cells #[.string nm, .slice a row.length cap, .int .i64 wt] 75)).trans ((Drawn.ofN _ nq).below _))
  clear hrun HR
  generalize (w.alloc (.cells #[.string nm, .slice a row.length cap, .int .i64 wt] 75)).drewN nq = W at *
  have e1 : W.cell? ⟨w.heap.size, 1, none⟩ = some (.slice a row.length cap) := cell_of_heap k0 1
  have e2 : W.cell? ⟨w.heap.size, 2, none⟩ = some (.int .i64 wt) := cell_of_heap k0 2
  clear k0
  go_quiet ((go_at_call 64; exact Calls.quiet_of_same (arity_any R.rb R.ar R.mb _ (unhide HR'))))
  go_wp2
  go_ret
  exact ⟨rfl, (unhide HB).trans ((Drawn.ofN _ _).below _)⟩

set_option maxHeartbeats 400000 in
theorem check_light (x : Ent) (a : Option Addr) (cap : Nat) (w : World) {eb db nD S E : Nat} {st : St} {R : Rel} (h : EngRep w eb db nD S E st) (hn : x.nm.size ≤ maxLen) (hR : st x.nm = some R) (hl : x.row.length ≤ 1000000000) (ha : x.row.length = R.ar) (hw : x.wt < -1000) :
    Calls Tryz.prog 32 #[.pointer (some ⟨eb, 0, none⟩), entV x (.slice a x.row.length cap)] w fun e w' => e = .returned (.int .i64 9) ∧ Below w.heap.size w w' := by
  obtain ⟨nm, row, wt⟩ := x
  dsimp only at hn hR hl ha hw
  have hE : EngRep (w.alloc (.cells #[.string nm, .slice a row.length cap, .int .i64 wt] 75)) eb db nD S E st := h.below ((Below.refl _ _).alloc (Nat.le_refl _) _)
  have hrun : ∀ n, (Instr.lookup 60 (.map (some db)) (.string nm) true).run Tryz.prog ((w.alloc (.cells #[.string nm, .slice a row.length cap, .int .i64 wt] 75)).drewN n) = .ok (.tuple #[.pointer (some ⟨R.rb, 0, none⟩), .bool true]) ((w.alloc (.cells #[.string nm, .slice a row.length cap, .int .i64 wt] 75)).drewN n) :=
    fun n => (hE.drawn (Drawn.ofN _ n)).hit hn hR
  have hrel : (w.alloc (.cells #[.string nm, .slice a row.length cap, .int .i64 wt] 75)).heap[R.rb]? = some (.cells #[.int .i64 R.ar, .map (some R.mb)] 122 (0, 0)) := (hE.rel nm R hR).1
  have c0 : w.cell? ⟨eb, 0, none⟩ = some (.map (some db)) := h.c0
  have hne : ¬ eb = w.heap.size := by have := h.inn; have := h.top; omega
  have hlt : eb < w.heap.size := by have := h.inn; have := h.top; omega
  have hab : ((row.length : Int) != (R.ar : Int)) = false := by simp [ha]
  clear ha
  have HR := hide hrel
  clear h hR hE hrel
  unfold entV
  dsimp only
  go_enter Tryz.func32, Tryz.ntmps32
  go_wp2
  go_quiet (fail)
  go_wp2_with fail
  have k0 : ((w.alloc (.cells #[.string nm, .slice a row.length cap, .int .i64 wt] 75)).drewN nq).heap[w.heap.size]? = some (.cells #[.string nm, .slice a row.length cap, .int .i64 wt] 75 (0, 0)) := heap_last w _ _ rfl
  have HR' : Hid (((w.alloc (.cells #[.string nm, .slice a row.length cap, .int .i64 wt] 75)).drewN nq).heap[R.rb]? = some (.cells #[.int .i64 R.ar, .map (some R.mb)] 122 (0, 0))) := unhide HR
  have HB := hide (((Below.refl w.heap.size w).alloc (Nat.le_refl _) (.cells #[.string nm, .slice a row.length cap, .int .i64 wt] 75)).trans ((Drawn.ofN _ nq).below _))
  clear hrun HR
  generalize (w.alloc (.cells #[.string nm, .slice a row.length cap, .int .i64 wt] 75)).drewN nq = W at *
  have e1 : W.cell? ⟨w.heap.size, 1, none⟩ = some (.slice a row.length cap) := cell_of_heap k0 1
  have e2 : W.cell? ⟨w.heap.size, 2, none⟩ = some (.int .i64 wt) := cell_of_heap k0 2
  clear k0
  go_quiet ((go_at_call 64; exact Calls.quiet_of_same (arity_any R.rb R.ar R.mb _ (unhide HR'))))
  go_wp2
  go_ret
  exact ⟨rfl, (unhide HB).trans ((Drawn.ofN _ _).below _)⟩

set_option maxHeartbeats 400000 in
theorem check_heavy (x : Ent) (a : Option Addr) (cap : Nat) (w : World) {eb db nD S E : Nat} {st : St} {R : Rel} (h : EngRep w eb db nD S E st) (hn : x.nm.size ≤ maxLen) (hR : st x.nm = some R) (hl : x.row.length ≤ 1000000000) (ha : x.row.length = R.ar) (hw : 1000 < x.wt) :
    Calls Tryz.prog 32 #[.pointer (some ⟨eb, 0, none⟩), entV x (.slice a x.row.length cap)] w fun e w' => e = .returned (.int .i64 9) ∧ Below w.heap.size w w' := by
  obtain ⟨nm, row, wt⟩ := x
  dsimp only at hn hR hl ha hw
  have hE : EngRep (w.alloc (.cells #[.string nm, .slice a row.length cap, .int .i64 wt] 75)) eb db nD S E st := h.below ((Below.refl _ _).alloc (Nat.le_refl _) _)
  have hrun : ∀ n, (Instr.lookup 60 (.map (some db)) (.string nm) true).run Tryz.prog ((w.alloc (.cells #[.string nm, .slice a row.length cap, .int .i64 wt] 75)).drewN n) = .ok (.tuple #[.pointer (some ⟨R.rb, 0, none⟩), .bool true]) ((w.alloc (.cells #[.string nm, .slice a row.length cap, .int .i64 wt] 75)).drewN n) :=
    fun n => (hE.drawn (Drawn.ofN _ n)).hit hn hR
  have hrel : (w.alloc (.cells #[.string nm, .slice a row.length cap, .int .i64 wt] 75)).heap[R.rb]? = some (.cells #[.int .i64 R.ar, .map (some R.mb)] 122 (0, 0)) := (hE.rel nm R hR).1
  have c0 : w.cell? ⟨eb, 0, none⟩ = some (.map (some db)) := h.c0
  have hne : ¬ eb = w.heap.size := by have := h.inn; have := h.top; omega
  have hlt : eb < w.heap.size := by have := h.inn; have := h.top; omega
  have hab : ((row.length : Int) != (R.ar : Int)) = false := by simp [ha]
  clear ha
  have hw' : ¬ wt < -1000 := by omega
  have HR := hide hrel
  clear h hR hE hrel
  unfold entV
  dsimp only
  go_enter Tryz.func32, Tryz.ntmps32
  go_wp2
  go_quiet (fail)
  go_wp2_with fail
  have k0 : ((w.alloc (.cells #[.string nm, .slice a row.length cap, .int .i64 wt] 75)).drewN nq).heap[w.heap.size]? = some (.cells #[.string nm, .slice a row.length cap, .int .i64 wt] 75 (0, 0)) := heap_last w _ _ rfl
  have HR' : Hid (((w.alloc (.cells #[.string nm, .slice a row.length cap, .int .i64 wt] 75)).drewN nq).heap[R.rb]? = some (.cells #[.int .i64 R.ar, .map (some R.mb)] 122 (0, 0))) := unhide HR
  have HB := hide (((Below.refl w.heap.size w).alloc (Nat.le_refl _) (.cells #[.string nm, .slice a row.length cap, .int .i64 wt] 75)).trans ((Drawn.ofN _ nq).below _))
  clear hrun HR
  generalize (w.alloc (.cells #[.string nm, .slice a row.length cap, .int .i64 wt] 75)).drewN nq = W at *
  have e1 : W.cell? ⟨w.heap.size, 1, none⟩ = some (.slice a row.length cap) := cell_of_heap k0 1
  have e2 : W.cell? ⟨w.heap.size, 2, none⟩ = some (.int .i64 wt) := cell_of_heap k0 2
  clear k0
  go_quiet ((go_at_call 64; exact Calls.quiet_of_same (arity_any R.rb R.ar R.mb _ (unhide HR'))))
  go_wp2
  go_ret
  exact ⟨rfl, (unhide HB).trans ((Drawn.ofN _ _).below _)⟩

set_option maxHeartbeats 400000 in
theorem check_ok (x : Ent) (a : Option Addr) (cap : Nat) (w : World) {eb db nD S E : Nat} {st : St} {R : Rel} (h : EngRep w eb db nD S E st) (hn : x.nm.size ≤ maxLen) (hR : st x.nm = some R) (hl : x.row.length ≤ 1000000000) (ha : x.row.length = R.ar) (hw : -1000 ≤ x.wt ∧ x.wt ≤ 1000) :
    Calls Tryz.prog 32 #[.pointer (some ⟨eb, 0, none⟩), entV x (.slice a x.row.length cap)] w fun e w' => e = .returned (.int .i64 0) ∧ Below w.heap.size w w' := by
  obtain ⟨nm, row, wt⟩ := x
  dsimp only at hn hR hl ha hw
  have hE : EngRep (w.alloc (.cells #[.string nm, .slice a row.length cap, .int .i64 wt] 75)) eb db nD S E st := h.below ((Below.refl _ _).alloc (Nat.le_refl _) _)
  have hrun : ∀ n, (Instr.lookup 60 (.map (some db)) (.string nm) true).run Tryz.prog ((w.alloc (.cells #[.string nm, .slice a row.length cap, .int .i64 wt] 75)).drewN n) = .ok (.tuple #[.pointer (some ⟨R.rb, 0, none⟩), .bool true]) ((w.alloc (.cells #[.string nm, .slice a row.length cap, .int .i64 wt] 75)).drewN n) :=
    fun n => (hE.drawn (Drawn.ofN _ n)).hit hn hR
  have hrel : (w.alloc (.cells #[.string nm, .slice a row.length cap, .int .i64 wt] 75)).heap[R.rb]? = some (.cells #[.int .i64 R.ar, .map (some R.mb)] 122 (0, 0)) := (hE.rel nm R hR).1
  have c0 : w.cell? ⟨eb, 0, none⟩ = some (.map (some db)) := h.c0
  have hne : ¬ eb = w.heap.size := by have := h.inn; have := h.top; omega
  have hlt : eb < w.heap.size := by have := h.inn; have := h.top; omega
  have hab : ((row.length : Int) != (R.ar : Int)) = false := by simp [ha]
  clear ha
  have hw1 : ¬ wt < -1000 := by omega
  have hw2 : ¬ 1000 < wt := by omega
  clear hw
  have HR := hide hrel
  clear h hR hE hrel
  unfold entV
  dsimp only
  go_enter Tryz.func32, Tryz.ntmps32
  go_wp2
  go_quiet (fail)
  go_wp2_with fail
  have k0 : ((w.alloc (.cells #[.string nm, .slice a row.length cap, .int .i64 wt] 75)).drewN nq).heap[w.heap.size]? = some (.cells #[.string nm, .slice a row.length cap, .int .i64 wt] 75 (0, 0)) := heap_last w _ _ rfl
  have HR' : Hid (((w.alloc (.cells #[.string nm, .slice a row.length cap, .int .i64 wt] 75)).drewN nq).heap[R.rb]? = some (.cells #[.int .i64 R.ar, .map (some R.mb)] 122 (0, 0))) := unhide HR
  have HB := hide (((Below.refl w.heap.size w).alloc (Nat.le_refl _) (.cells #[.string nm, .slice a row.length cap, .int .i64 wt] 75)).trans ((Drawn.ofN _ nq).below _))
  clear hrun HR
  generalize (w.alloc (.cells #[.string nm, .slice a row.length cap, .int .i64 wt] 75)).drewN nq = W at *
  have e1 : W.cell? ⟨w.heap.size, 1, none⟩ = some (.slice a row.length cap) := cell_of_heap k0 1
  have e2 : W.cell? ⟨w.heap.size, 2, none⟩ = some (.int .i64 wt) := cell_of_heap k0 2
  clear k0
  go_quiet ((go_at_call 64; exact Calls.quiet_of_same (arity_any R.rb R.ar R.mb _ (unhide HR'))))
  go_wp2
  go_ret
  exact ⟨rfl, (unhide HB).trans ((Drawn.ofN _ _).below _)⟩

end Go.Proofs.YtgddkjhknlgbbaaGreatDoor
