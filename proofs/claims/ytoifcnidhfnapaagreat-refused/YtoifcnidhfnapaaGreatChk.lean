import Derived.Test.YtoifcnidhfnapaaGreatName
namespace Go.Proofs.YtoifcnidhfnapaaGreat
set_option linter.unusedVariables false
set_option linter.unusedSimpArgs false
open Go.RowKit Go.Maps

theorem zero50 (w : World) : (zeroValue 50).run Tryz.prog w = .ok (.pointer none) w := by kernel_rfl
theorem zero68 (w : World) : (zeroValue 75).run Tryz.prog w = .ok (.map none) w := by kernel_rfl

theorem ptrElem_inv {v : Value} {b : Nat} {ps : List MemPlace} (h : ptrElem v = some (.lit (.int .i64 b), ps)) : v = .pointer (some ⟨b, 0, none⟩) := by
  unfold ptrElem at h
  split at h
  · simp at h
    obtain ⟨h, _⟩ := h
    have h : _ = b := Int.ofNat_inj.1 h
    rw [h]
  · simp at h
  · simp at h

theorem ptrElem_none {v : Value} {ps : List MemPlace} (h : ptrElem v = some (.lit (.int .i64 (-1)), ps)) : v = .pointer none := by
  unfold ptrElem at h
  split at h
  · simp at h
  · rfl
  · simp at h

section
variable {w w' : World} {eb db nD S E : Nat} {st : St}

theorem WMap.kept {b n : Nat} {f : Row → Int} (h : WMap w b n f) (hb : w'.heap[b]? = w.heap[b]?) : WMap w' b n f := by
  obtain ⟨D, ⟨es, clock, h1, h2⟩, hr⟩ := h
  exact ⟨D, ⟨es, clock, hb.trans h1, h2⟩, hr⟩

/-- What the engine is, it stays while none of its blocks turns. -/
theorem EngRep.kept (h : EngRep w eb db nD S E st) (hs : w.heap.size ≤ w'.heap.size) (hk : ∀ k, S ≤ k → k < E → w'.heap[k]? = w.heap[k]?) : EngRep w' eb db nD S E st := by
  obtain ⟨e, ⟨D, ⟨es, clock, h1, h2⟩, hD⟩, r, ap, inn, inr, top⟩ := h
  obtain ⟨xe, e, e0, nv⟩ := e
  have hv := nv.2.2.2.2.1
  refine ⟨⟨xe, (hk _ inn.1 inn.2.1).trans e, e0, nv.kept (hk _ (by omega) (by omega)) (hk _ (by omega) (by omega))⟩, ⟨D, ⟨es, clock, (hk _ inn.2.2.1 inn.2.2.2).trans h1, h2⟩, hD⟩, fun nm R hR => ?_, ap, inn, inr, Nat.le_trans top hs⟩
  have i := inr nm R hR
  exact ⟨(hk _ i.1 i.2.1).trans (r nm R hR).1, (r nm R hR).2.kept (hk _ i.2.2.1 i.2.2.2.1)⟩

theorem EngRep.below (h : EngRep w eb db nD S E st) (hb : Below w.heap.size w w') : EngRep w' eb db nD S E st :=
  h.kept hb.size (fun k _ hk => hb.block k (Nat.lt_of_lt_of_le hk h.top))

theorem EngRep.drawn (h : EngRep w eb db nD S E st) (hd : Drawn w w') : EngRep w' eb db nD S E st := h.below (hd.below _)

theorem EngRep.hit (h : EngRep w eb db nD S E st) {nm : ByteArray} {R : Rel} (hn : nm.size ≤ maxLen) (hR : st nm = some R) :
    (Instr.lookup 52 (.map (some db)) (.string nm) true).run Tryz.prog w = .ok (.tuple #[.pointer (some ⟨R.rb, 0, none⟩), .bool true]) w := by
  obtain ⟨D, hown, hhas, hat⟩ := h.dir
  obtain ⟨v, ps, hrun, hv⟩ := hown.look_ok law9 Tryz.underlying52 (zero50 _) (zd := .lit (.int .i64 (-1))) (zp := []) rfl (keyOf_str hn)
  rw [hat nm R hn hR] at hv
  rw [ptrElem_inv hv, hhas nm hn, hR] at hrun
  exact hrun

theorem EngRep.miss (h : EngRep w eb db nD S E st) {nm : ByteArray} (hn : nm.size ≤ maxLen) (hR : st nm = none) :
    (Instr.lookup 52 (.map (some db)) (.string nm) true).run Tryz.prog w = .ok (.tuple #[.pointer none, .bool false]) w := by
  obtain ⟨D, hown, hhas, hat⟩ := h.dir
  obtain ⟨v, ps, hrun, hv⟩ := hown.look_ok law9 Tryz.underlying52 (zero50 _) (zd := .lit (.int .i64 (-1))) (zp := []) rfl (keyOf_str hn)
  have h0 : Maps.has D (strLit nm) = false := by rw [hhas nm hn, hR]; rfl
  rw [atKey_of_not_has h0] at hv
  rw [ptrElem_none hv, h0] at hrun
  exact hrun

theorem EngRep.get (h : EngRep w eb db nD S E st) {nm : ByteArray} {R : Rel} (hn : nm.size ≤ maxLen) (hR : st nm = some R) :
    (Instr.lookup 52 (.map (some db)) (.string nm) false).run Tryz.prog w = .ok (.pointer (some ⟨R.rb, 0, none⟩)) w := by
  obtain ⟨D, hown, hhas, hat⟩ := h.dir
  obtain ⟨v, ps, hrun, hv⟩ := hown.lookup law9 Tryz.underlying52 (zero50 _) (zd := .lit (.int .i64 (-1))) (zp := []) rfl (keyOf_str hn)
  rw [hat nm R hn hR] at hv
  rw [ptrElem_inv hv] at hrun
  exact hrun

end

/-- An entry's value, whatever slice its row is. -/
def entV (x : Ent) (v : Value) : Value := .agg #[.string x.nm, v, .int .i64 x.wt]

set_option maxHeartbeats 400000 in
theorem check_miss (x : Ent) (v : Value) (w : World) {eb db nD S E : Nat} {st : St} (h : EngRep w eb db nD S E st) (hn : x.nm.size ≤ maxLen) (hR : st x.nm = none) :
    Calls Tryz.prog 24 #[.pointer (some ⟨eb, 0, none⟩), entV x v] w fun e w' => e = .returned (.int .i64 6) ∧ Below w.heap.size w w' := by
  obtain ⟨nm, row, wt⟩ := x
  have hrun : ∀ n, (Instr.lookup 52 (.map (some db)) (.string nm) true).run Tryz.prog ((w.alloc (.cells #[.string nm, v, .int .i64 wt] 39)).drewN n) = .ok (.tuple #[.pointer none, .bool false]) ((w.alloc (.cells #[.string nm, v, .int .i64 wt] 39)).drewN n) :=
    fun n => ((h.below ((Below.refl _ _).alloc (Nat.le_refl _) _)).drawn (Drawn.ofN _ n)).miss hn hR
  have c0 : w.cell? ⟨eb, 0, none⟩ = some (.map (some db)) := h.c0
  have hne : ¬ eb = w.heap.size := by have := h.inn; have := h.top; omega
  have hlt : eb < w.heap.size := by have := h.inn; have := h.top; omega
  have H := hide h
  clear h hR
  unfold entV
  dsimp only
  go_enter Tryz.func24, Tryz.ntmps24
  go_wp2
  go_quiet (fail)
  go_wp2
  go_ret
  exact ⟨rfl, ((Below.refl _ _).alloc (Nat.le_refl _) _).trans ((Drawn.ofN _ _).below _)⟩


set_option maxHeartbeats 400000 in
theorem check_arity (x : Ent) (a : Option Addr) (cap : Nat) (w : World) {eb db nD S E : Nat} {st : St} {R : Rel} (h : EngRep w eb db nD S E st) (hn : x.nm.size ≤ maxLen) (hR : st x.nm = some R) (hl : x.row.length ≤ 1000000) (ha : x.row.length ≠ R.ar) (hra : R.ar ≤ 1000000) :
    Calls Tryz.prog 24 #[.pointer (some ⟨eb, 0, none⟩), entV x (.slice a x.row.length cap)] w fun e w' => e = .returned (.int .i64 2) ∧ Below w.heap.size w w' := by
  obtain ⟨nm, row, wt⟩ := x
  dsimp only at hn hR hl ha
  have hE : EngRep (w.alloc (.cells #[.string nm, .slice a row.length cap, .int .i64 wt] 39)) eb db nD S E st := h.below ((Below.refl _ _).alloc (Nat.le_refl _) _)
  have hrun : ∀ n, (Instr.lookup 52 (.map (some db)) (.string nm) true).run Tryz.prog ((w.alloc (.cells #[.string nm, .slice a row.length cap, .int .i64 wt] 39)).drewN n) = .ok (.tuple #[.pointer (some ⟨R.rb, 0, none⟩), .bool true]) ((w.alloc (.cells #[.string nm, .slice a row.length cap, .int .i64 wt] 39)).drewN n) :=
    fun n => (hE.drawn (Drawn.ofN _ n)).hit hn hR
  have hrel : (w.alloc (.cells #[.string nm, .slice a row.length cap, .int .i64 wt] 39)).heap[R.rb]? = some (.cells #[.int .i64 R.ar, .map (some R.mb)] 77 (0, 0)) := (hE.rel nm R hR).1
  have c0 : w.cell? ⟨eb, 0, none⟩ = some (.map (some db)) := h.c0
  have hne : ¬ eb = w.heap.size := by have := h.inn; have := h.top; omega
  have hlt : eb < w.heap.size := by have := h.inn; have := h.top; omega
  have hab : ((row.length : Int) != (R.ar : Int)) = true := by rw [bne_iff_ne]; omega
  have HR := hide hrel
  clear h hR hE hrel
  unfold entV
  dsimp only
  go_enter Tryz.func24, Tryz.ntmps24
  go_wp2
  go_quiet (fail)
  go_wp2_with fail
  have k0 : ((w.alloc (.cells #[.string nm, .slice a row.length cap, .int .i64 wt] 39)).drewN nq).heap[w.heap.size]? = some (.cells #[.string nm, .slice a row.length cap, .int .i64 wt] 39 (0, 0)) := heap_last w _ _ rfl
  have HR' : Hid (((w.alloc (.cells #[.string nm, .slice a row.length cap, .int .i64 wt] 39)).drewN nq).heap[R.rb]? = some (.cells #[.int .i64 R.ar, .map (some R.mb)] 77 (0, 0))) := unhide HR
  have HB := hide (((Below.refl w.heap.size w).alloc (Nat.le_refl _) (.cells #[.string nm, .slice a row.length cap, .int .i64 wt] 39)).trans ((Drawn.ofN _ nq).below _))
  clear hrun HR
  generalize (w.alloc (.cells #[.string nm, .slice a row.length cap, .int .i64 wt] 39)).drewN nq = W at *
  have e1 : W.cell? ⟨w.heap.size, 1, none⟩ = some (.slice a row.length cap) := cell_of_heap k0 1
  have e2 : W.cell? ⟨w.heap.size, 2, none⟩ = some (.int .i64 wt) := cell_of_heap k0 2
  clear k0
  go_quiet ((go_at_call 23; exact Calls.quiet_of_same (arity_any R.rb R.ar R.mb _ (unhide HR'))))
  go_wp2
  go_ret
  exact ⟨rfl, (unhide HB).trans ((Drawn.ofN _ _).below _)⟩

set_option maxHeartbeats 400000 in
theorem check_light (x : Ent) (a : Option Addr) (cap : Nat) (w : World) {eb db nD S E : Nat} {st : St} {R : Rel} (h : EngRep w eb db nD S E st) (hn : x.nm.size ≤ maxLen) (hR : st x.nm = some R) (hl : x.row.length ≤ 1000000) (ha : x.row.length = R.ar) (hw : x.wt < -1000) :
    Calls Tryz.prog 24 #[.pointer (some ⟨eb, 0, none⟩), entV x (.slice a x.row.length cap)] w fun e w' => e = .returned (.int .i64 9) ∧ Below w.heap.size w w' := by
  obtain ⟨nm, row, wt⟩ := x
  dsimp only at hn hR hl ha hw
  have hE : EngRep (w.alloc (.cells #[.string nm, .slice a row.length cap, .int .i64 wt] 39)) eb db nD S E st := h.below ((Below.refl _ _).alloc (Nat.le_refl _) _)
  have hrun : ∀ n, (Instr.lookup 52 (.map (some db)) (.string nm) true).run Tryz.prog ((w.alloc (.cells #[.string nm, .slice a row.length cap, .int .i64 wt] 39)).drewN n) = .ok (.tuple #[.pointer (some ⟨R.rb, 0, none⟩), .bool true]) ((w.alloc (.cells #[.string nm, .slice a row.length cap, .int .i64 wt] 39)).drewN n) :=
    fun n => (hE.drawn (Drawn.ofN _ n)).hit hn hR
  have hrel : (w.alloc (.cells #[.string nm, .slice a row.length cap, .int .i64 wt] 39)).heap[R.rb]? = some (.cells #[.int .i64 R.ar, .map (some R.mb)] 77 (0, 0)) := (hE.rel nm R hR).1
  have c0 : w.cell? ⟨eb, 0, none⟩ = some (.map (some db)) := h.c0
  have hne : ¬ eb = w.heap.size := by have := h.inn; have := h.top; omega
  have hlt : eb < w.heap.size := by have := h.inn; have := h.top; omega
  have hab : ((row.length : Int) != (R.ar : Int)) = false := by simp [ha]
  clear ha
  have HR := hide hrel
  clear h hR hE hrel
  unfold entV
  dsimp only
  go_enter Tryz.func24, Tryz.ntmps24
  go_wp2
  go_quiet (fail)
  go_wp2_with fail
  have k0 : ((w.alloc (.cells #[.string nm, .slice a row.length cap, .int .i64 wt] 39)).drewN nq).heap[w.heap.size]? = some (.cells #[.string nm, .slice a row.length cap, .int .i64 wt] 39 (0, 0)) := heap_last w _ _ rfl
  have HR' : Hid (((w.alloc (.cells #[.string nm, .slice a row.length cap, .int .i64 wt] 39)).drewN nq).heap[R.rb]? = some (.cells #[.int .i64 R.ar, .map (some R.mb)] 77 (0, 0))) := unhide HR
  have HB := hide (((Below.refl w.heap.size w).alloc (Nat.le_refl _) (.cells #[.string nm, .slice a row.length cap, .int .i64 wt] 39)).trans ((Drawn.ofN _ nq).below _))
  clear hrun HR
  generalize (w.alloc (.cells #[.string nm, .slice a row.length cap, .int .i64 wt] 39)).drewN nq = W at *
  have e1 : W.cell? ⟨w.heap.size, 1, none⟩ = some (.slice a row.length cap) := cell_of_heap k0 1
  have e2 : W.cell? ⟨w.heap.size, 2, none⟩ = some (.int .i64 wt) := cell_of_heap k0 2
  clear k0
  go_quiet ((go_at_call 23; exact Calls.quiet_of_same (arity_any R.rb R.ar R.mb _ (unhide HR'))))
  go_wp2
  go_ret
  exact ⟨rfl, (unhide HB).trans ((Drawn.ofN _ _).below _)⟩

set_option maxHeartbeats 400000 in
theorem check_heavy (x : Ent) (a : Option Addr) (cap : Nat) (w : World) {eb db nD S E : Nat} {st : St} {R : Rel} (h : EngRep w eb db nD S E st) (hn : x.nm.size ≤ maxLen) (hR : st x.nm = some R) (hl : x.row.length ≤ 1000000) (ha : x.row.length = R.ar) (hw : 1000 < x.wt) :
    Calls Tryz.prog 24 #[.pointer (some ⟨eb, 0, none⟩), entV x (.slice a x.row.length cap)] w fun e w' => e = .returned (.int .i64 9) ∧ Below w.heap.size w w' := by
  obtain ⟨nm, row, wt⟩ := x
  dsimp only at hn hR hl ha hw
  have hE : EngRep (w.alloc (.cells #[.string nm, .slice a row.length cap, .int .i64 wt] 39)) eb db nD S E st := h.below ((Below.refl _ _).alloc (Nat.le_refl _) _)
  have hrun : ∀ n, (Instr.lookup 52 (.map (some db)) (.string nm) true).run Tryz.prog ((w.alloc (.cells #[.string nm, .slice a row.length cap, .int .i64 wt] 39)).drewN n) = .ok (.tuple #[.pointer (some ⟨R.rb, 0, none⟩), .bool true]) ((w.alloc (.cells #[.string nm, .slice a row.length cap, .int .i64 wt] 39)).drewN n) :=
    fun n => (hE.drawn (Drawn.ofN _ n)).hit hn hR
  have hrel : (w.alloc (.cells #[.string nm, .slice a row.length cap, .int .i64 wt] 39)).heap[R.rb]? = some (.cells #[.int .i64 R.ar, .map (some R.mb)] 77 (0, 0)) := (hE.rel nm R hR).1
  have c0 : w.cell? ⟨eb, 0, none⟩ = some (.map (some db)) := h.c0
  have hne : ¬ eb = w.heap.size := by have := h.inn; have := h.top; omega
  have hlt : eb < w.heap.size := by have := h.inn; have := h.top; omega
  have hab : ((row.length : Int) != (R.ar : Int)) = false := by simp [ha]
  clear ha
  have hw' : ¬ wt < -1000 := by omega
  have HR := hide hrel
  clear h hR hE hrel
  unfold entV
  dsimp only
  go_enter Tryz.func24, Tryz.ntmps24
  go_wp2
  go_quiet (fail)
  go_wp2_with fail
  have k0 : ((w.alloc (.cells #[.string nm, .slice a row.length cap, .int .i64 wt] 39)).drewN nq).heap[w.heap.size]? = some (.cells #[.string nm, .slice a row.length cap, .int .i64 wt] 39 (0, 0)) := heap_last w _ _ rfl
  have HR' : Hid (((w.alloc (.cells #[.string nm, .slice a row.length cap, .int .i64 wt] 39)).drewN nq).heap[R.rb]? = some (.cells #[.int .i64 R.ar, .map (some R.mb)] 77 (0, 0))) := unhide HR
  have HB := hide (((Below.refl w.heap.size w).alloc (Nat.le_refl _) (.cells #[.string nm, .slice a row.length cap, .int .i64 wt] 39)).trans ((Drawn.ofN _ nq).below _))
  clear hrun HR
  generalize (w.alloc (.cells #[.string nm, .slice a row.length cap, .int .i64 wt] 39)).drewN nq = W at *
  have e1 : W.cell? ⟨w.heap.size, 1, none⟩ = some (.slice a row.length cap) := cell_of_heap k0 1
  have e2 : W.cell? ⟨w.heap.size, 2, none⟩ = some (.int .i64 wt) := cell_of_heap k0 2
  clear k0
  go_quiet ((go_at_call 23; exact Calls.quiet_of_same (arity_any R.rb R.ar R.mb _ (unhide HR'))))
  go_wp2
  go_ret
  exact ⟨rfl, (unhide HB).trans ((Drawn.ofN _ _).below _)⟩

set_option maxHeartbeats 400000 in
theorem check_ok (x : Ent) (a : Option Addr) (cap : Nat) (w : World) {eb db nD S E : Nat} {st : St} {R : Rel} (h : EngRep w eb db nD S E st) (hn : x.nm.size ≤ maxLen) (hR : st x.nm = some R) (hl : x.row.length ≤ 1000000) (ha : x.row.length = R.ar) (hw : -1000 ≤ x.wt ∧ x.wt ≤ 1000) :
    Calls Tryz.prog 24 #[.pointer (some ⟨eb, 0, none⟩), entV x (.slice a x.row.length cap)] w fun e w' => e = .returned (.int .i64 0) ∧ Below w.heap.size w w' := by
  obtain ⟨nm, row, wt⟩ := x
  dsimp only at hn hR hl ha hw
  have hE : EngRep (w.alloc (.cells #[.string nm, .slice a row.length cap, .int .i64 wt] 39)) eb db nD S E st := h.below ((Below.refl _ _).alloc (Nat.le_refl _) _)
  have hrun : ∀ n, (Instr.lookup 52 (.map (some db)) (.string nm) true).run Tryz.prog ((w.alloc (.cells #[.string nm, .slice a row.length cap, .int .i64 wt] 39)).drewN n) = .ok (.tuple #[.pointer (some ⟨R.rb, 0, none⟩), .bool true]) ((w.alloc (.cells #[.string nm, .slice a row.length cap, .int .i64 wt] 39)).drewN n) :=
    fun n => (hE.drawn (Drawn.ofN _ n)).hit hn hR
  have hrel : (w.alloc (.cells #[.string nm, .slice a row.length cap, .int .i64 wt] 39)).heap[R.rb]? = some (.cells #[.int .i64 R.ar, .map (some R.mb)] 77 (0, 0)) := (hE.rel nm R hR).1
  have c0 : w.cell? ⟨eb, 0, none⟩ = some (.map (some db)) := h.c0
  have hne : ¬ eb = w.heap.size := by have := h.inn; have := h.top; omega
  have hlt : eb < w.heap.size := by have := h.inn; have := h.top; omega
  have hab : ((row.length : Int) != (R.ar : Int)) = false := by simp [ha]
  clear ha
  have hw1 : ¬ wt < -1000 := by omega
  have hw2 : ¬ 1000 < wt := by omega
  clear hw
  have HR := hide hrel
  clear h hR hE hrel
  unfold entV
  dsimp only
  go_enter Tryz.func24, Tryz.ntmps24
  go_wp2
  go_quiet (fail)
  go_wp2_with fail
  have k0 : ((w.alloc (.cells #[.string nm, .slice a row.length cap, .int .i64 wt] 39)).drewN nq).heap[w.heap.size]? = some (.cells #[.string nm, .slice a row.length cap, .int .i64 wt] 39 (0, 0)) := heap_last w _ _ rfl
  have HR' : Hid (((w.alloc (.cells #[.string nm, .slice a row.length cap, .int .i64 wt] 39)).drewN nq).heap[R.rb]? = some (.cells #[.int .i64 R.ar, .map (some R.mb)] 77 (0, 0))) := unhide HR
  have HB := hide (((Below.refl w.heap.size w).alloc (Nat.le_refl _) (.cells #[.string nm, .slice a row.length cap, .int .i64 wt] 39)).trans ((Drawn.ofN _ nq).below _))
  clear hrun HR
  generalize (w.alloc (.cells #[.string nm, .slice a row.length cap, .int .i64 wt] 39)).drewN nq = W at *
  have e1 : W.cell? ⟨w.heap.size, 1, none⟩ = some (.slice a row.length cap) := cell_of_heap k0 1
  have e2 : W.cell? ⟨w.heap.size, 2, none⟩ = some (.int .i64 wt) := cell_of_heap k0 2
  clear k0
  go_quiet ((go_at_call 23; exact Calls.quiet_of_same (arity_any R.rb R.ar R.mb _ (unhide HR'))))
  go_wp2
  go_ret
  exact ⟨rfl, (unhide HB).trans ((Drawn.ofN _ _).below _)⟩

end Go.Proofs.YtoifcnidhfnapaaGreat
