import Derived.Test.YtgddkjhknlgbbaaGreatDoorR17
set_option linter.unusedVariables false
set_option linter.unusedSimpArgs false

namespace Go.Proofs.YtgddkjhknlgbbaaGreatDoor
set_option linter.unusedVariables false
set_option linter.unusedSimpArgs false
open Go.RowKit Go.Extern.Stop Go.Stop Go.Extern

/-- The target's cell leads to the fault. -/
structure FoundAt (W : World) (t : Nat) (c q : Nat) (w' : World) : Prop where
  cell : ∃ b, w'.cell? ⟨t, 0, none⟩ = some (.pointer (some ⟨b, 0, none⟩)) ∧ w'.heap[b]? = some (.cells #[.int .i64 c, .int .i64 q] 136 (0, 0))
  keep : KeepX (fun k => k = t) W w'

set_option maxRecDepth 100000 in
set_option maxHeartbeats 4000000 in
theorem as_any (v : Value) (B c q t a : Nat) (tc : Array Value) (W : World) (h : ErrAt B W v c q) (ha : W.cell? ⟨a, 0, none⟩ = some (.pointer (some ⟨t, 0, none⟩))) (ht : W.heap[t]? = some (.cells #[.pointer none] 132 (0, 0))) :
    Calls Tryz.prog 96 #[v, .iface 134 (.pointer (some ⟨t, 0, none⟩)), .agg #[.pointer (some ⟨5, 134, none⟩), .pointer (some ⟨a, 0, none⟩), .int .u64 150], .iface 215 (.agg #[.pointer (some ⟨5, 132, none⟩)])] W fun e w' => e = .returned (.bool true) ∧ FoundAt W t c q w' := by
  have h116 := @run_callFunc_extern Tryz.prog 116 _ ReflectliteType.typeOf Tryz.func116 (by kernel_rfl) (by kernel_rfl) (by kernel_rfl) (by kernel_rfl)
  have h186 := @run_callFunc_extern Tryz.prog 186 _ (ReflectliteType.relation "AssignableTo" ReflectliteType.assignableTo) Tryz.func186 (by kernel_rfl) (by kernel_rfl) (by kernel_rfl) (by kernel_rfl)
  have h117 := @run_callFunc_extern Tryz.prog 117 _ (ReflectliteValue.method (ReflectliteValue.valueError "reflectlite.Value.Elem" 0) ReflectliteValue.elem) Tryz.func117 (by kernel_rfl) (by kernel_rfl) (by kernel_rfl) (by kernel_rfl)
  have h93 := @run_callFunc_extern Tryz.prog 93 _ (fun args => ReflectliteValue.unpack (args.getD 0 (.tuple #[]))) Tryz.func93 (by kernel_rfl) (by kernel_rfl) (by kernel_rfl) (by kernel_rfl)
  have h118 := @run_callFunc_extern Tryz.prog 118 _ ReflectliteValue.set Tryz.func118 (by kernel_rfl) (by kernel_rfl) (by kernel_rfl) (by kernel_rfl)
  have f1 := Tryz.typeOf132
  have f2 := Tryz.typeOf200
  have f3 := Tryz.methodAssignableTo
  have f4 := Tryz.assignable132
  have f5 := Tryz.assignable200
  have f6 := Tryz.valueOf132
  have f7 := Tryz.noAs200
  have f8 := Tryz.unwrap200
  have f9 := Tryz.methodUnwrap
  obtain ⟨W1, hW1⟩ : ∃ W1, W1 = W.alloc (.cells #[.pointer (some ⟨5, 134, none⟩), .pointer (some ⟨a, 0, none⟩), .int .u64 150] 173) := ⟨_, rfl⟩
  have hb1 : Below W.heap.size W W1 := by rw [hW1]; exact (Below.refl _ _).alloc (Nat.le_refl _) _
  have hB1 : W1.heap[W.heap.size]? = some (.cells #[.pointer (some ⟨5, 134, none⟩), .pointer (some ⟨a, 0, none⟩), .int .u64 150] 173 (0, 0)) := by rw [hW1]; exact heap_last _ _ _ rfl
  have x0 : W1.cell? ⟨W.heap.size, 0, none⟩ = some (.pointer (some ⟨5, 134, none⟩)) := cell_of_heap hB1 0
  have x1 : W1.cell? ⟨W.heap.size, 1, none⟩ = some (.pointer (some ⟨a, 0, none⟩)) := cell_of_heap hB1 1
  have x2 : W1.cell? ⟨W.heap.size, 2, none⟩ = some (.int .u64 150) := cell_of_heap hB1 2
  have hal : a < W.heap.size := World.block_lt_of_cell? W _ ha
  have htl : t < W.heap.size := (Array.getElem?_eq_some_iff.1 ht).1
  have ha1 := (hb1.cell (p := ⟨a, 0, none⟩) hal).trans ha
  have ht1 := (hb1.block t htl).trans ht
  have c1 : W1.cell? ⟨t, 0, none⟩ = some (.pointer none) := cell_of_heap ht1 0
  have g1 : W1.frozen? ⟨t, 0, none⟩ = false := frozen_of_heap ht1 0
  have htl1 : t < W1.heap.size := Nat.lt_of_lt_of_le htl hb1.size
  have el := Tryz.elemV134 ⟨a, 0, none⟩ ⟨t, 0, none⟩ W1 ha1
  have st : ∀ b : Nat, (ReflectliteValue.set #[.agg #[.pointer (some ⟨5, 132, none⟩), .pointer (some ⟨t, 0, none⟩), .int .u64 406], .agg #[.pointer (some ⟨5, 132, none⟩), .pointer (some ⟨W1.heap.size, 0, none⟩), .int .u64 150]]).run Tryz.prog (W1.alloc (.cells #[.pointer (some ⟨b, 0, none⟩)] 132)) = .ok (.tuple #[]) ((W1.alloc (.cells #[.pointer (some ⟨b, 0, none⟩)] 132)).setCell ⟨t, 0, none⟩ (.pointer (some ⟨b, 0, none⟩))) := fun b =>
    Tryz.set132 ⟨t, 0, none⟩ ⟨W1.heap.size, 0, none⟩ ⟨b, 0, none⟩ (.pointer none) _ (by rw [World.cell?_alloc_at _ _ _ _ (by simp)]; rfl) (by rw [World.cell?_alloc_lt _ _ ⟨t, 0, none⟩ htl1]; exact c1) (by rw [World.frozen?_alloc_old _ _ ⟨t, 0, none⟩ (Nat.ne_of_lt htl1)]; exact g1)
  have hE1 : ErrAt B W1 v c q := h.bel hb1
  obtain ⟨n0, hn0⟩ := hE1
  have Hn0 := hide hn0
  have Hb1 := hide hb1
  have HW1 := hide hW1
  have Ht1 := hide ht1
  clear h hn0 hb1 hW1 ht1 ht hB1 ha ha1
  go_enter Tryz.func96, Tryz.ntmps96
  go_wp2
  rw [← unhide HW1]
  go_loopw [0] (fun i wr => ∃ n, ErrN B W1 n i c q ∧ wr = W1) (fun i _ => Classical.epsilon fun n => ErrN B W1 n i c q)
  case atStart => exact ⟨n0, unhide Hn0, rfl⟩
  case round =>
    obtain ⟨n, hn, hwr⟩ := hrel
    subst hwr
    cases n with
    | zero =>
      obtain ⟨b, hbB, hblk, rfl⟩ := hn
      have Hblk := hide hblk
      have hbl : b < wr.heap.size := (Array.getElem?_eq_some_iff.1 hblk).1
      have hbt : b ≠ t := fun e => by rw [e, unhide Ht1] at hblk; cases hblk
      clear hblk hbB
      go_wp2
      go_ret
      refine ⟨rfl, ⟨b, ?_, ?_⟩, ?_⟩
      · have hy : (wr.setCell ⟨t, 0, none⟩ (.pointer (some ⟨b, 0, none⟩))).heap[t]? = some (.cells #[.pointer (some ⟨b, 0, none⟩)] 132 (0, 0)) := by
          simp only [World.setCell]
          rw [Array.getElem?_modify, if_pos rfl, unhide Ht1]
          rfl
        exact (World.cell?_of_block (a := ⟨t, 0, none⟩) (Below.heap_alloc _ _ _ (Array.getElem?_eq_some_iff.1 hy).1)).trans (cell_of_heap hy 0)
      · have hz : (wr.setCell ⟨t, 0, none⟩ (.pointer (some ⟨b, 0, none⟩))).heap[b]? = some (.cells #[.int .i64 c, .int .i64 q] 136 (0, 0)) := (Below.heap_setCell wr ⟨t, 0, none⟩ _ b (fun e => hbt e)).trans (unhide Hblk)
        exact (Below.heap_alloc _ _ _ (Array.getElem?_eq_some_iff.1 hz).1).trans hz
      · exact (KeepX.ofBelow (unhide Hb1)).trans ((keepX_set1 wr t 0 _).trans (KeepX.ofBelow ((Below.refl _ _).alloc (Nat.le_refl _) _)))
    | succ n =>
      obtain ⟨b, s, v', hbB, hblk, rfl, hn'⟩ := hn
      have Hu := hide (unwrap_any b s v' wr hblk)
      have hlen : (Classical.epsilon fun m => ErrN B wr m v' c q) = n := ErrN.lenEq _ _ _ (Classical.epsilon_spec (p := fun m => ErrN B wr m v' c q) ⟨n, hn'⟩) hn'
      have hlen2 : (Classical.epsilon fun m => ErrN B wr m (.iface 200 (.pointer (some ⟨b, 0, none⟩))) c q) = n + 1 := ErrN.lenEq _ _ _ (Classical.epsilon_spec (p := fun m => ErrN B wr m (.iface 200 (.pointer (some ⟨b, 0, none⟩))) c q) ⟨n + 1, b, s, v', hbB, hblk, rfl, hn'⟩) ⟨b, s, v', hbB, hblk, rfl, hn'⟩
      obtain ⟨ty, b2, hv', hty⟩ := ErrAt.form ⟨n, hn'⟩
      have Hn := hide hn'
      have Hlen := hide hlen
      have Hlen2 := hide hlen2
      rw [hv'] at Hu Hn Hlen
      clear hblk hbB hn' hlen hlen2 hv'
      rcases hty with rfl | rfl
      · go_wp2_with fail
        refine (unhide Hu).mono ?_
        rintro e w2 ⟨rfl, hw2⟩
        replace hw2 := hw2.symm
        subst hw2
        go_wp2
        go_roundw
        case rel => exact ⟨n, unhide Hn, trivial⟩
        case measure => rw [unhide Hlen, unhide Hlen2]; omega
      · go_wp2_with fail
        refine (unhide Hu).mono ?_
        rintro e w2 ⟨rfl, hw2⟩
        replace hw2 := hw2.symm
        subst hw2
        go_wp2
        go_roundw
        case rel => exact ⟨n, unhide Hn, trivial⟩
        case measure => rw [unhide Hlen, unhide Hlen2]; omega

set_option maxRecDepth 100000 in
set_option maxHeartbeats 4000000 in
theorem errorsAs_any (v : Value) (B c q t : Nat) (W : World) (h : ErrAt B W v c q) (hg : W.cell? ⟨0, 0, none⟩ = some (.iface 215 (.agg #[.pointer (some ⟨5, 96, none⟩)]))) (ht : W.heap[t]? = some (.cells #[.pointer none] 132 (0, 0))) :
    Calls Tryz.prog 73 #[v, .iface 134 (.pointer (some ⟨t, 0, none⟩))] W fun e w' => e = .returned (.bool true) ∧ FoundAt W t c q w' := by
  have h93 := @run_callFunc_extern Tryz.prog 93 _ (fun args => ReflectliteValue.unpack (args.getD 0 (.tuple #[]))) Tryz.func93 (by kernel_rfl) (by kernel_rfl) (by kernel_rfl) (by kernel_rfl)
  have h94 := @run_callFunc_extern Tryz.prog 94 _ (ReflectliteValue.methodAny (ReflectliteValue.valueError "reflectlite.Value.Type" 0) (fun t _ _ _ => ReflectliteType.toType t)) Tryz.func94 (by kernel_rfl) (by kernel_rfl) (by kernel_rfl) (by kernel_rfl)
  have h95 := @run_callFunc_extern Tryz.prog 95 _ (ReflectliteValue.method (ReflectliteValue.valueError "reflectlite.Value.IsNil" 0) ReflectliteValue.isNil) Tryz.func95 (by kernel_rfl) (by kernel_rfl) (by kernel_rfl) (by kernel_rfl)
  have h176 := @run_callFunc_extern Tryz.prog 176 _ (ReflectliteType.abiMethod fun t => do pure (.int .u8 (← Rtype.kind t))) Tryz.func176 (by kernel_rfl) (by kernel_rfl) (by kernel_rfl) (by kernel_rfl)
  have h188 := @run_callFunc_extern Tryz.prog 188 _ (ReflectliteType.method ReflectliteType.elem) Tryz.func188 (by kernel_rfl) (by kernel_rfl) (by kernel_rfl) (by kernel_rfl)
  have h189 := @run_callFunc_extern Tryz.prog 189 _ (ReflectliteType.relation "Implements" ReflectliteType.implements_) Tryz.func189 (by kernel_rfl) (by kernel_rfl) (by kernel_rfl) (by kernel_rfl)
  have f6 := Tryz.valueOf134
  have f7 := Tryz.type134
  have mK := Tryz.methodKind
  have mE := Tryz.methodElem
  have mI := Tryz.methodImplements
  have k134 := Tryz.kind134
  have k132 := Tryz.kind132
  have e134 := Tryz.elem134
  have i132 := Tryz.implements132
  obtain ⟨W2, hW2⟩ : ∃ W2, W2 = (W.alloc (.cells #[.pointer (some ⟨t, 0, none⟩)] 134)).alloc (.cells #[.pointer (some ⟨5, 134, none⟩), .pointer (some ⟨W.heap.size, 0, none⟩), .int .u64 150] 173) := ⟨_, rfl⟩
  have n8 := Tryz.isNil134 ⟨W.heap.size, 0, none⟩ ⟨t, 0, none⟩ ((W.alloc (.cells #[.pointer (some ⟨t, 0, none⟩)] 134)).alloc (.cells #[.pointer (some ⟨5, 134, none⟩), .pointer (some ⟨W.heap.size, 0, none⟩), .int .u64 150] 173)) (by simp)
  have hlt : 0 < W.heap.size := by
    rcases Nat.eq_zero_or_pos W.heap.size with h0 | h
    · simp [World.cell?, h0] at hg
    · exact h
  have hg2 : ((W.alloc (.cells #[.pointer (some ⟨t, 0, none⟩)] 134)).alloc (.cells #[.pointer (some ⟨5, 134, none⟩), .pointer (some ⟨W.heap.size, 0, none⟩), .int .u64 150] 173)).cell? ⟨0, 0, none⟩ = some (.iface 215 (.agg #[.pointer (some ⟨5, 96, none⟩)])) := by
    rw [World.cell?_alloc_lt _ _ ⟨0, 0, none⟩ (by simp), World.cell?_alloc_lt _ _ ⟨0, 0, none⟩ hlt]; exact hg
  have hb2 : Below W.heap.size W W2 := by rw [hW2]; exact ((Below.refl _ _).alloc (Nat.le_refl _) _).alloc (by simp) _
  have htl : t < W.heap.size := (Array.getElem?_eq_some_iff.1 ht).1
  have Has := hide (as_any v B c q t W.heap.size #[] W2 (h.bel hb2) (by rw [hW2, World.cell?_alloc_lt _ _ ⟨W.heap.size, 0, none⟩ (by simp)]; simp) ((hb2.block t htl).trans ht))
  have HW2 := hide hW2
  have Hb2 := hide hb2
  obtain ⟨ty, b, rfl, hty⟩ := h.form
  clear h ht hb2 hW2
  rcases hty with rfl | rfl
  · go_enter Tryz.func73, Tryz.ntmps73
    go_wp2_with fail
    rw [← unhide HW2]
    refine (unhide Has).mono ?_
    rintro e w3 ⟨rfl, hF⟩
    have HF := hide hF
    clear hF Has
    go_wp2
    go_ret
    exact ⟨rfl, (unhide HF).cell, (KeepX.ofBelow (unhide Hb2)).trans (unhide HF).keep⟩
  · go_enter Tryz.func73, Tryz.ntmps73
    go_wp2_with fail
    rw [← unhide HW2]
    refine (unhide Has).mono ?_
    rintro e w3 ⟨rfl, hF⟩
    have HF := hide hF
    clear hF Has
    go_wp2
    go_ret
    exact ⟨rfl, (unhide HF).cell, (KeepX.ofBelow (unhide Hb2)).trans (unhide HF).keep⟩

end Go.Proofs.YtgddkjhknlgbbaaGreatDoor
