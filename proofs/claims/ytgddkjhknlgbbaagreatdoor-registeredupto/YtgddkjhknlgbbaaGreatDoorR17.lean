import Derived.Test.YtgddkjhknlgbbaaGreatDoorR02
import Derived.LaidEql
import Derived.Stop.Asserts
import Derived.RowKitTokens
set_option linter.unusedVariables false
set_option linter.unusedSimpArgs false

namespace Go.Proofs.YtgddkjhknlgbbaaGreatDoor
set_option linter.unusedVariables false
set_option linter.unusedSimpArgs false
open Go.RowKit Go.Extern.Stop Go.Stop Go.Extern

/-! The model's entries for internal/reflectlite at this dump: 132: *query.Fault; 134: **query.Fault; 200: *query.partError; 96: error; 215: rtype. -/
theorem Tryz.valueOf134 (t : Addr) (w : World) : (ReflectliteValue.unpack (.iface 134 (.pointer (some t)))).run Tryz.prog w
    = .ok (.agg #[.pointer (some ⟨5, 134, none⟩), .pointer (some ⟨w.heap.size, 0, none⟩), .int .u64 150]) (w.alloc (.cells #[.pointer (some t)] 134)) := by kernel_rfl
theorem Tryz.type134 (a : Addr) (w : World) : (ReflectliteValue.methodAny (ReflectliteValue.valueError "reflectlite.Value.Type" 0) (fun t _ _ _ => ReflectliteType.toType t) #[.agg #[.pointer (some ⟨5, 134, none⟩), .pointer (some a), .int .u64 150]]).run Tryz.prog w
    = .ok (.iface 215 (.agg #[.pointer (some ⟨5, 134, none⟩)])) w := by kernel_rfl
theorem Tryz.methodKind (h : Value) (w : World) : (Go.method 401 215 (.agg #[h]) "Kind").run Tryz.prog w = .ok (176, h) w := by kernel_rfl
theorem Tryz.kind134 (w : World) : ((ReflectliteType.abiMethod fun t => Functor.map (fun a : Nat => Value.int IntKind.u8 (a : Int)) (Rtype.kind t)) #[.pointer (some ⟨5, 134, none⟩)]).run Tryz.prog w = .ok (.int .u8 22) w := by kernel_rfl
theorem Tryz.kind132 (w : World) : ((ReflectliteType.abiMethod fun t => Functor.map (fun a : Nat => Value.int IntKind.u8 (a : Int)) (Rtype.kind t)) #[.pointer (some ⟨5, 132, none⟩)]).run Tryz.prog w = .ok (.int .u8 22) w := by kernel_rfl

theorem rlm (z : Sem Value) (f : TypeId → Addr → Nat → Nat → Sem Value) (v : Value) (t : TypeId) (a : Addr) (fl : Nat) (W : World) (h : (ReflectliteValue.parts v).run Tryz.prog W = .ok (some (t, a, fl)) W) :
    (ReflectliteValue.method z f #[v]).run Tryz.prog W = (f t a fl (fl % 32)).run Tryz.prog W := by
  have hK : ∃ K : Option (TypeId × Addr × Nat) → Sem Value, (∀ v, ReflectliteValue.method z f #[v] = ReflectliteValue.parts v >>= K) ∧ ∀ t a fl, K (some (t, a, fl)) = f t a fl (fl % 32) := ⟨_, fun _ => rfl, fun _ _ _ => rfl⟩
  obtain ⟨K, h1, h2⟩ := hK
  rw [h1, Sem.run_bind, h, Result.andThen, h2]
theorem Tryz.parts134 (a : Addr) (w : World) : (ReflectliteValue.parts (.agg #[.pointer (some ⟨5, 134, none⟩), .pointer (some a), .int .u64 150])).run Tryz.prog w = .ok (some (134, a, 150)) w := by kernel_rfl
theorem Tryz.isNil134 (a p : Addr) (W : World) (ha : W.cell? a = some (.pointer (some p))) :
    (ReflectliteValue.method (ReflectliteValue.valueError "reflectlite.Value.IsNil" 0) ReflectliteValue.isNil #[.agg #[.pointer (some ⟨5, 134, none⟩), .pointer (some a), .int .u64 150]]).run Tryz.prog W = .ok (.bool false) W := by
  rw [rlm _ _ _ _ _ _ W (Tryz.parts134 a W)]
  simp [ReflectliteValue.isNil, loadVar, isAgg, underlying, Tryz.underlying134, ha, Result.andThen]

theorem Tryz.methodElem (h : Value) (w : World) : (Go.method 401 215 (.agg #[h]) "Elem").run Tryz.prog w = .ok (188, .agg #[h]) w := by kernel_rfl
theorem Tryz.methodImplements (h : Value) (w : World) : (Go.method 401 215 (.agg #[h]) "Implements").run Tryz.prog w = .ok (189, .agg #[h]) w := by kernel_rfl
theorem Tryz.methodAssignableTo (h : Value) (w : World) : (Go.method 401 215 (.agg #[h]) "AssignableTo").run Tryz.prog w = .ok (186, .agg #[h]) w := by kernel_rfl
theorem Tryz.elem134 (w : World) : (ReflectliteType.method ReflectliteType.elem #[.agg #[.pointer (some ⟨5, 134, none⟩)]]).run Tryz.prog w = .ok (.iface 215 (.agg #[.pointer (some ⟨5, 132, none⟩)])) w := by kernel_rfl
theorem Tryz.implements132 (w : World) : (ReflectliteType.relation "Implements" ReflectliteType.implements_ #[.agg #[.pointer (some ⟨5, 132, none⟩)], .iface 215 (.agg #[.pointer (some ⟨5, 96, none⟩)])]).run Tryz.prog w = .ok (.bool true) w := by kernel_rfl
theorem Tryz.typeOf132 (v : Value) (w : World) : (ReflectliteType.typeOf #[.iface 132 v]).run Tryz.prog w = .ok (.iface 215 (.agg #[.pointer (some ⟨5, 132, none⟩)])) w := by kernel_rfl
theorem Tryz.typeOf200 (v : Value) (w : World) : (ReflectliteType.typeOf #[.iface 200 v]).run Tryz.prog w = .ok (.iface 215 (.agg #[.pointer (some ⟨5, 200, none⟩)])) w := by kernel_rfl
theorem Tryz.assignable132 (w : World) : (ReflectliteType.relation "AssignableTo" ReflectliteType.assignableTo #[.agg #[.pointer (some ⟨5, 132, none⟩)], .iface 215 (.agg #[.pointer (some ⟨5, 132, none⟩)])]).run Tryz.prog w = .ok (.bool true) w := by kernel_rfl
theorem Tryz.assignable200 (w : World) : (ReflectliteType.relation "AssignableTo" ReflectliteType.assignableTo #[.agg #[.pointer (some ⟨5, 200, none⟩)], .iface 215 (.agg #[.pointer (some ⟨5, 132, none⟩)])]).run Tryz.prog w = .ok (.bool false) w := by kernel_rfl
theorem Tryz.valueOf132 (e : Addr) (w : World) : (ReflectliteValue.unpack (.iface 132 (.pointer (some e)))).run Tryz.prog w
    = .ok (.agg #[.pointer (some ⟨5, 132, none⟩), .pointer (some ⟨w.heap.size, 0, none⟩), .int .u64 150]) (w.alloc (.cells #[.pointer (some e)] 132)) := by kernel_rfl
theorem Tryz.elemOf134 (w : World) : (Rtype.elem? 134).run Tryz.prog w = .ok (some 132) w := by kernel_rfl
theorem Tryz.mk132 (p : Addr) (w : World) : (ReflectliteValue.mk 132 p ReflectliteValue.flagAddr).run Tryz.prog w = .ok (.agg #[.pointer (some ⟨5, 132, none⟩), .pointer (some p), .int .u64 406]) w := by kernel_rfl
theorem Tryz.elemV134 (a p : Addr) (W : World) (ha : W.cell? a = some (.pointer (some p))) :
    (ReflectliteValue.method (ReflectliteValue.valueError "reflectlite.Value.Elem" 0) ReflectliteValue.elem #[.agg #[.pointer (some ⟨5, 134, none⟩), .pointer (some a), .int .u64 150]]).run Tryz.prog W
      = .ok (.agg #[.pointer (some ⟨5, 132, none⟩), .pointer (some p), .int .u64 406]) W := by
  rw [rlm _ _ _ _ _ _ W (Tryz.parts134 a W)]
  simp [ReflectliteValue.elem, loadVar, isAgg, underlying, Tryz.underlying134, ha, Result.andThen, Tryz.elemOf134, Tryz.mk132]
theorem Tryz.parts132a (a : Addr) (w : World) : (ReflectliteValue.parts (.agg #[.pointer (some ⟨5, 132, none⟩), .pointer (some a), .int .u64 406])).run Tryz.prog w = .ok (some (132, a, 406)) w := by kernel_rfl
theorem Tryz.parts132 (a : Addr) (w : World) : (ReflectliteValue.parts (.agg #[.pointer (some ⟨5, 132, none⟩), .pointer (some a), .int .u64 150])).run Tryz.prog w = .ok (some (132, a, 150)) w := by kernel_rfl
theorem Tryz.direct132 (w : World) : (Rtype.directlyAssignable 132 132).run Tryz.prog w = .ok true w := by kernel_rfl
theorem Tryz.setK132 (ta b e : Addr) (old : Value) (W : World) (hb : W.cell? b = some (.pointer (some e))) (ht : W.cell? ta = some old) (hf : W.frozen? ta = false) :
    ∃ K : Option (TypeId × Addr × Nat) → Option (TypeId × Addr × Nat) → Sem Value, (∀ v x, ReflectliteValue.set #[v, x] = ReflectliteValue.parts v >>= fun p => ReflectliteValue.parts x >>= fun q => K p q) ∧ (K (some (132, ta, 406)) (some (132, b, 150))).run Tryz.prog W = .ok (.tuple #[]) (W.setCell ta (.pointer (some e))) := by
  refine ⟨_, fun v x => rfl, ?_⟩
  simp [ReflectliteValue.flagAddr, loadVar, isAgg, underlying, Tryz.underlying132, hb, Result.andThen, Tryz.direct132, storeVar, Value.cells, storeCells, Addr.add]
  rw [run_store Tryz.prog W ta _ _ (by rfl)]
  simp [ht, hf]
theorem Tryz.set132 (ta b e : Addr) (old : Value) (W : World) (hb : W.cell? b = some (.pointer (some e))) (ht : W.cell? ta = some old) (hf : W.frozen? ta = false) :
    (ReflectliteValue.set #[.agg #[.pointer (some ⟨5, 132, none⟩), .pointer (some ta), .int .u64 406], .agg #[.pointer (some ⟨5, 132, none⟩), .pointer (some b), .int .u64 150]]).run Tryz.prog W
      = .ok (.tuple #[]) (W.setCell ta (.pointer (some e))) := by
  obtain ⟨K, h1, h2⟩ := Tryz.setK132 ta b e old W hb ht hf
  rw [h1, Sem.run_bind, Tryz.parts132a, Result.andThen, Sem.run_bind, Tryz.parts132, Result.andThen, h2]

theorem Tryz.noAs200 (v : Value) (x : TypeId) (w : World) : (Instr.typeAssert (.iface 200 v) x 220 true).run Tryz.prog w = .ok (.tuple #[.nilIface, .bool false]) w := run_typeAssert_lacksB Tryz.underlying220 (by kernel_rfl) (by kernel_rfl) v x w
theorem Tryz.unwrap200 (v : Value) (x : TypeId) (w : World) : (Instr.typeAssert (.iface 200 v) x 223 true).run Tryz.prog w = .ok (.tuple #[.iface 200 v, .bool true]) w := run_typeAssert_hasB Tryz.underlying223 (by kernel_rfl) v x w
theorem Tryz.methodUnwrap (a : Addr) (w : World) : (Go.method 401 200 (.pointer (some a)) "Unwrap").run Tryz.prog w = .ok (184, .pointer (some a)) w := by kernel_rfl

theorem unwrap_any (b : Nat) (t : ByteArray) (v : Value) (W : World) (h : W.heap[b]? = some (.cells #[.string t, v] 202 (0, 0))) :
    Calls Tryz.prog 184 #[.pointer (some ⟨b, 0, none⟩)] W fun e w' => e = .returned v ∧ w' = W := by
  have c1 : W.cell? ⟨b, 1, none⟩ = some v := cell_of_heap h 1
  clear h
  go_enter Tryz.func184, Tryz.ntmps184
  go_wp2
  go_ret
  exact ⟨rfl, rfl⟩

theorem ErrN.lenEq {B : Nat} {W : World} {c q : Nat} : ∀ (n m : Nat) (v : Value), ErrN B W n v c q → ErrN B W m v c q → n = m
  | 0, 0, _, _, _ => rfl
  | 0, m + 1, v, ⟨b, _, _, e1⟩, ⟨b', t, v', _, _, e2, _⟩ => by rw [e1] at e2; cases e2
  | n + 1, 0, v, ⟨b', t, v', _, _, e2, _⟩, ⟨b, _, _, e1⟩ => by rw [e1] at e2; cases e2
  | n + 1, m + 1, v, ⟨b, t, v1, _, h1, e1, r1⟩, ⟨b', t', v2, _, h2, e2, r2⟩ => by
    rw [e1] at e2
    cases e2
    rw [h1] at h2
    cases h2
    rw [ErrN.lenEq n m _ r1 r2]

end Go.Proofs.YtgddkjhknlgbbaaGreatDoor
