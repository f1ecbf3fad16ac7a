import Derived.Test.YtgddkjhknlgbbaaGreatDoorR01
import Derived.Test.YtgddkjhknlgbbaaGreatDoorR21
set_option linter.unusedVariables false
set_option linter.unusedSimpArgs false

namespace Go.Proofs.YtgddkjhknlgbbaaGreatDoor
set_option linter.unusedVariables false
set_option linter.unusedSimpArgs false
open Go.RowKit Go.Maps Go.Sort Go.Shelf

/-- What both sides keep of an engine: its relations, and its views' names. -/
abbrev ZV := List ZRel × List ByteArray
structure ZOkV (z : ZV) : Prop where
  ok : ZOk z.1
  nd : z.2.Nodup
  len : z.2.length ≤ 6
theorem ZOkV.created {z : ZV} (h : ZOkV z) (nm : ByteArray) (ar : Int) : ZOkV (createS z.1 nm ar, z.2) := ⟨h.ok.created nm ar, h.nd, h.len⟩
theorem ZOkV.nil : ZOkV ([], []) := ⟨⟨by simp, List.Pairwise.nil, fun z hz => by simp at hz⟩, by simp, by simp⟩

theorem cell_same {W W' : World} {p : Addr} (h : W'.heap[p.block]? = W.heap[p.block]?) : W'.cell? p = W.cell? p := by simp only [World.cell?, h]

structure EngV (T : Nat → Prop) (W : World) (eb : Nat) (z : ZV) (N : Nat) : Prop where
  ex : ∃ vb n, EngSide (fun b => T b ∧ b ≠ vb) W eb z.1 N ∧ W.cell? ⟨eb, 1, none⟩ = some (.map (some vb)) ∧ T vb ∧ VRep W vb n z.2 ∧ n ≤ N

theorem EngV.kept {T : Nat → Prop} {W W' : World} {eb : Nat} {z : ZV} {N : Nat} (h : EngV T W eb z N) (hs : W.heap.size ≤ W'.heap.size) (hk : ∀ b, T b → b < W.heap.size → W'.heap[b]? = W.heap[b]?) : EngV T W' eb z N := by
  obtain ⟨vb, n, h1, h2, h3, h4, h5⟩ := h.ex
  obtain ⟨db, E, st, hE, t1, _⟩ := h1.ex
  exact ⟨vb, n, h1.kept hs (fun b hb => hk b hb.1), (cell_same (p := ⟨eb, 1, none⟩) (hk eb t1.1 (by have := hE.inn; have := hE.top; omega))).trans h2, h3, h4.kept (hk vb h3 h4.lt), h5⟩
theorem EngV.imp {T T' : Nat → Prop} {W : World} {eb : Nat} {z : ZV} {N N' : Nat} (h : EngV T W eb z N) (hT : ∀ b, T b → T' b) (hN : N ≤ N') : EngV T' W eb z N' := by
  obtain ⟨vb, n, h1, h2, h3, h4, h5⟩ := h.ex
  exact ⟨vb, n, h1.imp (fun b hb => ⟨hT b hb.1, hb.2⟩) hN, h2, hT _ h3, h4, by omega⟩

theorem engCreateV (T : Nat → Prop) (W : World) (eb : Nat) (z : ZV) (N : Nat) (nm : ByteArray) (ar : Int) (h : EngV T W eb z N) (hz : ZOkV z) (hn : nm.size ≤ 9223372036854775807) :
    Calls Tryz.prog 12 #[.pointer (some ⟨eb, 0, none⟩), .string nm, .int .i64 ar] W fun e w' => e = .returned (.int .i64 (createC z.1 nm ar)) ∧ EngV (fun b => T b ∨ W.heap.size ≤ b ∧ b < w'.heap.size) w' eb (createS z.1 nm ar, z.2) N ∧ Mid T W w' := by
  obtain ⟨vb, n, h1, h2, h3, h4, h5⟩ := h.ex
  have hlt := h4.lt
  refine (engCreate _ W eb z.1 N nm ar h1 hz.ok hn).mono ?_
  rintro e w' ⟨rfl, hE, hM, hk⟩
  exact ⟨rfl, ⟨vb, n, hE.imp (fun b hb => by
    rcases hb with hb | hb
    · exact ⟨.inl hb.1, hb.2⟩
    · exact ⟨.inr hb, by omega⟩) (Nat.le_refl _), (cell_same (p := ⟨eb, 1, none⟩) hk).trans h2, .inl h3, h4.kept (hM.block vb hlt (fun q => q.2 rfl)), h5⟩, hM.imp (fun k q => q.1)⟩

def ApplyResV (z : ZV) (es : List Ent) (c k : Int) (z' : ZV) : Prop := ApplyRes z.1 es c k z'.1 ∧ z'.2 = z.2
theorem ApplyResV.unique {z : ZV} {es : List Ent} {c c' k k' : Int} {y y' : ZV} (h : ApplyResV z es c k y) (h' : ApplyResV z es c' k' y') : c = c' ∧ k = k' ∧ y = y' := by
  obtain ⟨a, b, d⟩ := h.1.unique h'.1
  exact ⟨a, b, Prod.ext d (h.2.trans h'.2.symm)⟩

theorem engApplyV (T : Nat → Prop) (W : World) (eb : Nat) (z : ZV) (N : Nat) (bv : Value) (es : List Ent) (h : EngV T W eb z N) (hz : ZOkV z) (hv : EntsAt W bv es) (hF : FineB es) (hN : N ≤ 900000000) :
    Calls Tryz.prog 15 #[.pointer (some ⟨eb, 0, none⟩), bv] W fun e w' => ∃ c k z', e = .returned (.tuple #[.int .i64 c, .int .i64 k]) ∧ ApplyResV z es c k z' ∧ EngV T w' eb z' (N + 128) ∧ Mid T W w' := by
  obtain ⟨vb, n, h1, h2, h3, h4, h5⟩ := h.ex
  have hlt := h4.lt
  refine (engApply _ W eb z.1 N bv es h1 hz.ok hv hF hN).mono ?_
  rintro e w' ⟨c, k, zs', rfl, hA, hE, hM, hk⟩
  exact ⟨c, k, (zs', z.2), rfl, ⟨hA, rfl⟩, ⟨vb, n, hE, (cell_same (p := ⟨eb, 1, none⟩) hk).trans h2, h3, h4.kept (hM.block vb hlt (fun q => q.2 rfl)), by omega⟩, hM.imp (fun k q => q.1)⟩

theorem engRowsV (T : Nat → Prop) (W : World) (eb : Nat) (y : ZV) (N : Nat) (nm : ByteArray) (z : ZRel) (h : EngV T W eb y N) (hz : ZOkV y) (hf : findZ y.1 nm = some z) (hN : N ≤ 900000000) :
    Calls Tryz.prog 52 #[.pointer (some ⟨eb, 0, none⟩), .string nm] W fun e w' => ∃ v rsx, e = .returned (.tuple #[v, .int .i64 0]) ∧ w'.ownsRow W.heap.size 86 2 v rsx.length (rawCells rsx) ∧ RowsAt w' v z.L ∧ rsx.length ≤ 16 ∧
      (∀ r ∈ rsx, ∃ xs, w'.ownsRow W.heap.size 2 1 (valS r) r.n xs ∧ r.n ≤ 3) ∧ (rsx.Pairwise fun r r' => ∀ g, (valS r).ownBlock = some g → (valS r').ownBlock ≠ some g) ∧ Below W.heap.size W w' := by
  obtain ⟨vb, n, h1, _⟩ := h.ex
  exact engRows _ W eb y.1 N nm z h1 hz.ok hf hN
theorem engRowsV_miss (T : Nat → Prop) (W : World) (eb : Nat) (y : ZV) (N : Nat) (nm : ByteArray) (h : EngV T W eb y N) (hf : findZ y.1 nm = none) (hn : nm.size ≤ maxLen) :
    Calls Tryz.prog 52 #[.pointer (some ⟨eb, 0, none⟩), .string nm] W fun e w' => e = .returned (.tuple #[.slice none 0 0, .int .i64 6]) ∧ Below W.heap.size W w' := by
  obtain ⟨vb, n, h1, _⟩ := h.ex
  exact engRows_miss _ W eb y.1 N nm h1 hf hn

/-- The reference's engine, with its views. -/
structure RefV (T : Nat → Prop) (W : World) (fb : Nat) (z : ZV) : Prop where
  ex : ∃ (vw : Value) (ws : List VRow), RefSide (fun b => T b ∧ some b ≠ vw.ownBlock) W fb z.1 ∧ W.cell? ⟨fb, 1, none⟩ = some vw ∧ OwnT T W 112 4 vw ws.length (cellsVR ws) ∧ ws.map (·.nm) = z.2 ∧ ∀ u ∈ cellsVR ws, u.oneCell' = true

theorem RefSide.fb_in {T : Nat → Prop} {W : World} {fb : Nat} {zs : List ZRel} (h : RefSide T W fb zs) : T fb ∧ fb < W.heap.size := by
  obtain ⟨v, rs, hR⟩ := h
  obtain ⟨vw, hb⟩ := hR.box
  exact ⟨hR.tfb, heap_lt hb⟩
theorem RefV.kept {T : Nat → Prop} {W W' : World} {fb : Nat} {z : ZV} (h : RefV T W fb z) (hk : ∀ b, T b → b < W.heap.size → W'.heap[b]? = W.heap[b]?) : RefV T W' fb z := by
  obtain ⟨vw, ws, h1, h2, h3, h4, h5⟩ := h.ex
  exact ⟨vw, ws, h1.kept (fun b hb => hk b hb.1), (cell_same (p := ⟨fb, 1, none⟩) (hk fb h1.fb_in.1.1 h1.fb_in.2)).trans h2, h3.kept (fun g cur hT hg => hk g hT (heap_lt hg)), h4, h5⟩
theorem RefV.imp {T T' : Nat → Prop} {W : World} {fb : Nat} {z : ZV} (h : RefV T W fb z) (hT : ∀ b, T b → T' b) : RefV T' W fb z := by
  obtain ⟨vw, ws, h1, h2, h3, h4, h5⟩ := h.ex
  exact ⟨vw, ws, h1.imp (fun b hb => ⟨hT b hb.1, hb.2⟩), h2, h3.imp hT, h4, h5⟩

theorem RefV.step {T : Nat → Prop} {W w' : World} {fb : Nat} {vw : Value} {ws : List VRow} {zs' : List ZRel} {vs : List ByteArray} (h2 : W.cell? ⟨fb, 1, none⟩ = some vw) (h3 : OwnT T W 112 4 vw ws.length (cellsVR ws)) (h4 : ws.map (·.nm) = vs) (h5 : ∀ u ∈ cellsVR ws, u.oneCell' = true) (hR : RefSide (fun b => (T b ∧ some b ≠ vw.ownBlock) ∨ W.heap.size ≤ b ∧ b < w'.heap.size) w' fb zs') (hM : Mid (fun b => T b ∧ some b ≠ vw.ownBlock) W w') (hk : w'.cell? ⟨fb, 1, none⟩ = W.cell? ⟨fb, 1, none⟩) : RefV (fun b => T b ∨ W.heap.size ≤ b ∧ b < w'.heap.size) w' fb (zs', vs) := by
  have hlt : ∀ g, vw.ownBlock = some g → g < W.heap.size := fun g hg => by
    obtain ⟨⟨base, ho⟩, _⟩ := h3
    obtain ⟨cur, hc⟩ := own_type ho hg
    exact heap_lt hc
  refine ⟨vw, ws, hR.imp (fun b hb => ?_), hk.trans h2, ?_, h4, h5⟩
  · rcases hb with hb | hb
    · exact ⟨.inl hb.1, hb.2⟩
    · exact ⟨.inr hb, fun e => by have := hlt b e.symm; omega⟩
  · obtain ⟨⟨base, ho⟩, hT⟩ := h3
    refine ⟨⟨base, ?_⟩, fun g hg => .inl (hT g hg)⟩
    have h9 : OwnT (fun b => vw.ownBlock = some b) W 112 4 vw ws.length (cellsVR ws) := ⟨⟨base, ho⟩, fun g hg => hg⟩
    rcases ho.2 with ⟨e1, e2⟩ | ⟨g, cap, cur, e1, hb, hg, r⟩
    · exact ⟨ho.1, .inl ⟨e1, e2⟩⟩
    · have hog : vw.ownBlock = some g := by rw [e1]; rfl
      exact ⟨ho.1, .inr ⟨g, cap, cur, e1, hb, (hM.block g (heap_lt hg) (fun q => q.2 hog.symm)).trans hg, r⟩⟩

theorem refCreateV (T : Nat → Prop) (W : World) (fb : Nat) (z : ZV) (nm : ByteArray) (ar : Int) (h : RefV T W fb z) (hz : ZOkV z) (hn : nm.size ≤ 9223372036854775807) :
    Calls Tryz.prog 13 #[.pointer (some ⟨fb, 0, none⟩), .string nm, .int .i64 ar] W fun e w' => e = .returned (.int .i64 (createC z.1 nm ar)) ∧ RefV (fun b => T b ∨ W.heap.size ≤ b ∧ b < w'.heap.size) w' fb (createS z.1 nm ar, z.2) ∧ Mid T W w' := by
  obtain ⟨vw, ws, h1, h2, h3, h4, h5⟩ := h.ex
  refine (refCreate _ W fb z.1 nm ar h1 hz.ok hn).mono ?_
  rintro e w' ⟨rfl, hR, hM, hk⟩
  exact ⟨rfl, RefV.step h2 h3 h4 h5 hR hM hk, hM.imp (fun k q => q.1)⟩
theorem refApplyV (T : Nat → Prop) (W : World) (fb : Nat) (z : ZV) (bv : Value) (es : List Ent) (h : RefV T W fb z) (hz : ZOkV z) (hv : EntsAt W bv es) (hnil : EntsNil W bv) (hF : FineB es) :
    Calls Tryz.prog 16 #[.pointer (some ⟨fb, 0, none⟩), bv] W fun e w' => ∃ c k z', e = .returned (.tuple #[.int .i64 c, .int .i64 k]) ∧ ApplyResV z es c k z' ∧ RefV (fun b => T b ∨ W.heap.size ≤ b ∧ b < w'.heap.size) w' fb z' ∧ Mid T W w' := by
  obtain ⟨vw, ws, h1, h2, h3, h4, h5⟩ := h.ex
  refine (refApply _ W fb z.1 bv es h1 hz.ok hv hnil hF).mono ?_
  rintro e w' ⟨c, k, zs', rfl, hA, hR, hM, hk⟩
  exact ⟨c, k, (zs', z.2), rfl, ⟨hA, rfl⟩, RefV.step h2 h3 h4 h5 hR hM hk, hM.imp (fun k q => q.1)⟩
theorem refRowsV (T : Nat → Prop) (W : World) (fb : Nat) (y : ZV) (nm : ByteArray) (z : ZRel) (h : RefV T W fb y) (hz : ZOkV y) (hf : findZ y.1 nm = some z) :
    Calls Tryz.prog 53 #[.pointer (some ⟨fb, 0, none⟩), .string nm] W fun e w' => ∃ v, e = .returned (.tuple #[v, .int .i64 0]) ∧ RowsAt W v z.L ∧ w' = W := by
  obtain ⟨vw, ws, h1, _⟩ := h.ex
  exact refRows _ W fb y.1 nm z h1 hz.ok hf
theorem refRowsV_none (T : Nat → Prop) (W : World) (fb : Nat) (y : ZV) (nm : ByteArray) (h : RefV T W fb y) (hz : ZOkV y) (hf : findZ y.1 nm = none) :
    Calls Tryz.prog 53 #[.pointer (some ⟨fb, 0, none⟩), .string nm] W fun e w' => e = .returned (.tuple #[.slice none 0 0, .int .i64 6]) ∧ w' = W := by
  obtain ⟨vw, ws, h1, _⟩ := h.ex
  exact refRows_none _ W fb y.1 nm h1 hz.ok hf

end Go.Proofs.YtgddkjhknlgbbaaGreatDoor

namespace Go.Proofs.YtgddkjhknlgbbaaGreatDoor
set_option linter.unusedVariables false
set_option linter.unusedSimpArgs false
open Go.RowKit Go.Maps Go.Sort Go.Shelf

def stOf (zs : List ZRel) : St := fun nm => (findZ zs nm).map fun z => ⟨0, 0, z.ar, 0, fun _ => 0⟩
theorem judgeL_congr {st st' : St} (h : ∀ nm n, atomE st nm n = atomE st' nm n) : judgeL st = judgeL st' := by
  funext hs ats
  unfold judgeL bodyJ
  congr 1
  exact List.map_congr_left fun a _ => by rw [h]
theorem atomE_zs {st : St} {zs : List ZRel} (t4 : ∀ nm, st nm = none ↔ ∀ z ∈ zs, z.nm ≠ nm) (t5 : ∀ z ∈ zs, ∃ R, st z.nm = some R ∧ R.ar = z.ar) (nm : ByteArray) (n : Nat) : atomE st nm n = atomE (stOf zs) nm n := by
  unfold atomE stOf
  cases e : findZ zs nm with
  | none => rw [(t4 nm).2 (findZ_none.1 e)]; rfl
  | some z =>
    obtain ⟨hm, hn⟩ := findZ_some e
    obtain ⟨R, h1, h2⟩ := t5 z hm
    rw [hn] at h1
    rw [h1]
    simp only [Option.map_some, h2]
theorem atomR_zs {T : Nat → Prop} {W : World} {fb : Nat} {v : Value} {rs : List RRel} {zs : List ZRel} (h : RefRep T W fb v rs zs) (nm : ByteArray) (n : Nat) : atomRZ rs nm n = atomE (stOf zs) nm n := by
  unfold atomRZ atomE stOf
  by_cases h8 : 8 < nm.size
  · rw [if_pos h8, if_pos h8]
  · rw [if_neg h8, if_neg h8]
    rcases place_find nm rs zs 0 (Int.le_refl _) h.names with ⟨h1, h2⟩ | ⟨k, h1, h2, h3⟩
    · rw [if_pos h1, h2]; rfl
    · rw [Int.zero_add] at h2
      rw [if_neg (by omega), h2, h3, Int.toNat_natCast, (h.each k h1).2.1]
      simp only [Option.map_some]
      by_cases e : n = (zs[k]?.getD zeroZR).ar
      · rw [if_neg (by simpa using (show ((zs[k]?.getD zeroZR).ar : Int) = (n : Int) by omega)), if_pos e]
      · rw [if_pos (by omega), if_neg e]

/-- What Register answers. -/
def regZ (z : ZV) (nm s o : ByteArray) : Int × Int := regA (judgeL (stOf z.1)) z.2 nm s o
theorem regZ_zero {z : ZV} {nm s o : ByteArray} (h : (regZ z nm s o).1 = 0) : newViewC z.2 nm s = 0 := by
  by_cases e : newViewC z.2 nm s = 0
  · exact e
  · unfold regZ at h
    rw [regA_short e] at h
    exact h
theorem ZOkV.reg {z : ZV} (h : ZOkV z) (nm s o : ByteArray) : ZOkV (z.1, regS z.2 nm (regZ z nm s o).1) := by
  refine ⟨h.ok, ?_, ?_⟩
  · show (regS z.2 nm (regZ z nm s o).1).Nodup
    unfold regS
    by_cases e : (regZ z nm s o).1 = 0
    · rw [if_pos e]
      obtain ⟨_, hx, _, _⟩ := newView_zero (regZ_zero e)
      exact List.nodup_append.2 ⟨h.nd, by simp, fun a ha b hb => by rw [List.mem_singleton.1 hb]; exact fun e => hx (e ▸ ha)⟩
    · rw [if_neg e]; exact h.nd
  · show (regS z.2 nm (regZ z nm s o).1).length ≤ 6
    unfold regS
    by_cases e : (regZ z nm s o).1 = 0
    · rw [if_pos e]
      obtain ⟨_, _, hl, _⟩ := newView_zero (regZ_zero e)
      simp; omega
    · rw [if_neg e]; exact h.len
def dropC (z : ZV) (nm : ByteArray) : Int := if memB z.2 nm = true then 0 else 6
def dropS (z : ZV) (nm : ByteArray) : ZV := (z.1, z.2.filter fun x => decide (x ≠ nm))
theorem dropS_miss {z : ZV} {nm : ByteArray} (h : nm ∉ z.2) : dropS z nm = z := Prod.ext rfl (List.filter_eq_self.2 fun x hx => decide_eq_true fun e => h (e ▸ hx))
theorem ZOkV.drop {z : ZV} (h : ZOkV z) (nm : ByteArray) : ZOkV (dropS z nm) := ⟨h.ok, h.nd.sublist (List.filter_sublist), Nat.le_trans (List.length_filter_le _ _) h.len⟩

def HandleAt (W : World) : Prop := W.cell? ⟨0, 0, none⟩ = some (.iface 215 (.agg #[.pointer (some ⟨5, 96, none⟩)]))

theorem EngV.grown {T : Nat → Prop} {W w' : World} {eb vb n N N' : Nat} {z : ZV} {vs : List ByteArray} (h1 : EngSide (fun b => T b ∧ b ≠ vb) W eb z.1 N) (h2 : W.cell? ⟨eb, 1, none⟩ = some (.map (some vb))) (h3 : T vb) (hg : W.grownBy w' (some vb)) (hV : VRep w' vb n vs) (hN : N ≤ N') (hn : n ≤ N') : EngV T w' eb (z.1, vs) N' ∧ Mid T W w' := by
  obtain ⟨db, E, st, hE, t1, _⟩ := h1.ex
  have hlt : eb < W.heap.size := by have := hE.inn; have := hE.top; omega
  exact ⟨⟨vb, n, (h1.kept hg.size (fun b hb hl => hg.block b hl (fun e => hb.2 (Option.some.inj e)))).imp (fun b hb => hb) hN, (cell_same (p := ⟨eb, 1, none⟩) (hg.block eb hlt (fun e => t1.2 (Option.some.inj e)))).trans h2, h3, hV, hn⟩, Mid.of_grown hg h3⟩

theorem engRegV (T : Nat → Prop) (W : World) (eb : Nat) (z : ZV) (N : Nat) (nm s o : ByteArray) (h : EngV T W eb z N) (hz : ZOkV z) (hH : HandleAt W) (hn : nm.size ≤ 10000000) (hs : s.size ≤ 10000000) (ho : o.size ≤ 10000000) (hN : N ≤ 900000000) :
    Calls Tryz.prog 19 #[.pointer (some ⟨eb, 0, none⟩), .string nm, .string s, .string o] W fun e w' => e = .returned (.tuple #[.int .i64 (regZ z nm s o).1, .int .i64 (regZ z nm s o).2]) ∧ EngV T w' eb (z.1, regS z.2 nm (regZ z nm s o).1) (N + 128) ∧ Mid T W w' := by
  obtain ⟨vb, n, h1, h2, h3, h4, h5⟩ := h.ex
  obtain ⟨db, E, st, hE, t1, t2, t3, t4, t5⟩ := id h1.ex
  have har : ∀ nm R, st nm = some R → R.ar ≤ 1000 := fun m R hR => by
    by_cases e : ∀ z' ∈ z.1, z'.nm ≠ m
    · rw [(t4 m).2 e] at hR; cases hR
    · obtain ⟨z', hzz⟩ := Classical.not_forall.1 e
      obtain ⟨g1, g2⟩ := Classical.not_imp.1 hzz
      have g2 : z'.nm = m := Classical.not_not.1 g2
      obtain ⟨R', a, b, _⟩ := t5 z' g1
      rw [g2, hR] at a
      cases a
      have := (hz.ok.each z' g1).2.2.1
      omega
  have hj : judgeL st = judgeL (stOf z.1) := judgeL_congr (atomE_zs t4 (fun z' hz' => by obtain ⟨R, a, b, _⟩ := t5 z' hz'; exact ⟨R, a, b⟩))
  have hl := hz.len
  have hr := register_any eb vb n z.2 nm s o W hE har h2 h4 hH hn hs ho (by omega) (by omega)
  rw [hj] at hr
  refine hr.mono ?_
  rintro e w' ⟨rfl, hV, hg⟩
  exact ⟨rfl, EngV.grown h1 h2 h3 hg hV (by omega) (by omega)⟩
theorem engDropV (T : Nat → Prop) (W : World) (eb : Nat) (z : ZV) (N : Nat) (nm : ByteArray) (h : EngV T W eb z N) (hz : ZOkV z) (hn : nm.size ≤ 10000000) :
    Calls Tryz.prog 21 #[.pointer (some ⟨eb, 0, none⟩), .string nm] W fun e w' => e = .returned (.int .i64 (dropC z nm)) ∧ EngV T w' eb (dropS z nm) (N + 128) ∧ Mid T W w' := by
  obtain ⟨vb, n, h1, h2, h3, h4, h5⟩ := id h.ex
  by_cases hx : nm ∈ z.2
  · refine (drop_hit eb vb n z.2 nm W h2 h4 hz.nd hn hx).mono ?_
    rintro e w' ⟨rfl, hV, hg⟩
    exact ⟨by unfold dropC; rw [if_pos (memB_iff.2 hx)], EngV.grown h1 h2 h3 hg hV (by omega) (by omega)⟩
  · refine (drop_miss eb vb n z.2 nm W h2 h4 hn hx).mono ?_
    rintro e w' ⟨rfl, hb⟩
    rw [dropS_miss hx]
    exact ⟨by unfold dropC; rw [if_neg (fun q => hx (memB_iff.1 q))], (h.kept hb.size (fun b _ hl => hb.block b hl)).imp (fun b hb => hb) (by omega), Mid.of_below hb⟩

end Go.Proofs.YtgddkjhknlgbbaaGreatDoor

namespace Go.Proofs.YtgddkjhknlgbbaaGreatDoor
set_option linter.unusedVariables false
set_option linter.unusedSimpArgs false
open Go.RowKit Go.Maps Go.Sort Go.Shelf

theorem grownBy_setCell1 (w : World) (fb k : Nat) (x : Value) : w.grownBy (w.setCell ⟨fb, k, none⟩ x) (some fb) := by
  have hk := keepX_set1 w fb k x
  exact ⟨hk.os, hk.tape, hk.output, hk.size, fun j hj hne => hk.blk j hj (fun e => hne (by rw [show j = fb from e]))⟩

/-- A new list of views in the reference's box. -/
theorem RefV.put {T : Nat → Prop} {W w1 w' : World} {fb : Nat} {v vw v' : Value} {rs : List RRel} {zs : List ZRel} {ws' : List VRow} {row : Option Nat} {B : Nat} (hR : RefRep (fun b => T b ∧ some b ≠ vw.ownBlock) W fb v rs zs) (hbox : W.heap[fb]? = some (.cells #[v, vw] 41 (0, 0))) (hTw : ∀ g, vw.ownBlock = some g → T g ∧ ∃ cur : Array Value, W.heap[g]? = some (.cells cur 112 (0, 0)))
    (hg : W.grownBy w1 row) (hrow : ∀ g, row = some g → vw.ownBlock = some g) (ho : w1.ownsRow B 112 4 v' ws'.length (cellsVR ws')) (hat : ∀ g, v'.ownBlock = some g → vw.ownBlock = some g ∨ W.heap.size ≤ g) (hone : ∀ u ∈ cellsVR ws', u.oneCell' = true) (hw' : w' = w1.setCell ⟨fb, 1, none⟩ v') :
    RefV (fun b => T b ∨ W.heap.size ≤ b ∧ b < w'.heap.size) w' fb (zs, ws'.map (·.nm)) ∧ Mid T W w' := by
  have hfl : fb < W.heap.size := heap_lt hbox
  have hfne : ∀ g, vw.ownBlock = some g → g ≠ fb := fun g h e => by
    obtain ⟨_, cur, hc⟩ := hTw g h
    rw [e] at hc
    exact absurd (type_ne hc hbox) (by decide)
  have hbox1 : w1.heap[fb]? = some (.cells #[v, vw] 41 (0, 0)) := (hg.block fb hfl (fun e => hfne fb (hrow fb e.symm) rfl)).trans hbox
  have hg2 : w1.grownBy w' (some fb) := by rw [hw']; exact grownBy_setCell1 _ _ _ _
  have hbox' : w'.heap[fb]? = some (.cells #[v, v'] 41 (0, 0)) := by rw [hw', set_row hbox1]; rfl
  have hk1 : ∀ b, T b ∧ some b ≠ vw.ownBlock → b < W.heap.size → w1.heap[b]? = W.heap[b]? := fun b hb hl => hg.block b hl (fun e => hb.2 (hrow b e.symm).symm)
  have hk2 : ∀ b, b < W.heap.size → T b ∧ some b ≠ vw.ownBlock → b ≠ fb → w'.heap[b]? = W.heap[b]? := fun b hl hb hne => (hg2.block b (Nat.lt_of_lt_of_le hl hg.size) (fun e => hne (Option.some.inj e))).trans (hk1 b hb hl)
  have hF := hR.fit
  have hnew : RefRep (fun b => (T b ∨ W.heap.size ≤ b ∧ b < w'.heap.size) ∧ some b ≠ v'.ownBlock) w' fb v rs zs := by
    have himp : ∀ b, (T b ∧ some b ≠ vw.ownBlock) ∧ b < W.heap.size → (T b ∨ W.heap.size ≤ b ∧ b < w'.heap.size) ∧ some b ≠ v'.ownBlock := fun b hb => ⟨.inl hb.1.1, fun e => by
      rcases hat b e.symm with h | h
      · exact hb.1.2 h.symm
      · have := hb.2; omega⟩
    obtain ⟨_, f2, f3, f4, f5⟩ := hF
    refine ⟨⟨v', hbox'⟩, himp _ f2, (f3.kept (fun g cur hT hg9 => hk2 g hT.2 hT.1 (fun e => by rw [e] at hg9; exact absurd (type_ne hg9 hbox) (by decide)))).imp himp, f4, fun i hi => ?_⟩
    obtain ⟨a, b, base, rsx, hr⟩ := f5 i hi
    refine ⟨a, b, base, rsx, (hr.kept (fun g cur t hT ht hg9 => hk2 g hT.2 hT.1 (fun e => by
      rw [e] at hg9
      have := type_ne hg9 hbox
      rcases ht with h | h <;> rw [h] at this <;> exact absurd this (by decide)))).imp himp⟩
  have ho' : w'.ownsRow B 112 4 v' ws'.length (cellsVR ws') := own_grown ho hg2 (other_type (t := 41) (fun g e => by cases e; exact ⟨_, hbox1⟩) (by decide))
  refine ⟨⟨v', ws', ⟨v, rs, hnew⟩, cell_of_heap hbox' 1, ⟨⟨B, ho'⟩, fun g hg9 => ?_⟩, rfl, hone⟩, ?_⟩
  · rcases hat g hg9 with h | h
    · exact .inl (hTw g h).1
    · obtain ⟨cur, hc⟩ := own_type ho' hg9
      exact .inr ⟨h, heap_lt hc⟩
  · exact ⟨hg2.os.trans hg.os, hg2.tape.trans hg.tape, hg2.output.trans hg.output, Nat.le_trans hg.size hg2.size, fun k hk hq => (hg2.block k (Nat.lt_of_lt_of_le hk hg.size) (fun e => by have e := Option.some.inj e; rw [e] at hq; exact hq hR.tfb.1)).trans (hg.block k hk (fun e => hq (hTw k (hrow k e.symm)).1))⟩

theorem RefV.parts {T : Nat → Prop} {W : World} {fb : Nat} {z : ZV} (h : RefV T W fb z) : ∃ v vw rs ws, RefRep (fun b => T b ∧ some b ≠ vw.ownBlock) W fb v rs z.1 ∧ W.heap[fb]? = some (.cells #[v, vw] 41 (0, 0)) ∧ (∀ g, vw.ownBlock = some g → T g ∧ ∃ cur : Array Value, W.heap[g]? = some (.cells cur 112 (0, 0))) ∧ W.ownsRow 0 112 4 vw ws.length (cellsVR ws) ∧ ws.map (·.nm) = z.2 ∧ ∀ u ∈ cellsVR ws, u.oneCell' = true := by
  obtain ⟨vw, ws, ⟨v, rs, hR⟩, h2, ⟨⟨base, h3⟩, hT⟩, h4, h5⟩ := h.ex
  obtain ⟨vw', hb⟩ := hR.box
  have e : vw' = vw := by
    have := cell_of_heap hb 1
    rw [h2] at this
    simpa using this.symm
  subst e
  exact ⟨v, vw', rs, ws, hR, hb, fun g hg => ⟨hT g hg, own_type h3 hg⟩, own_lower h3 (Nat.zero_le _), h4, h5⟩

theorem refRegV (T : Nat → Prop) (W : World) (fb : Nat) (z : ZV) (nm s o : ByteArray) (h : RefV T W fb z) (hz : ZOkV z) (hE : EndsAt W) (hn : nm.size ≤ 10000000) (hs : s.size ≤ 10000000) (ho : o.size ≤ 10000000) :
    Calls Tryz.prog 20 #[.pointer (some ⟨fb, 0, none⟩), .string nm, .string s, .string o] W fun e w' => e = .returned (.tuple #[.int .i64 (regZ z nm s o).1, .int .i64 (regZ z nm s o).2]) ∧ RefV (fun b => T b ∨ W.heap.size ≤ b ∧ b < w'.heap.size) w' fb (z.1, regS z.2 nm (regZ z nm s o).1) ∧ Mid T W w' := by
  obtain ⟨v, vw, rs, ws, hR, hbox, hTw, hown, h4, h5⟩ := h.parts
  have c1 : W.cell? ⟨fb, 1, none⟩ = some vw := cell_of_heap hbox 1
  have hV := views_of_own hown
  have hl : ws.length ≤ 6 := by have := hz.len; rw [← h4, List.length_map] at this; exact this
  have hsame : ∀ w', Below W.heap.size W w' → RefV (fun b => T b ∨ W.heap.size ≤ b ∧ b < w'.heap.size) w' fb z := fun w' hb => (h.kept (fun b _ hl => hb.block b hl)).imp (fun b hb => .inl hb)
  have hno : ∀ w', (regZ z nm s o).1 ≠ 0 → Below W.heap.size W w' → RefV (fun b => T b ∨ W.heap.size ≤ b ∧ b < w'.heap.size) w' fb (z.1, regS z.2 nm (regZ z nm s o).1) ∧ Mid T W w' := fun w' hc hb => by
    unfold regS
    rw [if_neg hc]
    exact ⟨hsame w' hb, Mid.of_below hb⟩
  have hA : regZ z nm s o = regA (judgeL (stOf z.1)) (ws.map (·.nm)) nm s o := by unfold regZ; rw [h4]
  by_cases hz0 : newViewC (ws.map (·.nm)) nm s = 0
  · cases hq : qAcc (bytesL s) with
    | false =>
      have hA' : regZ z nm s o = (5, ((qFar (Sum.inl (false, false)) (bytesL s) : Nat) : Int)) := by rw [hA, regA_bad hz0 hq]
      refine (refReg_bad fb vw ws nm s o W c1 hV hE hz0 hq).mono ?_
      rintro e w' ⟨rfl, hb⟩
      exact ⟨by rw [hA'], hno w' (by rw [hA']; exact (by decide : (5 : Int) ≠ 0)) hb⟩
    | true =>
      obtain ⟨⟨base, hown9⟩, _⟩ := hR.own
      have hlr := hR.len
      have hl6 := hz.ok.len
      have hr := refReg_good fb 0 v vw rs ws (stOf z.1) nm s o W hbox (rels_of_own hown9) (by omega) hown (Nat.zero_le _) (atomR_zs hR) ho hz0 hq
      rw [← hA] at hr
      refine hr.mono ?_
      rintro e w' ⟨rfl, ⟨hc, hb⟩ | ⟨hc, row, w1, g', cap', hrn, hone, ho1, hg1, hat, hw'⟩⟩
      · exact ⟨rfl, hno w' hc hb⟩
      · refine ⟨rfl, ?_⟩
        have hp := RefV.put (ws' := ws ++ [row]) hR hbox hTw hg1 (fun g h => h) (by simpa using ho1) (fun g hg => by
          have : g' = g := by simpa [Value.ownBlock] using hg
          rw [← this]; exact hat) (fun u hu => by
          rw [cellsVR_append] at hu
          rcases List.mem_append.1 hu with hu | hu
          · exact h5 u hu
          · exact hone u hu) hw'
        have e : regS z.2 nm (regZ z nm s o).1 = (ws ++ [row]).map (·.nm) := by
          unfold regS
          rw [if_pos hc, List.map_append, h4]
          simp [hrn]
        rw [e]
        exact hp
  · have hA' : regZ z nm s o = (newViewC (ws.map (·.nm)) nm s, 0) := by rw [hA, regA_short hz0]
    refine (refReg_short fb vw ws nm s o W c1 hV (by omega) hn hs hz0).mono ?_
    rintro e w' ⟨rfl, rfl⟩
    exact ⟨by rw [hA'], hno _ (by rw [hA']; exact hz0) (Below.refl _ _)⟩

theorem filter_take {nm : ByteArray} {ws : List VRow} {k : Nat} (hk : k < ws.length) (he : ws[k].nm = nm) (hnd : (ws.map (·.nm)).Nodup) : (ws.take k ++ ws.drop (k + 1)).map (·.nm) = (ws.map (·.nm)).filter fun x => decide (x ≠ nm) := by
  have hs : ws = ws.take k ++ ([ws[k]] ++ ws.drop (k + 1)) := by rw [List.singleton_append, ← List.drop_eq_getElem_cons hk, List.take_append_drop]
  have hnd' := hnd
  rw [hs, List.map_append, List.map_append, List.nodup_append] at hnd'
  obtain ⟨_, n2, n3⟩ := hnd'
  rw [List.nodup_append] at n2
  have e1 : ((ws.take k).map (·.nm)).filter (fun x => decide (x ≠ nm)) = (ws.take k).map (·.nm) := List.filter_eq_self.2 fun x hx => decide_eq_true fun e => n3 x hx x (by rw [e]; simp [he]) rfl
  have e2 : ((ws.drop (k + 1)).map (·.nm)).filter (fun x => decide (x ≠ nm)) = (ws.drop (k + 1)).map (·.nm) := List.filter_eq_self.2 fun x hx => decide_eq_true fun e => n2.2.2 nm (by simp [he]) x hx e.symm
  have e3 : (ws.map (·.nm)).filter (fun x => decide (x ≠ nm)) = ((ws.take k ++ ([ws[k]] ++ ws.drop (k + 1))).map (·.nm)).filter (fun x => decide (x ≠ nm)) := by rw [← hs]
  rw [e3]
  simp only [List.map_append, List.filter_append, e1, e2]
  simp [he]

theorem refDropV (T : Nat → Prop) (W : World) (fb : Nat) (z : ZV) (nm : ByteArray) (h : RefV T W fb z) (hz : ZOkV z) :
    Calls Tryz.prog 22 #[.pointer (some ⟨fb, 0, none⟩), .string nm] W fun e w' => e = .returned (.int .i64 (dropC z nm)) ∧ RefV (fun b => T b ∨ W.heap.size ≤ b ∧ b < w'.heap.size) w' fb (dropS z nm) ∧ Mid T W w' := by
  obtain ⟨v, vw, rs, ws, hR, hbox, hTw, hown, h4, h5⟩ := h.parts
  have c1 : W.cell? ⟨fb, 1, none⟩ = some vw := cell_of_heap hbox 1
  have hl : ws.length ≤ 6 := by have := hz.len; rw [← h4, List.length_map] at this; exact this
  by_cases hx : nm ∈ z.2
  · have hx' : nm ∈ ws.map (·.nm) := by rw [h4]; exact hx
    obtain ⟨k, hk, hp, hkn⟩ := placeV_some hx'
    refine (refDrop_hit fb v vw ws nm W hbox 0 hown h5 (by omega) k hk hp).mono ?_
    rintro e w' ⟨v', w1, rfl, ho1, hg1, hw'⟩
    refine ⟨by unfold dropC; rw [if_pos (memB_iff.2 hx)], ?_⟩
    have hp := RefV.put (ws' := ws.take k ++ ws.drop (k + 1)) hR hbox hTw hg1 (fun g h => by cases h) ho1 (fun g hg => .inr (own_block ho1 g hg).1) (fun u hu => by
      rw [cellsVR_append] at hu
      refine h5 u ?_
      have hs : ws = ws.take k ++ ([ws[k]] ++ ws.drop (k + 1)) := by rw [List.singleton_append, ← List.drop_eq_getElem_cons hk, List.take_append_drop]
      rw [hs, cellsVR_append, cellsVR_append]
      rcases List.mem_append.1 hu with hu | hu
      · exact List.mem_append_left _ hu
      · exact List.mem_append_right _ (List.mem_append_right _ hu)) hw'
    rw [filter_take hk hkn (by rw [h4]; exact hz.nd), h4] at hp
    exact hp
  · refine (refDrop_miss fb vw ws nm W c1 (views_of_own hown) (by omega) (by rw [h4]; exact hx)).mono ?_
    rintro e w' ⟨rfl, rfl⟩
    rw [dropS_miss hx]
    exact ⟨by unfold dropC; rw [if_neg (fun q => hx (memB_iff.1 q))], h.imp (fun b hb => .inl hb), Mid.refl _ _⟩

end Go.Proofs.YtgddkjhknlgbbaaGreatDoor

namespace Go.Proofs.YtgddkjhknlgbbaaGreatDoor
set_option linter.unusedVariables false
set_option linter.unusedSimpArgs false
open Go.RowKit Go.Maps Go.Sort Go.Shelf

abbrev zV0 : ZV := ([], [])
theorem RefV.fit {T : Nat → Prop} {W : World} {fb : Nat} {z : ZV} (h : RefV T W fb z) : RefV (fun b => T b ∧ b < W.heap.size) W fb z := by
  obtain ⟨vw, ws, ⟨v, rs, hR⟩, h2, h3, h4, h5⟩ := h.ex
  refine ⟨vw, ws, ⟨v, rs, hR.fit.imp (fun b hb => ⟨⟨hb.1.1, hb.2⟩, hb.1.2⟩)⟩, h2, ⟨h3.1, fun g hg => ⟨h3.2 g hg, ?_⟩⟩, h4, h5⟩
  obtain ⟨⟨base, ho⟩, _⟩ := h3
  obtain ⟨cur, hc⟩ := own_type ho hg
  exact heap_lt hc
theorem ZOkV.applied {z z' : ZV} {es : List Ent} {c k : Int} (h : ZOkV z) (hA : ApplyResV z es c k z') (hw : WfEs es) : ZOkV z' := by
  obtain ⟨zs', vs'⟩ := z'
  obtain ⟨hA, e⟩ := hA
  dsimp only at hA e
  subst e
  refine ⟨?_, h.nd, h.len⟩
  rcases hA with ⟨_, _, _, rfl⟩ | ⟨_, _, _, _, _, _, _, rfl⟩ | ⟨_, _, _, _, _, rfl⟩ | ⟨_, _, _, _, _, _, rfl⟩ | ⟨_, g2, g3, g4, _, _, rfl⟩
  · exact h.ok
  · exact h.ok
  · exact h.ok
  · exact h.ok
  · exact h.ok.applied hw (all_entries g2) g3 g4

set_option maxHeartbeats 400000 in
theorem new_anyV (w : World) : Calls Tryz.prog 11 #[] w fun e w' => e = .returned (.pointer (some ⟨w.heap.size + 2, 0, none⟩)) ∧ EngRep w' (w.heap.size + 2) w.heap.size 0 w.heap.size w'.heap.size (fun _ => none) ∧ Below w.heap.size w w' ∧ w'.cell? ⟨w.heap.size + 2, 1, none⟩ = some (.map (some (w.heap.size + 1))) ∧ VRep w' (w.heap.size + 1) 0 [] := by
  have hmm := @run_makeMap Tryz.prog
  go_enter Tryz.func11, Tryz.ntmps11
  go_wp2
  go_ret
  refine ⟨rfl, ⟨⟨_, heap_last _ _ _ (by simp), rfl⟩, ⟨.map [], ((World.ownsMap_made _ _ _ _).alloc _).alloc _, rfl, fun _ _ => rfl, fun _ _ _ h => by cases h⟩, fun _ _ h => (by cases h), fun _ _ _ _ h => (by cases h), by simp; omega, fun _ _ h => (by cases h), Nat.le_refl _⟩, (((Below.refl _ _).alloc (Nat.le_refl _) _).alloc (by simp) _).alloc (by simp; omega) _, ?_, ?_⟩
  · exact cell_of_heap (heap_last _ _ _ (by simp)) 1
  · refine ⟨.map [], ?_, rfl, fun nm hn => ?_⟩
    · have e : w.heap.size + 1 = (w.alloc (.map #[] 0)).heap.size := by simp
      rw [e]
      exact (World.ownsMap_made _ _ _ _).alloc _
    · simp [Maps.has]

end Go.Proofs.YtgddkjhknlgbbaaGreatDoor
