import Derived.Test.YtgddkjhknlgbbaaGreatDoorM16
set_option linter.unusedVariables false
set_option linter.unusedSimpArgs false

namespace Go.Proofs.YtgddkjhknlgbbaaGreatDoor
set_option linter.unusedVariables false
set_option linter.unusedSimpArgs false
open Go.RowKit Go.Maps

set_option maxRecDepth 100000 in
/-- A batch that is too long. -/
theorem refApply_long (p : Option Addr) (a : Option Addr) (n cap : Nat) (w : World) (hl : 64 < n) :
    Calls Tryz.prog 16 #[.pointer p, .slice a n cap] w fun e w' => e = .returned (.tuple #[.int .i64 4, .int .i64 0]) ∧ w' = w := by
  have h1 : (64 : Int) < (n : Int) := by omega
  go_enter Tryz.func16, Tryz.ntmps16
  go_wp2
  go_ret2
  exact ⟨rfl, rfl⟩

set_option maxRecDepth 100000 in
set_option maxHeartbeats 1000000 in
/-- A batch of which entry k is the first that is wrong. -/
theorem refApply_bad (fb : Nat) (v bv : Value) (rs : List RRel) (es : List Ent) (k : Nat) (w : World) (c0 : w.cell? ⟨fb, 0, none⟩ = some v) (hv : RelsAt w v rs) (hrl : rs.length ≤ 1000000000) (hb : EntsAt w bv es) (hle : es.length ≤ 64) (hk : k < es.length)
    (hok : ∀ i, i < k → entryZ rs (es[i]?.getD zeroEnt) = 0) (hbad : entryZ rs (es[k]?.getD zeroEnt) ≠ 0) (hrow : ∀ i, i < es.length → (es[i]?.getD zeroEnt).row.length ≤ 9223372036854775807) :
    Calls Tryz.prog 16 #[.pointer (some ⟨fb, 0, none⟩), bv] w fun e w' => e = .returned (.tuple #[.int .i64 (entryZ rs (es[k]?.getD zeroEnt)), .int .i64 k]) ∧ Below w.heap.size w w' := by
  obtain ⟨a, cap, rfl, hcs⟩ := hb
  have hfb : fb < w.heap.size := World.block_lt_of_cell? w _ c0
  have Hc := hide hcs
  have Hv := hide hv
  have Hok := hide hok
  have Hrow := hide hrow
  obtain ⟨c, hc⟩ : ∃ c, c = entryZ rs (es[k]?.getD zeroEnt) := ⟨_, rfl⟩
  rw [← hc] at hbad
  rw [← hc]
  have hcb : (c != 0) = true := by simpa using hbad
  have Hcc := hide hc
  clear hcs hv hok hbad hc hrow
  go_enter Tryz.func16, Tryz.ntmps16
  go_wp2
  go_loopw [6] (fun i wr => ∃ j : Nat, j ≤ k ∧ i = .int .i64 j ∧ Below w.heap.size w wr) (fun i _ => es.length - (intOf i).toNat)
  case atStart => exact ⟨0, Nat.zero_le _, rfl, Below.refl _ _⟩
  case round =>
    obtain ⟨j, hj, rfl, hB⟩ := hrel
    have hlt : j < es.length := by omega
    obtain ⟨b, o, sv, rfl, h1, h2, h3, h4⟩ := (unhide Hc) j hlt
    have hx : (j : Int) < (es.length : Int) := by omega
    have hbl : b < w.heap.size := World.block_lt_of_cell? w _ h1
    obtain ⟨a2, cap2, rfl, _⟩ := h3
    have hrw := (unhide Hrow) j hlt
    have hz : j < k → entryZ rs (es[j]?.getD zeroEnt) = 0 := (unhide Hok) j
    have hz2 : j = k → entryZ rs (es[j]?.getD zeroEnt) = c := fun e => by rw [e]; exact (unhide Hcc).symm
    obtain ⟨x, hxe⟩ : ∃ x, x = es[j]?.getD zeroEnt := ⟨_, rfl⟩
    rw [← hxe] at h1 h2 h4 hrw hz hz2
    rw [← hB.cell (p := ⟨b, _, none⟩) hbl] at h1 h2 h4
    have cW := (hB.cell (p := ⟨fb, 0, none⟩) hfb).trans c0
    have Hent := hide (refEntry_any fb v rs x a2 cap2 wr cW ((unhide Hv).below hB) hrl hrw)
    have HB := hide hB
    have hBs := hB.size
    obtain ⟨nm, row, wt⟩ := x
    dsimp only at h1 h2 h4
    unfold entV at Hent
    dsimp only at Hent
    have Hz := hide hz
    have Hz2 := hide hz2
    clear hxe hB hz hz2 hrw
    go_wp2_with fail
    refine (unhide Hent).mono ?_
    rintro e w2 ⟨rfl, hb2⟩
    have Hb2 := hide hb2
    clear hb2 Hent
    by_cases hjk : j = k
    · rw [(unhide Hz2) hjk]
      subst hjk
      clear Hz Hz2
      go_wp2
      go_ret2
      exact ⟨rfl, (unhide HB).trans ((unhide Hb2).mono hBs)⟩
    · rw [(unhide Hz) (by omega)]
      clear Hz Hz2
      go_wp2
      go_roundw
      case rel => exact ⟨j + 1, by omega, by go_num, (unhide HB).trans ((unhide Hb2).mono hBs)⟩
      case measure => simp [intOf]; omega

end Go.Proofs.YtgddkjhknlgbbaaGreatDoor

namespace Go.Proofs.YtgddkjhknlgbbaaGreatDoor
set_option linter.unusedVariables false
set_option linter.unusedSimpArgs false
open Go.RowKit Go.Maps

/-- A relation, as both sides have it: its name, its arity, its rows in order. -/
structure ZRel where
  nm : ByteArray
  ar : Nat
  L : List RowZ

def zeroZR : ZRel := ⟨⟨#[]⟩, 0, []⟩
def nilV : Value := .slice none 0 0

/-- The reference's engine. -/
structure RefRep (T : Nat → Prop) (W : World) (fb : Nat) (v : Value) (rs : List RRel) (zs : List ZRel) : Prop where
  box : ∃ vw, W.heap[fb]? = some (.cells #[v, vw] 41 (0, 0))
  tfb : T fb
  own : OwnT T W 72 3 v rs.length (cellsRR rs)
  len : rs.length = zs.length
  each : ∀ i, i < rs.length → (rs[i]?.getD zeroRR).nm = (zs[i]?.getD zeroZR).nm ∧ (rs[i]?.getD zeroRR).ar = ((zs[i]?.getD zeroZR).ar : Int) ∧ ∃ base rsx, RowsT T W base (rs[i]?.getD zeroRR).rows rsx (zs[i]?.getD zeroZR).L

/-- Lists of rows in a list. -/
structure Lists (T : Nat → Prop) (W : World) (B : Nat) (vr : Value) (us : List Value) (f : Nat → List RowZ) : Prop where
  own : W.ownsRow B 70 1 vr us.length us
  each : ∀ j, j < us.length → ∃ rsx, RowsT T W B (us[j]?.getD nilV) rsx (f j)

theorem Lists.below {T : Nat → Prop} {W W' : World} {B : Nat} {vr : Value} {us : List Value} {f : Nat → List RowZ} (h : Lists T W B vr us f) (hb : Below W.heap.size W W') : Lists T W' B vr us f :=
  ⟨own_below h.own hb, fun j hj => by obtain ⟨rsx, hr⟩ := h.each j hj; exact ⟨rsx, hr.below hb⟩⟩

theorem own_type {W : World} {B : Nat} {e : TypeId} {size : Nat} {v : Value} {n : Nat} {xs : List Value} (h : W.ownsRow B e size v n xs) {g : Nat} (hg : v.ownBlock = some g) : ∃ cur : Array Value, W.heap[g]? = some (Obj.cells cur e (0, 0)) := by
  rcases h.2 with ⟨rfl, _⟩ | ⟨g', cap, cur, rfl, _, h3, _⟩
  · cases hg
  · cases hg; exact ⟨cur, h3⟩

theorem type_ne {W : World} {g : Nat} {c1 c2 : Array Value} {t1 t2 : TypeId} (h1 : W.heap[g]? = some (Obj.cells c1 t1 (0, 0))) (h2 : W.heap[g]? = some (Obj.cells c2 t2 (0, 0))) : t1 = t2 := by
  rw [h1] at h2
  injection h2 with h2
  injection h2

theorem RowsT.grown {T : Nat → Prop} {W W' : World} {base : Nat} {u : Value} {rsx : List Raw} {L : List RowZ} (h : RowsT T W base u rsx L) {row : Option Nat} (hg : W.grownBy W' row) {t : TypeId} (ht : ∀ g, row = some g → ∃ cur : Array Value, W.heap[g]? = some (Obj.cells cur t (0, 0))) (h1 : t ≠ 86) (h2 : t ≠ 2) : RowsT T W' base u rsx L :=
  h.kept (fun g cur t' _ ht' hh => hg.block g (heap_lt hh) (fun e => by
    obtain ⟨c, hc⟩ := ht g e.symm
    have := type_ne hc hh
    rcases ht' with rfl | rfl
    · exact h1 this
    · exact h2 this))

theorem Lists.snoc {T : Nat → Prop} {W W' : World} {B : Nat} {vr vr' l : Value} {us : List Value} {f : Nat → List RowZ} (h : Lists T W B vr us f) (ho : W'.ownsRow B 70 1 vr' (us.length + 1) (us ++ [l])) (hg : W.grownBy W' vr.ownBlock) {rsx : List Raw} (hl : RowsT T W B l rsx (f us.length)) : Lists T W' B vr' (us ++ [l]) f := by
  have ht : ∀ g, vr.ownBlock = some g → ∃ cur : Array Value, W.heap[g]? = some (Obj.cells cur 70 (0, 0)) := fun g hg => own_type h.own hg
  refine ⟨by simpa using ho, fun j hj => ?_⟩
  by_cases e : j < us.length
  · obtain ⟨r, hr⟩ := h.each j e
    rw [List.getElem?_append_left e]
    exact ⟨r, hr.grown hg ht (by decide) (by decide)⟩
  · have e' : j = us.length := by simp at hj; omega
    subst e'
    simp
    exact ⟨rsx, hl.grown hg ht (by decide) (by decide)⟩

theorem Lists.set {T : Nat → Prop} {W : World} {B g n cap : Nat} {us : List Value} {f f' : Nat → List RowZ} (h : Lists T W B (.slice (some ⟨g, 0, none⟩) n cap) us f) (hn : n = us.length) (k : Nat) (hk : k < us.length) (u : Value) {rsx : List Raw} (hu : RowsT T W B u rsx (f' k)) (hf : ∀ j, j ≠ k → f' j = f j) : Lists T (W.setCell ⟨g, k, none⟩ u) B (.slice (some ⟨g, 0, none⟩) n cap) (us.set k u) f' := by
  subst hn
  obtain ⟨h1, h2⟩ := h.own.stored k u
  have ht : ∀ g', some g = some g' → ∃ cur : Array Value, W.heap[g']? = some (Obj.cells cur 70 (0, 0)) := fun g' e => own_type h.own (by cases e; rfl)
  refine ⟨by simpa using h1, fun j hj => ?_⟩
  have hj' : j < us.length := by simpa using hj
  by_cases e : j = k
  · subst e
    simp [hj']
    exact ⟨rsx, hu.grown h2 ht (by decide) (by decide)⟩
  · obtain ⟨r, hr⟩ := h.each j hj'
    have e' : ¬ k = j := fun x => e x.symm
    rw [List.getElem?_set_ne e', hf j e]
    exact ⟨r, hr.grown h2 ht (by decide) (by decide)⟩

/-- What came out of 'there'. -/
theorem kept_pairs : ∀ (rsx : List Raw) (L : List RowZ), L.length = rsx.length → (∀ i, i < rsx.length → (rsx[i]?.getD zeroRaw).wt = (L[i]?.getD ([], 0)).2) →
    (thereZ L).length = (kept rsx).length ∧ ∀ i, i < (kept rsx).length → ∃ j, j < rsx.length ∧ (kept rsx)[i]?.getD zeroRaw = rsx[j]?.getD zeroRaw ∧ (thereZ L)[i]?.getD ([], 0) = L[j]?.getD ([], 0)
  | [], [], _, _ => ⟨rfl, fun i hi => by simp [kept] at hi⟩
  | [], _ :: _, h, _ => by simp at h
  | _ :: _, [], h, _ => by simp at h
  | r :: rs, p :: L, h, hw => by
    obtain ⟨ih1, ih2⟩ := kept_pairs rs L (by simpa using h) (fun i hi => by have := hw (i + 1) (by simpa using hi); simpa using this)
    have h0 : r.wt = p.2 := by simpa using hw 0 (by simp)
    by_cases e : r.wt = 0
    · have e1 : kept (r :: rs) = kept rs := by unfold kept; rw [List.filter_cons_of_neg (by simp [e])]
      have e2 : thereZ (p :: L) = thereZ L := by unfold thereZ; rw [List.filter_cons_of_neg (by simp [← h0, e])]
      rw [e1, e2]
      refine ⟨ih1, fun i hi => ?_⟩
      obtain ⟨j, hj, h3, h4⟩ := ih2 i hi
      exact ⟨j + 1, by simpa using hj, by simpa using h3, by simpa using h4⟩
    · have e1 : kept (r :: rs) = r :: kept rs := by unfold kept; rw [List.filter_cons_of_pos (by simp [e])]
      have e2 : thereZ (p :: L) = p :: thereZ L := by unfold thereZ; rw [List.filter_cons_of_pos (by simp [← h0, e])]
      rw [e1, e2]
      refine ⟨by simp [ih1], fun i hi => ?_⟩
      cases i with
      | zero => exact ⟨0, by simp, rfl, rfl⟩
      | succ i =>
        obtain ⟨j, hj, h3, h4⟩ := ih2 i (by simpa using hi)
        exact ⟨j + 1, by simpa using hj, by simpa using h3, by simpa using h4⟩

theorem rowsT_there {T : Nat → Prop} {W W' : World} {base base' : Nat} {u u' : Value} {rsx : List Raw} {L : List RowZ} (h : RowsT T W base u rsx L) (hb : Below W.heap.size W W') (ho : W'.ownsRow base' 86 2 u' (kept rsx).length (rawCells (kept rsx))) (hT : ∀ g, base' ≤ g → T g) : RowsT T W' base' u' (kept rsx) (thereZ L) := by
  obtain ⟨h1, h2⟩ := kept_pairs rsx L h.len h.wt
  have hn := (h.below hb).num
  refine ⟨ho, fun g hg => ?_, h1, fun i hi => ?_, fun i hi => ?_⟩
  · rcases ho.2 with ⟨rfl, _⟩ | ⟨g', cap, cur, rfl, h3, _⟩
    · cases hg
    · cases hg; exact hT g' h3
  · obtain ⟨j, hj, h3, h4⟩ := h2 i hi
    rw [h3, h4]; exact hn j hj
  · obtain ⟨j, hj, h3, h4⟩ := h2 i hi
    rw [h3, h4]; exact h.wt j hj

/-- The copy of a list of rows that 'append(nil, l...)' makes. -/
theorem RowsT.copy {T : Nat → Prop} {W W' : World} {base base' : Nat} {u u' : Value} {rsx : List Raw} {L : List RowZ} (h : RowsT T W base u rsx L) (hb : Below W.heap.size W W') (ho : W'.ownsRow base' 86 2 u' rsx.length (rawCells rsx)) (hT : ∀ g, base' ≤ g → T g) : RowsT T W' base' u' rsx L := by
  refine ⟨ho, fun g hg => ?_, h.len, (h.below hb).num, h.wt⟩
  rcases ho.2 with ⟨rfl, _⟩ | ⟨g', cap, cur, rfl, h3, _⟩
  · cases hg
  · cases hg; exact hT g' h3

theorem own_src {W : World} {B : Nat} {e : TypeId} {size : Nat} {p : Option Addr} {n cap : Nat} {xs : List Value} (h : W.ownsRow B e size (.slice p n cap) n xs) : ∀ ad, p = some ad → ∀ j u, xs[j]? = some u → W.cell? (ad.add j) = some u := by
  intro ad hp j u hj
  obtain ⟨p', c', h1, _, _, h4⟩ := own_form h
  cases h1
  obtain ⟨g, rfl, _, _, hc⟩ := h4 ad hp
  have hlt := (List.getElem?_eq_some_iff.1 hj).1
  rw [h.1] at hlt
  have ea : (⟨g, 0, none⟩ : Addr).add j = ⟨g, j, none⟩ := by by_cases h : j = 0 <;> simp [Addr.add, h]
  rw [ea, hc j hlt]; exact hj

theorem Tryz.info70 : (Tryz.prog.info? 70).map (fun i => (i.zero, i.size, i.bytes)) = some (some (.slice none 0 0), 1, 24) := by kernel_rfl

theorem putZ_bd {zs : List Int} {wt M m : Int} (hw : -m ≤ wt ∧ wt ≤ m) (hM : 0 ≤ M) : ∀ {L : List RowZ}, (∀ p ∈ L, -M ≤ p.2 ∧ p.2 ≤ M) → ∀ p ∈ putZ L zs wt, -(M + m) ≤ p.2 ∧ p.2 ≤ M + m
  | [], _, p, hp => by simp [putZ] at hp; subst hp; dsimp only; omega
  | q :: L, h, p, hp => by
    have hq := h q List.mem_cons_self
    unfold putZ at hp
    split at hp
    · rcases List.mem_cons.1 hp with rfl | hp
      · omega
      · exact putZ_bd hw hM (fun r hr => h r (List.mem_cons_of_mem _ hr)) p hp
    · split at hp
      · rcases List.mem_cons.1 hp with rfl | hp
        · dsimp only; omega
        · have := h p hp; omega
      · rcases List.mem_cons.1 hp with rfl | hp
        · dsimp only; omega
        · have := h p (List.mem_cons_of_mem _ hp); omega

/-- How great weights may grow on the way. -/
theorem putAll_bd {nm : ByteArray} : ∀ {es : List Ent} {L : List RowZ} {M : Int}, 0 ≤ M → (∀ x ∈ es, -1000 ≤ x.wt ∧ x.wt ≤ 1000) → (∀ p ∈ L, -M ≤ p.2 ∧ p.2 ≤ M) → ∀ p ∈ putAll nm es L, -(M + 1000 * es.length) ≤ p.2 ∧ p.2 ≤ M + 1000 * es.length
  | [], L, M, _, _, h, p, hp => by have := h p hp; simp; omega
  | x :: es, L, M, hM, hx, h, p, hp => by
    have hx0 := hx x List.mem_cons_self
    have key := putAll_bd (es := es) (L := if x.nm = nm then putZ L x.row x.wt else L) (M := M + 1000) (by omega) (fun y hy => hx y (List.mem_cons_of_mem _ hy)) (by
      intro q hq
      split at hq
      · exact putZ_bd hx0 hM h q hq
      · have := h q hq; omega) p hp
    simp only [List.length_cons]
    push_cast
    omega

theorem putAll_mem3 {nm : ByteArray} : ∀ {es : List Ent} {L : List RowZ}, (∀ x ∈ es, x.nm = nm → x.row.length ≤ 3) → (∀ p ∈ L, p.1.length ≤ 3) → ∀ p ∈ putAll nm es L, p.1.length ≤ 3
  | [], L, _, h, p, hp => h p hp
  | x :: es, L, hx, h, p, hp => by
    refine putAll_mem3 (es := es) (L := if x.nm = nm then putZ L x.row x.wt else L) (fun y hy => hx y (List.mem_cons_of_mem _ hy)) ?_ p hp
    intro q hq
    split at hq
    · rename_i e
      rcases putZ_mem _ _ _ _ hq with h1 | ⟨r, hr, h1⟩
      · rw [h1]; exact hx x List.mem_cons_self e
      · rw [← h1]; exact h r hr
    · exact h q hq

/-- A list with a weight that may not be. -/
def BadW (L : List RowZ) : Prop := ∃ p ∈ L, p.2 < -1000 ∨ 1000 < p.2

theorem cellsRR_len (rs : List RRel) : (cellsRR rs).length = rs.length * 3 := by
  induction rs with
  | nil => rfl
  | cons r rs ih => simp only [cellsRR, List.flatMap_cons, List.length_append, List.length_cons] at ih ⊢; rw [ih]; simp; omega

theorem cellsRR_set : ∀ (rs : List RRel) (k : Nat) (u : Value), k < rs.length → (cellsRR rs).set (k * 3 + 2) u = cellsRR (rs.set k { (rs[k]?.getD zeroRR) with rows := u })
  | [], k, u, h => by simp at h
  | r :: rs, k, u, h => by
    have e : ∀ (r : RRel) (rs : List RRel), cellsRR (r :: rs) = .string r.nm :: .int .i64 r.ar :: r.rows :: cellsRR rs := fun r rs => by simp [cellsRR]
    cases k with
    | zero => simp [e]
    | succ k =>
      have e1 : (k + 1) * 3 + 2 = k * 3 + 2 + 1 + 1 + 1 := by omega
      rw [e1, e]
      simp only [List.set_cons_succ, List.getElem?_cons_succ]
      rw [cellsRR_set rs k u (by simpa using h), e]

end Go.Proofs.YtgddkjhknlgbbaaGreatDoor
