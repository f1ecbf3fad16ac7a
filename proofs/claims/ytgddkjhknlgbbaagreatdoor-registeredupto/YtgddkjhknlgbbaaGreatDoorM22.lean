import Derived.Deep.RegionLaw
import Derived.Test.YtgddkjhknlgbbaaGreatDoorM21
set_option linter.unusedVariables false
set_option linter.unusedSimpArgs false

namespace Go.Proofs.YtgddkjhknlgbbaaGreatDoor
set_option linter.unusedVariables false
set_option linter.unusedSimpArgs false
open Go.RowKit Go.Maps

/-- append onto a slice of the call's own, as one step of a region that draws. -/
theorem step_append_sharp {P : Program} {ops : Array Oper} {o : Oper} {a : Act} {w : World} {K : Act → World → Prop} {Q : Exit → Act → World → Prop} {E : Prop}
    (hgd : o.guard = none) (s x : Operand) (t : TypeId) (ho : o.op = Op.call { callee := Callee.builtin Builtin.append, args := #[s, x], argTypes := #[t, t] })
    (base : Nat) (e : TypeId) (i : TypeInfo) (z : Value) (size bytes : Nat) (ht : P.underlying t = some (.slice e)) (hi : P.info? e = some i) (hz : i.zero = some z)
    (hsize : i.size = size) (hby : i.bytes = bytes) (hzs : z.cells.size = size) (hsz : 0 < size)
    (v : Value) (n : Nat) (xs : List Value) (hs : a.eval s = v) (hown : w.ownsRow base e size v n xs)
    (ad : Addr) (c : Nat) (news : List Value) (hx : a.eval x = .slice (some ad) 1 c) (hl : news.length = 1 * size) (hnews : ∀ j u, news[j]? = some u → w.cell? (ad.add j) = some u) (h1 : ∀ u ∈ news, u.oneCell' = true)
    (h63 : n + 1 ≤ maxLen) (hbytes : (n + 1) * bytes ≤ 140737488355328) (hbase : base ≤ w.heap.size)
    (hK : ∀ v' w', w'.ownsRow base e size v' (n + 1) (xs ++ news) → w.grownBy w' v.ownBlock → (v'.ownBlock = v.ownBlock ∨ w.grownBy w' none ∧ v'.ownBlock = some w.heap.size) → K (a.put o.dst v') w') :
    if Region.wanted o (yielded ops a.tmps) = true then Oper.wp P o a w K Q else E := by
  have hw : Region.wanted o (yielded ops a.tmps) = true := by simp [Region.wanted, hgd]
  rw [if_pos hw]
  obtain ⟨v', w', hr, h2, h3, h4⟩ := run_append_sharp (P := P) w base t o.type e i z size bytes ht hi hz hsize hby hzs hsz v n xs hown ad 1 c news hl hnews h1 h63 hbytes hbase (by omega)
  unfold Oper.wp
  simp [execOp, ho, resolve, invoke, builtin, hs, hx, hr, Result.andThen]
  exact hK _ _ h2 h3 h4

/-- An entry that was lent: the block of its row, and its room. -/
structure Lo where
  e : Ent
  g : Nat
  c : Nat

def zeroLo : Lo := ⟨zeroEnt, 0, 0⟩
def entC (x : Lo) : List Value := [.string x.e.nm, .slice (some ⟨x.g, 0, none⟩) x.e.row.length x.c, .int .i64 x.e.wt]
def rowC (x : Lo) : Value := .slice (some ⟨x.g, 0, none⟩) (x.e.row.length + 1) x.c
def rowI (x : Lo) : List Value := (x.e.row ++ [-77]).map (Value.int .i64)

/-- The rows of a loan. -/
structure LoRows (W : World) (B : Nat) (los : List Lo) : Prop where
  row : ∀ x ∈ los, W.ownsRow B 2 1 (rowC x) (x.e.row.length + 1) (rowI x)
  apart : los.Pairwise fun x y => x.g < y.g

theorem LoRows.below {W W' : World} {B : Nat} {los : List Lo} (h : LoRows W B los) (hb : Below W.heap.size W W') : LoRows W' B los := ⟨fun x hx => own_below (h.row x hx) hb, h.apart⟩

theorem LoRows.grown {W W' : World} {B : Nat} {los : List Lo} (h : LoRows W B los) {row : Option Nat} (hg : W.grownBy W' row) (ht : ∀ g cur, row = some g → W.heap[g]? ≠ some (Obj.cells cur 2 (0, 0))) : LoRows W' B los := ⟨fun x hx => own_grown (h.row x hx) hg ht, h.apart⟩

theorem LoRows.lt {W : World} {B : Nat} {los : List Lo} (h : LoRows W B los) : ∀ x ∈ los, B ≤ x.g ∧ x.g < W.heap.size := fun x hx => by
  have := h.row x hx
  refine ⟨(own_block this x.g rfl).1, ?_⟩
  obtain ⟨cur, hc⟩ := own_type this (g := x.g) rfl
  exact heap_lt hc

theorem LoRows.snoc {W : World} {B : Nat} {los : List Lo} (h : LoRows W B los) {x : Lo} (hx : W.ownsRow B 2 1 (rowC x) (x.e.row.length + 1) (rowI x)) (hg : ∀ y ∈ los, y.g < x.g) : LoRows W B (los ++ [x]) := by
  refine ⟨fun y hy => ?_, List.pairwise_append.2 ⟨h.apart, List.pairwise_singleton _ _, fun y hy z hz => ?_⟩⟩
  · rcases List.mem_append.1 hy with hy | hy
    · exact h.row y hy
    · simp at hy; subst hy; exact hx
  · simp at hz; subst hz; exact hg y hy

theorem flat3_len (los : List Lo) : (los.flatMap entC).length = los.length * 3 := by
  induction los with
  | nil => rfl
  | cons x xs ih => simp only [List.flatMap_cons, List.length_append, ih, List.length_cons]; simp [entC]; omega

def strangeS : ByteArray := ⟨#[115, 116, 114, 97, 110, 103, 101]⟩
def lastC : List Value := [.string strangeS, .slice none 0 0, .int .i64 (-77)]

/-- A loan as it lies. -/
structure LoanRep (W : World) (B lb : Nat) (ev rv : Value) (los : List Lo) : Prop where
  box : W.heap[lb]? = some (Obj.cells #[ev, rv] 52 (0, 0))
  ents : W.ownsRow B 75 3 ev (los.length + 1) (los.flatMap entC ++ lastC)
  rows : W.ownsRow B 73 1 rv los.length (los.map rowC)
  each : LoRows W B los


end Go.Proofs.YtgddkjhknlgbbaaGreatDoor
