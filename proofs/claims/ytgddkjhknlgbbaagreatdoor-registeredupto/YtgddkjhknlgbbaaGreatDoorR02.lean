import Derived.RangeFuncNested
import Derived.Test.YtgddkjhknlgbbaaGreatDoorM06
import Derived.OrdersIn
import Derived.TacticsIn
import Derived.Below
import Derived.Laws.World
import Derived.Deep.RegionHeld3
set_option linter.unusedVariables false
set_option linter.unusedSimpArgs false

namespace Go.Proofs.YtgddkjhknlgbbaaGreatDoor
set_option linter.unusedVariables false
set_option linter.unusedSimpArgs false
open Go.RowKit

/-- All blocks lie as they lay but those of X. -/
structure KeepX (X : Nat → Prop) (W W' : World) : Prop where
  os : W'.os = W.os
  tape : W'.tape = W.tape
  output : W'.output = W.output
  size : W.heap.size ≤ W'.heap.size
  blk : ∀ q, q < W.heap.size → ¬ X q → W'.heap[q]? = W.heap[q]?

theorem KeepX.refl (X : Nat → Prop) (W : World) : KeepX X W W := ⟨rfl, rfl, rfl, Nat.le_refl _, fun _ _ _ => rfl⟩
theorem KeepX.trans {X : Nat → Prop} {A B C : World} (h : KeepX X A B) (k : KeepX X B C) : KeepX X A C :=
  ⟨k.os.trans h.os, k.tape.trans h.tape, k.output.trans h.output, Nat.le_trans h.size k.size, fun q hq hx => (k.blk q (Nat.lt_of_lt_of_le hq h.size) hx).trans (h.blk q hq hx)⟩
theorem KeepX.mono {X Y : Nat → Prop} {A B : World} (h : KeepX X A B) (hXY : ∀ k, k < A.heap.size → X k → Y k) : KeepX Y A B :=
  ⟨h.os, h.tape, h.output, h.size, fun q hq hx => h.blk q hq fun e => hx (hXY q hq e)⟩
theorem KeepX.ofBelow {X : Nat → Prop} {A B : World} (h : Below A.heap.size A B) : KeepX X A B := ⟨h.os, h.tape, h.output, h.size, fun q hq _ => h.block q hq⟩
theorem KeepX.put {X : Nat → Prop} (W : World) (l : Nat) (o : Obj) (h : X l) : KeepX X W (W.putObj l o) :=
  ⟨rfl, rfl, rfl, by simp, fun q _ hx => World.putObj_heap_other (fun e => hx (e ▸ h))⟩
theorem KeepX.below {X : Nat → Prop} {A B : World} (h : KeepX X A B) {n : Nat} (hn : n ≤ A.heap.size) (hX : ∀ k, X k → n ≤ k) : Below n A B :=
  ⟨h.os, h.tape, h.output, h.size, fun q hq => h.blk q (Nat.lt_of_lt_of_le hq hn) fun e => by have := hX q e; omega⟩
theorem KeepX.cell {X : Nat → Prop} {A B : World} (h : KeepX X A B) {p : Addr} (hp : p.block < A.heap.size) (hx : ¬ X p.block) : B.cell? p = A.cell? p := World.cell?_of_block (h.blk p.block hp hx)

/-- Where nothing is fenced a round's depth does not matter. -/
theorem roundIn_wide {m m' : Nat} {P : Program} {l : Nat} {f : FuncId} {tmps : Array Value} {assign body : Code} {w : World} {R : Ending → World → Prop} (h : RoundIn Fence.wide m P l f tmps assign body w R) : RoundIn Fence.wide m' P l f tmps assign body w R :=
  ⟨h.1, fun c cs _ => h.2 c cs (room_wide _)⟩
theorem yieldAt_wide {m m' : Nat} {P : Program} {l : Nat} {args : Array Value} {W : World} {R : Ending → World → Prop} (h : YieldAt Fence.wide m P l args W R) : YieldAt Fence.wide m' P l args W R := by
  obtain ⟨fn, tmps, assign, body, h1, h2⟩ := h
  exact ⟨fn, tmps, assign, body, h1, roundIn_wide h2⟩
theorem callsIn_any {m m' : Nat} {P : Program} {f : FuncId} {args : Array Value} {w : World} {R : Ending → World → Prop} (h : CallsIn Fence.wide m P f args w R) : CallsIn Fence.wide m' P f args w R := callsIn_wide.2 (callsIn_wide.1 h)

/-- What a function over yield does with a yield that never says stop: it tells the elements of one of the lists of S, one by one. l: the loop's record; C: what of the world is sure between the rounds; G: what is sure of the elements told so far. The rounds write nothing that lay, but X and the record. -/
def Tells {α : Type} (P : Program) (gf : Nat) (lb : Array Value) (encs : α → Array Value) (X : Nat → Prop) (C : World → Prop) (G S : List α → Prop) (l : Nat) (W : World) : Prop :=
  ∀ (J : List α → World → Prop), (∀ pre A, J pre A → C A) → (∀ pre A B, J pre A → Below W.heap.size A B → J pre B) →
    (∀ pre x W1, J pre W1 → W.heap.size ≤ W1.heap.size → G (pre ++ [x]) → YieldAt Fence.wide 0 P l (encs x) W1 fun e W' => e = .returned (.bool true) ∧ J (pre ++ [x]) W' ∧ KeepX (fun k => X k ∨ k = l) W1 W') →
    J [] W → Calls P gf (#[.func (.yield l) #[] #[]] ++ lb) W fun e W' => (∃ v, e = .returned v) ∧ ∃ xs, S xs ∧ J xs W'

theorem range_all {α : Type} {P : Program} {n : Nat} {g : Operand} {ps : Array Tmp} {assign body : Code} {Q : Exit → Act → World → Prop} {a : Act} {w : World} {gf : Nat} {lb : Array Value} (h1 : 1 ≤ n)
    (hg : a.eval g = .func (.func gf) #[] lb) (eg : ∀ args w, (callFunc gf args).run P w = .ok (.enter gf args) w) {encs : α → Array Value} (hps : ∀ x, (encs x).size = ps.size) (X : Nat → Prop) (hX : ∀ k, X k → k < w.heap.size) (C : World → Prop) (G S : List α → Prop)
    (I : List α → World → Prop) (hI : ∀ pre A B, I pre A → Below w.heap.size A B → I pre B) (h0 : I [] w) (hC : ∀ pre A r, I pre A → A.heap[w.heap.size + 1]? = some (.loop r) → C A)
    (hiter : ∀ W, Below w.heap.size w W → W.heap.size = w.heap.size + 2 → Tells P gf lb encs X C G S (w.heap.size + 1) W)
    (Ax : α → Act → World → Prop) (hAx : ∀ x a' W o, Ax x a' W → Ax x a' (W.putObj (w.heap.size + 1) o))
    (hassign : ∀ pre x W (K : Act → World → Prop), I pre W → w.heap.size + 2 ≤ W.heap.size → (∀ a' W', KeepX X W W' → I pre W' → Ax x a' W' → K a' W') →
      assign.wpIn (Fence.wide.inRound (w.heap.size + 1)) (n - 1 - 1) P (Exit.then K (fun _ _ _ => False)) { tmps := (ps.zip (encs x)).foldl (fun t (p, v) => t.setIfInBounds p v) a.tmps, defers := [] } W)
    (hbody : ∀ pre x a' W, I pre W → Ax x a' W → w.heap.size + 2 ≤ W.heap.size → G (pre ++ [x]) → body.wpIn (Fence.wide.inRound (w.heap.size + 1)) (n - 1 - 1) P (fun e _ W' => e = .normal ∧ I (pre ++ [x]) W' ∧ KeepX X W W') a' W)
    (hdone : ∀ D xs W, w.heap.size ≤ D → S xs → I xs W → W.heap[D]? = some (.deferred (some [])) → Q .normal { a with defers := { target := .collected D, args := #[] } :: a.defers } W) :
    (Code.rangeFunc g ps assign body).wpIn Fence.wide n P Q a w := by
  refine wpIn_rangeFunc fun fn hfn => ?_
  obtain ⟨rec, hrec⟩ : ∃ rec : LoopState → Loop, rec = fun st => { state := st, pending := none, fn, tmps := a.tmps, params := ps, assign, body, defers := w.heap.size } := ⟨_, rfl⟩
  obtain ⟨W1, hW1⟩ : ∃ W1, W1 = (w.alloc (.deferred (some []))).alloc (.loop (rec .ready)) := ⟨_, rfl⟩
  have hs1 : W1.heap.size = w.heap.size + 2 := by rw [hW1]; simp
  have hb1 : Below w.heap.size w W1 := by rw [hW1]; exact ((Below.refl _ w).alloc (Nat.le_refl _) _).alloc (by simp) _
  have hL : W1.heap[w.heap.size + 1]? = some (.loop (rec .ready)) := by rw [hW1]; have := World.alloc_heap_new (w.alloc (.deferred (some []))) (.loop (rec .ready)); rwa [World.size_alloc] at this
  have hD : W1.heap[w.heap.size]? = some (.deferred (some [])) := by rw [hW1]; exact (Below.heap_alloc _ _ _ (by simp)).trans (World.alloc_heap_new w _)
  have hput : ∀ (A : World) o, Below w.heap.size A (A.putObj (w.heap.size + 1) o) := fun A o => ⟨rfl, rfl, rfl, by simp, fun k hk => World.putObj_heap_other (by omega)⟩
  refine ⟨w.heap.size + 1, [{ target := .collected w.heap.size, args := #[] }], W1, { target := .fn (.func gf) lb, args := #[.func (.yield (w.heap.size + 1)) #[] #[]] }, W1, gf, #[.func (.yield (w.heap.size + 1)) #[] #[]] ++ lb, W1, ?_, ?_, fun _ _ => trivial, ?_, fun _ => h1, ?_⟩
  · rw [hW1, hrec]; exact run_enterLoop_outer _ _ _ _ _
  · simp only [resolve, hg]
    simp [go_sem]
  · simp [invoke, go_sem, eg]
  · obtain ⟨J, hJ⟩ : ∃ J : List α → World → Prop, J = fun pre W => I pre W ∧ W.heap[w.heap.size + 1]? = some (.loop (rec .ready)) ∧ W.heap[w.heap.size]? = some (.deferred (some [])) := ⟨_, rfl⟩
    refine callsIn_wide.2 ((hiter W1 hb1 hs1 J ?_ ?_ ?_ ?_).mono ?_)
    · rintro pre A hA
      rw [hJ] at hA
      exact hC pre A _ hA.1 hA.2.1
    · rintro pre A B hA hb
      rw [hJ] at hA ⊢
      rw [hs1] at hb
      exact ⟨hI pre A B hA.1 ⟨hb.os, hb.tape, hb.output, hb.size, fun k hk => hb.block k (by omega)⟩, (hb.block _ (by omega)).trans hA.2.1, (hb.block _ (by omega)).trans hA.2.2⟩
    · rintro pre x W hW hsz hG
      rw [hJ] at hW ⊢
      obtain ⟨hi, hl, hd⟩ := hW
      rw [hs1] at hsz
      have hy := run_yield (P := P) (args := encs x) hl (by rw [hrec]; exact hps x)
      rw [hrec] at hy
      refine ⟨fn, _, assign, body, hy, roundIn_wide (roundIn_of_wpIn (n := n - 1 - 1) trivial (hassign pre x W _ hi hsz ?_))⟩
      intro a' Wa hka hia hax
      have hla := (hka.blk (w.heap.size + 1) (by omega) (fun e => by have := hX _ e; omega)).trans hl
      have hda := (hka.blk w.heap.size (by omega) (fun e => by have := hX _ e; omega)).trans hd
      have hsa := hka.size
      refine ⟨_, run_beginRound hla (by rw [hrec]), ?_⟩
      refine wpIn_mono (hbody pre x a' _ (hI _ _ _ hia (hput _ _)) (hAx _ _ _ _ hax) (by simp; omega) hG) ?_
      rintro e a3 W3 ⟨rfl, hi3, hk3⟩
      have hsz3 := hk3.size
      simp at hsz3
      have hl3 : W3.heap[w.heap.size + 1]? = some (.loop { rec .ready with state := .busy }) := (hk3.blk _ (by simp; omega) (fun e => by have := hX _ e; omega)).trans (World.putObj_heap_same (by omega))
      have hd3 := (hk3.blk w.heap.size (by simp; omega) (fun e => by have := hX _ e; omega)).trans ((World.putObj_heap_other (by omega)).trans hda)
      have hend := run_endRound (P := P) none hl3
      rw [hrec] at hend
      refine ⟨_, _, hend, rfl, ⟨hI _ _ _ hi3 (hput _ _), ?_, (World.putObj_heap_other (by omega)).trans hd3⟩, ?_⟩
      · rw [World.putObj_heap_same (by omega), hrec]; rfl
      · refine (hka.mono fun k _ h => .inl h).trans ((KeepX.put _ _ _ (.inr rfl)).trans ((hk3.mono fun k _ h => .inl h).trans (KeepX.put _ _ _ (.inr rfl))))
    · rw [hJ]
      exact ⟨hI _ _ _ h0 hb1, hL, hD⟩
    · rintro e W2 ⟨⟨v, rfl⟩, xs, hS, hj⟩
      rw [hJ] at hj
      obtain ⟨hi, hl, hd⟩ := hj
      refine ⟨none, _, by have := run_endLoop (P := P) hl (by rw [hrec]; simp); rw [hrec] at this; exact this, ?_⟩
      exact hdone _ xs _ (Nat.le_refl _) hS (hI _ _ _ hi (hput _ _)) ((World.putObj_heap_other (by omega)).trans hd)

end Go.Proofs.YtgddkjhknlgbbaaGreatDoor

namespace Go.Proofs.YtgddkjhknlgbbaaGreatDoor
set_option linter.unusedVariables false
set_option linter.unusedSimpArgs false
open Go.RowKit Go.Maps

/-- The byte at a place; 0 behind the end. -/
def byteAt (s : ByteArray) (p : Nat) : Nat := if h : p < s.size then s[p].toNat else 0
theorem byteAt_in {s : ByteArray} {p : Nat} (h : p < s.size) : byteAt s p = s[p].toNat := by unfold byteAt; rw [dif_pos h]
theorem byteAt_end {s : ByteArray} {p : Nat} (h : s.size ≤ p) : byteAt s p = 0 := by unfold byteAt; rw [dif_neg (by omega)]
theorem byteAt_lt (s : ByteArray) (p : Nat) : byteAt s p < 256 := by
  unfold byteAt
  split
  · exact UInt8.toNat_lt _
  · omega
theorem byteAt_ne {s : ByteArray} {p : Nat} (h : byteAt s p ≠ 0) : p < s.size := by
  rcases Nat.lt_or_ge p s.size with h1 | h1
  · exact h1
  · exact absurd (byteAt_end h1) h

/-- Steps as long as the byte is one of these. -/
def runF (t : Nat → Bool) (s : ByteArray) : Nat → Nat → Nat
  | 0, p => p
  | n + 1, p => if t (byteAt s p) then runF t s n (p + 1) else p
def runP (t : Nat → Bool) (s : ByteArray) (p : Nat) : Nat := runF t s (s.size - p) p

theorem runP_stop {t : Nat → Bool} {s : ByteArray} {p : Nat} (h : t (byteAt s p) = false) : runP t s p = p := by
  unfold runP
  cases s.size - p with
  | zero => rfl
  | succ n => simp [runF, h]
theorem runP_go {t : Nat → Bool} {s : ByteArray} {p : Nat} (hp : p < s.size) (h : t (byteAt s p) = true) : runP t s p = runP t s (p + 1) := by
  unfold runP
  obtain ⟨n, hn⟩ : ∃ n, s.size - p = n + 1 := ⟨s.size - p - 1, by omega⟩
  have hn' : s.size - (p + 1) = n := by omega
  rw [hn, hn']
  simp [runF, h]
theorem runF_ge (t : Nat → Bool) (s : ByteArray) : ∀ n p, p ≤ runF t s n p
  | 0, p => Nat.le_refl _
  | n + 1, p => by
    unfold runF
    split
    · exact Nat.le_trans (Nat.le_succ p) (runF_ge t s n (p + 1))
    · exact Nat.le_refl _
theorem runP_ge (t : Nat → Bool) (s : ByteArray) (p : Nat) : p ≤ runP t s p := runF_ge t s _ p
theorem runF_le (t : Nat → Bool) (s : ByteArray) : ∀ n p, runF t s n p ≤ p + n
  | 0, p => Nat.le_refl _
  | n + 1, p => by
    unfold runF
    split
    · have := runF_le t s n (p + 1); omega
    · omega
theorem runP_le {t : Nat → Bool} {s : ByteArray} {p : Nat} (hp : p ≤ s.size) : runP t s p ≤ s.size := by
  have := runF_le t s (s.size - p) p
  unfold runP
  omega

def isBl (c : Nat) : Bool := decide (c = 32)
def isVr (c : Nat) : Bool := decide (65 ≤ c) && decide (c ≤ 90)
def isLt (c : Nat) : Bool := decide (97 ≤ c) && decide (c ≤ 122)
def isDg (c : Nat) : Bool := decide (48 ≤ c) && decide (c ≤ 57)
def skipP (s : ByteArray) (p : Nat) : Nat := runP isBl s p
def lettersP (s : ByteArray) (p : Nat) : Nat := runP isLt s p

/-- A sign that has to come next. -/
def mustP (s : ByteArray) (c p : Nat) : Except Nat Nat := if byteAt s (skipP s p) = c then .ok (skipP s p + 1) else .error (skipP s p)

/-- At most so many digits. -/
def digF (s : ByteArray) : Nat → Nat → Nat → Nat × Nat
  | 0, p, acc => (acc, p)
  | n + 1, p, acc => if isDg (byteAt s p) then digF s n (p + 1) (10 * acc + (byteAt s p - 48)) else (acc, p)

/-- A number from a place on. -/
def numP (s : ByteArray) (p : Nat) : Except Nat (Int × Nat) :=
  let q := if byteAt s p = 45 then p + 1 else p
  let r := digF s 9 q 0
  if r.2 = q then .error q else .ok (if byteAt s p = 45 then -(r.1 : Int) else (r.1 : Int), r.2)

/-- A term: a letter, or 0 and a number. -/
def termP (s : ByteArray) (p : Nat) : Except Nat ((Nat × Int) × Nat) :=
  if isVr (byteAt s (skipP s p)) then .ok ((byteAt s (skipP s p), 0), skipP s p + 1) else
    match numP s (skipP s p) with
    | .error q => .error q
    | .ok (z, q) => .ok ((0, z), q)

/-- A list of items with commas between. -/
def listP {α : Type} (item : Nat → Except Nat (α × Nat)) (s : ByteArray) : Nat → Nat → List α → Except Nat (List α × Nat)
  | 0, p, acc => .ok (acc, p)
  | m + 1, p, acc =>
    match item p with
    | .error q => .error q
    | .ok (x, q) => if m = 0 then .ok (acc ++ [x], q) else if byteAt s (skipP s q) = 44 then listP item s m (skipP s q + 1) (acc ++ [x]) else .ok (acc ++ [x], skipP s q)

/-- An atom: a name, its place, terms. -/
structure AtomP where
  nm : ByteArray
  pl : Nat
  ts : List (Nat × Int)

def atomP (s : ByteArray) (p : Nat) : Except Nat (AtomP × Nat) :=
  let q := skipP s p
  let e := lettersP s q
  if e = q then .error q else
    match mustP s 40 e with
    | .error r => .error r
    | .ok p1 => match listP (termP s) s 3 p1 [] with
      | .error r => .error r
      | .ok (ts, p2) => match mustP s 41 p2 with
        | .error r => .error r
        | .ok p3 => .ok (⟨s.extract q e, q, ts⟩, p3)

def headVarP (s : ByteArray) (p : Nat) : Except Nat ((Nat × Nat) × Nat) :=
  if isVr (byteAt s (skipP s p)) then .ok ((byteAt s (skipP s p), skipP s p), skipP s p + 1) else .error (skipP s p)

def headP (s : ByteArray) (p : Nat) : Except Nat (List (Nat × Nat) × Nat) :=
  match mustP s 40 p with
  | .error r => .error r
  | .ok p1 => if byteAt s (skipP s p1) = 41 then .ok ([], skipP s p1 + 1) else
    match listP (headVarP s) s 4 (skipP s p1) [] with
    | .error r => .error r
    | .ok (hs, p2) => match mustP s 41 p2 with
      | .error r => .error r
      | .ok p3 => .ok (hs, p3)

def markP (s : ByteArray) (p : Nat) : Except Nat Nat :=
  match mustP s 58 p with
  | .error r => .error r
  | .ok p1 => if byteAt s p1 = 45 then .ok (p1 + 1) else .error p1

def bodyP (s : ByteArray) (p : Nat) : Except Nat (List AtomP) :=
  match listP (atomP s) s 4 p [] with
  | .error r => .error r
  | .ok (bs, p1) => if skipP s p1 < s.size then .error (skipP s p1) else .ok bs

/-- A query, or the place of what is wrong. -/
def readP (s : ByteArray) : Except Nat (List (Nat × Nat) × List AtomP) :=
  match headP s 0 with
  | .error r => .error r
  | .ok (hs, p1) => match markP s p1 with
    | .error r => .error r
    | .ok p2 => match bodyP s p2 with
      | .error r => .error r
      | .ok bs => .ok (hs, bs)

theorem digF_go {s : ByteArray} {n p acc : Nat} (h : isDg (byteAt s p) = true) : digF s (n + 1) p acc = digF s n (p + 1) (10 * acc + (byteAt s p - 48)) := by simp [digF, h]
theorem digF_stop {s : ByteArray} {n p acc : Nat} (h : isDg (byteAt s p) = false) : digF s n p acc = (acc, p) := by
  cases n with
  | zero => rfl
  | succ n => simp [digF, h]
theorem digF_bd (s : ByteArray) : ∀ n p acc, p ≤ (digF s n p acc).2 ∧ (p ≤ s.size → (digF s n p acc).2 ≤ s.size) ∧ (digF s n p acc).1 < (acc + 1) * 10 ^ n
  | 0, p, acc => by simp [digF]
  | n + 1, p, acc => by
    unfold digF
    split
    · rename_i h
      have hd : 48 ≤ byteAt s p ∧ byteAt s p ≤ 57 := by simpa [isDg] using h
      obtain ⟨h1, h2, h3⟩ := digF_bd s n (p + 1) (10 * acc + (byteAt s p - 48))
      have hp : p < s.size := byteAt_ne (by omega)
      refine ⟨by omega, fun _ => h2 (by omega), Nat.lt_of_lt_of_le h3 ?_⟩
      rw [Nat.pow_succ, Nat.mul_comm (10 ^ n) 10, ← Nat.mul_assoc]
      exact Nat.mul_le_mul_right _ (by omega)
    · refine ⟨Nat.le_refl _, fun h => h, ?_⟩
      show acc < (acc + 1) * 10 ^ (n + 1)
      have : 1 ≤ 10 ^ (n + 1) := Nat.pow_pos (by omega)
      exact Nat.lt_of_lt_of_le (Nat.lt_succ_self acc) (Nat.le_mul_of_pos_right _ this)

end Go.Proofs.YtgddkjhknlgbbaaGreatDoor

namespace Go.Proofs.YtgddkjhknlgbbaaGreatDoor
set_option linter.unusedVariables false
set_option linter.unusedSimpArgs false
open Go

/-- No operation is a defer statement. -/
def noDefer (ops : Array Oper) : Bool := ops.all fun o => match o.op with | .defer _ => false | _ => true

theorem noDefer_at {ops : Array Oper} (h : noDefer ops = true) {i : Nat} {o : Oper} (ho : ops[i]? = some o) (c : Call) : o.op ≠ .defer c := by
  intro e
  have := Array.all_eq_true_iff_forall_mem.1 h o (Array.mem_of_getElem? ho)
  rw [e] at this
  cases this

theorem wpOpIn_round {F : Fence} {n : Nat} {P : Program} {ops : Array Oper} {Q : Exit → Act → World → Prop} (l : Nat) (hro : F.round = none) (hnd : noDefer ops = true) {i : Nat} {K : Act → World → Prop} {a : Act} {w : World}
    (h : wpOpIn F n P ops Q i K a w) : wpOpIn (F.inRound l) n P ops Q i K a w := by
  unfold wpOpIn at *
  cases ho : ops[i]? with
  | none => simp only [ho] at h ⊢
            exact h
  | some o =>
    simp only [ho] at h ⊢
    split
    · rename_i hw
      simp only [hw, if_true] at h
      unfold Oper.wpIn at *
      rw [hro, Oper.semAt_none] at h
      refine ⟨h.1, ?_⟩
      rw [show (F.inRound l).round = some l from rfl, Oper.semAt_some l _ _ (noDefer_at hnd ho)]
      exact h.2
    · rename_i hw
      simp only [hw] at h
      exact h

theorem wpAnyIn_round {F : Fence} {n : Nat} {P : Program} {md : Region.Mode} {ops : Array Oper} {Q : Exit → Act → World → Prop} (l : Nat) (hro : F.round = none) (hnd : noDefer ops = true) :
    ∀ (fuel : Nat) (listed : Array Bool) (a : Act) (w : World), wpAnyIn F n P md ops Q fuel listed a w → wpAnyIn (F.inRound l) n P md ops Q fuel listed a w
  | 0, _, _, _, h => h
  | fuel + 1, listed, a, w, h => ⟨h.1, fun i hi => wpOpIn_mono (fun a' w' h' => wpAnyIn_round l hro hnd fuel _ a' w' h') (wpOpIn_round l hro hnd (h.2 i hi))⟩

/-- A region that draws, in a round: as everywhere. -/
theorem region_round {F : Fence} {n : Nat} {P : Program} {ops : Array Oper} {Q : Exit → Act → World → Prop} {l : Nat} {id : Nat} {a : Act} {w : World} (hro : F.round = none) (hm : P.follows .mixedOrders = true) (hnd : noDefer ops = true)
    (h : wpAnyIn F n P .any ops Q ops.size (Array.replicate ops.size false) a w.drew) : (Code.region id ops true).wpIn (F.inRound l) n P Q a w :=
  wpIn_region_any hm (wpAnyIn_round l hro hnd _ _ _ _ h)

end Go.Proofs.YtgddkjhknlgbbaaGreatDoor

namespace Go.Proofs.YtgddkjhknlgbbaaGreatDoor
set_option linter.unusedVariables false
set_option linter.unusedSimpArgs false
open Go Go.RowKit

/-- The later world: what lay lies as it lay. -/
def ExtV (w w' : World) : Prop := Below w.heap.size w w'
theorem ExtV.refl (w : World) : ExtV w w := Below.refl _ _
theorem ExtV.trans {a b c : World} (h : ExtV a b) (k : ExtV b c) : ExtV a c := Below.trans h (Below.mono k (Below.size h))

theorem ExtV.cell {w w' : World} (h : ExtV w w') {p : Addr} {v : Value} (hc : w.cell? p = some v) : w'.cell? p = some v := (Below.cell h (World.block_lt_of_cell? w p hc)).trans hc

/-- What runs so changes nothing that lay. -/
def TameS {α : Type} (P : Program) (s : Sem α) : Prop := ∀ w x w', s.run P w = .ok x w' → ExtV w w'

theorem TameS.pure {α : Type} {P : Program} (a : α) : TameS P (pure a : Sem α) := fun w x w' h => by
  simp only [Sem.run_pure] at h
  cases h
  exact ExtV.refl _

theorem TameS.bind {α β : Type} {P : Program} {s : Sem α} {f : α → Sem β} (h : TameS P s) (hf : ∀ a, TameS P (f a)) : TameS P (s >>= f) := fun w x w' hr => by
  rw [Sem.run_bind] at hr
  cases e : s.run P w with
  | ok a w1 =>
    rw [e] at hr
    exact (h w a w1 e).trans (hf a w1 x w' hr)
  | halt c w1 =>
    rw [e] at hr
    cases hr

theorem TameS.program {P : Program} : TameS P program := fun w x w' h => by
  cases h
  exact ExtV.refl _

theorem TameS.load {P : Program} (a : Addr) (m : Mode) : TameS P (load a m) := fun w x w' h => by
  simp only [Go.load, Sem.run] at h
  split at h
  · cases h; exact ExtV.refl _
  · split at h
    · cases h; exact ExtV.refl _
    · cases h

theorem TameS.newObj {P : Program} (o : Obj) : TameS P (newObj o) := fun w x w' h => by
  cases h
  exact (Below.refl _ w).alloc (Nat.le_refl _) o

theorem TameS.stuck {α : Type} {P : Program} (s : String) : TameS P (stuck s : Sem α) := fun w x w' h => by cases h
theorem TameS.unsupported {α : Type} {P : Program} (s : _) : TameS P (unsupported s : Sem α) := fun w x w' h => by cases h

theorem TameS.typeInfo {P : Program} (t : TypeId) : TameS P (typeInfo t) := by
  unfold Go.typeInfo
  refine .bind .program fun p => ?_
  split
  · exact .pure _
  · exact .stuck _

theorem TameS.underlying {P : Program} (t : TypeId) : TameS P (underlying t) := by
  unfold Go.underlying
  refine .bind .program fun p => ?_
  split
  · exact .pure _
  · exact .stuck _

theorem TameS.isAgg {P : Program} (t : TypeId) : TameS P (isAgg t) := by
  unfold Go.isAgg
  refine .bind (.underlying t) fun d => ?_
  split
  · exact .pure _
  · exact .pure _
  · exact .pure _

theorem TameS.loadCellsFrom {P : Program} (a : Addr) : ∀ (n i : Nat) (acc : Array Value), TameS P (loadCellsFrom a i n acc)
  | 0, i, acc => .pure _
  | n + 1, i, acc => by
    unfold Go.loadCellsFrom
    exact .bind (.load _ _) fun v => TameS.loadCellsFrom a n (i + 1) _

theorem TameS.loadAt {P : Program} (t : TypeId) (x : Value) : TameS P (Instr.loadAt t x) := by
  unfold Instr.loadAt
  refine .bind ?_ fun a => ?_
  · unfold Instr.sureAddr
    split
    · exact .pure _
    · exact .stuck _
  · unfold loadVar
    refine .bind (.isAgg t) fun b => ?_
    split
    · refine .bind ?_ fun n => .bind ?_ fun cs => .pure _
      · unfold Go.sizeOf
        exact .bind (.typeInfo t) fun _ => .pure _
      · exact TameS.loadCellsFrom a _ 0 #[]
    · exact .load _ _

theorem TameS.alloc {P : Program} (t : TypeId) : TameS P (Instr.alloc t true (.tuple #[])) := by
  unfold Instr.alloc
  refine .bind ?_ fun z => ?_
  · unfold zeroValue
    refine .bind (.typeInfo t) fun i => ?_
    split
    · exact .pure _
    · exact .unsupported _
  · refine .bind ?_ fun a => .pure _
    unfold newVar newRow
    exact .bind (.newObj _) fun _ => .pure _

/-- An operation that gives a value and changes nothing that lay. -/
def Tame (P : Program) (o : Oper) : Prop := ∀ ρ w x w', (execOp ρ o).run P w = .ok x w' → (∃ u, x = .value u) ∧ ExtV w w'

theorem value_of {P : Program} {s : Sem Value} {w : World} {x : Next} {w' : World} (hs : TameS P s) (h : (do pure (Next.value (← s)) : Sem Next).run P w = .ok x w') : (∃ u, x = .value u) ∧ ExtV w w' := by
  rw [Sem.run_bind] at h
  cases e : s.run P w with
  | ok a w1 => rw [e] at h; cases h; exact ⟨⟨_, rfl⟩, hs _ _ _ e⟩
  | halt c w1 => rw [e] at h; cases h

def tameB : Op → Bool
  | .move _ | .assign _ | .load _ _ | .alloc _ => true
  | _ => false

theorem tame_of {P : Program} {o : Oper} (h : tameB o.op = true) : Tame P o := by
  intro ρ w x w' hr
  unfold execOp at hr
  cases ho : o.op with
  | move y => rw [ho] at hr; cases hr; exact ⟨⟨_, rfl⟩, ExtV.refl _⟩
  | assign y => rw [ho] at hr; cases hr; exact ⟨⟨_, rfl⟩, ExtV.refl _⟩
  | load t a => rw [ho] at hr; exact value_of (.loadAt _ _) hr
  | alloc t => rw [ho] at hr; exact value_of (.alloc _) hr
  | _ => rw [ho] at h; cases h

/-- Nothing but going on. -/
def normQ (Q : Exit → Act → World → Prop) : Exit → Act → World → Prop := fun e a w => match e with | .normal => Q .normal a w | _ => False
theorem normQ_wp {F : Fence} {n : Nat} {P : Program} {c : Code} {Q : Exit → Act → World → Prop} {a : Act} {w : World} (h : c.wpIn F n P (normQ Q) a w) : c.wpIn F n P Q a w := by
  refine Code.wpIn_mono (fun e a w h => ?_) h
  cases e <;> first | exact h | exact h.elim

section
variable {F : Fence} {n : Nat} {P : Program} {md : Region.Mode} {ops : Array Oper} {Q : Exit → Act → World → Prop}

/-- The operation reads the value, in whatever later world. -/
def ReadsL (P : Program) (ops : Array Oper) (o : Oper) (v : Value) (a : Act) (w : World) : Prop :=
  Region.wanted o (yielded ops a.tmps) = true ∧ (∀ w', ExtV w w' → (execOp a.eval o).run P w' = .ok (.value v) w') ∧ ∀ w', o.about P w' a.eval = none

theorem ReadsL.now {i : Nat} {o : Oper} {v : Value} {a : Act} {w : World} (hro : F.round = none) (hi : ops[i]? = some o) (hy : ReadsL P ops o v a w) {K : Act → World → Prop} (h : K (a.put o.dst v) w) : wpOpIn F n P ops Q i K a w := by
  unfold wpOpIn
  simp only [hi]
  simp only [hy.1, if_true, Oper.wpIn, hro, Oper.semAt_none, hy.2.1 w (ExtV.refl w), Oper.uponIn]
  exact ⟨(fun f hf => by rw [hy.2.2 w] at hf; cases hf), h⟩

theorem wpOpIn_putL {j : Nat} {oi oj : Oper} {v : Value} (hro : F.round = none) (hj : ops[j]? = some oj) (hap : oi.apart ops oj = true) (hsi : ∀ cs b, oi.op ≠ .select cs b) (hsj : ∀ cs b, oj.op ≠ .select cs b) (htame : Tame P oj)
    (hQ : ∀ c a w, Q (.panic c) (a.put oi.dst v) w → Q (.panic c) a w) {K : Act → World → Prop} {a : Act} {w : World} (hy : ReadsL P ops oi v a w) (h : wpOpIn F n P ops Q j K (a.put oi.dst v) w) :
    wpOpIn F n P ops Q j (fun a' w' => ReadsL P ops oi v a' w' ∧ K (a'.put oi.dst v) w') a w := by
  obtain ⟨h1, h2, h3⟩ := Oper.apart_spec hap
  have keep : ∀ u w', ExtV w w' → ReadsL P ops oi v (a.put oj.dst u) w' := fun u w' hw =>
    ⟨by rw [wanted_put oi a oj.dst u h3]; exact hy.1, fun w'' hw'' => by rw [execOp_put oi hsi a oj.dst u h3]; exact hy.2.1 w'' (hw.trans hw''), fun w'' => by rw [about_put oi w'' a oj.dst u h3]; exact hy.2.2 w''⟩
  unfold wpOpIn at *
  simp only [hj] at *
  rw [wanted_put oj a oi.dst v h1, about_put oj w a oi.dst v h1] at h
  split
  · rename_i hw
    simp only [hw, if_true] at h
    unfold Oper.wpIn at *
    rw [about_put oj w a oi.dst v h1] at h
    refine ⟨h.1, ?_⟩
    have h := h.2
    rw [hro, Oper.semAt_none, execOp_put oj hsj a oi.dst v h1] at h
    rw [hro, Oper.semAt_none]
    cases e : (execOp a.eval oj).run P w with
    | ok x w' =>
      rw [e] at h
      obtain ⟨⟨u, rfl⟩, hx⟩ := htame _ _ _ _ e
      simp only [Oper.uponIn] at h ⊢
      exact ⟨keep u w' hx, by rw [← Act.put_comm a v u h2]; exact h⟩
    | halt x w' =>
      rw [e] at h
      cases x <;> simp only [Oper.uponIn] at h ⊢
      case panic u => exact hQ _ _ _ h
  · rename_i hw
    simp only [hw] at h
    exact ⟨h.1, keep _ w (ExtV.refl w), by rw [← Act.put_comm a v undef h2]; exact h.2⟩

/-- What may come up ahead of i is tame; the others wait for i, or for one that waits. -/
def WaitsV (md : Region.Mode) (ops : Array Oper) (listed : Array Bool) (i : Nat) (t : Nat → Bool) : Prop :=
  ∀ (j : Nat) (oj : Oper), ops[j]? = some oj → j ≠ i → listed.getD j true = false → t j = false → ∃ e ∈ oj.after, Region.binds md e = true ∧ (e.on = i ∨ (t e.on = false ∧ listed.getD e.on true = false))

theorem wpAnyIn_firstL {i : Nat} {oi : Oper} {v : Value} (t : Nat → Bool) (hro : F.round = none) (hi : ops[i]? = some oi) (hti : t i = true) (hsel : ∀ (j : Nat) (o : Oper) cs b, ops[j]? = some o → o.op ≠ .select cs b)
    (hQ : ∀ c a w, Q (.panic c) (a.put oi.dst v) w → Q (.panic c) a w) :
    ∀ (fuel : Nat) (listed : Array Bool) (a : Act) (w : World),
      (∀ (j : Nat) (oj : Oper), ops[j]? = some oj → j ≠ i → listed.getD j true = false → t j = true → tameB oj.op = true ∧ oi.apart ops oj = true) → WaitsV md ops listed i t →
      i ∈ Region.ready md ops listed → ReadsL P ops oi v a w →
      wpAnyIn F n P md ops Q fuel (listed.setIfInBounds i true) (a.put oi.dst v) w → wpAnyIn F n P md ops Q (fuel + 1) listed a w := by
  intro fuel
  induction fuel with
  | zero =>
    intro listed a w _ _ hr hy H
    refine ⟨fun h => (by rw [h] at hr; cases hr), fun j hj => ?_⟩
    by_cases hji : j = i
    · subst hji; exact hy.now hro hi H
    · have := ready_mono hj hji
      rw [H.1] at this
      cases this
  | succ fuel ih =>
    intro listed a w h1 h2 hr hy H
    refine ⟨fun h => (by rw [h] at hr; cases hr), fun j hj => ?_⟩
    by_cases hji : j = i
    · subst hji; exact hy.now hro hi H
    · have hH := H.2 j (ready_mono hj hji)
      obtain ⟨hjun, oj, hoj, hall⟩ := mem_ready.1 hj
      have hiun := (mem_ready.1 hr).1
      have hno : ∀ k, listed.getD k true = false → listed.getD k false = true → False := fun k ha hb => by
        rcases Nat.lt_or_ge k listed.size with h' | h'
        · simp [Array.getD, h'] at ha hb; rw [ha] at hb; cases hb
        · simp [Array.getD, Nat.not_lt.2 h'] at ha
      have htj : t j = true := by
        cases htj : t j with
        | true => rfl
        | false =>
          obtain ⟨e, he, hb, hon⟩ := h2 j oj hoj hji hjun htj
          have hl := hall e he hb
          rcases hon with hon | ⟨_, hon⟩
          · rw [hon] at hl; exact (hno i hiun hl).elim
          · exact (hno _ hon hl).elim
      obtain ⟨hta, hap⟩ := h1 j oj hoj hji hjun htj
      have hp := wpOpIn_putL hro hoj hap (fun cs b => hsel i oi cs b hi) (fun cs b => hsel j oj cs b hoj) (tame_of hta) hQ hy hH
      refine wpOpIn_mono (fun a' w' h3 => ih (listed.setIfInBounds j true) a' w' ?_ ?_ (ready_mono hr (Ne.symm hji)) h3.1 ?_) hp
      · intro k ok hk hki hun htk
        refine h1 k ok hk hki ?_ htk
        by_cases hjk : j = k
        · subst hjk; exact hjun
        · rw [getD_set_ne true hjk] at hun; exact hun
      · intro k ok hk hki hun htk
        have hjk : j ≠ k := fun e => by rw [e] at htj; rw [htj] at htk; cases htk
        rw [getD_set_ne true hjk] at hun
        obtain ⟨e, he, hb, hon⟩ := h2 k ok hk hki hun htk
        refine ⟨e, he, hb, ?_⟩
        rcases hon with hon | ⟨ht, hon⟩
        · exact .inl hon
        · refine .inr ⟨ht, ?_⟩
          have hjo : j ≠ e.on := fun e' => by rw [← e'] at ht; rw [htj] at ht; cases ht
          rw [getD_set_ne true hjo]; exact hon
      · rw [Array.setIfInBounds_comm _ _ hji]
        exact h3.2

/-- The check, by reckoning: ts lists what is tame. -/
def checkL (md : Region.Mode) (ops : Array Oper) (listed : Array Bool) (i : Nat) (ts : List Nat) : Bool :=
  ts.contains i && (List.range ops.size).all fun j => j == i || listed.getD j true || match ops[i]?, ops[j]? with
    | some oi, some oj => if ts.contains j then tameB oj.op && oi.apart ops oj else oj.after.any fun e => Region.binds md e && (e.on == i || (!ts.contains e.on && !listed.getD e.on true))
    | _, _ => false

theorem wpAnyIn_takeL {i : Nat} {oi : Oper} {v : Value} {fuel : Nat} {listed : Array Bool} {a : Act} {w : World} (ts : List Nat) (hro : F.round = none) (hi : ops[i]? = some oi)
    (hs : Region.noSelect ops = true) (hc : checkL md ops listed i ts = true) (hr : (Region.ready md ops listed).contains i = true)
    (hQ : ∀ c a w, Q (.panic c) (a.put oi.dst v) w → Q (.panic c) a w) (hy : ReadsL P ops oi v a w)
    (h : wpAnyIn F n P md ops Q fuel (listed.setIfInBounds i true) (a.put oi.dst v) w) : wpAnyIn F n P md ops Q (fuel + 1) listed a w := by
  unfold checkL at hc
  rw [Bool.and_eq_true, List.all_eq_true] at hc
  have hsize : ∀ {j oj}, ops[j]? = some oj → j < ops.size := fun h => (Array.getElem?_eq_some_iff.1 h).1
  refine wpAnyIn_firstL (fun j => ts.contains j) hro hi hc.1 (Region.noSelect_spec hs) hQ fuel listed a w ?_ ?_ (by simpa using hr) hy h
  · intro j oj hoj hji hun htj
    have := hc.2 j (List.mem_range.2 (hsize hoj))
    simp only [hi, hoj, hun, Bool.or_false] at this
    rw [show (j == i) = false by simpa using hji] at this
    simp only [Bool.false_or, htj, if_true, Bool.and_eq_true] at this
    exact this
  · intro j oj hoj hji hun htj
    have := hc.2 j (List.mem_range.2 (hsize hoj))
    simp only [hi, hoj, hun, Bool.or_false] at this
    rw [show (j == i) = false by simpa using hji] at this
    simp only [Bool.false_or, htj, Bool.false_eq_true, if_false, Array.any_eq_true, Bool.and_eq_true, Bool.or_eq_true, beq_iff_eq, Bool.not_eq_true'] at this
    obtain ⟨k, hk, hb, hon⟩ := this
    refine ⟨oj.after[k], Array.getElem_mem hk, hb, ?_⟩
    rcases hon with hon | ⟨h1, h2⟩
    · exact .inl hon
    · exact .inr ⟨h1, h2⟩

end
end Go.Proofs.YtgddkjhknlgbbaaGreatDoor

namespace Go.Proofs.YtgddkjhknlgbbaaGreatDoor
set_option linter.unusedVariables false
set_option linter.unusedSimpArgs false
open Go.RowKit Go.Maps

/-- A reader that stands at a place of a text. -/
structure Rdr (W : World) (RB : Nat) (s : ByteArray) (p : Nat) : Prop where
  blk : W.heap[RB]? = some (.cells #[.string s, .int .i64 p] 162 (0, 0))
  le : p ≤ s.size
  sz : s.size ≤ 300

theorem Rdr.keep {W W' : World} {RB : Nat} {s : ByteArray} {p : Nat} (h : Rdr W RB s p) (hb : W'.heap[RB]? = W.heap[RB]?) : Rdr W' RB s p := ⟨hb.trans h.blk, h.le, h.sz⟩
theorem Rdr.lt {W : World} {RB : Nat} {s : ByteArray} {p : Nat} (h : Rdr W RB s p) : RB < W.heap.size := (Array.getElem?_eq_some_iff.1 h.blk).1
theorem Rdr.below {W W' : World} {RB : Nat} {s : ByteArray} {p : Nat} (h : Rdr W RB s p) (hb : Below W.heap.size W W') : Rdr W' RB s p := h.keep (hb.block RB h.lt)
theorem belowNG (n q : Nat) (w : World) : Below n w (w.drewN q) := ⟨rfl, rfl, rfl, Nat.le_refl _, fun _ _ => rfl⟩

theorem setPlace {W : World} {RB : Nat} {s : ByteArray} {p q : Nat} (h : Rdr W RB s p) (hq : q ≤ s.size) : Rdr (W.setCell ⟨RB, 1, none⟩ (.int .i64 q)) RB s q := by
  refine ⟨?_, hq, h.sz⟩
  simp only [World.setCell]
  rw [Array.getElem?_modify, if_pos rfl, h.blk]
  rfl
theorem keepX_set1 (w : World) (b o : Nat) (v : Value) : KeepX (fun q => q = b) w (w.setCell ⟨b, o, none⟩ v) :=
  ⟨rfl, rfl, rfl, (KeepsWalks.setCell w _ v).size, fun k _ hk => Below.heap_setCell _ _ _ k (fun e => hk (by rw [e]))⟩

theorem Rdr.c0 {W : World} {RB : Nat} {s : ByteArray} {p : Nat} (h : Rdr W RB s p) : W.cell? ⟨RB, 0, none⟩ = some (.string s) := cell_of_heap h.blk 0
theorem Rdr.c1 {W : World} {RB : Nat} {s : ByteArray} {p : Nat} (h : Rdr W RB s p) : W.cell? ⟨RB, 1, none⟩ = some (.int .i64 p) := cell_of_heap h.blk 1
theorem Rdr.f1 {W : World} {RB : Nat} {s : ByteArray} {p : Nat} (h : Rdr W RB s p) : W.frozen? ⟨RB, 1, none⟩ = false := frozen_of_heap h.blk 1

set_option maxRecDepth 100000 in
set_option maxHeartbeats 1000000 in
theorem here_any (RB : Nat) (s : ByteArray) (p : Nat) (W : World) (h : Rdr W RB s p) :
    Calls Tryz.prog 110 #[.pointer (some ⟨RB, 0, none⟩)] W fun e w' => e = .returned (.int .u8 (byteAt s p)) ∧ Drawn W w' := by
  have c0 := h.c0
  have c1 := h.c1
  have hle := h.le
  have hsz := h.sz
  clear h
  by_cases hp : p = s.size
  · rw [byteAt_end (by omega)]
    have hpz : (p : Int) = (s.size : Int) := by omega
    subst hp
    clear hpz
    go_enter Tryz.func110, Tryz.ntmps110
    go_wp2_with fail
    go_quiet (fail)
    go_wp2
    go_ret
    exact ⟨rfl, ⟨_, rfl⟩⟩
  · have hlt : p < s.size := by omega
    have hpz : ¬ (p : Int) = (s.size : Int) := by omega
    rw [byteAt_in hlt]
    go_enter Tryz.func110, Tryz.ntmps110
    go_wp2_with fail
    go_quiet (fail)
    go_wp2_with fail
    go_quiet (fail)
    go_wp2
    go_ret
    exact ⟨rfl, Drawn.trans ⟨_, rfl⟩ ⟨_, rfl⟩⟩

theorem Drawn.bel {W W' : World} (h : Drawn W W') : Below W.heap.size W W' := by
  obtain ⟨n, rfl⟩ := h
  exact belowNG _ _ _

set_option maxRecDepth 100000 in
set_option maxHeartbeats 1000000 in
theorem skip_any (RB : Nat) (s : ByteArray) (p : Nat) (W : World) (h : Rdr W RB s p) :
    Calls Tryz.prog 113 #[.pointer (some ⟨RB, 0, none⟩)] W fun e w' => e = .returned (.tuple #[]) ∧ Rdr w' RB s (skipP s p) ∧ KeepX (fun q => q = RB) W w' := by
  have H := hide h
  clear h
  go_enter Tryz.func113, Tryz.ntmps113
  go_wp2
  go_loopw [] (fun wr => ∃ q, Rdr wr RB s q ∧ skipP s q = skipP s p ∧ KeepX (fun q => q = RB) W wr) (fun wr => s.size - (match wr.cell? ⟨RB, 1, none⟩ with | some (.int _ z) => z.toNat | _ => 0))
  case atStart => exact ⟨p, unhide H, rfl, KeepX.refl _ _⟩
  case round =>
    obtain ⟨q, hR, hs, hK⟩ := hrel
    have hh := here_any RB s q wr hR
    by_cases hb : byteAt s q = 32
    · have hlt : q < s.size := byteAt_ne (by omega)
      have hgo : skipP s q = skipP s (q + 1) := runP_go hlt (by simp [isBl, hb])
      rw [hb] at hh
      have c1 := hR.c1
      have hsz := hR.sz
      have Hh := hide hh
      have HR := hide hR
      have HK := hide hK
      have Hs := hide (hgo.symm.trans hs)
      clear hh hR hK hs hgo
      go_wp2_with (first | (go_at_call 110; refine (unhide Hh).mono ?_; rintro e w1 ⟨rfl, hd⟩; have hR1 := (unhide HR).below hd.bel; have d1 := hR1.c1; have f1 := hR1.f1; have HR1 := hide hR1; have Hd := hide hd; clear hR1 hd))
      have hR2 := setPlace (q := q + 1) (unhide HR1) (by omega)
      have hR2' : Rdr (w1.setCell ⟨RB, 1, none⟩ (.int .i64 ((q : Int) + 1))) RB s (q + 1) := hR2
      refine ⟨⟨q + 1, hR2', unhide Hs, ((unhide HK).trans (KeepX.ofBelow (unhide Hd).bel)).trans (keepX_set1 _ _ _ _)⟩, ?_⟩
      rw [hR2'.c1, c1]
      simp
      omega
    · have hst : skipP s q = q := runP_stop (by simp [isBl, hb])
      have hbz : ¬ (byteAt s q : Int) = 32 := by omega
      have Hh := hide hh
      have HR := hide hR
      have HK := hide hK
      have Hs := hide (hst.symm.trans hs)
      clear hh hR hK hs hst
      generalize byteAt s q = bq at *
      go_wp2_with (first | (go_at_call 110; refine (unhide Hh).mono ?_; rintro e w1 ⟨rfl, hd⟩; have Hd := hide hd; clear hd))
      go_end0
      refine ⟨rfl, ?_, (unhide HK).trans (KeepX.ofBelow (unhide Hd).bel)⟩
      rw [← unhide Hs]
      exact (unhide HR).below (unhide Hd).bel

set_option maxRecDepth 100000 in
set_option maxHeartbeats 1000000 in
theorem upcoming_any (RB : Nat) (s : ByteArray) (p : Nat) (W : World) (h : Rdr W RB s p) :
    Calls Tryz.prog 108 #[.pointer (some ⟨RB, 0, none⟩)] W fun e w' => e = .returned (.tuple #[.int .i64 (skipP s p), .int .u8 (byteAt s (skipP s p))]) ∧ Rdr w' RB s (skipP s p) ∧ KeepX (fun q => q = RB) W w' := by
  have H := hide (skip_any RB s p W h)
  have hl := h.lt
  clear h
  obtain ⟨q, hq⟩ : ∃ q, q = skipP s p := ⟨_, rfl⟩
  rw [← hq] at H ⊢
  clear hq
  obtain ⟨bq, hbq⟩ : ∃ bq, bq = byteAt s q := ⟨_, rfl⟩
  rw [← hbq]
  go_enter Tryz.func108, Tryz.ntmps108
  go_wp2_with fail
  refine (unhide H).mono ?_
  rintro e w1 ⟨rfl, hR1, hK1⟩
  have c1 := hR1.c1
  have hh := fun n => here_any RB s q (w1.drewN n) (hR1.below (belowNG _ _ _))
  rw [← hbq] at hh
  have Hh := hide hh
  have HR := hide hR1
  have HK := hide hK1
  clear hR1 hK1 hh H hbq
  go_wp2_with fail
  go_quiet ((go_at_call 110; exact quiet_of_drawn ((unhide Hh) _)))
  go_wp2
  refine bodyPost_ret (v := .tuple #[.int .i64 q, .int .u8 bq]) (by simp [results, Tryz.results108, go_sem]) rfl ⟨rfl, (unhide HR).below (belowNG _ _ _), (unhide HK).trans (KeepX.ofBelow (belowNG _ _ _))⟩

set_option maxRecDepth 100000 in
set_option maxHeartbeats 1000000 in
theorem take_any (RB : Nat) (s : ByteArray) (p c : Nat) (hc0 : c ≠ 0) (W : World) (h : Rdr W RB s p) :
    Calls Tryz.prog 105 #[.pointer (some ⟨RB, 0, none⟩), .int .u8 c] W fun e w' => e = .returned (.bool (decide (byteAt s (skipP s p) = c))) ∧ Rdr w' RB s (if byteAt s (skipP s p) = c then skipP s p + 1 else skipP s p) ∧ KeepX (fun q => q = RB) W w' := by
  have H := hide (upcoming_any RB s p W h)
  have hsz := h.sz
  clear h
  obtain ⟨q, hq⟩ : ∃ q, q = skipP s p := ⟨_, rfl⟩
  rw [← hq] at H ⊢
  clear hq
  obtain ⟨bq, hbq⟩ : ∃ bq, bq = byteAt s q := ⟨_, rfl⟩
  rw [← hbq] at H ⊢
  by_cases hb : bq = c
  · subst hb
    have hlt : q < s.size := byteAt_ne (by omega)
    rw [if_pos rfl, decide_eq_true rfl]
    clear hbq
    go_enter Tryz.func105, Tryz.ntmps105
    go_wp2_with (first | (go_at_call 108; refine (unhide H).mono ?_; rintro e w1 ⟨rfl, hR1, hK1⟩; have d1 := hR1.c1; have f1 := hR1.f1; have HR1 := hide hR1; have HK1 := hide hK1; clear hR1 hK1))
    go_ret
    exact ⟨rfl, setPlace (q := q + 1) (unhide HR1) (by omega), (unhide HK1).trans (keepX_set1 _ _ _ _)⟩
  · have hbz : ¬ (bq : Int) = (c : Int) := by omega
    rw [if_neg hb, decide_eq_false hb]
    clear hbq
    go_enter Tryz.func105, Tryz.ntmps105
    go_wp2_with (first | (go_at_call 108; refine (unhide H).mono ?_; rintro e w1 ⟨rfl, hR1, hK1⟩; have HR1 := hide hR1; have HK1 := hide hK1; clear hR1 hK1))
    go_ret
    exact ⟨rfl, unhide HR1, unhide HK1⟩

/-- An error that leads to a fault: its blocks lie from B on. -/
def ErrN (B : Nat) (W : World) : Nat → Value → Nat → Nat → Prop
  | 0, v, c, q => ∃ b, B ≤ b ∧ W.heap[b]? = some (.cells #[.int .i64 c, .int .i64 q] 136 (0, 0)) ∧ v = .iface 132 (.pointer (some ⟨b, 0, none⟩))
  | n + 1, v, c, q => ∃ b t v', B ≤ b ∧ W.heap[b]? = some (.cells #[.string t, v'] 202 (0, 0)) ∧ v = .iface 200 (.pointer (some ⟨b, 0, none⟩)) ∧ ErrN B W n v' c q
def ErrAt (B : Nat) (W : World) (v : Value) (c q : Nat) : Prop := ∃ n, ErrN B W n v c q
theorem ErrAt.fault {B : Nat} {W : World} {b c q : Nat} (hb : B ≤ b) (h : W.heap[b]? = some (.cells #[.int .i64 c, .int .i64 q] 136 (0, 0))) : ErrAt B W (.iface 132 (.pointer (some ⟨b, 0, none⟩))) c q := ⟨0, b, hb, h, rfl⟩
theorem ErrAt.wrap {B : Nat} {W : World} {b c q : Nat} {t : ByteArray} {v : Value} (hb : B ≤ b) (h : W.heap[b]? = some (.cells #[.string t, v] 202 (0, 0))) (hv : ErrAt B W v c q) : ErrAt B W (.iface 200 (.pointer (some ⟨b, 0, none⟩))) c q := by
  obtain ⟨n, hn⟩ := hv
  exact ⟨n + 1, b, t, v, hb, h, rfl, hn⟩
theorem ErrN.turn {B B' : Nat} {W W' : World} {c q : Nat} (hB : B' ≤ B) (hk : ∀ b o, B ≤ b → W.heap[b]? = some o → W'.heap[b]? = some o) : ∀ (n : Nat) (v : Value), ErrN B W n v c q → ErrN B' W' n v c q
  | 0, v, ⟨b, h1, h2, h3⟩ => ⟨b, Nat.le_trans hB h1, hk b _ h1 h2, h3⟩
  | n + 1, v, ⟨b, t, v', h1, h2, h3, h4⟩ => ⟨b, t, v', Nat.le_trans hB h1, hk b _ h1 h2, h3, ErrN.turn hB hk n v' h4⟩

theorem ErrAt.keep {B : Nat} {W W' : World} {v : Value} {c q : Nat} (h : ErrAt B W v c q) {X : Nat → Prop} (hk : KeepX X W W') (hX : ∀ k, X k → k < B) : ErrAt B W' v c q := by
  obtain ⟨n, hn⟩ := h
  exact ⟨n, ErrN.turn (Nat.le_refl _) (fun b o hb ho => (hk.blk b (Array.getElem?_eq_some_iff.1 ho).1 (fun x => by have := hX _ x; omega)).trans ho) n v hn⟩
theorem ErrAt.bel {B : Nat} {W W' : World} {v : Value} {c q : Nat} (h : ErrAt B W v c q) (hk : Below W.heap.size W W') : ErrAt B W' v c q := h.keep (X := fun _ => False) (KeepX.ofBelow hk) (fun _ h => h.elim)
theorem ErrAt.mono {B B' : Nat} {W : World} {v : Value} {c q : Nat} (h : ErrAt B W v c q) (hB : B' ≤ B) : ErrAt B' W v c q := by
  obtain ⟨n, hn⟩ := h
  exact ⟨n, ErrN.turn hB (fun _ _ _ h => h) n v hn⟩
theorem ErrAt.form {B : Nat} {W : World} {v : Value} {c q : Nat} (h : ErrAt B W v c q) : ∃ t b, v = .iface t (.pointer (some ⟨b, 0, none⟩)) ∧ (t = 132 ∨ t = 200) := by
  obtain ⟨n, hn⟩ := h
  cases n with
  | zero =>
    obtain ⟨b, _, _, rfl⟩ := hn
    exact ⟨_, _, rfl, .inl rfl⟩
  | succ n =>
    obtain ⟨b, t, v', _, _, rfl, _⟩ := hn
    exact ⟨_, _, rfl, .inr rfl⟩

set_option maxRecDepth 100000 in
theorem fault_any (RB : Nat) (s : ByteArray) (p : Nat) (W : World) (h : Rdr W RB s p) :
    Calls Tryz.prog 109 #[.pointer (some ⟨RB, 0, none⟩)] W fun e w' => ∃ v, e = .returned v ∧ ErrAt W.heap.size w' v 5 p ∧ Below W.heap.size W w' := by
  have c1 := h.c1
  clear h
  go_enter Tryz.func109, Tryz.ntmps109
  go_wp2
  go_ret
  exact ⟨_, rfl, .fault (Nat.le_refl _) (heap_last _ _ _ rfl), (Below.refl _ _).alloc (Nat.le_refl _) _⟩

set_option maxRecDepth 100000 in
theorem must_any (RB : Nat) (s : ByteArray) (p c : Nat) (hc0 : c ≠ 0) (W : World) (h : Rdr W RB s p) :
    Calls Tryz.prog 104 #[.pointer (some ⟨RB, 0, none⟩), .int .u8 c] W fun e w' => (∃ q, mustP s c p = .ok q ∧ e = .returned .nilIface ∧ Rdr w' RB s q ∧ KeepX (fun q => q = RB) W w') ∨ (∃ q v, mustP s c p = .error q ∧ e = .returned v ∧ ErrAt W.heap.size w' v 5 q ∧ KeepX (fun q => q = RB) W w') := by
  have H := hide (take_any RB s p c hc0 W h)
  clear h
  unfold mustP
  by_cases hb : byteAt s (skipP s p) = c
  · rw [if_pos hb, decide_eq_true hb] at H
    rw [if_pos hb]
    clear hb
    go_enter Tryz.func104, Tryz.ntmps104
    go_wp2_with (first | (go_at_call 105; refine (unhide H).mono ?_; rintro e w1 ⟨rfl, hR1, hK1⟩; have HR1 := hide hR1; have HK1 := hide hK1; clear hR1 hK1))
    go_ret
    exact .inl ⟨_, rfl, rfl, unhide HR1, unhide HK1⟩
  · rw [if_neg hb, decide_eq_false hb] at H
    rw [if_neg hb]
    clear hb
    go_enter Tryz.func104, Tryz.ntmps104
    go_wp2_with fail
    refine (unhide H).mono ?_
    rintro e w1 ⟨rfl, hR1, hK1⟩
    have Hf := hide (fault_any RB s _ w1 hR1)
    have HK1 := hide hK1
    clear hR1 hK1 H
    go_wp2_with fail
    refine (unhide Hf).mono ?_
    rintro e w2 ⟨v, rfl, hE, hb2⟩
    have HE := hide hE
    have Hb2 := hide hb2
    clear hE hb2
    go_wp2
    go_ret
    exact .inr ⟨_, _, rfl, rfl, (unhide HE).mono (unhide HK1).size, (unhide HK1).trans (KeepX.ofBelow (unhide Hb2))⟩

set_option maxRecDepth 100000 in
theorem in_nil (t : ByteArray) (W : World) : Calls Tryz.prog 87 #[.string t, .nilIface] W fun e w' => e = .returned .nilIface ∧ w' = W := by
  go_enter Tryz.func87, Tryz.ntmps87
  go_wp2
  go_ret
  exact ⟨rfl, rfl⟩

set_option maxRecDepth 100000 in
theorem in_err (t : ByteArray) (v : Value) (B c q : Nat) (W : World) (h : ErrAt B W v c q) (hB : B ≤ W.heap.size) : Calls Tryz.prog 87 #[.string t, v] W fun e w' => ∃ v', e = .returned v' ∧ ErrAt B w' v' c q ∧ Below W.heap.size W w' := by
  obtain ⟨ty, b, rfl, ht⟩ := h.form
  have H := hide h
  clear h
  go_enter Tryz.func87, Tryz.ntmps87
  go_wp2
  go_ret
  exact ⟨_, rfl, .wrap hB (heap_last _ _ _ rfl) ((unhide H).bel ((Below.refl _ _).alloc (Nat.le_refl _) _)), (Below.refl _ _).alloc (Nat.le_refl _) _⟩

end Go.Proofs.YtgddkjhknlgbbaaGreatDoor

namespace Go.Proofs.YtgddkjhknlgbbaaGreatDoor
set_option linter.unusedVariables false
set_option linter.unusedSimpArgs false
open Go.RowKit Go.Maps

theorem isVr_any (c : Nat) (W : World) : Calls Tryz.prog 74 #[.int .u8 c] W fun e w' => e = .returned (.bool (isVr c)) ∧ w' = W := by
  by_cases h1 : 65 ≤ c
  · have h1z : (65 : Int) ≤ (c : Int) := by omega
    by_cases h2 : c ≤ 90
    · have h2z : (c : Int) ≤ 90 := by omega
      have hv : isVr c = true := by simp [isVr, h1, h2]
      rw [hv]
      go_enter Tryz.func74, Tryz.ntmps74
      go_wp2
      go_ret
      exact ⟨rfl, rfl⟩
    · have h2z : ¬ (c : Int) ≤ 90 := by omega
      have hv : isVr c = false := by simp [isVr, h1, h2]
      rw [hv]
      go_enter Tryz.func74, Tryz.ntmps74
      go_wp2
      go_ret
      exact ⟨rfl, rfl⟩
  · have h1z : ¬ (65 : Int) ≤ (c : Int) := by omega
    have hv : isVr c = false := by simp [isVr, h1]
    rw [hv]
    go_enter Tryz.func74, Tryz.ntmps74
    go_wp2
    go_ret
    exact ⟨rfl, rfl⟩

theorem isLt_any (c : Nat) (W : World) : Calls Tryz.prog 123 #[.int .u8 c] W fun e w' => e = .returned (.bool (isLt c)) ∧ w' = W := by
  by_cases h1 : 97 ≤ c
  · have h1z : (97 : Int) ≤ (c : Int) := by omega
    by_cases h2 : c ≤ 122
    · have h2z : (c : Int) ≤ 122 := by omega
      have hv : isLt c = true := by simp [isLt, h1, h2]
      rw [hv]
      go_enter Tryz.func123, Tryz.ntmps123
      go_wp2
      go_ret
      exact ⟨rfl, rfl⟩
    · have h2z : ¬ (c : Int) ≤ 122 := by omega
      have hv : isLt c = false := by simp [isLt, h1, h2]
      rw [hv]
      go_enter Tryz.func123, Tryz.ntmps123
      go_wp2
      go_ret
      exact ⟨rfl, rfl⟩
  · have h1z : ¬ (97 : Int) ≤ (c : Int) := by omega
    have hv : isLt c = false := by simp [isLt, h1]
    rw [hv]
    go_enter Tryz.func123, Tryz.ntmps123
    go_wp2
    go_ret
    exact ⟨rfl, rfl⟩

theorem isDg_any (c : Nat) (W : World) : Calls Tryz.prog 144 #[.int .u8 c] W fun e w' => e = .returned (.bool (isDg c)) ∧ w' = W := by
  by_cases h1 : 48 ≤ c
  · have h1z : (48 : Int) ≤ (c : Int) := by omega
    by_cases h2 : c ≤ 57
    · have h2z : (c : Int) ≤ 57 := by omega
      have hv : isDg c = true := by simp [isDg, h1, h2]
      rw [hv]
      go_enter Tryz.func144, Tryz.ntmps144
      go_wp2
      go_ret
      exact ⟨rfl, rfl⟩
    · have h2z : ¬ (c : Int) ≤ 57 := by omega
      have hv : isDg c = false := by simp [isDg, h1, h2]
      rw [hv]
      go_enter Tryz.func144, Tryz.ntmps144
      go_wp2
      go_ret
      exact ⟨rfl, rfl⟩
  · have h1z : ¬ (48 : Int) ≤ (c : Int) := by omega
    have hv : isDg c = false := by simp [isDg, h1]
    rw [hv]
    go_enter Tryz.func144, Tryz.ntmps144
    go_wp2
    go_ret
    exact ⟨rfl, rfl⟩

set_option maxRecDepth 100000 in
theorem smallI_any (n : Nat) (hn : n ≤ 9) (W : World) : Calls Tryz.prog 151 #[.int .i64 n] W fun e w' => (∃ t : ByteArray, e = .returned (.string t) ∧ t.size = 1) ∧ w' = W := by
  rcases (by omega : n = 0 ∨ n = 1 ∨ n = 2 ∨ n = 3 ∨ n = 4 ∨ n = 5 ∨ n = 6 ∨ n = 7 ∨ n = 8 ∨ n = 9) with rfl | rfl | rfl | rfl | rfl | rfl | rfl | rfl | rfl | rfl
  all_goals
    go_enter Tryz.func151, Tryz.ntmps151
    go_wp2
    go_ret
    exact ⟨⟨_, rfl, rfl⟩, rfl⟩

theorem itoa_any (n : Nat) (hn : n ≤ 9) (W : World) : Calls Tryz.prog 126 #[.int .i64 n] W fun e w' => (∃ t : ByteArray, e = .returned (.string t) ∧ t.size = 1) ∧ w' = W := by
  have h1 : Calls Tryz.prog 145 #[.int .i64 n, .int .i64 10] W fun e w' => (∃ t : ByteArray, e = .returned (.string t) ∧ t.size = 1) ∧ w' = W := by
    have H := hide (smallI_any n hn W)
    have hz : (n : Int) < 100 := by omega
    have hz0 : (0 : Int) ≤ (n : Int) := by omega
    go_enter Tryz.func145, Tryz.ntmps145
    go_wp2_with (first | (go_at_call 151; refine (unhide H).mono ?_; rintro e w1 ⟨⟨t, rfl, ht⟩, rfl⟩; have Ht := hide ht; clear ht))
    go_ret
    exact ⟨⟨_, rfl, unhide Ht⟩, rfl⟩
  have h2 : Calls Tryz.prog 132 #[.int .i64 n] W fun e w' => (∃ t : ByteArray, e = .returned (.string t) ∧ t.size = 1) ∧ w' = W := by
    have H := hide h1
    clear h1
    go_enter Tryz.func132, Tryz.ntmps132
    go_wp2_with (first | (go_at_call 145; refine (unhide H).mono ?_; rintro e w1 ⟨⟨t, rfl, ht⟩, rfl⟩; have Ht := hide ht; clear ht))
    go_ret
    exact ⟨⟨_, rfl, unhide Ht⟩, rfl⟩
  have H := hide h2
  clear h1 h2
  go_enter Tryz.func126, Tryz.ntmps126
  go_wp2_with (first | (go_at_call 132; refine (unhide H).mono ?_; rintro e w1 ⟨⟨t, rfl, ht⟩, rfl⟩; have Ht := hide ht; clear ht))
  go_ret
  exact ⟨⟨_, rfl, unhide Ht⟩, rfl⟩

set_option maxRecDepth 100000 in
theorem inItem_any (t : ByteArray) (n : Nat) (v : Value) (B c q : Nat) (W : World) (ht : t.size ≤ 1000) (hn : n ≤ 9) (h : ErrAt B W v c q) (hB : B ≤ W.heap.size) : Calls Tryz.prog 114 #[.string t, .int .i64 n, v] W fun e w' => ∃ v', e = .returned v' ∧ ErrAt B w' v' c q ∧ Below W.heap.size W w' := by
  have Hi := hide (itoa_any n hn W)
  obtain ⟨ty, b, rfl, _⟩ := h.form
  have H := hide h
  clear h
  go_enter Tryz.func114, Tryz.ntmps114
  go_wp2_with (first | (go_at_call 126; refine (unhide Hi).mono ?_; rintro e w1 ⟨⟨u, rfl, hu⟩, rfl⟩))
  go_ret
  exact ⟨_, rfl, .wrap hB (heap_last _ _ _ rfl) ((unhide H).bel ((Below.refl _ _).alloc (Nat.le_refl _) _)), (Below.refl _ _).alloc (Nat.le_refl _) _⟩

end Go.Proofs.YtgddkjhknlgbbaaGreatDoor
