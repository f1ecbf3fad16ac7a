set_option linter.unusedVariables false
set_option linter.unusedSimpArgs false

namespace Go.Proofs.YtgddkjhknlgbbaaGreatDoor
set_option linter.unusedVariables false
set_option linter.unusedSimpArgs false

/-- Where one stands in a query's text: in the head; behind it; ahead of a name, in it, behind it; ahead of a term, behind a minus, in a number, behind a term; behind an atom. -/
abbrev QSt := (Bool × Bool) ⊕ (Nat ⊕ Nat ⊕ Nat ⊕ Nat ⊕ Nat ⊕ Nat) ⊕ ((Nat × Nat) ⊕ (Nat × Nat) ⊕ (Nat × Nat)) ⊕ (Nat × Nat × Nat)
theorem QSt.el {P : QSt → Prop} (h0 : P (.inl (false, false))) (h1 : P (.inl (false, true))) (h2 : ∀ k, P (.inr (.inl (.inl k)))) (h3 : ∀ k, P (.inr (.inl (.inr (.inl k))))) (m0 : P (.inl (true, false))) (m1 : P (.inl (true, true))) (b0 : ∀ j, P (.inr (.inl (.inr (.inr (.inl j)))))) (b1 : ∀ j, P (.inr (.inl (.inr (.inr (.inr (.inl j))))))) (b2 : ∀ j, P (.inr (.inl (.inr (.inr (.inr (.inr (.inl j)))))))) (t0 : ∀ j k, P (.inr (.inr (.inl (.inl (j, k)))))) (n0 : ∀ j k, P (.inr (.inr (.inl (.inr (.inl (j, k))))))) (nn : ∀ j k d, P (.inr (.inr (.inr (j, k, d))))) (t1 : ∀ j k, P (.inr (.inr (.inl (.inr (.inr (j, k))))))) (e : ∀ j, P (.inr (.inl (.inr (.inr (.inr (.inr (.inr j)))))))) (x : QSt) : P x := by
  rcases x with ⟨_ | _, _ | _⟩ | (k | k | k | k | k | k) | (⟨j, k⟩ | ⟨j, k⟩ | ⟨j, k⟩) | ⟨j, k, d⟩
  · exact h0
  · exact h1
  · exact m0
  · exact m1
  · exact h2 k
  · exact h3 k
  · exact b0 k
  · exact b1 k
  · exact b2 k
  · exact e k
  · exact t0 j k
  · exact n0 j k
  · exact t1 j k
  · exact nn j k d

def qVar (c : UInt8) : Bool := decide (65 ≤ c) && decide (c ≤ 90)
def qSmall (c : UInt8) : Bool := decide (97 ≤ c) && decide (c ≤ 122)
def qDigit (c : UInt8) : Bool := decide (48 ≤ c) && decide (c ≤ 57)

/-- One byte more: where one stands then, or nowhere: no query goes on so. -/
def qStep : QSt → UInt8 → Option QSt
  | (Sum.inl (false, false)), c => if c = 32 then some (Sum.inl (false, false)) else if c = 40 then some (Sum.inl (false, true)) else none
  | (Sum.inl (false, true)), c => if c = 32 then some (Sum.inl (false, true)) else if c = 41 then some (Sum.inl (true, false)) else if qVar c then some ((Sum.inr (Sum.inl (Sum.inl 1)))) else none
  | (Sum.inr (Sum.inl (Sum.inl k))), c => if c = 32 then some ((Sum.inr (Sum.inl (Sum.inl k)))) else if c = 41 then some (Sum.inl (true, false)) else if c = 44 ∧ k < 4 then some ((Sum.inr (Sum.inl (Sum.inr (Sum.inl k))))) else none
  | (Sum.inr (Sum.inl (Sum.inr (Sum.inl k)))), c => if c = 32 then some ((Sum.inr (Sum.inl (Sum.inr (Sum.inl k))))) else if qVar c then some ((Sum.inr (Sum.inl (Sum.inl (k + 1))))) else none
  | (Sum.inl (true, false)), c => if c = 32 then some (Sum.inl (true, false)) else if c = 58 then some (Sum.inl (true, true)) else none
  | (Sum.inl (true, true)), c => if c = 45 then some ((Sum.inr (Sum.inl (Sum.inr (Sum.inr (Sum.inl 0)))))) else none
  | (Sum.inr (Sum.inl (Sum.inr (Sum.inr (Sum.inl j))))), c => if c = 32 then some ((Sum.inr (Sum.inl (Sum.inr (Sum.inr (Sum.inl j)))))) else if qSmall c then some ((Sum.inr (Sum.inl (Sum.inr (Sum.inr (Sum.inr (Sum.inl j))))))) else none
  | (Sum.inr (Sum.inl (Sum.inr (Sum.inr (Sum.inr (Sum.inl j)))))), c => if qSmall c then some ((Sum.inr (Sum.inl (Sum.inr (Sum.inr (Sum.inr (Sum.inl j))))))) else if c = 32 then some ((Sum.inr (Sum.inl (Sum.inr (Sum.inr (Sum.inr (Sum.inr (Sum.inl j)))))))) else if c = 40 then some ((Sum.inr (Sum.inr (Sum.inl (Sum.inl (j, 0)))))) else none
  | (Sum.inr (Sum.inl (Sum.inr (Sum.inr (Sum.inr (Sum.inr (Sum.inl j))))))), c => if c = 32 then some ((Sum.inr (Sum.inl (Sum.inr (Sum.inr (Sum.inr (Sum.inr (Sum.inl j)))))))) else if c = 40 then some ((Sum.inr (Sum.inr (Sum.inl (Sum.inl (j, 0)))))) else none
  | (Sum.inr (Sum.inr (Sum.inl (Sum.inl (j, k))))), c => if c = 32 then some ((Sum.inr (Sum.inr (Sum.inl (Sum.inl (j, k)))))) else if qVar c then some ((Sum.inr (Sum.inr (Sum.inl (Sum.inr (Sum.inr (j, (k + 1)))))))) else if c = 45 then some ((Sum.inr (Sum.inr (Sum.inl (Sum.inr (Sum.inl (j, k))))))) else if qDigit c then some ((Sum.inr (Sum.inr (Sum.inr (j, k, 1))))) else none
  | (Sum.inr (Sum.inr (Sum.inl (Sum.inr (Sum.inl (j, k)))))), c => if qDigit c then some ((Sum.inr (Sum.inr (Sum.inr (j, k, 1))))) else none
  | (Sum.inr (Sum.inr (Sum.inr (j, k, d)))), c => if qDigit c then (if d < 9 then some ((Sum.inr (Sum.inr (Sum.inr (j, k, (d + 1)))))) else none) else if c = 32 then some ((Sum.inr (Sum.inr (Sum.inl (Sum.inr (Sum.inr (j, (k + 1)))))))) else if c = 44 ∧ k + 1 < 3 then some ((Sum.inr (Sum.inr (Sum.inl (Sum.inl (j, (k + 1))))))) else if c = 41 then some ((Sum.inr (Sum.inl (Sum.inr (Sum.inr (Sum.inr (Sum.inr (Sum.inr (j + 1))))))))) else none
  | (Sum.inr (Sum.inr (Sum.inl (Sum.inr (Sum.inr (j, k)))))), c => if c = 32 then some ((Sum.inr (Sum.inr (Sum.inl (Sum.inr (Sum.inr (j, k))))))) else if c = 44 ∧ k < 3 then some ((Sum.inr (Sum.inr (Sum.inl (Sum.inl (j, k)))))) else if c = 41 then some ((Sum.inr (Sum.inl (Sum.inr (Sum.inr (Sum.inr (Sum.inr (Sum.inr (j + 1))))))))) else none
  | (Sum.inr (Sum.inl (Sum.inr (Sum.inr (Sum.inr (Sum.inr (Sum.inr j))))))), c => if c = 32 then some ((Sum.inr (Sum.inl (Sum.inr (Sum.inr (Sum.inr (Sum.inr (Sum.inr j)))))))) else if c = 44 ∧ j < 4 then some ((Sum.inr (Sum.inl (Sum.inr (Sum.inr (Sum.inl j)))))) else none

def qRun : QSt → List UInt8 → Option QSt
  | s, [] => some s
  | s, c :: r => match qStep s c with
    | none => none
    | some s' => qRun s' r

def qEnd : QSt → Bool
  | (Sum.inr (Sum.inl (Sum.inr (Sum.inr (Sum.inr (Sum.inr (Sum.inr _))))))) => true
  | _ => false

/-- Is the text a query? -/
def qAcc (s : List UInt8) : Bool := match qRun (Sum.inl (false, false)) s with
  | some x => qEnd x
  | none => false

theorem qRun_append (x : QSt) (a b : List UInt8) : qRun x (a ++ b) = (qRun x a).bind fun y => qRun y b := by
  induction a generalizing x with
  | nil => rfl
  | cons c r ih =>
    simp only [List.cons_append, qRun]
    cases qStep x c with
    | none => rfl
    | some y => exact ih y

/-- How a text may go on: the reference's list. -/
def qEnds : List (List UInt8) := [[], [41, 58, 45, 97, 40, 65, 41], [65, 41, 58, 45, 97, 40, 65, 41], [40, 65, 41, 58, 45, 97, 40, 65, 41], [58, 45, 97, 40, 65, 41], [45, 97, 40, 65, 41], [97, 40, 65, 41], [40, 65, 41], [65, 41], [41], [49, 41], [97]]

/-- From wherever one stands, one of the ends makes a whole query of it. -/
theorem qLive (x : QSt) : ∃ t ∈ qEnds, ((qRun x t).map qEnd) = some true := by
  cases x using QSt.el with
  | h0 => exact ⟨_, List.mem_of_getElem? (i := 3) rfl, rfl⟩
  | h1 => exact ⟨_, List.mem_of_getElem? (i := 1) rfl, rfl⟩
  | h2 k => exact ⟨_, List.mem_of_getElem? (i := 1) rfl, rfl⟩
  | h3 k => exact ⟨_, List.mem_of_getElem? (i := 2) rfl, rfl⟩
  | m0 => exact ⟨_, List.mem_of_getElem? (i := 4) rfl, rfl⟩
  | m1 => exact ⟨_, List.mem_of_getElem? (i := 5) rfl, rfl⟩
  | b0 j => exact ⟨_, List.mem_of_getElem? (i := 6) rfl, rfl⟩
  | b1 j => exact ⟨_, List.mem_of_getElem? (i := 7) rfl, rfl⟩
  | b2 j => exact ⟨_, List.mem_of_getElem? (i := 7) rfl, rfl⟩
  | t0 j k => exact ⟨_, List.mem_of_getElem? (i := 8) rfl, rfl⟩
  | n0 j k => exact ⟨_, List.mem_of_getElem? (i := 10) rfl, rfl⟩
  | nn j k d => exact ⟨_, List.mem_of_getElem? (i := 9) rfl, rfl⟩
  | t1 j k => exact ⟨_, List.mem_of_getElem? (i := 9) rfl, rfl⟩
  | e j => exact ⟨_, List.mem_of_getElem? (i := 0) rfl, rfl⟩

/-- A query begins so just where one still stands somewhere. -/
theorem begins_iff (s : List UInt8) : (∃ t ∈ qEnds, qAcc (s ++ t) = true) ↔ (qRun (Sum.inl (false, false)) s).isSome = true := by
  constructor
  · rintro ⟨t, _, h⟩
    unfold qAcc at h
    rw [qRun_append] at h
    cases e : qRun (Sum.inl (false, false)) s with
    | none => rw [e] at h; simp at h
    | some x => rfl
  · intro h
    cases e : qRun (Sum.inl (false, false)) s with
    | none => rw [e] at h; simp at h
    | some x =>
      obtain ⟨t, ht, h2⟩ := qLive x
      refine ⟨t, ht, ?_⟩
      unfold qAcc
      rw [qRun_append, e]
      simp only [Option.bind_some]
      cases e2 : qRun x t with
      | none => rw [e2] at h2; simp at h2
      | some y => rw [e2] at h2; simpa using h2

/-- How far one comes. -/
def qFar : QSt → List UInt8 → Nat
  | _, [] => 0
  | x, c :: r => match qStep x c with
    | none => 0
    | some y => qFar y r + 1

theorem qFar_le (x : QSt) (s : List UInt8) : qFar x s ≤ s.length := by
  induction s generalizing x with
  | nil => simp [qFar]
  | cons c r ih =>
    simp only [qFar, List.length_cons]
    cases qStep x c with
    | none => simp
    | some y => have := ih y; simp; omega

theorem qRun_take (x : QSt) (s : List UInt8) (n : Nat) (hn : n ≤ s.length) : (qRun x (s.take n)).isSome = true ↔ n ≤ qFar x s := by
  induction s generalizing x n with
  | nil => simp at hn; subst hn; simp [qRun, qFar]
  | cons c r ih =>
    cases n with
    | zero => simp [qRun]
    | succ n =>
      simp only [List.take_succ_cons, qRun, qFar]
      simp at hn
      cases qStep x c with
      | none => simp
      | some y => simp only []; rw [ih y n hn]; omega


/-- A piece of a query: a sign, a variable, a name, a number. -/
abbrev Tok := (Bool × Bool) ⊕ (UInt8 × Nat) ⊕ (List UInt8 × Nat) ⊕ List UInt8
theorem Tok.el {P : Tok → Prop} (lp : P (.inl (false, false))) (rp : P (.inl (false, true))) (cm : P (.inl (true, false))) (co : P (.inl (true, true))) (v : ∀ c i, P (.inr (.inl (c, i)))) (n : ∀ s i, P (.inr (.inr (.inl (s, i))))) (d : ∀ s, P (.inr (.inr (.inr s)))) (t : Tok) : P t := by
  rcases t with ⟨_ | _, _ | _⟩ | ⟨c, i⟩ | ⟨s, i⟩ | s
  · exact lp
  · exact rp
  · exact cm
  · exact co
  · exact v c i
  · exact n s i
  · exact d s

/-- The longest beginning of bytes that are p, and what is left. -/
def qSpan (p : UInt8 → Bool) : List UInt8 → List UInt8 × List UInt8
  | [] => ([], [])
  | c :: r => if p c then (c :: (qSpan p r).1, (qSpan p r).2) else ([], c :: r)

theorem qSpan_len (p : UInt8 → Bool) (s : List UInt8) : (qSpan p s).2.length ≤ s.length := by
  induction s with
  | nil => simp [qSpan]
  | cons c r ih =>
    simp only [qSpan]
    split
    · simp; omega
    · simp

theorem qSpan_append (p : UInt8 → Bool) (s : List UInt8) : (qSpan p s).1 ++ (qSpan p s).2 = s := by
  induction s with
  | nil => simp [qSpan]
  | cons c r ih =>
    simp only [qSpan]
    split
    · simp [ih]
    · simp

theorem qSpan_all (p : UInt8 → Bool) (s : List UInt8) : ∀ c ∈ (qSpan p s).1, p c = true := by
  induction s with
  | nil => simp [qSpan]
  | cons c r ih =>
    simp only [qSpan]
    split
    · rename_i h
      intro x hx
      rcases List.mem_cons.1 hx with rfl | hx
      · exact h
      · exact ih x hx
    · simp

theorem qSpan_next (p : UInt8 → Bool) (s : List UInt8) : ∀ c r, (qSpan p s).2 = c :: r → p c = false := by
  induction s with
  | nil => simp [qSpan]
  | cons c r ih =>
    simp only [qSpan]
    split
    · exact ih
    · rename_i h
      intro x y e
      cases e
      simpa using h

/-- The text cut into pieces, from place p on; none: it can't be cut up. With fuel. -/
def qToksF : Nat → Nat → List UInt8 → Option (List Tok)
  | 0, _, _ => none
  | _ + 1, _, [] => some []
  | f + 1, p, c :: r =>
    if c = 32 then qToksF f (p + 1) r
    else if c = 40 then (qToksF f (p + 1) r).map ((Sum.inl (false, false)) :: ·)
    else if c = 41 then (qToksF f (p + 1) r).map ((Sum.inl (false, true)) :: ·)
    else if c = 44 then (qToksF f (p + 1) r).map ((Sum.inl (true, false)) :: ·)
    else if c = 58 then (match r with
      | [] => none
      | c' :: r' => if c' = 45 then (qToksF f (p + 2) r').map ((Sum.inl (true, true)) :: ·) else none)
    else if qVar c then (qToksF f (p + 1) r).map ((Sum.inr (Sum.inl (c, p))) :: ·)
    else if qSmall c then (qToksF f (p + 1 + (qSpan qSmall r).1.length) (qSpan qSmall r).2).map ((Sum.inr (Sum.inr (Sum.inl ((c :: (qSpan qSmall r).1), p)))) :: ·)
    else if c = 45 then (if 1 ≤ (qSpan qDigit r).1.length ∧ (qSpan qDigit r).1.length ≤ 9 then (qToksF f (p + 1 + (qSpan qDigit r).1.length) (qSpan qDigit r).2).map ((Sum.inr (Sum.inr (Sum.inr (c :: (qSpan qDigit r).1)))) :: ·) else none)
    else if qDigit c then (if (qSpan qDigit r).1.length + 1 ≤ 9 then (qToksF f (p + 1 + (qSpan qDigit r).1.length) (qSpan qDigit r).2).map ((Sum.inr (Sum.inr (Sum.inr (c :: (qSpan qDigit r).1)))) :: ·) else none)
    else none
def qToks (p : Nat) (s : List UInt8) : Option (List Tok) := qToksF (s.length + 1) p s

theorem qToksF_fuel (f : Nat) : ∀ (f' p : Nat) (s : List UInt8), s.length < f → s.length < f' → qToksF f p s = qToksF f' p s := by
  induction f with
  | zero => intro f' p s h; omega
  | succ f ih =>
    intro f' p s h h'
    obtain ⟨g, rfl⟩ : ∃ g, f' = g + 1 := ⟨f' - 1, by omega⟩
    cases s with
    | nil => rfl
    | cons c r =>
      simp only [List.length_cons] at h h'
      have hS := qSpan_len qSmall r
      have hD := qSpan_len qDigit r
      simp only [qToksF]
      rw [ih g (p + 1) r (by omega) (by omega), ih g (p + 1 + (qSpan qSmall r).1.length) (qSpan qSmall r).2 (by omega) (by omega), ih g (p + 1 + (qSpan qDigit r).1.length) (qSpan qDigit r).2 (by omega) (by omega)]
      cases r with
      | nil => rfl
      | cons c' r' =>
        simp only [List.length_cons] at h h'
        dsimp only
        rw [ih g (p + 2) r' (by omega) (by omega)]

theorem qToks_eq (p : Nat) (s : List UInt8) : qToks p s = match s with
  | [] => some []
  | c :: r =>
    if c = 32 then qToks (p + 1) r
    else if c = 40 then (qToks (p + 1) r).map ((Sum.inl (false, false)) :: ·)
    else if c = 41 then (qToks (p + 1) r).map ((Sum.inl (false, true)) :: ·)
    else if c = 44 then (qToks (p + 1) r).map ((Sum.inl (true, false)) :: ·)
    else if c = 58 then (match r with
      | [] => none
      | c' :: r' => if c' = 45 then (qToks (p + 2) r').map ((Sum.inl (true, true)) :: ·) else none)
    else if qVar c then (qToks (p + 1) r).map ((Sum.inr (Sum.inl (c, p))) :: ·)
    else if qSmall c then (qToks (p + 1 + (qSpan qSmall r).1.length) (qSpan qSmall r).2).map ((Sum.inr (Sum.inr (Sum.inl ((c :: (qSpan qSmall r).1), p)))) :: ·)
    else if c = 45 then (if 1 ≤ (qSpan qDigit r).1.length ∧ (qSpan qDigit r).1.length ≤ 9 then (qToks (p + 1 + (qSpan qDigit r).1.length) (qSpan qDigit r).2).map ((Sum.inr (Sum.inr (Sum.inr (c :: (qSpan qDigit r).1)))) :: ·) else none)
    else if qDigit c then (if (qSpan qDigit r).1.length + 1 ≤ 9 then (qToks (p + 1 + (qSpan qDigit r).1.length) (qSpan qDigit r).2).map ((Sum.inr (Sum.inr (Sum.inr (c :: (qSpan qDigit r).1)))) :: ·) else none)
    else none := by
  cases s with
  | nil => rfl
  | cons c r =>
    have hS := qSpan_len qSmall r
    have hD := qSpan_len qDigit r
    unfold qToks
    simp only [qToksF, List.length_cons]
    rw [qToksF_fuel (r.length + 1) ((qSpan qSmall r).2.length + 1) _ (qSpan qSmall r).2 (by omega) (by omega), qToksF_fuel (r.length + 1) ((qSpan qDigit r).2.length + 1) _ (qSpan qDigit r).2 (by omega) (by omega)]
    cases r with
    | nil => rfl
    | cons c' r' =>
      simp only [List.length_cons]
      rw [qToksF_fuel (r'.length + 1 + 1) (r'.length + 1) _ r' (by omega) (by omega)]

/-- One piece more. -/
def tStep : QSt → Tok → Option QSt
  | (Sum.inl (false, false)), (Sum.inl (false, false)) => some (Sum.inl (false, true))
  | (Sum.inl (false, true)), (Sum.inl (false, true)) => some (Sum.inl (true, false))
  | (Sum.inl (false, true)), (Sum.inr (Sum.inl (_, _))) => some ((Sum.inr (Sum.inl (Sum.inl 1))))
  | (Sum.inr (Sum.inl (Sum.inl _))), (Sum.inl (false, true)) => some (Sum.inl (true, false))
  | (Sum.inr (Sum.inl (Sum.inl k))), (Sum.inl (true, false)) => if k < 4 then some ((Sum.inr (Sum.inl (Sum.inr (Sum.inl k))))) else none
  | (Sum.inr (Sum.inl (Sum.inr (Sum.inl k)))), (Sum.inr (Sum.inl (_, _))) => some ((Sum.inr (Sum.inl (Sum.inl (k + 1)))))
  | (Sum.inl (true, false)), (Sum.inl (true, true)) => some ((Sum.inr (Sum.inl (Sum.inr (Sum.inr (Sum.inl 0))))))
  | (Sum.inr (Sum.inl (Sum.inr (Sum.inr (Sum.inl j))))), (Sum.inr (Sum.inr (Sum.inl (_, _)))) => some ((Sum.inr (Sum.inl (Sum.inr (Sum.inr (Sum.inr (Sum.inr (Sum.inl j))))))))
  | (Sum.inr (Sum.inl (Sum.inr (Sum.inr (Sum.inr (Sum.inr (Sum.inl j))))))), (Sum.inl (false, false)) => some ((Sum.inr (Sum.inr (Sum.inl (Sum.inl (j, 0))))))
  | (Sum.inr (Sum.inr (Sum.inl (Sum.inl (j, k))))), (Sum.inr (Sum.inl (_, _))) => some ((Sum.inr (Sum.inr (Sum.inl (Sum.inr (Sum.inr (j, (k + 1))))))))
  | (Sum.inr (Sum.inr (Sum.inl (Sum.inl (j, k))))), (Sum.inr (Sum.inr (Sum.inr _))) => some ((Sum.inr (Sum.inr (Sum.inl (Sum.inr (Sum.inr (j, (k + 1))))))))
  | (Sum.inr (Sum.inr (Sum.inl (Sum.inr (Sum.inr (j, k)))))), (Sum.inl (true, false)) => if k < 3 then some ((Sum.inr (Sum.inr (Sum.inl (Sum.inl (j, k)))))) else none
  | (Sum.inr (Sum.inr (Sum.inl (Sum.inr (Sum.inr (j, _)))))), (Sum.inl (false, true)) => some ((Sum.inr (Sum.inl (Sum.inr (Sum.inr (Sum.inr (Sum.inr (Sum.inr (j + 1)))))))))
  | (Sum.inr (Sum.inl (Sum.inr (Sum.inr (Sum.inr (Sum.inr (Sum.inr j))))))), (Sum.inl (true, false)) => if j < 4 then some ((Sum.inr (Sum.inl (Sum.inr (Sum.inr (Sum.inl j)))))) else none
  | _, _ => none

def tAcc : QSt → List Tok → Bool
  | x, [] => qEnd x
  | x, t :: r => match tStep x t with
    | none => false
    | some y => tAcc y r

/-- Between pieces. -/
def QSt.between : QSt → Bool
  | (Sum.inl (true, true)) => false
  | (Sum.inr (Sum.inl (Sum.inr (Sum.inr (Sum.inr (Sum.inl _)))))) => false
  | (Sum.inr (Sum.inr (Sum.inl (Sum.inr (Sum.inl (_, _)))))) => false
  | (Sum.inr (Sum.inr (Sum.inr (_, _, _)))) => false
  | _ => true

def rAcc (x : QSt) (s : List UInt8) : Bool := ((qRun x s).map qEnd).getD false

theorem rAcc_cons (x : QSt) (c : UInt8) (r : List UInt8) : rAcc x (c :: r) = match qStep x c with
    | none => false
    | some y => rAcc y r := by
  unfold rAcc
  simp only [qRun]
  cases qStep x c <;> rfl

theorem b1_b2 (j : Nat) (s : List UInt8) (h : ∀ c r, s = c :: r → qSmall c = false) : rAcc ((Sum.inr (Sum.inl (Sum.inr (Sum.inr (Sum.inr (Sum.inl j))))))) s = rAcc ((Sum.inr (Sum.inl (Sum.inr (Sum.inr (Sum.inr (Sum.inr (Sum.inl j)))))))) s := by
  cases s with
  | nil => rfl
  | cons c r =>
    have := h c r rfl
    rw [rAcc_cons, rAcc_cons]
    simp [qStep, this]

theorem nn_t1 (j k d : Nat) (s : List UInt8) (h : ∀ c r, s = c :: r → qDigit c = false) : rAcc ((Sum.inr (Sum.inr (Sum.inr (j, k, d))))) s = rAcc ((Sum.inr (Sum.inr (Sum.inl (Sum.inr (Sum.inr (j, (k + 1)))))))) s := by
  cases s with
  | nil => rfl
  | cons c r =>
    have := h c r rfl
    rw [rAcc_cons, rAcc_cons]
    simp [qStep, this]

theorem run_smalls (j : Nat) (a b : List UInt8) (h : ∀ c ∈ a, qSmall c = true) : rAcc ((Sum.inr (Sum.inl (Sum.inr (Sum.inr (Sum.inr (Sum.inl j))))))) (a ++ b) = rAcc ((Sum.inr (Sum.inl (Sum.inr (Sum.inr (Sum.inr (Sum.inl j))))))) b := by
  induction a with
  | nil => rfl
  | cons c r ih =>
    rw [List.cons_append, rAcc_cons]
    have h1 := h c (by simp)
    simp only [qStep, h1, if_true]
    exact ih (fun x hx => h x (by simp [hx]))

theorem run_digits (j k d : Nat) (a b : List UInt8) (h : ∀ c ∈ a, qDigit c = true) (hd : d + a.length ≤ 9) : rAcc ((Sum.inr (Sum.inr (Sum.inr (j, k, d))))) (a ++ b) = rAcc ((Sum.inr (Sum.inr (Sum.inr (j, k, (d + a.length)))))) b := by
  induction a generalizing d with
  | nil => rfl
  | cons c r ih =>
    rw [List.cons_append, rAcc_cons]
    have h1 := h c (by simp)
    simp only [List.length_cons] at hd
    simp only [qStep, h1, if_true, if_pos (show d < 9 by omega)]
    rw [ih (d + 1) (fun x hx => h x (by simp [hx])) (by omega)]
    simp only [List.length_cons]
    rw [show d + 1 + r.length = d + (r.length + 1) by omega]

theorem run_many (j k d : Nat) (a b : List UInt8) (h : ∀ c ∈ a, qDigit c = true) (hd : 9 < d + a.length) (hd1 : d ≤ 9) : rAcc ((Sum.inr (Sum.inr (Sum.inr (j, k, d))))) (a ++ b) = false := by
  induction a generalizing d with
  | nil => simp at hd; omega
  | cons c r ih =>
    rw [List.cons_append, rAcc_cons]
    have h1 := h c (by simp)
    simp only [List.length_cons] at hd
    by_cases h9 : d < 9
    · simp only [qStep, h1, if_true, if_pos h9]
      exact ih (d + 1) (fun x hx => h x (by simp [hx])) (by omega) (by omega)
    · simp only [qStep, h1, if_true, if_neg h9]


def tRes (x : QSt) (o : Option (List Tok)) : Bool := match o with
  | none => false
  | some l => tAcc x l

def tGo (x : QSt) (t : Tok) (r : List UInt8) : Bool := match tStep x t with
  | none => false
  | some y => rAcc y r

theorem tStep_between {x y : QSt} {t : Tok} (h : tStep x t = some y) : y.between = true := by
  cases x using QSt.el <;> cases t using Tok.el <;> simp [tStep] at h <;> (try subst h) <;> (try rfl)
  all_goals (obtain ⟨_, rfl⟩ := h; rfl)

theorem glue {x : QSt} {t : Tok} {r s0 : List UInt8} {o : Option (List Tok)} (h : rAcc x s0 = tGo x t r) (ih : ∀ y : QSt, y.between = true → rAcc y r = tRes y o) : rAcc x s0 = tRes x (o.map (t :: ·)) := by
  rw [h]
  unfold tGo
  cases e : tStep x t with
  | none => cases o <;> simp [tRes, tAcc, e]
  | some y =>
    have := ih y (tStep_between e)
    cases o with
    | none => simpa [tRes] using this
    | some l => simpa [tRes, tAcc, e] using this

theorem var_small {c : UInt8} (h : qVar c = true) : qSmall c = false := by
  simp [qVar, qSmall, UInt8.le_iff_toNat_le, UInt8.lt_iff_toNat_lt] at *
  omega
theorem small_var {c : UInt8} (h : qSmall c = true) : qVar c = false := by
  cases e : qVar c with
  | false => rfl
  | true => rw [var_small e] at h; exact absurd h (by simp)
theorem digit_var {c : UInt8} (h : qDigit c = true) : qVar c = false := by
  simp [qVar, qDigit, UInt8.le_iff_toNat_le, UInt8.lt_iff_toNat_lt] at *
  omega
theorem digit_small {c : UInt8} (h : qDigit c = true) : qSmall c = false := by
  simp [qSmall, qDigit, UInt8.le_iff_toNat_le, UInt8.lt_iff_toNat_lt] at *
  omega
theorem small_digit {c : UInt8} (h : qSmall c = true) : qDigit c = false := by
  cases e : qDigit c with
  | false => rfl
  | true => rw [digit_small e] at h; exact absurd h (by simp)

theorem step_sign {x : QSt} (hx : x.between = true) {c : UInt8} {t : Tok} (h : (c = 40 ∧ t = (Sum.inl (false, false))) ∨ (c = 41 ∧ t = (Sum.inl (false, true))) ∨ (c = 44 ∧ t = (Sum.inl (true, false)))) : qStep x c = tStep x t := by
  rcases h with ⟨rfl, rfl⟩ | ⟨rfl, rfl⟩ | ⟨rfl, rfl⟩ <;> cases x using QSt.el <;> simp [QSt.between] at hx <;> simp [qStep, tStep, qVar, qSmall, qDigit]

theorem step_var {x : QSt} {p : Nat} (hx : x.between = true) {c : UInt8} (h1 : c ≠ 32) (h2 : c ≠ 40) (h3 : c ≠ 41) (h4 : c ≠ 44) (h5 : c ≠ 58) (h : qVar c = true) : qStep x c = tStep x ((Sum.inr (Sum.inl (c, p)))) := by
  have hs := var_small h
  cases x using QSt.el <;> simp [QSt.between] at hx <;> simp [qStep, tStep, h, hs, h1, h2, h3, h4, h5]

theorem acc_go {x : QSt} {c : UInt8} {r : List UInt8} {t : Tok} (h : qStep x c = tStep x t) : rAcc x (c :: r) = tGo x t r := by
  rw [rAcc_cons, h]
  rfl

theorem acc_name {x : QSt} {p : Nat} (hx : x.between = true) {c : UInt8} {r : List UInt8} (h1 : c ≠ 32) (h2 : c ≠ 40) (h3 : c ≠ 41) (h4 : c ≠ 44) (h5 : c ≠ 58) (h : qSmall c = true) (hm : c ≠ 45) :
    rAcc x (c :: r) = tGo x ((Sum.inr (Sum.inr (Sum.inl ((c :: (qSpan qSmall r).1), p))))) (qSpan qSmall r).2 := by
  have hv := small_var h
  have hd := small_digit h
  rw [rAcc_cons]
  cases x using QSt.el <;> simp [QSt.between] at hx <;> simp [qStep, tGo, tStep, h, hv, hd, h1, h2, h3, h4, h5, hm]
  rename_i j
  have e := qSpan_append qSmall r
  have e1 : rAcc ((Sum.inr (Sum.inl (Sum.inr (Sum.inr (Sum.inr (Sum.inl j))))))) r = rAcc ((Sum.inr (Sum.inl (Sum.inr (Sum.inr (Sum.inr (Sum.inl j))))))) ((qSpan qSmall r).1 ++ (qSpan qSmall r).2) := by rw [e]
  exact e1.trans ((run_smalls j _ _ (qSpan_all qSmall r)).trans (b1_b2 j _ (qSpan_next qSmall r)))

theorem acc_digits {j k d : Nat} {r : List UInt8} (hd : d + (qSpan qDigit r).1.length ≤ 9) : rAcc ((Sum.inr (Sum.inr (Sum.inr (j, k, d))))) r = rAcc ((Sum.inr (Sum.inr (Sum.inl (Sum.inr (Sum.inr (j, (k + 1)))))))) (qSpan qDigit r).2 := by
  have e := qSpan_append qDigit r
  have e1 : rAcc ((Sum.inr (Sum.inr (Sum.inr (j, k, d))))) r = rAcc ((Sum.inr (Sum.inr (Sum.inr (j, k, d))))) ((qSpan qDigit r).1 ++ (qSpan qDigit r).2) := by rw [e]
  exact e1.trans ((run_digits j k d _ _ (qSpan_all qDigit r) hd).trans (nn_t1 j k _ _ (qSpan_next qDigit r)))

theorem acc_many {j k d : Nat} {r : List UInt8} (hd : 9 < d + (qSpan qDigit r).1.length) (hd1 : d ≤ 9) : rAcc ((Sum.inr (Sum.inr (Sum.inr (j, k, d))))) r = false := by
  have e := qSpan_append qDigit r
  have e1 : rAcc ((Sum.inr (Sum.inr (Sum.inr (j, k, d))))) r = rAcc ((Sum.inr (Sum.inr (Sum.inr (j, k, d))))) ((qSpan qDigit r).1 ++ (qSpan qDigit r).2) := by rw [e]
  exact e1.trans (run_many j k d _ _ (qSpan_all qDigit r) hd hd1)

theorem acc_n0 {j k : Nat} {r : List UInt8} : rAcc ((Sum.inr (Sum.inr (Sum.inl (Sum.inr (Sum.inl (j, k))))))) r = if 1 ≤ (qSpan qDigit r).1.length ∧ (qSpan qDigit r).1.length ≤ 9 then rAcc ((Sum.inr (Sum.inr (Sum.inl (Sum.inr (Sum.inr (j, (k + 1)))))))) (qSpan qDigit r).2 else false := by
  cases r with
  | nil => simp [qSpan, rAcc, qRun, qEnd]
  | cons c r =>
    rw [rAcc_cons]
    cases h : qDigit c with
    | false => simp [qStep, h, qSpan]
    | true =>
      simp only [qStep, h, if_true, qSpan, List.length_cons]
      by_cases hl : (qSpan qDigit r).1.length + 1 ≤ 9
      · rw [if_pos ⟨by omega, hl⟩, acc_digits (by omega)]
      · rw [if_neg (by omega), acc_many (by omega) (by omega)]

theorem acc_digit {x : QSt} (hx : x.between = true) {c : UInt8} {r : List UInt8} (h1 : c ≠ 32) (h2 : c ≠ 40) (h3 : c ≠ 41) (h4 : c ≠ 44) (h5 : c ≠ 58) (hm : c ≠ 45) (h : qDigit c = true) :
    rAcc x (c :: r) = if (qSpan qDigit r).1.length + 1 ≤ 9 then tGo x ((Sum.inr (Sum.inr (Sum.inr (c :: (qSpan qDigit r).1))))) (qSpan qDigit r).2 else false := by
  have hv := digit_var h
  have hs := digit_small h
  rw [rAcc_cons]
  cases x using QSt.el <;> simp [QSt.between] at hx <;> simp [qStep, tGo, tStep, h, hv, hs, h1, h2, h3, h4, h5, hm]
  rename_i j k
  by_cases hl : (qSpan qDigit r).1.length + 1 ≤ 9
  · rw [acc_digits (by omega)]
    simp [show (qSpan qDigit r).1.length ≤ 8 by omega]
  · rw [acc_many (by omega) (by omega)]
    simp [show ¬ (qSpan qDigit r).1.length ≤ 8 by omega]

theorem acc_minus {x : QSt} (hx : x.between = true) {r : List UInt8} :
    rAcc x (45 :: r) = if 1 ≤ (qSpan qDigit r).1.length ∧ (qSpan qDigit r).1.length ≤ 9 then tGo x ((Sum.inr (Sum.inr (Sum.inr (45 :: (qSpan qDigit r).1))))) (qSpan qDigit r).2 else false := by
  rw [rAcc_cons]
  cases x using QSt.el <;> simp [QSt.between] at hx <;> simp [qStep, tGo, tStep, qVar, qSmall, qDigit]
  rename_i j k
  have := acc_n0 (j := j) (k := k) (r := r)
  rw [this]
  simp [qDigit]

theorem acc_colon {x : QSt} (hx : x.between = true) {r : List UInt8} : rAcc x (58 :: r) = match r with
    | [] => false
    | c' :: r' => if c' = 45 then tGo x (Sum.inl (true, true)) r' else false := by
  rw [rAcc_cons]
  cases x using QSt.el <;> simp [QSt.between] at hx <;> cases r <;> simp [qStep, tGo, tStep, qVar, qSmall, qDigit, rAcc_cons]
  · rfl
  · rename_i c' r'
    by_cases h : c' = 45 <;> simp [h]

theorem step_other {x : QSt} (hx : x.between = true) {c : UInt8} (h1 : c ≠ 32) (h2 : c ≠ 40) (h3 : c ≠ 41) (h4 : c ≠ 44) (h5 : c ≠ 58) (hm : c ≠ 45) (hv : qVar c = false) (hs : qSmall c = false) (hd : qDigit c = false) : qStep x c = none := by
  cases x using QSt.el <;> simp [QSt.between] at hx <;> simp [qStep, h1, h2, h3, h4, h5, hm, hv, hs, hd]

/-- The text is a query just where it can be cut up and its pieces stand as they should. -/
theorem acc_toks (n : Nat) : ∀ (s : List UInt8) (p : Nat), s.length ≤ n → ∀ x : QSt, x.between = true → rAcc x s = tRes x (qToks p s) := by
  induction n with
  | zero =>
    intro s p hs x hx
    obtain rfl : s = [] := List.length_eq_zero_iff.1 (by omega)
    rw [qToks_eq]
    rfl
  | succ n ih =>
    intro s p hs x hx
    cases s with
    | nil => rw [qToks_eq]; rfl
    | cons c r =>
      simp only [List.length_cons] at hs
      have ihr : ∀ y : QSt, y.between = true → rAcc y r = tRes y (qToks (p + 1) r) := ih r _ (by omega)
      have ihS : ∀ y : QSt, y.between = true → rAcc y (qSpan qSmall r).2 = tRes y (qToks (p + 1 + (qSpan qSmall r).1.length) (qSpan qSmall r).2) := ih _ _ (by have := qSpan_len qSmall r; omega)
      have ihD : ∀ y : QSt, y.between = true → rAcc y (qSpan qDigit r).2 = tRes y (qToks (p + 1 + (qSpan qDigit r).1.length) (qSpan qDigit r).2) := ih _ _ (by have := qSpan_len qDigit r; omega)
      rw [qToks_eq]
      dsimp only
      by_cases h1 : c = 32
      · rw [if_pos h1, rAcc_cons, h1]
        have e : qStep x 32 = some x := by cases x using QSt.el <;> simp [QSt.between] at hx <;> simp [qStep]
        rw [e]
        exact ihr x hx
      rw [if_neg h1]
      by_cases h2 : c = 40
      · rw [if_pos h2]; exact glue (acc_go (step_sign hx (.inl ⟨h2, rfl⟩))) ihr
      rw [if_neg h2]
      by_cases h3 : c = 41
      · rw [if_pos h3]; exact glue (acc_go (step_sign hx (.inr (.inl ⟨h3, rfl⟩)))) ihr
      rw [if_neg h3]
      by_cases h4 : c = 44
      · rw [if_pos h4]; exact glue (acc_go (step_sign hx (.inr (.inr ⟨h4, rfl⟩)))) ihr
      rw [if_neg h4]
      by_cases h5 : c = 58
      · rw [if_pos h5]
        subst h5
        have e := acc_colon hx (r := r)
        cases r with
        | nil => simpa [tRes] using e
        | cons c' r' =>
          simp only at e
          by_cases h6 : c' = 45
          · rw [if_pos h6] at e
            simp only [if_pos h6]
            exact glue e (ih r' _ (by simp at hs; omega))
          · rw [if_neg h6] at e
            simp only [if_neg h6]
            rw [e]; rfl
      rw [if_neg h5]
      by_cases h6 : qVar c = true
      · rw [if_pos h6]; exact glue (acc_go (step_var hx h1 h2 h3 h4 h5 h6)) ihr
      rw [if_neg h6]
      by_cases h7 : qSmall c = true
      · rw [if_pos h7]
        exact glue (acc_name hx h1 h2 h3 h4 h5 h7 (by rintro rfl; simp [qSmall] at h7)) ihS
      rw [if_neg h7]
      by_cases h8 : c = 45
      · rw [if_pos h8]
        subst h8
        have e := acc_minus hx (r := r)
        by_cases h9 : 1 ≤ (qSpan qDigit r).1.length ∧ (qSpan qDigit r).1.length ≤ 9
        · rw [if_pos h9] at e; rw [if_pos h9]; exact glue e ihD
        · rw [if_neg h9] at e; rw [if_neg h9, e]; rfl
      rw [if_neg h8]
      by_cases h9 : qDigit c = true
      · rw [if_pos h9]
        have e := acc_digit hx (r := r) h1 h2 h3 h4 h5 h8 h9
        by_cases h10 : (qSpan qDigit r).1.length + 1 ≤ 9
        · rw [if_pos h10] at e; rw [if_pos h10]; exact glue e ihD
        · rw [if_neg h10] at e; rw [if_neg h10, e]; rfl
      rw [if_neg h9]
      rw [rAcc_cons, step_other hx h1 h2 h3 h4 h5 h8 (by simpa using h6) (by simpa using h7) (by simpa using h9)]
      rfl


def isVT : Tok → Bool
  | (Sum.inr (Sum.inl (_, _))) => true
  | _ => false

def isItem : Tok → Bool
  | (Sum.inr (Sum.inl (_, _))) => true
  | (Sum.inr (Sum.inr (Sum.inr _))) => true
  | _ => false

/-- The items up to the next closing bracket, without the commas, and what stands behind it: the first (or the one behind a comma) stands ahead. -/
def itemsT : Bool → List Tok → Option (List Tok × List Tok)
  | _, [] => none
  | _, (Sum.inl (false, true)) :: r => some ([], r)
  | true, (Sum.inr (Sum.inl (c, i))) :: r => (itemsT false r).map fun x => ((Sum.inr (Sum.inl (c, i))) :: x.1, x.2)
  | true, (Sum.inr (Sum.inr (Sum.inr s))) :: r => (itemsT false r).map fun x => ((Sum.inr (Sum.inr (Sum.inr s))) :: x.1, x.2)
  | false, (Sum.inl (true, false)) :: (Sum.inr (Sum.inl (c, i))) :: r => (itemsT false r).map fun x => ((Sum.inr (Sum.inl (c, i))) :: x.1, x.2)
  | false, (Sum.inl (true, false)) :: (Sum.inr (Sum.inr (Sum.inr s))) :: r => (itemsT false r).map fun x => ((Sum.inr (Sum.inr (Sum.inr s))) :: x.1, x.2)
  | _, _ => none

/-- The atoms of a body: j of them stand ahead. -/
def atomsT : Nat → Nat → List Tok → Bool
  | 0, _, _ => false
  | f + 1, j, (Sum.inr (Sum.inr (Sum.inl (_, _)))) :: (Sum.inl (false, false)) :: r => match itemsT true r with
    | some (its, rest) => decide (j < 4) && decide (1 ≤ its.length) && decide (its.length ≤ 3) && (match rest with
      | [] => true
      | (Sum.inl (true, false)) :: r' => atomsT f (j + 1) r'
      | _ => false)
    | none => false
  | _, _, _ => false

/-- A query's pieces. -/
def wholeT (l : List Tok) : Bool := match l with
  | (Sum.inl (false, false)) :: r => match itemsT true r with
    | some (its, (Sum.inl (true, true)) :: r') => its.all isVT && decide (its.length ≤ 4) && atomsT (r'.length + 1) 0 r'
    | _ => false
  | _ => false

theorem head_items (n : Nat) : ∀ (r : List Tok) (k : Nat), r.length ≤ n → k ≤ 4 → tAcc ((Sum.inr (Sum.inl (Sum.inl k)))) r = match itemsT false r with
    | some (its, rest) => its.all isVT && decide (k + its.length ≤ 4) && tAcc (Sum.inl (true, false)) rest
    | none => false := by
  induction n with
  | zero =>
    intro r k hr hk
    obtain rfl : r = [] := List.length_eq_zero_iff.1 (by omega)
    rfl
  | succ n ih =>
    intro r k hr hk
    cases r with
    | nil => rfl
    | cons t r =>
      simp only [List.length_cons] at hr
      cases t using Tok.el with
      | rp => simp [tAcc, tStep, itemsT, hk]
      | cm =>
        cases r with
        | nil => by_cases h : k < 4 <;> simp [tAcc, tStep, itemsT, h, qEnd]
        | cons t' r' =>
          simp only [List.length_cons] at hr
          cases t' using Tok.el with
          | v c i =>
            by_cases h : k < 4
            · simp only [tAcc, tStep, if_pos h, itemsT]
              rw [ih r' (k + 1) (by omega) (by omega)]
              cases itemsT false r' with
              | none => rfl
              | some x =>
                simp only [Option.map_some, List.all_cons, isVT, Bool.true_and, List.length_cons]
                rw [show k + 1 + x.1.length = k + (x.1.length + 1) by omega]
            · simp only [tAcc, tStep, if_neg h, itemsT]
              cases itemsT false r' with
              | none => rfl
              | some x =>
                simp only [Option.map_some, List.length_cons]
                rw [decide_eq_false (show ¬ (k + (x.1.length + 1) ≤ 4) by omega)]
                simp
          | d s =>
            by_cases h : k < 4 <;> simp only [tAcc, tStep, if_pos, if_neg, h, itemsT, not_false_eq_true] <;> cases itemsT false r' <;> simp [isVT]
          | lp => by_cases h : k < 4 <;> simp [tAcc, tStep, itemsT, h]
          | rp => by_cases h : k < 4 <;> simp [tAcc, tStep, itemsT, h]
          | cm => by_cases h : k < 4 <;> simp [tAcc, tStep, itemsT, h]
          | co => by_cases h : k < 4 <;> simp [tAcc, tStep, itemsT, h]
          | n s i => by_cases h : k < 4 <;> simp [tAcc, tStep, itemsT, h]
      | lp => simp [tAcc, tStep, itemsT]
      | co => simp [tAcc, tStep, itemsT]
      | v c i => simp [tAcc, tStep, itemsT]
      | n s i => simp [tAcc, tStep, itemsT]
      | d s => simp [tAcc, tStep, itemsT]

theorem head_all (r : List Tok) : tAcc (Sum.inl (false, true)) r = match itemsT true r with
    | some (its, rest) => its.all isVT && decide (its.length ≤ 4) && tAcc (Sum.inl (true, false)) rest
    | none => false := by
  cases r with
  | nil => rfl
  | cons t r =>
    cases t using Tok.el with
    | rp => simp [tAcc, tStep, itemsT]
    | v c i =>
      simp only [tAcc, tStep, itemsT]
      rw [head_items r.length r 1 (Nat.le_refl _) (by omega)]
      cases itemsT false r with
      | none => rfl
      | some x =>
        simp only [Option.map_some, List.all_cons, isVT, Bool.true_and, List.length_cons]
        rw [show 1 + x.1.length = x.1.length + 1 by omega]
    | d s =>
      simp only [tAcc, tStep, itemsT]
      cases itemsT false r <;> simp [isVT]
    | lp => simp [tAcc, tStep, itemsT]
    | cm => simp [tAcc, tStep, itemsT]
    | co => simp [tAcc, tStep, itemsT]
    | n s i => simp [tAcc, tStep, itemsT]

theorem term_items (n : Nat) : ∀ (r : List Tok) (j k : Nat), r.length ≤ n → k ≤ 3 → tAcc ((Sum.inr (Sum.inr (Sum.inl (Sum.inr (Sum.inr (j, k))))))) r = match itemsT false r with
    | some (its, rest) => decide (k + its.length ≤ 3) && tAcc ((Sum.inr (Sum.inl (Sum.inr (Sum.inr (Sum.inr (Sum.inr (Sum.inr (j + 1))))))))) rest
    | none => false := by
  induction n with
  | zero =>
    intro r j k hr hk
    obtain rfl : r = [] := List.length_eq_zero_iff.1 (by omega)
    rfl
  | succ n ih =>
    intro r j k hr hk
    cases r with
    | nil => rfl
    | cons t r =>
      simp only [List.length_cons] at hr
      cases t using Tok.el with
      | rp => simp [tAcc, tStep, itemsT, hk]
      | cm =>
        cases r with
        | nil => by_cases h : k < 3 <;> simp [tAcc, tStep, itemsT, h, qEnd]
        | cons t' r' =>
          simp only [List.length_cons] at hr
          cases t' using Tok.el with
          | v c i =>
            by_cases h : k < 3
            · simp only [tAcc, tStep, if_pos h, itemsT]
              rw [ih r' j (k + 1) (by omega) (by omega)]
              cases itemsT false r' with
              | none => rfl
              | some x =>
                simp only [Option.map_some, List.length_cons]
                rw [show k + 1 + x.1.length = k + (x.1.length + 1) by omega]
            · simp only [tAcc, tStep, if_neg h, itemsT]
              cases itemsT false r' with
              | none => rfl
              | some x =>
                simp only [Option.map_some, List.length_cons]
                rw [decide_eq_false (show ¬ (k + (x.1.length + 1) ≤ 3) by omega)]
                simp
          | d s =>
            by_cases h : k < 3
            · simp only [tAcc, tStep, if_pos h, itemsT]
              rw [ih r' j (k + 1) (by omega) (by omega)]
              cases itemsT false r' with
              | none => rfl
              | some x =>
                simp only [Option.map_some, List.length_cons]
                rw [show k + 1 + x.1.length = k + (x.1.length + 1) by omega]
            · simp only [tAcc, tStep, if_neg h, itemsT]
              cases itemsT false r' with
              | none => rfl
              | some x =>
                simp only [Option.map_some, List.length_cons]
                rw [decide_eq_false (show ¬ (k + (x.1.length + 1) ≤ 3) by omega)]
                simp
          | lp => by_cases h : k < 3 <;> simp [tAcc, tStep, itemsT, h]
          | rp => by_cases h : k < 3 <;> simp [tAcc, tStep, itemsT, h]
          | cm => by_cases h : k < 3 <;> simp [tAcc, tStep, itemsT, h]
          | co => by_cases h : k < 3 <;> simp [tAcc, tStep, itemsT, h]
          | n s i => by_cases h : k < 3 <;> simp [tAcc, tStep, itemsT, h]
      | lp => simp [tAcc, tStep, itemsT]
      | co => simp [tAcc, tStep, itemsT]
      | v c i => simp [tAcc, tStep, itemsT]
      | n s i => simp [tAcc, tStep, itemsT]
      | d s => simp [tAcc, tStep, itemsT]

theorem term_all (j : Nat) (r : List Tok) : tAcc ((Sum.inr (Sum.inr (Sum.inl (Sum.inl (j, 0)))))) r = match itemsT true r with
    | some (its, rest) => decide (1 ≤ its.length) && decide (its.length ≤ 3) && tAcc ((Sum.inr (Sum.inl (Sum.inr (Sum.inr (Sum.inr (Sum.inr (Sum.inr (j + 1))))))))) rest
    | none => false := by
  have key : ∀ (t : Tok) (r : List Tok), tAcc ((Sum.inr (Sum.inr (Sum.inl (Sum.inr (Sum.inr (j, 1))))))) r = match (itemsT false r).map fun x => (t :: x.1, x.2) with
      | some (its, rest) => decide (1 ≤ its.length) && decide (its.length ≤ 3) && tAcc ((Sum.inr (Sum.inl (Sum.inr (Sum.inr (Sum.inr (Sum.inr (Sum.inr (j + 1))))))))) rest
      | none => false := fun t r => by
    rw [term_items r.length r j 1 (Nat.le_refl _) (by omega)]
    cases itemsT false r with
    | none => rfl
    | some x =>
      simp only [Option.map_some, List.length_cons]
      rw [show 1 + x.1.length = x.1.length + 1 by omega]
      simp
  cases r with
  | nil => rfl
  | cons t r =>
    cases t using Tok.el with
    | rp => simp [tAcc, tStep, itemsT]
    | v c i => simp only [tAcc, tStep, itemsT]; exact key _ r
    | d s => simp only [tAcc, tStep, itemsT]; exact key _ r
    | lp => simp [tAcc, tStep, itemsT]
    | cm => simp [tAcc, tStep, itemsT]
    | co => simp [tAcc, tStep, itemsT]
    | n s i => simp [tAcc, tStep, itemsT]

theorem itemsT_len (n : Nat) : ∀ (r : List Tok) (b : Bool), r.length ≤ n → ∀ its rest, itemsT b r = some (its, rest) → rest.length < r.length := by
  induction n with
  | zero =>
    intro r b hr its rest h
    obtain rfl : r = [] := List.length_eq_zero_iff.1 (by omega)
    simp [itemsT] at h
  | succ n ih =>
    intro r b hr its rest h
    unfold itemsT at h
    split at h
    · cases h
    · cases h; simp
    all_goals first
      | (simp only [Option.map_eq_some_iff] at h
         obtain ⟨x, hx, e⟩ := h
         cases e
         have := ih _ _ (by simp at hr; omega) x.1 x.2 hx
         simp
         omega)
      | cases h

theorem atoms_all (f : Nat) : ∀ (j : Nat) (r : List Tok), j ≤ 4 → r.length < f → (decide (j < 4) && tAcc ((Sum.inr (Sum.inl (Sum.inr (Sum.inr (Sum.inl j)))))) r) = atomsT f j r := by
  induction f with
  | zero => intro j r hj hf; omega
  | succ f ih =>
    intro j r hj hf
    cases r with
    | nil => simp [tAcc, qEnd, atomsT]
    | cons t r =>
      cases t using Tok.el with
      | n s i =>
        cases r with
        | nil => simp [tAcc, tStep, qEnd, atomsT]
        | cons t' r' =>
          cases t' using Tok.el with
          | lp =>
            simp only [tAcc, tStep, atomsT]
            rw [term_all j r']
            cases e : itemsT true r' with
            | none => simp
            | some x =>
              obtain ⟨its, rest⟩ := x
              have hl := itemsT_len r'.length r' true (Nat.le_refl _) its rest e
              simp only [List.length_cons] at hf
              dsimp only
              by_cases hj4 : j < 4
              · rw [decide_eq_true hj4]
                simp only [Bool.true_and]
                congr 1
                cases rest with
                | nil => rfl
                | cons t2 r2 =>
                  simp only [List.length_cons] at hl
                  cases t2 using Tok.el with
                  | cm =>
                    have := ih (j + 1) r2 (by omega) (by omega)
                    show tAcc ((Sum.inr (Sum.inl (Sum.inr (Sum.inr (Sum.inr (Sum.inr (Sum.inr (j + 1))))))))) ((Sum.inl (true, false)) :: r2) = atomsT f (j + 1) r2
                    rw [← this]
                    by_cases h5 : j + 1 < 4 <;> simp [tAcc, tStep, h5]
                  | lp => simp [tAcc, tStep]
                  | rp => simp [tAcc, tStep]
                  | co => simp [tAcc, tStep]
                  | v c i => simp [tAcc, tStep]
                  | n s i => simp [tAcc, tStep]
                  | d s => simp [tAcc, tStep]
              · rw [decide_eq_false hj4]
                simp
          | rp => simp [tAcc, tStep, atomsT]
          | cm => simp [tAcc, tStep, atomsT]
          | co => simp [tAcc, tStep, atomsT]
          | v c i => simp [tAcc, tStep, atomsT]
          | n s i => simp [tAcc, tStep, atomsT]
          | d s => simp [tAcc, tStep, atomsT]
      | lp => simp [tAcc, tStep, atomsT]
      | rp => simp [tAcc, tStep, atomsT]
      | cm => simp [tAcc, tStep, atomsT]
      | co => simp [tAcc, tStep, atomsT]
      | v c i => simp [tAcc, tStep, atomsT]
      | d s => simp [tAcc, tStep, atomsT]

/-- The pieces stand as they should just where the reference's loops say so. -/
theorem whole_all (l : List Tok) : tAcc (Sum.inl (false, false)) l = wholeT l := by
  cases l with
  | nil => rfl
  | cons t r =>
    cases t using Tok.el with
    | lp =>
      simp only [tAcc, tStep, wholeT]
      rw [head_all r]
      cases itemsT true r with
      | none => rfl
      | some x =>
        obtain ⟨its, rest⟩ := x
        dsimp only
        cases rest with
        | nil => simp [tAcc, qEnd]
        | cons t2 r2 =>
          cases t2 using Tok.el with
          | co =>
            have := atoms_all (r2.length + 1) 0 r2 (by omega) (by omega)
            simp only [tAcc, tStep]
            rw [← this]
            simp
          | lp => simp [tAcc, tStep]
          | rp => simp [tAcc, tStep]
          | cm => simp [tAcc, tStep]
          | v c i => simp [tAcc, tStep]
          | n s i => simp [tAcc, tStep]
          | d s => simp [tAcc, tStep]
    | rp => simp [tAcc, tStep, wholeT]
    | cm => simp [tAcc, tStep, wholeT]
    | co => simp [tAcc, tStep, wholeT]
    | v c i => simp [tAcc, tStep, wholeT]
    | n s i => simp [tAcc, tStep, wholeT]
    | d s => simp [tAcc, tStep, wholeT]

/-- A text is a query just where it can be cut up and the reference's loops take its pieces. -/
theorem qAcc_whole (s : List UInt8) (p : Nat) : qAcc s = match qToks p s with
    | some l => wholeT l
    | none => false := by
  have h := acc_toks s.length s p (Nat.le_refl _) (Sum.inl (false, false)) rfl
  have e : qAcc s = rAcc (Sum.inl (false, false)) s := by
    unfold qAcc rAcc
    cases qRun (Sum.inl (false, false)) s <;> rfl
  rw [e, h]
  unfold tRes
  cases qToks p s with
  | none => rfl
  | some l => exact whole_all l

end Go.Proofs.YtgddkjhknlgbbaaGreatDoor

namespace Go.Proofs.YtgddkjhknlgbbaaGreatDoor
set_option linter.unusedVariables false
set_option linter.unusedSimpArgs false

theorem qSpan_of {p : UInt8 → Bool} {a b : List UInt8} (ha : ∀ c ∈ a, p c = true) (hb : ∀ c r, b = c :: r → p c = false) : qSpan p (a ++ b) = (a, b) := by
  induction a with
  | nil =>
    cases b with
    | nil => rfl
    | cons c r => simp [qSpan, hb c r rfl]
  | cons c r ih =>
    have h1 := ha c (by simp)
    have h2 := ih (fun x hx => ha x (by simp [hx]))
    simp [qSpan, h1, h2]

/-! The pieces of a text, one by one. -/
theorem toks_blank (p : Nat) (r : List UInt8) : qToks p (32 :: r) = qToks (p + 1) r := by
  rw [qToks_eq]; simp
theorem toks_lp (p : Nat) (r : List UInt8) : qToks p (40 :: r) = (qToks (p + 1) r).map ((Sum.inl (false, false)) :: ·) := by
  rw [qToks_eq]; simp
theorem toks_rp (p : Nat) (r : List UInt8) : qToks p (41 :: r) = (qToks (p + 1) r).map ((Sum.inl (false, true)) :: ·) := by
  rw [qToks_eq]; simp
theorem toks_cm (p : Nat) (r : List UInt8) : qToks p (44 :: r) = (qToks (p + 1) r).map ((Sum.inl (true, false)) :: ·) := by
  rw [qToks_eq]; simp
theorem toks_co (p : Nat) (r : List UInt8) : qToks p (58 :: 45 :: r) = (qToks (p + 2) r).map ((Sum.inl (true, true)) :: ·) := by
  rw [qToks_eq]; simp

theorem var_ne {c : UInt8} (h : qVar c = true) : c ≠ 32 ∧ c ≠ 40 ∧ c ≠ 41 ∧ c ≠ 44 ∧ c ≠ 58 ∧ c ≠ 45 := by
  refine ⟨?_, ?_, ?_, ?_, ?_, ?_⟩ <;> rintro rfl <;> simp [qVar] at h
theorem small_ne {c : UInt8} (h : qSmall c = true) : c ≠ 32 ∧ c ≠ 40 ∧ c ≠ 41 ∧ c ≠ 44 ∧ c ≠ 58 ∧ c ≠ 45 := by
  refine ⟨?_, ?_, ?_, ?_, ?_, ?_⟩ <;> rintro rfl <;> simp [qSmall] at h
theorem digit_ne {c : UInt8} (h : qDigit c = true) : c ≠ 32 ∧ c ≠ 40 ∧ c ≠ 41 ∧ c ≠ 44 ∧ c ≠ 58 ∧ c ≠ 45 := by
  refine ⟨?_, ?_, ?_, ?_, ?_, ?_⟩ <;> rintro rfl <;> simp [qDigit] at h

theorem toks_var (p : Nat) (c : UInt8) (r : List UInt8) (h : qVar c = true) : qToks p (c :: r) = (qToks (p + 1) r).map ((Sum.inr (Sum.inl (c, p))) :: ·) := by
  obtain ⟨h1, h2, h3, h4, h5, h6⟩ := var_ne h
  rw [qToks_eq]
  simp [h1, h2, h3, h4, h5, h]

theorem toks_name (p : Nat) (a b : List UInt8) (h0 : a ≠ []) (ha : ∀ c ∈ a, qSmall c = true) (hb : ∀ c r, b = c :: r → qSmall c = false) : qToks p (a ++ b) = (qToks (p + a.length) b).map ((Sum.inr (Sum.inr (Sum.inl (a, p)))) :: ·) := by
  cases a with
  | nil => exact absurd rfl h0
  | cons c a =>
    have h := ha c (by simp)
    obtain ⟨h1, h2, h3, h4, h5, h6⟩ := small_ne h
    have e := qSpan_of (a := a) (fun x hx => ha x (by simp [hx])) hb
    rw [List.cons_append, qToks_eq]
    simp only [if_neg h1, if_neg h2, if_neg h3, if_neg h4, if_neg h5, small_var h, h, if_true, e, List.length_cons, Bool.false_eq_true, if_false]
    rw [show p + 1 + a.length = p + (a.length + 1) by omega]

theorem toks_number (p : Nat) (a b : List UInt8) (h0 : a ≠ []) (h9 : a.length ≤ 9) (ha : ∀ c ∈ a, qDigit c = true) (hb : ∀ c r, b = c :: r → qDigit c = false) : qToks p (a ++ b) = (qToks (p + a.length) b).map ((Sum.inr (Sum.inr (Sum.inr a))) :: ·) := by
  cases a with
  | nil => exact absurd rfl h0
  | cons c a =>
    have h := ha c (by simp)
    obtain ⟨h1, h2, h3, h4, h5, h6⟩ := digit_ne h
    have e := qSpan_of (a := a) (fun x hx => ha x (by simp [hx])) hb
    simp only [List.length_cons] at h9
    rw [List.cons_append, qToks_eq]
    simp only [if_neg h1, if_neg h2, if_neg h3, if_neg h4, if_neg h5, if_neg h6, digit_var h, digit_small h, h, if_true, e, List.length_cons, if_pos h9, Bool.false_eq_true, if_false]
    rw [show p + 1 + a.length = p + (a.length + 1) by omega]

theorem toks_minus (p : Nat) (a b : List UInt8) (h0 : a ≠ []) (h9 : a.length ≤ 9) (ha : ∀ c ∈ a, qDigit c = true) (hb : ∀ c r, b = c :: r → qDigit c = false) : qToks p (45 :: a ++ b) = (qToks (p + (a.length + 1)) b).map ((Sum.inr (Sum.inr (Sum.inr (45 :: a)))) :: ·) := by
  have e := qSpan_of ha hb
  have h1 : 1 ≤ a.length := by cases a with
    | nil => exact absurd rfl h0
    | cons c r => simp
  rw [List.cons_append, qToks_eq]
  simp [qVar, qSmall, e, h1, h9]
  rw [show p + 1 + a.length = p + (a.length + 1) by omega]

/-! Where one stands, place by place. -/
/-- Behind p bytes of s one stands at x. -/
def AtQ (s : List UInt8) (p : Nat) (x : QSt) : Prop := p ≤ s.length ∧ qRun (Sum.inl (false, false)) (s.take p) = some x

theorem AtQ.start (s : List UInt8) : AtQ s 0 (Sum.inl (false, false)) := ⟨by omega, rfl⟩

theorem AtQ.next {s : List UInt8} {p : Nat} {x y : QSt} {c : UInt8} (h : AtQ s p x) (hc : s[p]? = some c) (hs : qStep x c = some y) : AtQ s (p + 1) y := by
  have hp : p < s.length := (List.getElem?_eq_some_iff.1 hc).1
  refine ⟨by omega, ?_⟩
  rw [List.take_add_one, hc, Option.toList_some, qRun_append, h.2]
  simp [qRun, hs]

/-- Stuck at p: the first byte with which no query begins stands there, or the text ends there and is no query. -/
theorem AtQ.stuck {s : List UInt8} {p : Nat} {x : QSt} (h : AtQ s p x) (hs : ∀ c, s[p]? = some c → qStep x c = none) : qFar (Sum.inl (false, false)) s = p := by
  have h1 := (qRun_take (Sum.inl (false, false)) s p h.1).1 (by rw [h.2]; rfl)
  by_cases hp : p < s.length
  · have h2 : ¬ (p + 1 ≤ qFar (Sum.inl (false, false)) s) := fun h3 => by
      have h4 := (qRun_take (Sum.inl (false, false)) s (p + 1) (by omega)).2 h3
      rw [List.take_add_one, List.getElem?_eq_getElem hp, Option.toList_some, qRun_append, h.2] at h4
      have h5 := hs _ (List.getElem?_eq_getElem hp)
      simp [qRun, h5] at h4
    omega
  · have := qFar_le (Sum.inl (false, false)) s
    have := h.1
    omega

theorem AtQ.acc {s : List UInt8} {x : QSt} (h : AtQ s s.length x) : qAcc s = qEnd x := by
  have := h.2
  rw [List.take_length] at this
  unfold qAcc
  rw [this]

/-- Stuck ahead of the end: no query. -/
theorem AtQ.bad {s : List UInt8} {p : Nat} {x : QSt} {c : UInt8} (h : AtQ s p x) (hc : s[p]? = some c) (hs : qStep x c = none) : qAcc s = false := by
  have hp : p < s.length := (List.getElem?_eq_some_iff.1 hc).1
  have e : s = s.take p ++ c :: s.drop (p + 1) := by
    have h1 := List.take_append_drop p s
    have h2 := List.drop_eq_getElem_cons hp
    rw [List.getElem?_eq_getElem hp] at hc
    rw [h2, Option.some.inj hc] at h1
    exact h1.symm
  unfold qAcc
  rw [e, qRun_append, h.2]
  simp [qRun, hs]

/-- What the reference's 'wrong' tells: the first place with which no query begins. -/
theorem wrong_place (s : List UInt8) (i : Nat) (hi : i < s.length) : (∃ t ∈ qEnds, qAcc (s.take (i + 1) ++ t) = true) ↔ i < qFar (Sum.inl (false, false)) s := by
  rw [begins_iff, qRun_take (Sum.inl (false, false)) s (i + 1) (by omega)]
  omega

end Go.Proofs.YtgddkjhknlgbbaaGreatDoor

namespace Go.Proofs.YtgddkjhknlgbbaaGreatDoor
set_option linter.unusedVariables false
set_option linter.unusedSimpArgs false

/-! What is wrong with a query that has the form: a list of places, each with what is wrong there (0: nothing), the places rising. -/
def judgedAt (L : List (Nat × Int)) (i : Nat) : Int := match L.find? fun x => decide (x.1 = i) && decide (x.2 ≠ 0) with
  | some x => x.2
  | none => 0

def firstBad (L : List (Nat × Int)) : Option (Nat × Int) := L.find? fun x => decide (x.2 ≠ 0)

theorem judged_zero (L : List (Nat × Int)) (i : Nat) (h : ∀ x ∈ L, x.1 = i → x.2 = 0) : judgedAt L i = 0 := by
  unfold judgedAt
  have e : L.find? (fun x => decide (x.1 = i) && decide (x.2 ≠ 0)) = none := by
    rw [List.find?_eq_none]
    intro x hx
    by_cases hi : x.1 = i
    · simp [hi, h x hx hi]
    · simp [hi]
  rw [e]

/-- Going through the places one by one finds the first that stands in the list. -/
theorem first_bad_some {L : List (Nat × Int)} (hs : L.Pairwise fun a b => a.1 < b.1) {i : Nat} {c : Int} (h : firstBad L = some (i, c)) : c ≠ 0 ∧ judgedAt L i = c ∧ ∀ k, k < i → judgedAt L k = 0 := by
  unfold firstBad at h
  induction L with
  | nil => simp at h
  | cons x r ih =>
    rw [List.pairwise_cons] at hs
    by_cases hx : x.2 = 0
    · have h' : r.find? (fun x => decide (x.2 ≠ 0)) = some (i, c) := by simpa [List.find?_cons, hx] using h
      obtain ⟨h1, h2, h3⟩ := ih hs.2 h'
      have e : ∀ k, judgedAt (x :: r) k = judgedAt r k := fun k => by
        unfold judgedAt
        simp [List.find?_cons, hx]
      exact ⟨h1, by rw [e]; exact h2, fun k hk => by rw [e]; exact h3 k hk⟩
    · have h' : x = (i, c) := by simpa [List.find?_cons, hx] using h
      subst h'
      refine ⟨hx, ?_, fun k hk => judged_zero _ _ fun y hy hyk => ?_⟩
      · unfold judgedAt
        simp [List.find?_cons, hx]
      · rcases List.mem_cons.1 hy with rfl | hy
        · exact absurd hyk (by dsimp only; omega)
        · have := hs.1 y hy
          dsimp only at this
          omega

theorem first_bad_none {L : List (Nat × Int)} (h : firstBad L = none) (k : Nat) : judgedAt L k = 0 := by
  refine judged_zero _ _ fun x hx _ => ?_
  have := List.find?_eq_none.1 h x hx
  simpa using this

/-! The places of a text's pieces rise. -/
def placesT : List Tok → List Nat
  | [] => []
  | (Sum.inr (Sum.inl (_, i))) :: r => i :: placesT r
  | (Sum.inr (Sum.inr (Sum.inl (_, i)))) :: r => i :: placesT r
  | (Sum.inl (false, false)) :: r => placesT r
  | (Sum.inl (false, true)) :: r => placesT r
  | (Sum.inl (true, false)) :: r => placesT r
  | (Sum.inl (true, true)) :: r => placesT r
  | (Sum.inr (Sum.inr (Sum.inr _))) :: r => placesT r

theorem toks_rise (n : Nat) : ∀ (s : List UInt8) (p : Nat), s.length ≤ n → ∀ l, qToks p s = some l → (placesT l).Pairwise (· < ·) ∧ ∀ i ∈ placesT l, p ≤ i ∧ i < p + s.length := by
  induction n with
  | zero =>
    intro s p hs l h
    obtain rfl : s = [] := List.length_eq_zero_iff.1 (by omega)
    rw [qToks_eq] at h
    cases h
    simp [placesT]
  | succ n ih =>
    intro s p hs l h
    cases s with
    | nil => rw [qToks_eq] at h; cases h; simp [placesT]
    | cons c r =>
      simp only [List.length_cons] at hs
      have plain : ∀ (q : Nat) (r' : List UInt8) (l' : List Tok), p < q → q + r'.length ≤ p + (r.length + 1) → r'.length ≤ n → qToks q r' = some l' →
          (placesT l').Pairwise (· < ·) ∧ ∀ i ∈ placesT l', p < i ∧ i < p + (r.length + 1) := fun q r' l' hq hl hn e => by
        obtain ⟨h1, h2⟩ := ih r' q hn l' e
        exact ⟨h1, fun i hi => by have := h2 i hi; omega⟩
      have shut : ∀ {l' : List Tok} {t : Tok}, ((placesT l').Pairwise (· < ·) ∧ ∀ i ∈ placesT l', p < i ∧ i < p + (r.length + 1)) → (placesT (t :: l') = placesT l' ∨ placesT (t :: l') = p :: placesT l') →
          (placesT (t :: l')).Pairwise (· < ·) ∧ ∀ i ∈ placesT (t :: l'), p ≤ i ∧ i < p + (r.length + 1) := fun {l' t} hh ht => by
        rcases ht with e | e
        · rw [e]; exact ⟨hh.1, fun i hi => by have := hh.2 i hi; omega⟩
        · rw [e]
          refine ⟨List.pairwise_cons.2 ⟨fun i hi => (hh.2 i hi).1, hh.1⟩, fun i hi => ?_⟩
          rcases List.mem_cons.1 hi with rfl | hi
          · omega
          · have := hh.2 i hi; omega
      simp only [List.length_cons]
      have hS := qSpan_len qSmall r
      have hS2 : (qSpan qSmall r).1.length + (qSpan qSmall r).2.length = r.length := by rw [← List.length_append, qSpan_append]
      have hD := qSpan_len qDigit r
      have hD2 : (qSpan qDigit r).1.length + (qSpan qDigit r).2.length = r.length := by rw [← List.length_append, qSpan_append]
      rw [qToks_eq] at h
      dsimp only at h
      split at h
      · obtain ⟨h1, h2⟩ := plain (p + 1) r l (by omega) (by omega) (by omega) h
        exact ⟨h1, fun i hi => by have := h2 i hi; omega⟩
      split at h
      · obtain ⟨l', e, rfl⟩ := Option.map_eq_some_iff.1 h
        exact shut (plain (p + 1) r l' (by omega) (by omega) (by omega) e) (.inl rfl)
      split at h
      · obtain ⟨l', e, rfl⟩ := Option.map_eq_some_iff.1 h
        exact shut (plain (p + 1) r l' (by omega) (by omega) (by omega) e) (.inl rfl)
      split at h
      · obtain ⟨l', e, rfl⟩ := Option.map_eq_some_iff.1 h
        exact shut (plain (p + 1) r l' (by omega) (by omega) (by omega) e) (.inl rfl)
      split at h
      · split at h
        · cases h
        · split at h
          · obtain ⟨l', e, rfl⟩ := Option.map_eq_some_iff.1 h
            simp only [List.length_cons] at hs
            exact shut (plain (p + 2) _ l' (by omega) (by simp; omega) (by omega) e) (.inl rfl)
          · cases h
      split at h
      · obtain ⟨l', e, rfl⟩ := Option.map_eq_some_iff.1 h
        exact shut (plain (p + 1) r l' (by omega) (by omega) (by omega) e) (.inr rfl)
      split at h
      · obtain ⟨l', e, rfl⟩ := Option.map_eq_some_iff.1 h
        exact shut (plain _ _ l' (by omega) (by omega) (by omega) e) (.inr rfl)
      split at h
      · split at h
        · obtain ⟨l', e, rfl⟩ := Option.map_eq_some_iff.1 h
          exact shut (plain _ _ l' (by omega) (by omega) (by omega) e) (.inl rfl)
        · cases h
      split at h
      · split at h
        · obtain ⟨l', e, rfl⟩ := Option.map_eq_some_iff.1 h
          exact shut (plain _ _ l' (by omega) (by omega) (by omega) e) (.inl rfl)
        · cases h
      · cases h

end Go.Proofs.YtgddkjhknlgbbaaGreatDoor
