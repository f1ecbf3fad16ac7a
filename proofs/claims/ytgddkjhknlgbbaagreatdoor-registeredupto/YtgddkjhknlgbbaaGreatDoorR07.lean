import Derived.Test.YtgddkjhknlgbbaaGreatDoorR06
import Derived.Test.YtgddkjhknlgbbaaGreatDoorR02
set_option linter.unusedVariables false
set_option linter.unusedSimpArgs false

namespace Go.Proofs.YtgddkjhknlgbbaaGreatDoor
set_option linter.unusedVariables false
set_option linter.unusedSimpArgs false

/-! The query that the pieces make. -/
def digsZ (s : List UInt8) : Int := s.foldl (fun n c => 10 * n + (c.toNat - 48 : Int)) 0

def numZ : List UInt8 → Int
  | [] => 0
  | c :: r => if c = 45 then - digsZ r else digsZ (c :: r)

/-- A term: its letter, or 0 and the number. -/
def termZ : Tok → UInt8 × Int
  | (Sum.inr (Sum.inl (c, _))) => (c, 0)
  | (Sum.inr (Sum.inr (Sum.inr s))) => (0, numZ s)
  | _ => (0, 0)

def headZ : List Tok → List (UInt8 × Nat)
  | [] => []
  | (Sum.inr (Sum.inl (c, i))) :: r => (c, i) :: headZ r
  | _ :: r => headZ r

/-- An atom: its name, its place, its terms. -/
structure AtomZ where
  nm : List UInt8
  i : Nat
  terms : List (UInt8 × Int)

def atomsZ : Nat → List Tok → List AtomZ
  | 0, _ => []
  | f + 1, (Sum.inr (Sum.inr (Sum.inl (s, i)))) :: (Sum.inl (false, false)) :: r => match itemsT true r with
    | some (its, rest) => ⟨s, i, its.map termZ⟩ :: (match rest with
      | (Sum.inl (true, false)) :: r' => atomsZ f r'
      | _ => [])
    | none => []
  | _, _ => []

structure QueryZ where
  head : List (UInt8 × Nat)
  body : List AtomZ

def queryZ (l : List Tok) : QueryZ := match l with
  | (Sum.inl (false, false)) :: r => match itemsT true r with
    | some (its, (Sum.inl (true, true)) :: r') => ⟨headZ its, atomsZ (r'.length + 1) r'⟩
    | _ => ⟨[], []⟩
  | _ => ⟨[], []⟩

theorem items_places (n : Nat) : ∀ (r : List Tok) (b : Bool), r.length ≤ n → ∀ its rest, itemsT b r = some (its, rest) → placesT r = placesT its ++ placesT rest := by
  induction n with
  | zero =>
    intro r b hr its rest h
    obtain rfl : r = [] := List.length_eq_zero_iff.1 (by omega)
    simp [itemsT] at h
  | succ n ih =>
    intro r b hr its rest h
    unfold itemsT at h
    split at h
    · cases h
    · cases h; simp [placesT]
    all_goals first
      | (simp only [Option.map_eq_some_iff] at h
         obtain ⟨x, hx, e⟩ := h
         cases e
         have := ih _ _ (by simp at hr; omega) x.1 x.2 hx
         simp [placesT, this])
      | cases h

theorem head_places (its : List Tok) : ((headZ its).map (·.2)).Sublist (placesT its) := by
  induction its with
  | nil => simp [headZ, placesT]
  | cons t r ih =>
    cases t using Tok.el with
    | v c i => simp only [headZ, placesT, List.map_cons]; exact ih.cons_cons i
    | n s i => simp only [headZ, placesT]; exact ih.cons i
    | lp => simpa [headZ, placesT] using ih
    | rp => simpa [headZ, placesT] using ih
    | cm => simpa [headZ, placesT] using ih
    | co => simpa [headZ, placesT] using ih
    | d s => simpa [headZ, placesT] using ih

theorem atoms_places (f : Nat) : ∀ r : List Tok, ((atomsZ f r).map (·.i)).Sublist (placesT r) := by
  induction f with
  | zero => intro r; simp [atomsZ]
  | succ f ih =>
    intro r
    unfold atomsZ
    split
    · rename_i h; cases h
    · rename_i f' s i r' h
      cases h
      cases e : itemsT true r' with
      | none => simp
      | some x =>
        obtain ⟨its, rest⟩ := x
        have hp := items_places r'.length r' true (Nat.le_refl _) its rest e
        simp only [placesT, List.map_cons, hp]
        refine List.Sublist.cons_cons i ?_
        refine List.Sublist.trans ?_ (List.sublist_append_right _ _)
        split
        · rename_i r2
          simpa [placesT] using ih r2
        · simp
    · simp

/-- The places of head and body rise. -/
theorem query_rise {s : List UInt8} {l : List Tok} (h : qToks 0 s = some l) : ((queryZ l).head.map (·.2) ++ (queryZ l).body.map (·.i)).Pairwise (· < ·) ∧ ∀ k ∈ (queryZ l).head.map (·.2) ++ (queryZ l).body.map (·.i), k < s.length := by
  obtain ⟨h1, h2⟩ := toks_rise s.length s 0 (Nat.le_refl _) l h
  have key : ((queryZ l).head.map (·.2) ++ (queryZ l).body.map (·.i)).Sublist (placesT l) := by
    unfold queryZ
    split
    · rename_i r
      cases e : itemsT true r with
      | none => simp
      | some x =>
        obtain ⟨its, rest⟩ := x
        have hp := items_places r.length r true (Nat.le_refl _) its rest e
        split
        · rename_i its' r' e2
          cases e2
          simp only [placesT] at hp ⊢
          rw [hp]
          exact (head_places its).append (atoms_places _ r')
        · simp
    · simp
  exact ⟨h1.sublist key, fun k hk => by have := h2 k (key.subset hk); omega⟩

end Go.Proofs.YtgddkjhknlgbbaaGreatDoor

namespace Go.Proofs.YtgddkjhknlgbbaaGreatDoor
set_option linter.unusedVariables false
set_option linter.unusedSimpArgs false

def bytesL (s : ByteArray) : List UInt8 := s.data.toList
theorem bytesL_len (s : ByteArray) : (bytesL s).length = s.size := rfl
theorem byte_at {s : ByteArray} {p : Nat} {c : UInt8} (h : (bytesL s)[p]? = some c) : byteAt s p = c.toNat := by
  obtain ⟨hl, rfl⟩ := List.getElem?_eq_some_iff.1 h
  exact byteAt_in hl
theorem at_byte {s : ByteArray} {p : Nat} (h : byteAt s p ≠ 0) : ∃ c, (bytesL s)[p]? = some c ∧ byteAt s p = c.toNat ∧ p < s.size := by
  have hl := byteAt_ne h
  have hx : (bytesL s)[p]? = some ((bytesL s)[p]'hl) := List.getElem?_eq_getElem hl
  exact ⟨_, hx, byte_at hx, hl⟩
theorem u8_of {c : UInt8} {n : Nat} (h : c.toNat = n) : c = UInt8.ofNat n := by rw [← h]; simp
theorem byte_is {s : ByteArray} {p n : Nat} (h : byteAt s p = n) (hn : n ≠ 0) : (bytesL s)[p]? = some (UInt8.ofNat n) ∧ p < s.size := by
  obtain ⟨c, h1, h2, h3⟩ := at_byte (show byteAt s p ≠ 0 by omega)
  rw [h] at h2
  rw [← u8_of h2.symm]
  exact ⟨h1, h3⟩
theorem isVr_q (c : UInt8) : isVr c.toNat = qVar c := by simp [isVr, qVar, UInt8.le_iff_toNat_le]
theorem isLt_q (c : UInt8) : isLt c.toNat = qSmall c := by simp [isLt, qSmall, UInt8.le_iff_toNat_le]
theorem isDg_q (c : UInt8) : isDg c.toNat = qDigit c := by simp [isDg, qDigit, UInt8.le_iff_toNat_le]
theorem ne_of_nat {c : UInt8} {n : Nat} (h : c.toNat ≠ n) (hn : n < 256) : c ≠ UInt8.ofNat n := fun e => h (by rw [e]; simp; omega)
theorem drop_at {bs : List UInt8} {p : Nat} {c : UInt8} (h : bs[p]? = some c) : bs.drop p = c :: bs.drop (p + 1) := by
  obtain ⟨hl, rfl⟩ := List.getElem?_eq_some_iff.1 h
  exact List.drop_eq_getElem_cons hl

/-- The pieces l lie between two places. -/
def Cut (bs : List UInt8) (p : Nat) (l : List Tok) (p' : Nat) : Prop := qToks p (bs.drop p) = (qToks p' (bs.drop p')).map (l ++ ·)
theorem Cut.refl (bs : List UInt8) (p : Nat) : Cut bs p [] p := by
  unfold Cut
  cases qToks p (bs.drop p) <;> simp
theorem Cut.trans {bs : List UInt8} {p q r : Nat} {l m : List Tok} (h : Cut bs p l q) (k : Cut bs q m r) : Cut bs p (l ++ m) r := by
  unfold Cut at *
  rw [h, k]
  cases qToks r (bs.drop r) <;> simp
theorem Cut.one {bs : List UInt8} {p p' : Nat} {t : Tok} (h : qToks p (bs.drop p) = (qToks p' (bs.drop p')).map (t :: ·)) : Cut bs p [t] p' := h
theorem cut_sign {bs : List UInt8} {p : Nat} {c : UInt8} (hc : bs[p]? = some c) {t : Tok} (h : (c = 40 ∧ t = Sum.inl (false, false)) ∨ (c = 41 ∧ t = Sum.inl (false, true)) ∨ (c = 44 ∧ t = Sum.inl (true, false))) : Cut bs p [t] (p + 1) := by
  apply Cut.one
  rw [drop_at hc]
  rcases h with ⟨rfl, rfl⟩ | ⟨rfl, rfl⟩ | ⟨rfl, rfl⟩
  · exact toks_lp _ _
  · exact toks_rp _ _
  · exact toks_cm _ _
theorem cut_var {bs : List UInt8} {p : Nat} {c : UInt8} (hc : bs[p]? = some c) (h : qVar c = true) : Cut bs p [Sum.inr (Sum.inl (c, p))] (p + 1) := by
  apply Cut.one
  rw [drop_at hc]
  exact toks_var _ _ _ h
theorem cut_mark {bs : List UInt8} {p : Nat} (h1 : bs[p]? = some 58) (h2 : bs[p + 1]? = some 45) : Cut bs p [Sum.inl (true, true)] (p + 2) := by
  apply Cut.one
  rw [drop_at h1, drop_at h2]
  exact toks_co _ _

/-- No query begins with the byte at q. -/
def Bad (bs : List UInt8) (q : Nat) : Prop := qFar (Sum.inl (false, false)) bs = q ∧ qAcc bs = false
theorem AtQ.badAt {bs : List UInt8} {p : Nat} {x : QSt} (h : AtQ bs p x) (hs : ∀ c, bs[p]? = some c → qStep x c = none) (he : qEnd x = false ∨ p < bs.length) : Bad bs p := by
  refine ⟨h.stuck hs, ?_⟩
  by_cases hp : p < bs.length
  · exact h.bad (List.getElem?_eq_getElem hp) (hs _ (List.getElem?_eq_getElem hp))
  · have e : p = bs.length := Nat.le_antisymm h.1 (by omega)
    subst e
    rw [h.acc]
    rcases he with h1 | h1
    · exact h1
    · exact absurd h1 hp

theorem skip_ind {s : ByteArray} (P : Nat → Prop) (hP : ∀ p, p < s.size → byteAt s p = 32 → P p → P (p + 1)) : ∀ (n p : Nat), s.size - p ≤ n → P p → P (skipP s p) := by
  intro n
  induction n with
  | zero =>
    intro p hn h
    have : byteAt s p = 0 := byteAt_end (by omega)
    unfold skipP
    rw [runP_stop (by rw [this]; rfl)]
    exact h
  | succ n ih =>
    intro p hn h
    unfold skipP
    by_cases hb : byteAt s p = 32
    · have hp : p < s.size := byteAt_ne (by omega)
      rw [runP_go hp (by rw [hb]; rfl)]
      exact ih (p + 1) (by omega) (hP p hp hb h)
    · rw [runP_stop (by simp [isBl, hb])]
      exact h
theorem skip_at {s : ByteArray} {p : Nat} {x : QSt} (hx : qStep x 32 = some x) (h : AtQ (bytesL s) p x) : AtQ (bytesL s) (skipP s p) x :=
  skip_ind (fun p => AtQ (bytesL s) p x) (fun p hp hb h => h.next (byte_is hb (by omega)).1 hx) _ p (Nat.le_refl _) h
theorem skip_cut (s : ByteArray) (p : Nat) : Cut (bytesL s) p [] (skipP s p) :=
  skip_ind (fun q => Cut (bytesL s) p [] q) (fun q hq hb h => by
    have := h.trans (m := []) (r := q + 1) (by
      unfold Cut
      rw [drop_at (byte_is hb (by omega)).1]
      show qToks q (32 :: _) = _
      rw [toks_blank]
      cases qToks (q + 1) ((bytesL s).drop (q + 1)) <;> simp)
    exact this) _ p (Nat.le_refl _) (Cut.refl _ _)
theorem skip_ne (s : ByteArray) (p : Nat) : byteAt s (skipP s p) ≠ 32 := by
  have key : ∀ n p, s.size - p ≤ n → byteAt s (skipP s p) ≠ 32 := by
    intro n
    induction n with
    | zero =>
      intro p hn
      have : byteAt s p = 0 := byteAt_end (by omega)
      unfold skipP
      rw [runP_stop (by rw [this]; rfl), this]
      omega
    | succ n ih =>
      intro p hn
      unfold skipP
      by_cases hb : byteAt s p = 32
      · have hp : p < s.size := byteAt_ne (by omega)
        rw [runP_go hp (by rw [hb]; rfl)]
        exact ih (p + 1) (by omega)
      · rw [runP_stop (by simp [isBl, hb])]
        exact hb
  exact key _ p (Nat.le_refl _)

/-- A byte that is none of these gives nothing. -/
theorem byte_case {s : ByteArray} {p n : Nat} {c : UInt8} (hc : (bytesL s)[p]? = some c) (hn : n < 256) : (c = UInt8.ofNat n) ↔ byteAt s p = n := by
  rw [byte_at hc]
  constructor
  · rintro rfl; simp; omega
  · exact u8_of

/-- A sign that has to come next, in a state that takes it and blanks alone. -/
theorem must_q {s : ByteArray} {p n : Nat} {x y : QSt} (hn : n ≠ 0) (hn2 : n < 256) (hn3 : n ≠ 32) (h : AtQ (bytesL s) p x) (hb : qStep x 32 = some x) (hy : qStep x (UInt8.ofNat n) = some y) (ho : ∀ c, c ≠ 32 → c ≠ UInt8.ofNat n → qStep x c = none) (he : qEnd x = false) :
    match mustP s n p with
    | .error q => Bad (bytesL s) q
    | .ok q => AtQ (bytesL s) q y ∧ q = skipP s p + 1 ∧ (bytesL s)[skipP s p]? = some (UInt8.ofNat n) := by
  have h1 := skip_at hb h
  unfold mustP
  by_cases hc : byteAt s (skipP s p) = n
  · rw [if_pos hc]
    have hx := (byte_is hc hn).1
    exact ⟨h1.next hx hy, rfl, hx⟩
  · rw [if_neg hc]
    refine h1.badAt (fun c hcx => ho c ?_ ?_) (.inl he)
    · intro e
      exact skip_ne s p ((byte_case hcx (by omega)).1 e)
    · intro e
      exact hc ((byte_case hcx hn2).1 e)

end Go.Proofs.YtgddkjhknlgbbaaGreatDoor

namespace Go.Proofs.YtgddkjhknlgbbaaGreatDoor
set_option linter.unusedVariables false
set_option linter.unusedSimpArgs false

theorem run_ind {s : ByteArray} {t : Nat → Bool} (h0 : t 0 = false) (P : Nat → Prop) (hP : ∀ p, p < s.size → t (byteAt s p) = true → P p → P (p + 1)) : ∀ (n p : Nat), s.size - p ≤ n → P p → P (runP t s p) := by
  intro n
  induction n with
  | zero =>
    intro p hn h
    have : byteAt s p = 0 := byteAt_end (by omega)
    rw [runP_stop (by rw [this]; exact h0)]
    exact h
  | succ n ih =>
    intro p hn h
    cases hb : t (byteAt s p) with
    | true =>
      have hp : p < s.size := by
        rcases Nat.lt_or_ge p s.size with h1 | h1
        · exact h1
        · rw [byteAt_end h1, h0] at hb; cases hb
      rw [runP_go hp hb]
      exact ih (p + 1) (by omega) (hP p hp hb h)
    | false => rw [runP_stop hb]; exact h
theorem run_end {s : ByteArray} {t : Nat → Bool} (h0 : t 0 = false) (p : Nat) : t (byteAt s (runP t s p)) = false := by
  have key : ∀ n p, s.size - p ≤ n → t (byteAt s (runP t s p)) = false := by
    intro n
    induction n with
    | zero =>
      intro p hn
      have : byteAt s p = 0 := byteAt_end (by omega)
      rw [runP_stop (by rw [this]; exact h0), this]
      exact h0
    | succ n ih =>
      intro p hn
      cases hb : t (byteAt s p) with
      | true =>
        have hp : p < s.size := by
          rcases Nat.lt_or_ge p s.size with h1 | h1
          · exact h1
          · rw [byteAt_end h1, h0] at hb; cases hb
        rw [runP_go hp hb]
        exact ih (p + 1) (by omega)
      | false => rw [runP_stop hb]; exact hb
  exact key _ p (Nat.le_refl _)

/-- The bytes between two places. -/
def seg (bs : List UInt8) (p q : Nat) : List UInt8 := (bs.drop p).take (q - p)
theorem seg_nil (bs : List UInt8) (p : Nat) : seg bs p p = [] := by simp [seg]
theorem seg_snoc {bs : List UInt8} {p q : Nat} {c : UInt8} (hpq : p ≤ q) (hc : bs[q]? = some c) : seg bs p (q + 1) = seg bs p q ++ [c] := by
  unfold seg
  rw [show q + 1 - p = (q - p) + 1 by omega, List.take_add_one, List.getElem?_drop, show p + (q - p) = q by omega, hc]
  rfl
theorem seg_drop {bs : List UInt8} {p q : Nat} (hpq : p ≤ q) : bs.drop p = seg bs p q ++ bs.drop q := by
  unfold seg
  have := List.take_append_drop (q - p) (bs.drop p)
  rw [List.drop_drop, show p + (q - p) = q by omega] at this
  exact this.symm
theorem seg_len {bs : List UInt8} {p q : Nat} (hpq : p ≤ q) (hq : q ≤ bs.length) : (seg bs p q).length = q - p := by
  unfold seg
  rw [List.length_take, List.length_drop]
  omega
theorem seg_cons {bs : List UInt8} {p q : Nat} {c : UInt8} (hpq : p < q) (hc : bs[p]? = some c) : seg bs p q = c :: seg bs (p + 1) q := by
  unfold seg
  rw [drop_at hc, show q - p = (q - (p + 1)) + 1 by omega, List.take_succ_cons]

theorem next_of {bs : List UInt8} {q : Nat} {P : UInt8 → Prop} (h : ∀ c, bs[q]? = some c → P c) : ∀ c r, bs.drop q = c :: r → P c := by
  intro c r e
  refine h c ?_
  have : (bs.drop q)[0]? = some c := by rw [e]; rfl
  rwa [List.getElem?_drop, Nat.add_zero] at this

theorem isLt0 : isLt 0 = false := rfl
theorem letters_q {s : ByteArray} {q j : Nat} (h : AtQ (bytesL s) q (Sum.inr (Sum.inl (Sum.inr (Sum.inr (Sum.inl j)))))) (hne : lettersP s q ≠ q) :
    AtQ (bytesL s) (lettersP s q) (Sum.inr (Sum.inl (Sum.inr (Sum.inr (Sum.inr (Sum.inl j)))))) ∧ Cut (bytesL s) q [Sum.inr (Sum.inr (Sum.inl (seg (bytesL s) q (lettersP s q), q)))] (lettersP s q) ∧ q < lettersP s q ∧ lettersP s q ≤ s.size := by
  have hb : isLt (byteAt s q) = true := by
    cases e : isLt (byteAt s q) with
    | true => rfl
    | false => exact absurd (show lettersP s q = q from runP_stop e) hne
  have h0 : byteAt s q ≠ 0 := fun e => by rw [e] at hb; cases hb
  obtain ⟨c, hc, hcb, hql⟩ := at_byte h0
  have hsm : qSmall c = true := by rw [← isLt_q, ← hcb]; exact hb
  have e32 : c ≠ 32 := (small_ne hsm).1
  have hgo : lettersP s q = lettersP s (q + 1) := runP_go hql hb
  have hst : AtQ (bytesL s) (q + 1) (Sum.inr (Sum.inl (Sum.inr (Sum.inr (Sum.inr (Sum.inl j)))))) := h.next hc (by simp [qStep, e32, hsm])
  have key : AtQ (bytesL s) (lettersP s (q + 1)) (Sum.inr (Sum.inl (Sum.inr (Sum.inr (Sum.inr (Sum.inl j)))))) ∧ q + 1 ≤ lettersP s (q + 1) ∧ ∀ c ∈ seg (bytesL s) q (lettersP s (q + 1)), qSmall c = true := by
    refine run_ind isLt0 (fun p => AtQ (bytesL s) p (Sum.inr (Sum.inl (Sum.inr (Sum.inr (Sum.inr (Sum.inl j)))))) ∧ q + 1 ≤ p ∧ ∀ c ∈ seg (bytesL s) q p, qSmall c = true) ?_ _ (q + 1) (Nat.le_refl _) ⟨hst, Nat.le_refl _, ?_⟩
    · rintro p hp hb' ⟨g1, g2, g3⟩
      obtain ⟨c', hc', hcb', _⟩ := at_byte (show byteAt s p ≠ 0 from fun e => by rw [e] at hb'; cases hb')
      have hs' : qSmall c' = true := by rw [← isLt_q, ← hcb']; exact hb'
      refine ⟨g1.next hc' (by simp [qStep, hs']), by omega, fun x hx => ?_⟩
      rw [seg_snoc (by omega) hc'] at hx
      rcases List.mem_append.1 hx with hx | hx
      · exact g3 x hx
      · rw [List.mem_singleton.1 hx]; exact hs'
    · intro x hx
      rw [seg_snoc (Nat.le_refl _) hc, seg_nil] at hx
      rw [List.mem_singleton.1 hx]; exact hsm
  rw [← hgo] at key
  have hend : isLt (byteAt s (lettersP s q)) = false := run_end isLt0 q
  have hle : lettersP s q ≤ s.size := runP_le (by omega)
  refine ⟨key.1, ?_, by omega, hle⟩
  apply Cut.one
  have hd := seg_drop (bs := bytesL s) (p := q) (q := lettersP s q) (by omega)
  rw [hd, toks_name q _ _ ?_ key.2.2 ?_]
  · rw [seg_len (by omega) (by rw [bytesL_len]; exact hle), show q + (lettersP s q - q) = lettersP s q by omega]
  · intro e
    have := seg_len (bs := bytesL s) (p := q) (q := lettersP s q) (by omega) (by rw [bytesL_len]; exact hle)
    rw [e] at this
    simp at this
    omega
  · refine next_of (fun c hc => ?_)
    rw [byte_at hc, isLt_q] at hend
    exact hend

theorem extract_seg (s : ByteArray) (p q : Nat) (h1 : p ≤ q) (h2 : q ≤ s.size) : (s.extract p q).data.toList = seg (bytesL s) p q := by
  unfold seg bytesL
  rw [ByteArray.data_extract, Array.toList_extract]

/-- Behind a term: the state, or that of a number whose digits end here (or are nine). -/
def TermEnd (s : ByteArray) (j k q : Nat) (x : QSt) : Prop :=
  x = Sum.inr (Sum.inr (Sum.inl (Sum.inr (Sum.inr (j, k + 1))))) ∨ ∃ d, x = Sum.inr (Sum.inr (Sum.inr (j, k, d))) ∧ (d = 9 ∨ isDg (byteAt s q) = false)

theorem isDg0 : isDg 0 = false := rfl
theorem dig_q {s : ByteArray} {j k b : Nat} : ∀ (n p acc d : Nat), d + n = 9 → 1 ≤ d → b ≤ p → AtQ (bytesL s) p (Sum.inr (Sum.inr (Sum.inr (j, k, d)))) → (∀ c ∈ seg (bytesL s) b p, qDigit c = true) → p - b = d → (acc : Int) = digsZ (seg (bytesL s) b p) →
    ∃ d', d ≤ d' ∧ d' ≤ 9 ∧ AtQ (bytesL s) (digF s n p acc).2 (Sum.inr (Sum.inr (Sum.inr (j, k, d')))) ∧ (d' = 9 ∨ isDg (byteAt s (digF s n p acc).2) = false) ∧ (∀ c ∈ seg (bytesL s) b (digF s n p acc).2, qDigit c = true) ∧ (digF s n p acc).2 - b = d' ∧ ((digF s n p acc).1 : Int) = digsZ (seg (bytesL s) b (digF s n p acc).2) ∧ p ≤ (digF s n p acc).2
  | 0, p, acc, d, hd, h1, hb, h, ha, hl, hz => ⟨d, Nat.le_refl _, by omega, h, .inl (by omega), ha, hl, hz, Nat.le_refl _⟩
  | n + 1, p, acc, d, hd, h1, hb, h, ha, hl, hz => by
    cases e : isDg (byteAt s p) with
    | false => rw [digF_stop e]; exact ⟨d, Nat.le_refl _, by omega, h, .inr e, ha, hl, hz, Nat.le_refl _⟩
    | true =>
      rw [digF_go e]
      obtain ⟨c, hc, hcb, hp⟩ := at_byte (show byteAt s p ≠ 0 from fun e' => by rw [e'] at e; cases e)
      have hdg : qDigit c = true := by rw [← isDg_q, ← hcb]; exact e
      have h48 : 48 ≤ byteAt s p ∧ byteAt s p ≤ 57 := by simpa [isDg] using e
      obtain ⟨d', g1, g2, g3, g4, g5, g6, g7, g8⟩ := dig_q (j := j) (k := k) (b := b) n (p + 1) (10 * acc + (byteAt s p - 48)) (d + 1) (by omega) (by omega) (by omega) (h.next hc (by simp [qStep, hdg, show d < 9 by omega])) (fun x hx => by
        rw [seg_snoc hb hc] at hx
        rcases List.mem_append.1 hx with hx | hx
        · exact ha x hx
        · rw [List.mem_singleton.1 hx]; exact hdg) (by omega) (by
        rw [seg_snoc hb hc]
        unfold digsZ at hz ⊢
        rw [List.foldl_append, ← hz]
        simp only [List.foldl_cons, List.foldl_nil]
        rw [← hcb]
        omega)
      exact ⟨d', by omega, g2, g3, g4, g5, g6, g7, by omega⟩

theorem dig_neg {s : ByteArray} {p : Nat} {c : UInt8} (hc : (bytesL s)[p]? = some c) (h : isDg (byteAt s p) = false) : qDigit c = false := by rw [← isDg_q, ← byte_at hc]; exact h

/-- The digits of a number, from its first on. -/
theorem digs_q {s : ByteArray} {j k b : Nat} {x : QSt} (h : AtQ (bytesL s) b x) (hx : ∀ c, qDigit c = true → qStep x c = some (Sum.inr (Sum.inr (Sum.inr (j, k, 1))))) (hd : isDg (byteAt s b) = true) :
    ∃ d, 1 ≤ d ∧ d ≤ 9 ∧ AtQ (bytesL s) (digF s 9 b 0).2 (Sum.inr (Sum.inr (Sum.inr (j, k, d)))) ∧ (d = 9 ∨ isDg (byteAt s (digF s 9 b 0).2) = false) ∧ (∀ c ∈ seg (bytesL s) b (digF s 9 b 0).2, qDigit c = true) ∧ (digF s 9 b 0).2 - b = d ∧ ((digF s 9 b 0).1 : Int) = digsZ (seg (bytesL s) b (digF s 9 b 0).2) ∧ b < (digF s 9 b 0).2 := by
  obtain ⟨c, hc, hcb, hp⟩ := at_byte (show byteAt s b ≠ 0 from fun e' => by rw [e'] at hd; cases hd)
  have hdg : qDigit c = true := by rw [← isDg_q, ← hcb]; exact hd
  have h48 : 48 ≤ byteAt s b ∧ byteAt s b ≤ 57 := by simpa [isDg] using hd
  rw [digF_go hd]
  obtain ⟨d', g1, g2, g3, g4, g5, g6, g7, g8⟩ := dig_q (j := j) (k := k) (b := b) 8 (b + 1) (10 * 0 + (byteAt s b - 48)) 1 rfl (Nat.le_refl _) (by omega) (h.next hc (hx c hdg)) (fun x hx => by
    rw [seg_snoc (Nat.le_refl _) hc, seg_nil] at hx
    rw [List.mem_singleton.1 hx]; exact hdg) (by omega) (by
    rw [seg_snoc (Nat.le_refl _) hc, seg_nil]
    simp only [digsZ, List.nil_append, List.foldl_cons, List.foldl_nil]
    rw [← hcb]
    omega)
  exact ⟨d', g1, g2, g3, g4, g5, g6, g7, by omega⟩

def termN (t : Tok) : Nat × Int := ((termZ t).1.toNat, (termZ t).2)

/-- What a term does. -/
def TermQ (s : ByteArray) (j k p : Nat) : Except Nat ((Nat × Int) × Nat) → Prop
  | .error q => Bad (bytesL s) q
  | .ok (t, q) => ∃ x tok, AtQ (bytesL s) q x ∧ TermEnd s j k q x ∧ isItem tok = true ∧ termN tok = t ∧ (isDg (byteAt s q) = false → Cut (bytesL s) p [tok] q)

theorem not_dig_end {s : ByteArray} {q : Nat} (h : isDg (byteAt s q) = false) : ∀ c r, (bytesL s).drop q = c :: r → qDigit c = false := next_of (fun c hc => dig_neg hc h)

theorem num_q {s : ByteArray} {j k p : Nat} (h : AtQ (bytesL s) p (Sum.inr (Sum.inr (Sum.inl (Sum.inl (j, k)))))) (hv : isVr (byteAt s p) = false) (h32 : byteAt s p ≠ 32) :
    TermQ s j k p (match numP s p with | .error q => .error q | .ok (z, q) => .ok ((0, z), q)) := by
  by_cases hm : byteAt s p = 45
  · have hc := (byte_is hm (by omega)).1
    have h1 : AtQ (bytesL s) (p + 1) (Sum.inr (Sum.inr (Sum.inl (Sum.inr (Sum.inl (j, k)))))) := h.next hc (by simp [qStep, qVar])
    cases hd : isDg (byteAt s (p + 1)) with
    | false =>
      have e : numP s p = .error (p + 1) := by simp [numP, hm, digF_stop hd]
      rw [e]
      exact h1.badAt (fun c hc' => by simp [qStep, dig_neg hc' hd]) (.inl rfl)
    | true =>
      obtain ⟨d, g1, g2, g3, g4, g5, g6, g7, g8⟩ := digs_q (j := j) (k := k) h1 (fun c hc' => by simp [qStep, hc']) hd
      have e : numP s p = .ok (-((digF s 9 (p + 1) 0).1 : Int), (digF s 9 (p + 1) 0).2) := by simp [numP, hm]; omega
      rw [e]
      have hq : (digF s 9 (p + 1) 0).2 ≤ (bytesL s).length := g3.1
      have hseg : seg (bytesL s) p (digF s 9 (p + 1) 0).2 = 45 :: seg (bytesL s) (p + 1) (digF s 9 (p + 1) 0).2 := seg_cons (by omega) hc
      have hl := seg_len (bs := bytesL s) (p := p + 1) (q := (digF s 9 (p + 1) 0).2) (by omega) hq
      refine ⟨_, Sum.inr (Sum.inr (Sum.inr (seg (bytesL s) p (digF s 9 (p + 1) 0).2))), g3, .inr ⟨d, rfl, g4⟩, rfl, ?_, fun hnd => ?_⟩
      · rw [hseg]; simp [termN, termZ, numZ, g7]
      · apply Cut.one
        rw [hseg]
        have hdrop := seg_drop (bs := bytesL s) (p := p) (q := (digF s 9 (p + 1) 0).2) (by omega)
        rw [hdrop, hseg, toks_minus p _ _ (fun e' => by rw [e'] at hl; simp at hl; omega) (by omega) g5 (not_dig_end hnd), hl]
        rw [show p + ((digF s 9 (p + 1) 0).2 - (p + 1) + 1) = (digF s 9 (p + 1) 0).2 by omega]
  · cases hd : isDg (byteAt s p) with
    | false =>
      have e : numP s p = .error p := by simp [numP, hm, digF_stop hd]
      rw [e]
      refine h.badAt (fun c hc' => ?_) (.inl rfl)
      have e1 : c ≠ 32 := fun e' => h32 ((byte_case hc' (by omega)).1 e')
      have e2 : c ≠ 45 := fun e' => hm ((byte_case hc' (by omega)).1 e')
      have e3 : qVar c = false := by rw [← isVr_q, ← byte_at hc']; exact hv
      simp [qStep, e1, e2, e3, dig_neg hc' hd]
    | true =>
      obtain ⟨d, g1, g2, g3, g4, g5, g6, g7, g8⟩ := digs_q (j := j) (k := k) h (fun c hc' => by
        obtain ⟨n1, n2, n3, n4, n5, n6⟩ := digit_ne hc'
        simp [qStep, hc', n1, n6, digit_var hc']) hd
      have e : numP s p = .ok (((digF s 9 p 0).1 : Int), (digF s 9 p 0).2) := by simp [numP, hm]; omega
      rw [e]
      have hq : (digF s 9 p 0).2 ≤ (bytesL s).length := g3.1
      have hl := seg_len (bs := bytesL s) (p := p) (q := (digF s 9 p 0).2) (by omega) hq
      refine ⟨_, Sum.inr (Sum.inr (Sum.inr (seg (bytesL s) p (digF s 9 p 0).2))), g3, .inr ⟨d, rfl, g4⟩, rfl, ?_, fun hnd => ?_⟩
      · obtain ⟨c, hc, hcb, _⟩ := at_byte (show byteAt s p ≠ 0 from fun e' => by rw [e'] at hd; cases hd)
        have hs : seg (bytesL s) p (digF s 9 p 0).2 = c :: seg (bytesL s) (p + 1) (digF s 9 p 0).2 := seg_cons (by omega) hc
        have hc45 : c ≠ 45 := fun e' => hm ((byte_case hc (by omega)).1 e')
        rw [g7, hs]
        simp [termN, termZ, numZ, hc45]
      · apply Cut.one
        have hdrop := seg_drop (bs := bytesL s) (p := p) (q := (digF s 9 p 0).2) (by omega)
        rw [hdrop, toks_number p _ _ (fun e' => by rw [e'] at hl; simp at hl; omega) (by omega) g5 (not_dig_end hnd), hl]
        rw [show p + ((digF s 9 p 0).2 - p) = (digF s 9 p 0).2 by omega]

theorem term_q {s : ByteArray} {j k p : Nat} (h : AtQ (bytesL s) p (Sum.inr (Sum.inr (Sum.inl (Sum.inl (j, k)))))) : TermQ s j k p (termP s p) := by
  have h1 := skip_at (by simp [qStep]) h
  have hcut := skip_cut s p
  have h32 := skip_ne s p
  unfold termP
  cases hv : isVr (byteAt s (skipP s p)) with
  | true =>
    rw [if_pos rfl]
    obtain ⟨c, hc, hcb, _⟩ := at_byte (show byteAt s (skipP s p) ≠ 0 from fun e' => by rw [e'] at hv; cases hv)
    have hvc : qVar c = true := by rw [← isVr_q, ← hcb]; exact hv
    refine ⟨_, Sum.inr (Sum.inl (c, skipP s p)), h1.next hc (by simp [qStep, (var_ne hvc).1, hvc]), .inl rfl, rfl, ?_, fun _ => hcut.trans (cut_var hc hvc)⟩
    rw [hcb]; rfl
  | false =>
    rw [if_neg (by simp)]
    have := num_q h1 hv h32
    revert this
    cases numP s (skipP s p) with
    | error q => exact fun h => h
    | ok r =>
      obtain ⟨z, q⟩ := r
      rintro ⟨x, tok, g1, g2, g3, g4, g5⟩
      exact ⟨x, tok, g1, g2, g3, g4, fun hnd => hcut.trans (g5 hnd)⟩

end Go.Proofs.YtgddkjhknlgbbaaGreatDoor

namespace Go.Proofs.YtgddkjhknlgbbaaGreatDoor
set_option linter.unusedVariables false
set_option linter.unusedSimpArgs false

theorem itemsT_comma {t : Tok} (h : isItem t = true) (r : List Tok) : itemsT false (Sum.inl (true, false) :: t :: r) = itemsT true (t :: r) := by
  cases t using Tok.el <;> simp [isItem] at h <;> simp [itemsT]
theorem itemsT_first {t : Tok} (h : isItem t = true) (r : List Tok) : itemsT true (t :: r) = (itemsT false r).map fun x => (t :: x.1, x.2) := by
  cases t using Tok.el <;> simp [isItem] at h <;> simp [itemsT]

/-- What stands behind a term. -/
theorem after_term {s : ByteArray} {j k q : Nat} {x : QSt} (h : AtQ (bytesL s) q x) (hx : TermEnd s j k q x) :
    (byteAt s (skipP s q) = 44 → k + 1 < 3 → AtQ (bytesL s) (skipP s q + 1) (Sum.inr (Sum.inr (Sum.inl (Sum.inl (j, k + 1))))) ∧ isDg (byteAt s q) = false) ∧
    (byteAt s (skipP s q) = 41 → AtQ (bytesL s) (skipP s q + 1) (Sum.inr (Sum.inl (Sum.inr (Sum.inr (Sum.inr (Sum.inr (Sum.inr (j + 1)))))))) ∧ isDg (byteAt s q) = false) ∧
    (byteAt s (skipP s q) ≠ 41 → ¬ (byteAt s (skipP s q) = 44 ∧ k + 1 < 3) → Bad (bytesL s) (skipP s q)) ∧
    (∃ x', AtQ (bytesL s) (skipP s q) x' ∧ TermEnd s j k (skipP s q) x') := by
  have h32 := skip_ne s q
  by_cases hb : byteAt s q = 32
  · -- a blank: the number is over
    have hc := (byte_is hb (by omega)).1
    have hp := (byte_is hb (by omega)).2
    have hnd : isDg (byteAt s q) = false := by rw [hb]; rfl
    have h1 : AtQ (bytesL s) (q + 1) (Sum.inr (Sum.inr (Sum.inl (Sum.inr (Sum.inr (j, k + 1)))))) := by
      rcases hx with rfl | ⟨d, rfl, _⟩
      · exact h.next hc (by simp [qStep])
      · exact h.next hc (by simp [qStep, qDigit])
    have e : skipP s q = skipP s (q + 1) := runP_go hp (by rw [hb]; rfl)
    have h2 := skip_at (by simp [qStep]) h1
    rw [← e] at h2
    refine ⟨fun h44 hk => ⟨h2.next (byte_is h44 (by omega)).1 (by simp [qStep, hk]), hnd⟩, fun h41 => ⟨h2.next (byte_is h41 (by omega)).1 (by simp [qStep]), hnd⟩, fun n41 n44 => ?_, _, h2, .inl rfl⟩
    refine h2.badAt (fun c hc' => ?_) (.inl rfl)
    have e1 : c ≠ 32 := fun e' => h32 ((byte_case hc' (by omega)).1 e')
    have e2 : c ≠ 41 := fun e' => n41 ((byte_case hc' (by omega)).1 e')
    by_cases e3 : c = 44
    · have : ¬ k + 1 < 3 := fun hk => n44 ⟨(byte_case hc' (by omega)).1 e3, hk⟩
      simp [qStep, e1, e2, e3, this]
    · simp [qStep, e1, e2, e3]
  · have e : skipP s q = q := runP_stop (by simp [isBl, hb])
    rw [e]
    have nd44 : byteAt s q = 44 → isDg (byteAt s q) = false := fun h => by rw [h]; rfl
    have nd41 : byteAt s q = 41 → isDg (byteAt s q) = false := fun h => by rw [h]; rfl
    refine ⟨fun h44 hk => ⟨?_, nd44 h44⟩, fun h41 => ⟨?_, nd41 h41⟩, fun n41 n44 => ?_, x, h, hx⟩
    · have hc := (byte_is h44 (by omega)).1
      rcases hx with rfl | ⟨d, rfl, _⟩
      · exact h.next hc (by simp [qStep, hk])
      · exact h.next hc (by simp [qStep, qDigit, hk])
    · have hc := (byte_is h41 (by omega)).1
      rcases hx with rfl | ⟨d, rfl, _⟩
      · exact h.next hc (by simp [qStep])
      · exact h.next hc (by simp [qStep, qDigit])
    · refine h.badAt (fun c hc' => ?_) (.inl (by rcases hx with rfl | ⟨d, rfl, _⟩ <;> rfl))
      have e1 : c ≠ 32 := fun e' => hb ((byte_case hc' (by omega)).1 e')
      have e2 : c ≠ 41 := fun e' => n41 ((byte_case hc' (by omega)).1 e')
      have e3 : ¬ (c = 44 ∧ k + 1 < 3) := fun e' => n44 ⟨(byte_case hc' (by omega)).1 e'.1, e'.2⟩
      rcases hx with rfl | ⟨d, rfl, hd⟩
      · simp [qStep, e1, e2]
        exact fun a => by
          rcases Nat.lt_or_ge k 2 with h9 | h9
          · exact absurd ⟨a, by omega⟩ e3
          · exact h9
      · cases hdg : qDigit c with
        | true =>
          rcases hd with rfl | hd
          · simp [qStep, hdg]
          · rw [dig_neg hc' hd] at hdg; cases hdg
        | false =>
          simp [qStep, hdg, e1, e2]
          exact fun a => by
            rcases Nat.lt_or_ge k 2 with h9 | h9
            · exact absurd ⟨a, by omega⟩ e3
            · exact h9

/-- What a list of terms does: k stand ahead. -/
def TermsQ (s : ByteArray) (j k m p : Nat) (acc : List (Nat × Int)) : Except Nat (List (Nat × Int) × Nat) → Prop
  | .error q => Bad (bytesL s) q
  | .ok (ts, q) => ∃ x its n, AtQ (bytesL s) q x ∧ TermEnd s j n q x ∧ k ≤ n ∧ n + 1 = k + its.length ∧ its.length ≤ m ∧ (n + 1 < 3 → byteAt s (skipP s q) ≠ 44) ∧ ts = acc ++ its.map termN ∧ (isDg (byteAt s q) = false → ∃ l, Cut (bytesL s) p l q ∧ ∀ r, itemsT true (l ++ Sum.inl (false, true) :: r) = some (its, r))

theorem skip_skip (s : ByteArray) (p : Nat) : skipP s (skipP s p) = skipP s p := runP_stop (by simp [isBl, skip_ne])

theorem terms_q {s : ByteArray} {j : Nat} : ∀ (m k p : Nat) (acc : List (Nat × Int)), k + (m + 1) = 3 → AtQ (bytesL s) p (Sum.inr (Sum.inr (Sum.inl (Sum.inl (j, k))))) → TermsQ s j k (m + 1) p acc (listP (termP s) s (m + 1) p acc)
  | m, k, p, acc, hk, h => by
    have ht := term_q h
    unfold listP
    cases e : termP s p with
    | error q => rw [e] at ht; exact ht
    | ok r =>
      obtain ⟨t, q⟩ := r
      rw [e] at ht
      obtain ⟨x, tok, g1, g2, g3, g4, g5⟩ := ht
      obtain ⟨a1, a2, a3, x', a4, a5⟩ := after_term g1 g2
      dsimp only
      have hend : ∀ r, itemsT true ([tok] ++ Sum.inl (false, true) :: r) = some ([tok], r) := fun r => by
        show itemsT true (tok :: Sum.inl (false, true) :: r) = _
        rw [itemsT_first g3]
        simp [itemsT]
      by_cases hm : m = 0
      · rw [if_pos hm]
        exact ⟨x, [tok], k, g1, g2, Nat.le_refl _, rfl, by simp, fun hn => by omega, by simp [g4], fun hnd => ⟨[tok], g5 hnd, hend⟩⟩
      · rw [if_neg hm]
        by_cases h44 : byteAt s (skipP s q) = 44
        · rw [if_pos h44]
          obtain ⟨m', rfl⟩ : ∃ m', m = m' + 1 := ⟨m - 1, by omega⟩
          obtain ⟨b1, b2⟩ := a1 h44 (by omega)
          have ih := terms_q m' (k + 1) (skipP s q + 1) (acc ++ [t]) (by omega) b1
          revert ih
          cases listP (termP s) s (m' + 1) (skipP s q + 1) (acc ++ [t]) with
          | error q' => exact fun h => h
          | ok r' =>
            obtain ⟨ts, q'⟩ := r'
            rintro ⟨y, its, n, c1, c2, c3, c4, c5, c6, c7, c8⟩
            refine ⟨y, tok :: its, n, c1, c2, by omega, by simp; omega, by simp; omega, c6, by rw [c7, ← g4]; simp, fun hnd => ?_⟩
            obtain ⟨l, d1, d2⟩ := c8 hnd
            refine ⟨tok :: Sum.inl (true, false) :: l, ?_, fun r => ?_⟩
            · have := (((g5 b2).trans (skip_cut s q)).trans (cut_sign (byte_is h44 (by omega)).1 (.inr (.inr ⟨rfl, rfl⟩)))).trans d1
              simpa using this
            · have hl := d2 r
              cases l with
              | nil =>
                simp only [List.nil_append, itemsT] at hl
                injection hl with hl
                rw [show its = [] from (Prod.mk.inj hl).1.symm] at c4
                simp at c4
                omega
              | cons t2 l2 =>
                have hi : isItem t2 = true := by
                  cases t2 using Tok.el with
                  | v c i => rfl
                  | d s => rfl
                  | rp =>
                    simp only [List.cons_append, itemsT] at hl
                    injection hl with hl
                    rw [show its = [] from (Prod.mk.inj hl).1.symm] at c4
                    simp at c4
                    omega
                  | lp => simp [itemsT] at hl
                  | cm => simp [itemsT] at hl
                  | co => simp [itemsT] at hl
                  | n a b => simp [itemsT] at hl
                show itemsT true (tok :: Sum.inl (true, false) :: (t2 :: l2 ++ Sum.inl (false, true) :: r)) = _
                rw [itemsT_first g3]
                show (itemsT false (Sum.inl (true, false) :: t2 :: (l2 ++ Sum.inl (false, true) :: r))).map _ = _
                rw [itemsT_comma hi]
                rw [show itemsT true (t2 :: (l2 ++ Sum.inl (false, true) :: r)) = some (its, r) from hl]
                rfl
        · rw [if_neg h44]
          have hnd' : isDg (byteAt s (skipP s q)) = false → isDg (byteAt s q) = false := fun hn => by
            by_cases hb : byteAt s q = 32
            · rw [hb]; rfl
            · have e' : skipP s q = q := runP_stop (by simp [isBl, hb])
              rw [e'] at hn; exact hn
          refine ⟨x', [tok], k, a4, a5, Nat.le_refl _, rfl, by simp, fun _ => by rw [skip_skip]; exact h44, by simp [g4], fun hnd => ⟨[tok], by simpa using (g5 (hnd' hnd)).trans (skip_cut s q), hend⟩⟩

end Go.Proofs.YtgddkjhknlgbbaaGreatDoor

namespace Go.Proofs.YtgddkjhknlgbbaaGreatDoor
set_option linter.unusedVariables false
set_option linter.unusedSimpArgs false

/-- The bracket behind a name. -/
theorem open_q {s : ByteArray} {j e : Nat} (h : AtQ (bytesL s) e (Sum.inr (Sum.inl (Sum.inr (Sum.inr (Sum.inr (Sum.inl j))))))) (hl : isLt (byteAt s e) = false) :
    match mustP s 40 e with
    | .error q => Bad (bytesL s) q
    | .ok q => AtQ (bytesL s) q (Sum.inr (Sum.inr (Sum.inl (Sum.inl (j, 0))))) ∧ q = skipP s e + 1 ∧ (bytesL s)[skipP s e]? = some 40 := by
  by_cases hb : byteAt s e = 32
  · have hc := (byte_is hb (by omega)).1
    have hp := (byte_is hb (by omega)).2
    have h1 : AtQ (bytesL s) (e + 1) (Sum.inr (Sum.inl (Sum.inr (Sum.inr (Sum.inr (Sum.inr (Sum.inl j))))))) := h.next hc (by simp [qStep, qSmall])
    have es : skipP s e = skipP s (e + 1) := runP_go hp (by rw [hb]; rfl)
    have hm : mustP s 40 e = mustP s 40 (e + 1) := by unfold mustP; rw [es]
    have := must_q (s := s) (p := e + 1) (n := 40) (y := Sum.inr (Sum.inr (Sum.inl (Sum.inl (j, 0))))) (by omega) (by omega) (by omega) h1 (by simp [qStep]) (by simp [qStep]) (fun c c1 c2 => by
      have c2 : c ≠ 40 := c2
      simp [qStep, c1, c2]) rfl
    rw [hm, es]
    exact this
  · have es : skipP s e = e := runP_stop (by simp [isBl, hb])
    unfold mustP
    rw [es]
    by_cases h40 : byteAt s e = 40
    · rw [if_pos h40]
      have hc := (byte_is h40 (by omega)).1
      exact ⟨h.next hc (by simp [qStep, qSmall]), rfl, hc⟩
    · rw [if_neg h40]
      refine h.badAt (fun c hc' => ?_) (.inl rfl)
      have e1 : c ≠ 32 := fun e' => hb ((byte_case hc' (by omega)).1 e')
      have e2 : c ≠ 40 := fun e' => h40 ((byte_case hc' (by omega)).1 e')
      have e3 : qSmall c = false := by rw [← isLt_q, ← byte_at hc']; exact hl
      simp [qStep, e1, e2, e3]

def atomN (z : AtomZ) : AtomP := ⟨⟨z.nm.toArray⟩, z.i, z.terms.map fun t => (t.1.toNat, t.2)⟩

/-- What an atom does. -/
def AtomQZ (s : ByteArray) (j p : Nat) : Except Nat (AtomP × Nat) → Prop
  | .error q => Bad (bytesL s) q
  | .ok (a, q) => AtQ (bytesL s) q (Sum.inr (Sum.inl (Sum.inr (Sum.inr (Sum.inr (Sum.inr (Sum.inr (j + 1)))))))) ∧ ∃ nm i its l, a = atomN ⟨nm, i, its.map termZ⟩ ∧ 1 ≤ its.length ∧ its.length ≤ 3 ∧
      Cut (bytesL s) p (Sum.inr (Sum.inr (Sum.inl (nm, i))) :: Sum.inl (false, false) :: (l ++ [Sum.inl (false, true)])) q ∧ ∀ r, itemsT true (l ++ Sum.inl (false, true) :: r) = some (its, r)

theorem atom_q {s : ByteArray} {j p : Nat} (h : AtQ (bytesL s) p (Sum.inr (Sum.inl (Sum.inr (Sum.inr (Sum.inl j)))))) : AtomQZ s j p (atomP s p) := by
  have h1 := skip_at (by simp [qStep]) h
  have hcut := skip_cut s p
  have h32 := skip_ne s p
  unfold atomP
  dsimp only
  by_cases he : lettersP s (skipP s p) = skipP s p
  · rw [if_pos he]
    refine h1.badAt (fun c hc' => ?_) (.inl rfl)
    have e1 : c ≠ 32 := fun e' => h32 ((byte_case hc' (by omega)).1 e')
    have e3 : qSmall c = false := by
      rw [← isLt_q, ← byte_at hc']
      have := run_end isLt0 (s := s) (skipP s p)
      rw [show runP isLt s (skipP s p) = skipP s p from he] at this
      exact this
    simp [qStep, e1, e3]
  · rw [if_neg he]
    obtain ⟨a1, a2, a3, a4⟩ := letters_q h1 he
    have hop := open_q a1 (run_end isLt0 _)
    revert hop
    cases mustP s 40 (lettersP s (skipP s p)) with
    | error q => exact fun h => h
    | ok p1 =>
      rintro ⟨b1, b2, b3⟩
      have hts := terms_q 2 0 p1 [] rfl b1
      dsimp only
      revert hts
      cases listP (termP s) s 3 p1 [] with
      | error q => exact fun h => h
      | ok r =>
        obtain ⟨ts, p2⟩ := r
        rintro ⟨x, its, n, c1, c2, c3, c4, c5, c6, c7, c8⟩
        obtain ⟨d1, d2, d3, _⟩ := after_term c1 c2
        dsimp only
        unfold mustP
        by_cases h41 : byteAt s (skipP s p2) = 41
        · rw [if_pos h41]
          obtain ⟨e1, e2⟩ := d2 h41
          obtain ⟨l, g1, g2⟩ := c8 e2
          refine ⟨e1, seg (bytesL s) (skipP s p) (lettersP s (skipP s p)), skipP s p, its, l, ?_, by omega, by omega, ?_, g2⟩
          · rw [c7, List.nil_append]
            unfold atomN
            congr 1
            · rw [← extract_seg s _ _ (by omega) a4]
            · rw [List.map_map]; rfl
          · have hlp := skip_cut s (lettersP s (skipP s p))
            have := (((((hcut.trans a2).trans hlp).trans (cut_sign b3 (.inl ⟨rfl, rfl⟩))).trans (b2 ▸ g1)).trans (skip_cut s p2)).trans (cut_sign (byte_is h41 (by omega)).1 (.inr (.inl ⟨rfl, rfl⟩)))
            simpa using this
        · rw [if_neg h41]
          exact d3 h41 (fun hx => c6 hx.2 hx.1)

/-- What a body's list does: j atoms stand ahead. -/
def AtomsQZ (s : ByteArray) (j p : Nat) (acc : List AtomP) : Except Nat (List AtomP × Nat) → Prop
  | .error q => Bad (bytesL s) q
  | .ok (ats, q) => ∃ n zs l, AtQ (bytesL s) q (Sum.inr (Sum.inl (Sum.inr (Sum.inr (Sum.inr (Sum.inr (Sum.inr n))))))) ∧ n ≤ 4 ∧ (n < 4 → byteAt s (skipP s q) ≠ 44) ∧ ats = acc ++ zs.map atomN ∧ Cut (bytesL s) p l q ∧ ∀ f, l.length < f → atomsZ f l = zs

theorem atoms_q {s : ByteArray} : ∀ (m j p : Nat) (acc : List AtomP), j + (m + 1) = 4 → AtQ (bytesL s) p (Sum.inr (Sum.inl (Sum.inr (Sum.inr (Sum.inl j))))) → AtomsQZ s j p acc (listP (atomP s) s (m + 1) p acc)
  | m, j, p, acc, hk, h => by
    have ha := atom_q h
    unfold listP
    cases e : atomP s p with
    | error q => rw [e] at ha; exact ha
    | ok r =>
      obtain ⟨a, q⟩ := r
      rw [e] at ha
      obtain ⟨g1, nm, i, its, l, g2, g3, g4, g5, g6⟩ := ha
      have hs1 := skip_at (by simp [qStep]) g1
      dsimp only
      have hone : ∀ f, (Sum.inr (Sum.inr (Sum.inl (nm, i))) :: Sum.inl (false, false) :: (l ++ [Sum.inl (false, true)]) : List Tok).length < f → atomsZ f (Sum.inr (Sum.inr (Sum.inl (nm, i))) :: Sum.inl (false, false) :: (l ++ [Sum.inl (false, true)])) = [⟨nm, i, its.map termZ⟩] := fun f hf => by
        obtain ⟨f, rfl⟩ : ∃ g, f = g + 1 := ⟨f - 1, by omega⟩
        simp only [atomsZ, g6 []]
      by_cases hm : m = 0
      · rw [if_pos hm]
        exact ⟨j + 1, [⟨nm, i, its.map termZ⟩], _, g1, by omega, fun hn => by omega, by simp [g2], g5, hone⟩
      · rw [if_neg hm]
        by_cases h44 : byteAt s (skipP s q) = 44
        · rw [if_pos h44]
          obtain ⟨m', rfl⟩ : ∃ m', m = m' + 1 := ⟨m - 1, by omega⟩
          have hcm := (byte_is h44 (by omega)).1
          have ih := atoms_q m' (j + 1) (skipP s q + 1) (acc ++ [a]) (by omega) (hs1.next hcm (by simp [qStep]; omega))
          revert ih
          cases listP (atomP s) s (m' + 1) (skipP s q + 1) (acc ++ [a]) with
          | error q' => exact fun h => h
          | ok r' =>
            obtain ⟨ats, q'⟩ := r'
            rintro ⟨n, zs, l2, c1, c2, c3, c4, c5, c6⟩
            refine ⟨n, ⟨nm, i, its.map termZ⟩ :: zs, Sum.inr (Sum.inr (Sum.inl (nm, i))) :: Sum.inl (false, false) :: (l ++ Sum.inl (false, true) :: Sum.inl (true, false) :: l2), c1, c2, c3, by rw [c4, g2]; simp, ?_, fun f hf => ?_⟩
            · have := ((g5.trans (skip_cut s q)).trans (cut_sign hcm (.inr (.inr ⟨rfl, rfl⟩)))).trans c5
              simpa using this
            · obtain ⟨f, rfl⟩ : ∃ g, f = g + 1 := ⟨f - 1, by omega⟩
              simp only [atomsZ, g6 (Sum.inl (true, false) :: l2)]
              rw [c6 f (by simp at hf; omega)]
        · rw [if_neg h44]
          exact ⟨j + 1, [⟨nm, i, its.map termZ⟩], _, hs1, by omega, fun _ => by rw [skip_skip]; exact h44, by simp [g2], by simpa using g5.trans (skip_cut s q), hone⟩

end Go.Proofs.YtgddkjhknlgbbaaGreatDoor

namespace Go.Proofs.YtgddkjhknlgbbaaGreatDoor
set_option linter.unusedVariables false
set_option linter.unusedSimpArgs false

def headN (x : UInt8 × Nat) : Nat × Nat := (x.1.toNat, x.2)

/-- What a head's list does: k variables stand ahead. -/
def HeadsQZ (s : ByteArray) (p : Nat) (acc : List (Nat × Nat)) : Except Nat (List (Nat × Nat) × Nat) → Prop
  | .error q => Bad (bytesL s) q
  | .ok (hs, q) => ∃ n its l, AtQ (bytesL s) q (Sum.inr (Sum.inl (Sum.inl n))) ∧ n ≤ 4 ∧ its ≠ [] ∧ (n < 4 → byteAt s (skipP s q) ≠ 44) ∧ hs = acc ++ (headZ its).map headN ∧ Cut (bytesL s) p l q ∧ ∀ r, itemsT true (l ++ Sum.inl (false, true) :: r) = some (its, r)

theorem heads_q {s : ByteArray} : ∀ (m k p : Nat) (x : QSt) (acc : List (Nat × Nat)), k + (m + 1) = 4 → AtQ (bytesL s) p x → qStep x 32 = some x → (∀ c, qVar c = true → qStep x c = some (Sum.inr (Sum.inl (Sum.inl (k + 1))))) → qEnd x = false → (∀ c, c ≠ 32 → qVar c = false → byteAt s (skipP s p) = c.toNat → qStep x c = none) → HeadsQZ s p acc (listP (headVarP s) s (m + 1) p acc)
  | m, k, p, x, acc, hk, h, hb, hv, he, ho => by
    have h1 := skip_at hb h
    have hcut := skip_cut s p
    have h32 := skip_ne s p
    unfold listP
    cases hvr : isVr (byteAt s (skipP s p)) with
    | false =>
      rw [show headVarP s p = .error (skipP s p) from by unfold headVarP; rw [hvr, if_neg (by simp)]]
      refine h1.badAt (fun c hc' => ?_) (.inl he)
      have e1 : c ≠ 32 := fun e' => h32 ((byte_case hc' (by omega)).1 e')
      have e3 : qVar c = false := by rw [← isVr_q, ← byte_at hc']; exact hvr
      exact ho c e1 e3 (byte_at hc')
    | true =>
      rw [show headVarP s p = .ok ((byteAt s (skipP s p), skipP s p), skipP s p + 1) from by unfold headVarP; rw [hvr, if_pos rfl]]
      obtain ⟨c, hc, hcb, _⟩ := at_byte (show byteAt s (skipP s p) ≠ 0 from fun e' => by rw [e'] at hvr; cases hvr)
      have hvc : qVar c = true := by rw [← isVr_q, ← hcb]; exact hvr
      have g1 := h1.next hc (hv c hvc)
      have hs1 := skip_at (by simp [qStep]) g1
      have g5 := hcut.trans (cut_var hc hvc)
      dsimp only
      have hend : ∀ r, itemsT true ([Sum.inr (Sum.inl (c, skipP s p))] ++ Sum.inl (false, true) :: r) = some ([Sum.inr (Sum.inl (c, skipP s p))], r) := fun r => by simp [itemsT]
      by_cases hm : m = 0
      · rw [if_pos hm]
        exact ⟨k + 1, [Sum.inr (Sum.inl (c, skipP s p))], _, g1, by omega, by simp, fun hn => by omega, by simp [headZ, headN, hcb], g5, hend⟩
      · rw [if_neg hm]
        by_cases h44 : byteAt s (skipP s (skipP s p + 1)) = 44
        · rw [if_pos h44]
          obtain ⟨m', rfl⟩ : ∃ m', m = m' + 1 := ⟨m - 1, by omega⟩
          have hcm := (byte_is h44 (by omega)).1
          have ih := heads_q m' (k + 1) (skipP s (skipP s p + 1) + 1) (Sum.inr (Sum.inl (Sum.inr (Sum.inl (k + 1))))) (acc ++ [(byteAt s (skipP s p), skipP s p)]) (by omega) (hs1.next hcm (by simp [qStep]; omega)) (by simp [qStep]) (fun c' hc' => by simp [qStep, (var_ne hc').1, hc']) rfl (fun c' n1 n2 _ => by simp [qStep, n1, n2])
          revert ih
          cases listP (headVarP s) s (m' + 1) (skipP s (skipP s p + 1) + 1) (acc ++ [(byteAt s (skipP s p), skipP s p)]) with
          | error q' => exact fun h => h
          | ok r' =>
            obtain ⟨hs, q'⟩ := r'
            rintro ⟨n, its, l2, c1, c2, c2', c3, c4, c5, c6⟩
            refine ⟨n, Sum.inr (Sum.inl (c, skipP s p)) :: its, Sum.inr (Sum.inl (c, skipP s p)) :: Sum.inl (true, false) :: l2, c1, c2, by simp, c3, by rw [c4]; simp [headZ, headN, hcb], ?_, fun r => ?_⟩
            · have := ((g5.trans (skip_cut s _)).trans (cut_sign hcm (.inr (.inr ⟨rfl, rfl⟩)))).trans c5
              simpa using this
            · have hl := c6 r
              cases l2 with
              | nil =>
                simp only [List.nil_append, itemsT] at hl
                injection hl with hl
                exact absurd (Prod.mk.inj hl).1.symm c2'
              | cons t2 l2 =>
                have hi : isItem t2 = true := by
                  cases t2 using Tok.el with
                  | v c i => rfl
                  | d s => rfl
                  | rp =>
                    simp only [List.cons_append, itemsT] at hl
                    injection hl with hl
                    exact absurd (Prod.mk.inj hl).1.symm c2'
                  | lp => simp [itemsT] at hl
                  | cm => simp [itemsT] at hl
                  | co => simp [itemsT] at hl
                  | n a b => simp [itemsT] at hl
                show itemsT true (Sum.inr (Sum.inl (c, skipP s p)) :: Sum.inl (true, false) :: (t2 :: l2 ++ Sum.inl (false, true) :: r)) = _
                rw [itemsT_first rfl]
                show (itemsT false (Sum.inl (true, false) :: t2 :: (l2 ++ Sum.inl (false, true) :: r))).map _ = _
                rw [itemsT_comma hi]
                rw [show itemsT true (t2 :: (l2 ++ Sum.inl (false, true) :: r)) = some (its, r) from hl]
                rfl
        · rw [if_neg h44]
          exact ⟨k + 1, [Sum.inr (Sum.inl (c, skipP s p))], _, hs1, by omega, by simp, fun _ => by rw [skip_skip]; exact h44, by simp [headZ, headN, hcb], by simpa using g5.trans (skip_cut s _), hend⟩

def HeadQZ (s : ByteArray) : Except Nat (List (Nat × Nat) × Nat) → Prop
  | .error q => Bad (bytesL s) q
  | .ok (hs, q) => ∃ its l, AtQ (bytesL s) q (Sum.inl (true, false)) ∧ hs = (headZ its).map headN ∧ Cut (bytesL s) 0 (Sum.inl (false, false) :: l) q ∧ ∀ r, itemsT true (l ++ r) = some (its, r)

theorem head_q (s : ByteArray) : HeadQZ s (headP s 0) := by
  have hm := must_q (s := s) (p := 0) (n := 40) (y := Sum.inl (false, true)) (by omega) (by omega) (by omega) (AtQ.start (bytesL s)) (by simp [qStep]) (by simp [qStep]) (fun c c1 c2 => by
    have c2 : c ≠ 40 := c2
    simp [qStep, c1, c2]) rfl
  unfold headP
  revert hm
  cases mustP s 40 0 with
  | error q => exact fun h => h
  | ok p1 =>
    rintro ⟨h1, e1, e2⟩
    have hs1 := skip_at (by simp [qStep]) h1
    have k0 := (skip_cut s 0).trans (cut_sign e2 (.inl ⟨rfl, rfl⟩))
    rw [← e1] at k0
    dsimp only
    by_cases h41 : byteAt s (skipP s p1) = 41
    · rw [if_pos h41]
      have hc := (byte_is h41 (by omega)).1
      refine ⟨[], [Sum.inl (false, true)], hs1.next hc (by simp [qStep]), rfl, by simpa using (k0.trans (skip_cut s p1)).trans (cut_sign hc (.inr (.inl ⟨rfl, rfl⟩))), fun r => by simp [itemsT]⟩
    · rw [if_neg h41]
      have hl := heads_q 3 0 (skipP s p1) (Sum.inl (false, true)) [] rfl hs1 (by simp [qStep]) (fun c hc => by
        obtain ⟨n1, n2, n3, n4, n5, n6⟩ := var_ne hc
        simp [qStep, n1, n3, hc]) rfl (fun c n1 n2 hcb => by
        have n3 : c ≠ 41 := fun e => h41 (by rw [skip_skip] at hcb; rw [hcb, e]; rfl)
        simp [qStep, n1, n2, n3])
      revert hl
      cases listP (headVarP s) s 4 (skipP s p1) [] with
      | error q => exact fun h => h
      | ok r =>
        obtain ⟨hs, p2⟩ := r
        rintro ⟨n, its, l, c1, c2, c2', c3, c4, c5, c6⟩
        dsimp only
        have hs2 := skip_at (by simp [qStep]) c1
        unfold mustP
        by_cases h41' : byteAt s (skipP s p2) = 41
        · rw [if_pos h41']
          have hc := (byte_is h41' (by omega)).1
          refine ⟨its, l ++ [Sum.inl (false, true)], hs2.next hc (by simp [qStep]), by simpa using c4, by simpa using (((k0.trans (skip_cut s p1)).trans c5).trans (skip_cut s p2)).trans (cut_sign hc (.inr (.inl ⟨rfl, rfl⟩))), fun r => by simpa using c6 r⟩
        · rw [if_neg h41']
          refine hs2.badAt (fun c hc' => ?_) (.inl rfl)
          have n1 : c ≠ 32 := fun e' => skip_ne s p2 ((byte_case hc' (by omega)).1 e')
          have n2 : c ≠ 41 := fun e' => h41' ((byte_case hc' (by omega)).1 e')
          have n3 : ¬ (c = 44 ∧ n < 4) := fun e' => c3 e'.2 ((byte_case hc' (by omega)).1 e'.1)
          simp only [qStep, n1, n2, n3, if_false]

theorem mark_q {s : ByteArray} {p : Nat} (h : AtQ (bytesL s) p (Sum.inl (true, false))) :
    match markP s p with
    | .error q => Bad (bytesL s) q
    | .ok q => AtQ (bytesL s) q (Sum.inr (Sum.inl (Sum.inr (Sum.inr (Sum.inl 0))))) ∧ Cut (bytesL s) p [Sum.inl (true, true)] q := by
  have hm := must_q (s := s) (p := p) (n := 58) (y := Sum.inl (true, true)) (by omega) (by omega) (by omega) h (by simp [qStep]) (by simp [qStep]) (fun c c1 c2 => by
    have c2 : c ≠ 58 := c2
    simp [qStep, c1, c2]) rfl
  unfold markP
  revert hm
  cases mustP s 58 p with
  | error q => exact fun h => h
  | ok p1 =>
    rintro ⟨h1, e1, e2⟩
    dsimp only
    by_cases h45 : byteAt s p1 = 45
    · rw [if_pos h45]
      have hc := (byte_is h45 (by omega)).1
      have e2 : (bytesL s)[skipP s p]? = some 58 := e2
      refine ⟨h1.next hc (by simp [qStep]), ?_⟩
      rw [e1] at hc ⊢
      exact (skip_cut s p).trans (cut_mark e2 hc)
    · rw [if_neg h45]
      refine h1.badAt (fun c hc' => ?_) (.inl rfl)
      have n1 : c ≠ 45 := fun e' => h45 ((byte_case hc' (by omega)).1 e')
      simp [qStep, n1]

/-- The program's reading against the automaton and the reference's pieces. -/
theorem read_q (s : ByteArray) : match readP s with
    | .error q => Bad (bytesL s) q
    | .ok (hs, ats) => qAcc (bytesL s) = true ∧ ∃ l, qToks 0 (bytesL s) = some l ∧ hs = (queryZ l).head.map headN ∧ ats = (queryZ l).body.map atomN := by
  have hh := head_q s
  unfold readP
  revert hh
  cases headP s 0 with
  | error q => exact fun h => h
  | ok r =>
    obtain ⟨hs, p1⟩ := r
    rintro ⟨its, l, a1, a2, a3, a4⟩
    have hmk := mark_q a1
    dsimp only
    revert hmk
    cases markP s p1 with
    | error q => exact fun h => h
    | ok p2 =>
      rintro ⟨b1, b2⟩
      have hb := atoms_q 3 0 p2 [] rfl b1
      dsimp only
      unfold bodyP
      revert hb
      cases listP (atomP s) s 4 p2 [] with
      | error q => exact fun h => h
      | ok r2 =>
        obtain ⟨ats, p3⟩ := r2
        rintro ⟨n, zs, lb, c1, c2, c3, c4, c5, c6⟩
        dsimp only
        have hs3 := skip_at (by simp [qStep]) c1
        by_cases hend : skipP s p3 < s.size
        · rw [if_pos hend]
          refine hs3.badAt (fun c hc' => ?_) (.inr hend)
          have n1 : c ≠ 32 := fun e' => skip_ne s p3 ((byte_case hc' (by omega)).1 e')
          have n3 : ¬ (c = 44 ∧ n < 4) := fun e' => c3 e'.2 ((byte_case hc' (by omega)).1 e'.1)
          simp only [qStep, n1, n3, if_false]
        · rw [if_neg hend]
          have he : skipP s p3 = (bytesL s).length := Nat.le_antisymm hs3.1 (by rw [bytesL_len]; omega)
          dsimp only
          rw [he] at hs3
          have hcut := ((a3.trans b2).trans c5).trans (skip_cut s p3)
          rw [he] at hcut
          have htoks : qToks 0 (bytesL s) = some (Sum.inl (false, false) :: l ++ [Sum.inl (true, true)] ++ lb ++ []) := by
            have h0 := hcut
            unfold Cut at h0
            rw [List.drop_zero, List.drop_length, show qToks (bytesL s).length [] = some [] from by rw [qToks_eq]] at h0
            simpa using h0
          refine ⟨hs3.acc, _, htoks, ?_, ?_⟩
          · have e : Sum.inl (false, false) :: l ++ [Sum.inl (true, true)] ++ lb ++ [] = (Sum.inl (false, false) : Tok) :: (l ++ Sum.inl (true, true) :: lb) := by simp
            rw [e, a2]
            simp only [queryZ, a4]
          · have e : Sum.inl (false, false) :: l ++ [Sum.inl (true, true)] ++ lb ++ [] = (Sum.inl (false, false) : Tok) :: (l ++ Sum.inl (true, true) :: lb) := by simp
            rw [e, c4]
            simp only [queryZ, a4]
            rw [c6 _ (Nat.lt_succ_self _)]
            simp

end Go.Proofs.YtgddkjhknlgbbaaGreatDoor
