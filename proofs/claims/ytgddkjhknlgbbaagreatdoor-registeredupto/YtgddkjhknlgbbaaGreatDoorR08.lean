import Derived.Test.YtgddkjhknlgbbaaGreatDoorR07
set_option linter.unusedVariables false
set_option linter.unusedSimpArgs false

namespace Go.Proofs.YtgddkjhknlgbbaaGreatDoor
set_option linter.unusedVariables false
set_option linter.unusedSimpArgs false

/-- A piece of the reference's: its mark, its text, its place. -/
structure Pc where
  m : Nat
  s : ByteArray
  i : Nat
def zeroPc : Pc := ⟨0, ⟨#[]⟩, 0⟩
def tokP (x : Pc) : Tok :=
  if x.m = 40 then Sum.inl (false, false) else if x.m = 41 then Sum.inl (false, true) else if x.m = 44 then Sum.inl (true, false) else if x.m = 58 then Sum.inl (true, true)
  else if x.m = 118 then Sum.inr (Sum.inl ((bytesL x.s)[0]?.getD 0, x.i)) else if x.m = 110 then Sum.inr (Sum.inr (Sum.inl (bytesL x.s, x.i))) else Sum.inr (Sum.inr (Sum.inr (bytesL x.s)))
/-- A number's text. -/
def NumS (s : ByteArray) : Prop := 1 ≤ s.size ∧ s.size ≤ 10 ∧ (byteAt s 0 = 45 → 2 ≤ s.size ∧ byteAt s 1 ≠ 45)
/-- As pieces are. -/
def WfPc (x : Pc) : Prop := x.m = 40 ∨ x.m = 41 ∨ x.m = 44 ∨ x.m = 58 ∨ (x.m = 118 ∧ x.s.size = 1) ∨ (x.m = 110 ∧ x.s.size ≤ 1000) ∨ (x.m = 100 ∧ NumS x.s)

theorem span_run {s : ByteArray} {tn : Nat → Bool} {tq : UInt8 → Bool} (h : ∀ c : UInt8, tn c.toNat = tq c) (h0 : tn 0 = false) (p : Nat) : qSpan tq ((bytesL s).drop p) = (seg (bytesL s) p (runP tn s p), (bytesL s).drop (runP tn s p)) := by
  have hge := runP_ge tn s p
  have hall : ∀ c ∈ seg (bytesL s) p (runP tn s p), tq c = true := by
    have key : p ≤ runP tn s p ∧ ∀ c ∈ seg (bytesL s) p (runP tn s p), tq c = true := by
      refine run_ind h0 (fun q => p ≤ q ∧ ∀ c ∈ seg (bytesL s) p q, tq c = true) ?_ _ p (Nat.le_refl _) ⟨Nat.le_refl _, by rw [seg_nil]; simp⟩
      rintro q hq hb ⟨g1, g2⟩
      obtain ⟨c', hc', hcb', _⟩ := at_byte (show byteAt s q ≠ 0 from fun e => by rw [e, h0] at hb; cases hb)
      refine ⟨by omega, fun x hx => ?_⟩
      rw [seg_snoc g1 hc'] at hx
      rcases List.mem_append.1 hx with hx | hx
      · exact g2 x hx
      · rw [List.mem_singleton.1 hx, ← h, ← hcb']; exact hb
    exact key.2
  rw [seg_drop (bs := bytesL s) hge]
  refine qSpan_of hall (next_of (fun c hc => ?_))
  rw [← h, ← byte_at hc]
  exact run_end h0 p

theorem run_one {s : ByteArray} {tn : Nat → Bool} {p : Nat} (hp : p < s.size) : p + 1 ≤ runP tn s (p + 1) ∧ runP tn s (p + 1) ≤ s.size := ⟨runP_ge _ _ _, runP_le (by omega)⟩

theorem cut_name {s : ByteArray} {p : Nat} {c : UInt8} (hc : (bytesL s)[p]? = some c) (h : qSmall c = true) (hp : p < s.size) : Cut (bytesL s) p [Sum.inr (Sum.inr (Sum.inl (seg (bytesL s) p (runP isLt s (p + 1)), p)))] (runP isLt s (p + 1)) := by
  obtain ⟨n1, n2, n3, n4, n5, n6⟩ := small_ne h
  obtain ⟨g1, g2⟩ := run_one (tn := isLt) hp
  apply Cut.one
  rw [drop_at hc, qToks_eq]
  dsimp only
  rw [if_neg n1, if_neg n2, if_neg n3, if_neg n4, if_neg n5, if_neg (by simp [small_var h]), if_pos h, span_run isLt_q isLt0]
  dsimp only
  rw [seg_len g1 (by rw [bytesL_len]; exact g2), show p + 1 + (runP isLt s (p + 1) - (p + 1)) = runP isLt s (p + 1) by omega, seg_cons (by omega) hc]

theorem cut_digit {s : ByteArray} {p : Nat} {c : UInt8} (hc : (bytesL s)[p]? = some c) (h : qDigit c = true) (hp : p < s.size) :
    (runP isDg s (p + 1) - p ≤ 9 → Cut (bytesL s) p [Sum.inr (Sum.inr (Sum.inr (seg (bytesL s) p (runP isDg s (p + 1)))))] (runP isDg s (p + 1))) ∧ (¬ runP isDg s (p + 1) - p ≤ 9 → qToks p ((bytesL s).drop p) = none) := by
  obtain ⟨n1, n2, n3, n4, n5, n6⟩ := digit_ne h
  obtain ⟨g1, g2⟩ := run_one (tn := isDg) hp
  have e : qToks p ((bytesL s).drop p) = if runP isDg s (p + 1) - p ≤ 9 then (qToks (runP isDg s (p + 1)) ((bytesL s).drop (runP isDg s (p + 1)))).map (Sum.inr (Sum.inr (Sum.inr (seg (bytesL s) p (runP isDg s (p + 1))))) :: ·) else none := by
    rw [drop_at hc, qToks_eq]
    dsimp only
    rw [if_neg n1, if_neg n2, if_neg n3, if_neg n4, if_neg n5, if_neg (by simp [digit_var h]), if_neg (by simp [digit_small h]), if_neg n6, if_pos h, span_run isDg_q isDg0]
    dsimp only
    rw [seg_len g1 (by rw [bytesL_len]; exact g2), show p + 1 + (runP isDg s (p + 1) - (p + 1)) = runP isDg s (p + 1) by omega, seg_cons (by omega) hc, show runP isDg s (p + 1) - (p + 1) + 1 = runP isDg s (p + 1) - p by omega]
  exact ⟨fun h9 => Cut.one (by rw [e, if_pos h9]), fun h9 => by rw [e, if_neg h9]⟩

theorem cut_minus {s : ByteArray} {p : Nat} (hc : (bytesL s)[p]? = some 45) (hp : p < s.size) :
    ((1 ≤ runP isDg s (p + 1) - p - 1 ∧ runP isDg s (p + 1) - p - 1 ≤ 9) → Cut (bytesL s) p [Sum.inr (Sum.inr (Sum.inr (seg (bytesL s) p (runP isDg s (p + 1)))))] (runP isDg s (p + 1))) ∧ (¬ (1 ≤ runP isDg s (p + 1) - p - 1 ∧ runP isDg s (p + 1) - p - 1 ≤ 9) → qToks p ((bytesL s).drop p) = none) := by
  obtain ⟨g1, g2⟩ := run_one (tn := isDg) hp
  have e : qToks p ((bytesL s).drop p) = if 1 ≤ runP isDg s (p + 1) - p - 1 ∧ runP isDg s (p + 1) - p - 1 ≤ 9 then (qToks (runP isDg s (p + 1)) ((bytesL s).drop (runP isDg s (p + 1)))).map (Sum.inr (Sum.inr (Sum.inr (seg (bytesL s) p (runP isDg s (p + 1))))) :: ·) else none := by
    rw [drop_at hc, qToks_eq]
    dsimp only
    rw [if_neg (by decide), if_neg (by decide), if_neg (by decide), if_neg (by decide), if_neg (by decide), if_neg (by decide), if_neg (by decide), if_pos rfl, span_run isDg_q isDg0]
    dsimp only
    rw [seg_len g1 (by rw [bytesL_len]; exact g2), show p + 1 + (runP isDg s (p + 1) - (p + 1)) = runP isDg s (p + 1) by omega, seg_cons (by omega) hc, show runP isDg s (p + 1) - (p + 1) = runP isDg s (p + 1) - p - 1 by omega]
  exact ⟨fun h9 => Cut.one (by rw [e, if_pos h9]), fun h9 => by rw [e, if_neg h9]⟩

theorem cut_none {bs : List UInt8} {p : Nat} {c : UInt8} (hc : bs[p]? = some c) (n1 : c ≠ 32) (n2 : c ≠ 40) (n3 : c ≠ 41) (n4 : c ≠ 44) (n5 : c = 58 → bs[p + 1]? ≠ some 45) (n6 : qVar c = false) (n7 : qSmall c = false) (n8 : c ≠ 45) (n9 : qDigit c = false) : qToks p (bs.drop p) = none := by
  rw [drop_at hc, qToks_eq]
  dsimp only
  rw [if_neg n1, if_neg n2, if_neg n3, if_neg n4]
  by_cases h5 : c = 58
  · rw [if_pos h5]
    have h6 := n5 h5
    cases e : bs.drop (p + 1) with
    | nil => rfl
    | cons c' r' =>
      have : bs[p + 1]? = some c' := by
        have h7 : (bs.drop (p + 1))[0]? = some c' := by rw [e]; rfl
        rwa [List.getElem?_drop, Nat.add_zero] at h7
      dsimp only
      rw [if_neg (fun e' => h6 (by rw [this, e']))]
  · rw [if_neg h5, if_neg (by simp [n6]), if_neg (by simp [n7]), if_neg n8, if_neg (by simp [n9])]

theorem Cut.none {bs : List UInt8} {p : Nat} {l : List Tok} (h : Cut bs 0 l p) (hn : qToks p (bs.drop p) = none) : qToks 0 bs = none := by
  unfold Cut at h
  rw [List.drop_zero, hn] at h
  exact h
theorem Cut.whole {bs : List UInt8} {l : List Tok} (h : Cut bs 0 l bs.length) : qToks 0 bs = some l := by
  unfold Cut at h
  rw [List.drop_zero, List.drop_length, show qToks bs.length [] = some [] from by rw [qToks_eq]] at h
  simpa using h

theorem bytes_extract (s : ByteArray) (p q : Nat) (h1 : p ≤ q) (h2 : q ≤ s.size) : bytesL (s.extract p q) = seg (bytesL s) p q := extract_seg s p q h1 h2

theorem byteAt_extract {s : ByteArray} {p k i : Nat} (h : p + i < k) (hk : k ≤ s.size) : byteAt (s.extract p k) i = byteAt s (p + i) := by
  have h1 : (bytesL (s.extract p k))[i]? = (bytesL s)[p + i]? := by
    rw [bytes_extract s p k (by omega) hk]
    unfold seg
    rw [List.getElem?_take_of_lt (by omega), List.getElem?_drop]
  have h2 : (bytesL s)[p + i]? = some ((bytesL s)[p + i]'(by rw [bytesL_len]; omega)) := List.getElem?_eq_getElem _
  rw [byte_at (h1.trans h2), byte_at h2]
theorem num_digit {s : ByteArray} {p k : Nat} (h1 : 1 ≤ k - p) (h9 : k - p ≤ 9) (hk : k ≤ s.size) (h : byteAt s p ≠ 45) : NumS (s.extract p k) := by
  have hs : (s.extract p k).size = k - p := by rw [ByteArray.size_extract]; omega
  refine ⟨by omega, by omega, fun e => ?_⟩
  rw [byteAt_extract (by omega) hk] at e
  exact absurd e h
theorem num_minus {s : ByteArray} {p k : Nat} (h1 : 1 ≤ k - p - 1) (h9 : k - p - 1 ≤ 9) (hk : k ≤ s.size) (h : runP isDg s (p + 1) = k) : NumS (s.extract p k) := by
  have hs : (s.extract p k).size = k - p := by rw [ByteArray.size_extract]; omega
  have hd : isDg (byteAt s (p + 1)) = true := by
    cases e : isDg (byteAt s (p + 1)) with
    | true => rfl
    | false => rw [runP_stop e] at h; omega
  refine ⟨by omega, by omega, fun _ => ⟨by omega, fun e => ?_⟩⟩
  rw [byteAt_extract (by omega) hk] at e
  rw [e] at hd
  cases hd

end Go.Proofs.YtgddkjhknlgbbaaGreatDoor

namespace Go.Proofs.YtgddkjhknlgbbaaGreatDoor
set_option linter.unusedVariables false
set_option linter.unusedSimpArgs false

/-- The items so far, and what is left of the pieces. -/
def LRel (ps : List Pc) (a k : Nat) (out : List Pc) : Prop :=
  itemsT true ((ps.map tokP).drop (a + 1)) = (itemsT out.isEmpty ((ps.map tokP).drop k)).map fun x => (out.map tokP ++ x.1, x.2)

theorem LRel.start (ps : List Pc) (a : Nat) : LRel ps a (a + 1) [] := by
  unfold LRel
  show _ = (itemsT true ((ps.map tokP).drop (a + 1))).map _
  generalize itemsT true ((ps.map tokP).drop (a + 1)) = o
  cases o <;> simp

theorem drop_pc {ps : List Pc} {k : Nat} (hk : k < ps.length) : (ps.map tokP).drop k = tokP (ps[k]?.getD zeroPc) :: (ps.map tokP).drop (k + 1) := by
  rw [List.drop_eq_getElem_cons (by simpa using hk)]
  simp [hk]

theorem tok41 {x : Pc} (h : x.m = 41) : tokP x = Sum.inl (false, true) := by simp [tokP, h]
theorem tok44 {x : Pc} (h : x.m = 44) : tokP x = Sum.inl (true, false) := by simp [tokP, h]
theorem tok40 {x : Pc} (h : x.m = 40) : tokP x = Sum.inl (false, false) := by simp [tokP, h]
theorem tok58 {x : Pc} (h : x.m = 58) : tokP x = Sum.inl (true, true) := by simp [tokP, h]
theorem tok118 {x : Pc} (h : x.m = 118) : tokP x = Sum.inr (Sum.inl ((bytesL x.s)[0]?.getD 0, x.i)) := by simp [tokP, h]
theorem tok110 {x : Pc} (h : x.m = 110) : tokP x = Sum.inr (Sum.inr (Sum.inl (bytesL x.s, x.i))) := by simp [tokP, h]
theorem tok100 {x : Pc} (h : x.m = 100) : tokP x = Sum.inr (Sum.inr (Sum.inr (bytesL x.s))) := by simp [tokP, h]
theorem item_of {x : Pc} (h : x.m = 118 ∨ x.m = 100) : isItem (tokP x) = true := by
  rcases h with h | h
  · rw [tok118 h]; rfl
  · rw [tok100 h]; rfl

/-- What a piece may be. -/
theorem WfPc.cases {x : Pc} (h : WfPc x) : (x.m = 40 ∧ tokP x = Sum.inl (false, false)) ∨ (x.m = 41 ∧ tokP x = Sum.inl (false, true)) ∨ (x.m = 44 ∧ tokP x = Sum.inl (true, false)) ∨ (x.m = 58 ∧ tokP x = Sum.inl (true, true)) ∨ (x.m = 118 ∧ tokP x = Sum.inr (Sum.inl ((bytesL x.s)[0]?.getD 0, x.i))) ∨ (x.m = 110 ∧ tokP x = Sum.inr (Sum.inr (Sum.inl (bytesL x.s, x.i)))) ∨ (x.m = 100 ∧ tokP x = Sum.inr (Sum.inr (Sum.inr (bytesL x.s)))) := by
  rcases h with h | h | h | h | ⟨h, _⟩ | ⟨h, _⟩ | ⟨h, _⟩
  · exact .inl ⟨h, tok40 h⟩
  · exact .inr (.inl ⟨h, tok41 h⟩)
  · exact .inr (.inr (.inl ⟨h, tok44 h⟩))
  · exact .inr (.inr (.inr (.inl ⟨h, tok58 h⟩)))
  · exact .inr (.inr (.inr (.inr (.inl ⟨h, tok118 h⟩))))
  · exact .inr (.inr (.inr (.inr (.inr (.inl ⟨h, tok110 h⟩)))))
  · exact .inr (.inr (.inr (.inr (.inr (.inr ⟨h, tok100 h⟩)))))

variable {ps : List Pc} {a k : Nat} {out : List Pc}

theorem LRel.end_ (h : LRel ps a k out) (hk : ps.length ≤ k) : itemsT true ((ps.map tokP).drop (a + 1)) = none := by
  rw [h, List.drop_of_length_le (by simpa using hk)]
  rfl
theorem LRel.shut (h : LRel ps a k out) (hk : k < ps.length) (hm : (ps[k]?.getD zeroPc).m = 41) : itemsT true ((ps.map tokP).drop (a + 1)) = some (out.map tokP, (ps.map tokP).drop (k + 1)) := by
  rw [h, drop_pc hk, tok41 hm]
  cases out.isEmpty <;> simp [itemsT]
theorem LRel.bad1 (h : LRel ps a k out) (hk : k < ps.length) (ho : out ≠ []) (hw : WfPc (ps[k]?.getD zeroPc)) (h1 : (ps[k]?.getD zeroPc).m ≠ 41) (h2 : (ps[k]?.getD zeroPc).m ≠ 44) : itemsT true ((ps.map tokP).drop (a + 1)) = none := by
  rw [h, drop_pc hk, show out.isEmpty = false from by simpa using ho]
  rcases hw.cases with ⟨m, e⟩ | ⟨m, e⟩ | ⟨m, e⟩ | ⟨m, e⟩ | ⟨m, e⟩ | ⟨m, e⟩ | ⟨m, e⟩
  · rw [e]; simp [itemsT]
  · exact absurd m h1
  · exact absurd m h2
  · rw [e]; simp [itemsT]
  · rw [e]; simp [itemsT]
  · rw [e]; simp [itemsT]
  · rw [e]; simp [itemsT]
theorem LRel.first (h : LRel ps a k out) (hk : k < ps.length) (ho : out = []) (hm : (ps[k]?.getD zeroPc).m = 118 ∨ (ps[k]?.getD zeroPc).m = 100) : LRel ps a (k + 1) (out ++ [ps[k]?.getD zeroPc]) := by
  unfold LRel at h ⊢
  rw [h, ho, drop_pc hk]
  show (itemsT true (tokP _ :: _)).map _ = _
  rw [itemsT_first (item_of hm)]
  simp
  rfl
theorem LRel.firstbad (h : LRel ps a k out) (hk : k < ps.length) (ho : out = []) (hw : WfPc (ps[k]?.getD zeroPc)) (h1 : (ps[k]?.getD zeroPc).m ≠ 41) (h2 : (ps[k]?.getD zeroPc).m ≠ 118) (h3 : (ps[k]?.getD zeroPc).m ≠ 100) : itemsT true ((ps.map tokP).drop (a + 1)) = none := by
  rw [h, drop_pc hk, ho]
  show (itemsT true (tokP _ :: _)).map _ = _
  rcases hw.cases with ⟨m, e⟩ | ⟨m, e⟩ | ⟨m, e⟩ | ⟨m, e⟩ | ⟨m, e⟩ | ⟨m, e⟩ | ⟨m, e⟩
  · rw [e]; simp [itemsT]
  · exact absurd m h1
  · rw [e]; simp [itemsT]
  · rw [e]; simp [itemsT]
  · exact absurd m h2
  · rw [e]; simp [itemsT]
  · exact absurd m h3
theorem LRel.next (h : LRel ps a k out) (hk : k + 1 < ps.length) (ho : out ≠ []) (h44 : (ps[k]?.getD zeroPc).m = 44) (hm : (ps[k + 1]?.getD zeroPc).m = 118 ∨ (ps[k + 1]?.getD zeroPc).m = 100) : LRel ps a (k + 2) (out ++ [ps[k + 1]?.getD zeroPc]) := by
  unfold LRel at h ⊢
  rw [h, show out.isEmpty = false from by simpa using ho, drop_pc (by omega), drop_pc hk, tok44 h44, itemsT_comma (item_of hm), itemsT_first (item_of hm)]
  rw [show (out ++ [ps[k + 1]?.getD zeroPc]).isEmpty = false from by simp]
  cases itemsT false ((ps.map tokP).drop (k + 1 + 1)) <;> simp
theorem LRel.nextend (h : LRel ps a k out) (hk : k + 1 = ps.length) (ho : out ≠ []) (h44 : (ps[k]?.getD zeroPc).m = 44) : itemsT true ((ps.map tokP).drop (a + 1)) = none := by
  rw [h, show out.isEmpty = false from by simpa using ho, drop_pc (by omega), tok44 h44, List.drop_of_length_le (by simp; omega)]
  simp [itemsT]
theorem LRel.nextbad (h : LRel ps a k out) (hk : k + 1 < ps.length) (ho : out ≠ []) (h44 : (ps[k]?.getD zeroPc).m = 44) (hw : WfPc (ps[k + 1]?.getD zeroPc)) (h2 : (ps[k + 1]?.getD zeroPc).m ≠ 118) (h3 : (ps[k + 1]?.getD zeroPc).m ≠ 100) : itemsT true ((ps.map tokP).drop (a + 1)) = none := by
  rw [h, show out.isEmpty = false from by simpa using ho, drop_pc (by omega), drop_pc hk, tok44 h44]
  rcases hw.cases with ⟨m, e⟩ | ⟨m, e⟩ | ⟨m, e⟩ | ⟨m, e⟩ | ⟨m, e⟩ | ⟨m, e⟩ | ⟨m, e⟩
  · rw [e]; simp [itemsT]
  · rw [e]; simp [itemsT]
  · rw [e]; simp [itemsT]
  · rw [e]; simp [itemsT]
  · exact absurd m h2
  · rw [e]; simp [itemsT]
  · exact absurd m h3

end Go.Proofs.YtgddkjhknlgbbaaGreatDoor
