import Derived.Test.YtgddkjhknlgbbaaGreatDoorR04
import Derived.Test.YtgddkjhknlgbbaaGreatDoorR03
set_option linter.unusedVariables false
set_option linter.unusedSimpArgs false

namespace Go.Proofs.YtgddkjhknlgbbaaGreatDoor
set_option linter.unusedVariables false
set_option linter.unusedSimpArgs false
open Go.RowKit Go.Maps

/-- What readBody says. -/
def BodySaid (W : World) (B0 RB QB : Nat) (hv : Value) (hs : List (Nat × Nat)) (s : ByteArray) (p : Nat) (e : Ending) (w' : World) : Prop :=
  (∃ xs bv, bodyP s p = .ok (xs.map (·.1)) ∧ e = .returned .nilIface ∧ w'.heap[QB]? = some (.cells #[hv, bv] 166 (0, 0)) ∧ w'.ownsRow B0 185 3 bv xs.length (atomsC xs) ∧ (∀ x ∈ xs, w'.ownsRow B0 187 2 x.2 x.1.ts.length (termsC x.1.ts)) ∧ w'.ownsRow B0 208 2 hv hs.length (headC hs) ∧ KeepR B0 RB W w') ∨
  (∃ q v, bodyP s p = .error q ∧ e = .returned v ∧ ErrAt B0 w' v 5 q ∧ KeepR B0 RB W w')

set_option maxRecDepth 100000 in
set_option maxHeartbeats 2000000 in
theorem readBody_any (RB QB B0 : Nat) (s : ByteArray) (hv : Value) (hs : List (Nat × Nat)) (p : Nat) (W : World) (h : Rdr W RB s p) (hQ : W.heap[QB]? = some (.cells #[hv, .slice none 0 0] 166 (0, 0))) (hl1 : B0 ≤ QB) (hl2 : RB < B0) (hh : W.ownsRow B0 208 2 hv hs.length (headC hs)) :
    Calls Tryz.prog 90 #[.pointer (some ⟨RB, 0, none⟩), .pointer (some ⟨QB, 0, none⟩)] W (BodySaid W B0 RB QB hv hs s p) := by
  have hRl := h.lt
  have hsz := h.sz
  have hQl : QB < W.heap.size := (Array.getElem?_eq_some_iff.1 hQ).1
  obtain ⟨W2, hW2⟩ : ∃ W2, W2 = (W.alloc (.cells #[.pointer (some ⟨RB, 0, none⟩)] 160)).alloc (.cells #[.pointer (some ⟨QB, 0, none⟩)] 94) := ⟨_, rfl⟩
  have hb2 : Below W.heap.size W W2 := by rw [hW2]; exact ((Below.refl _ _).alloc (Nat.le_refl _) _).alloc (by simp) _
  have hbox : Boxed W2 W.heap.size 160 (.pointer (some ⟨RB, 0, none⟩)) := by rw [hW2]; exact (Boxed.new W 160 _).alloc _
  have hboxq : Boxed W2 (W.heap.size + 1) 94 (.pointer (some ⟨QB, 0, none⟩)) := by rw [hW2]; exact heap_last _ _ _ (by simp)
  have hH : BodyB W2 B0 RB W.heap.size (W.heap.size + 1) QB hv hs [] := ⟨hbox, hboxq, ⟨_, [], rfl, (hb2.block QB hQl).trans hQ, World.ownsRow_nil _ _ _ _, fun x hx => by simp at hx⟩, ⟨by omega, by omega, hl1, hl2⟩, own_keepR hh (KeepX.ofBelow (X := fun _ => False) hb2) (fun _ _ h => h)⟩
  have c0 : W2.cell? ⟨W.heap.size, 0, none⟩ = some (.pointer (some ⟨RB, 0, none⟩)) := hbox.cell
  have HL := hide (list_183 RB B0 s ⟨#[97, 116, 111, 109]⟩ (by decide) 4 (by omega) (by omega) (.pointer (some ⟨W.heap.size, 0, none⟩)) (.pointer (some ⟨W.heap.size + 1, 0, none⟩)) (atomP s) (fun acc w => BodyB w B0 RB W.heap.size (W.heap.size + 1) QB hv hs acc) (fun _ => True) (fun acc w w' h hk => h.keep hk) (fun w w' _ _ => trivial) (fun acc p w hl3 hR hA hB => readBody1_any RB W.heap.size (W.heap.size + 1) QB B0 s hv hs p acc (by omega) w hR hA hB) p W2 (h.below hb2) hH (by have := hb2.size; omega))
  have Hb2 := hide hb2
  clear h hQ hbox hboxq hH hb2 hh
  go_enter Tryz.func90, Tryz.ntmps90
  go_wp2_with fail
  rw [← hW2]
  refine (unhide HL).mono ?_
  clear hW2
  rintro e w3 (⟨bs, q2, hl3, rfl, hR3, hH3, hK3⟩ | ⟨q2, v, hl3, rfl, hE3, _, hK3⟩)
  · have c3 : w3.cell? ⟨W.heap.size, 0, none⟩ = some (.pointer (some ⟨RB, 0, none⟩)) := hH3.box.cell
    have hp : bodyP s p = if skipP s q2 < s.size then .error (skipP s q2) else .ok bs := by unfold bodyP; rw [hl3]
    have Hsk := hide (skip_any RB s q2 w3 hR3)
    have HK3 := hide ((KeepX.ofBelow (unhide Hb2)).trans hK3 : KeepR B0 RB W w3)
    have HH3 := hide hH3
    clear hR3 hH3 hK3 hl3 HL
    obtain ⟨q, hq⟩ : ∃ q, q = skipP s q2 := ⟨_, rfl⟩
    rw [← hq] at hp Hsk
    clear hq
    by_cases hlt : q < s.size
    · rw [if_pos hlt] at hp
      have hz : (q : Int) < (s.size : Int) := by omega
      have Hp := hide hp
      clear hp
      go_wp2_with fail
      refine (unhide Hsk).mono ?_
      rintro e w4 ⟨rfl, hR4, hK4⟩
      have hH4 := (unhide HH3).keep hK4
      have c4 : w4.cell? ⟨W.heap.size, 0, none⟩ = some (.pointer (some ⟨RB, 0, none⟩)) := hH4.box.cell
      have d0 := hR4.c0
      have d1 := hR4.c1
      have Hf := hide (fun n => fault_any RB s q (w4.drewN n) (hR4.below (belowNG _ _ _)))
      have HK4 := hide hK4
      clear hR4 hH4 hK4
      go_wp2_with fail
      go_quiet (fail)
      have c5 : (w4.drewN nq).cell? ⟨W.heap.size, 0, none⟩ = some (.pointer (some ⟨RB, 0, none⟩)) := c4
      go_wp2_with (first | (go_at_call 109; refine ((unhide Hf) _).mono ?_; rintro e w6 ⟨v, rfl, hE6, hb6⟩; have HE6 := hide hE6; have Hb6 := hide hb6; clear hE6 hb6))
      go_ret
      exact .inr ⟨q, v, unhide Hp, rfl, (unhide HE6).mono (by have := (unhide HK3).size; have := (unhide HK4).size; have : (w4.drewN nq).heap.size = w4.heap.size := rfl; omega), ((unhide HK3).trans ((unhide HK4).mono fun q _ e => .inl e)).trans ((KeepX.ofBelow (belowNG _ _ _)).trans (KeepX.ofBelow (unhide Hb6)))⟩
    · rw [if_neg hlt] at hp
      have hz : ¬ (q : Int) < (s.size : Int) := by omega
      have Hp := hide hp
      clear hp
      go_wp2_with fail
      refine (unhide Hsk).mono ?_
      rintro e w4 ⟨rfl, hR4, hK4⟩
      have hH4 := (unhide HH3).keep hK4
      have c4 : w4.cell? ⟨W.heap.size, 0, none⟩ = some (.pointer (some ⟨RB, 0, none⟩)) := hH4.box.cell
      have d0 := hR4.c0
      have d1 := hR4.c1
      have HH4 := hide hH4
      have HK4 := hide hK4
      clear hR4 hH4 hK4
      go_wp2_with fail
      go_quiet (fail)
      go_wp2
      go_ret
      obtain ⟨bv, xs, h1, h2, h3, h4⟩ := ((unhide HH4).keep (KeepX.ofBelow (belowNG _ nq _))).blk
      exact .inl ⟨xs, bv, by rw [unhide Hp, h1], rfl, h2, h3, h4, ((unhide HH4).keep (KeepX.ofBelow (belowNG _ nq _))).head, ((unhide HK3).trans ((unhide HK4).mono fun q _ e => .inl e)).trans (KeepX.ofBelow (belowNG _ _ _))⟩
  · obtain ⟨ty, b, rfl, hty⟩ := hE3.form
    have HF := hide (show BodySaid W B0 RB QB hv hs s p (.returned (.iface ty (.pointer (some ⟨b, 0, none⟩)))) w3 from .inr ⟨q2, _, by unfold bodyP; rw [hl3], rfl, hE3, (KeepX.ofBelow (unhide Hb2)).trans hK3⟩)
    clear hE3 hK3 hl3
    go_wp2
    go_ret
    exact unhide HF

end Go.Proofs.YtgddkjhknlgbbaaGreatDoor

namespace Go.Proofs.YtgddkjhknlgbbaaGreatDoor
set_option linter.unusedVariables false
set_option linter.unusedSimpArgs false
open Go.RowKit Go.Maps

/-- What readMark says. -/
def MarkSaid (W : World) (RB : Nat) (s : ByteArray) (p : Nat) (e : Ending) (w' : World) : Prop :=
  (∃ q, markP s p = .ok q ∧ e = .returned .nilIface ∧ Rdr w' RB s q ∧ KeepX (fun q => q = RB) W w') ∨
  (∃ q v, markP s p = .error q ∧ e = .returned v ∧ ErrAt W.heap.size w' v 5 q ∧ KeepX (fun q => q = RB) W w')

set_option maxRecDepth 100000 in
set_option maxHeartbeats 1000000 in
theorem readMark_any (RB : Nat) (s : ByteArray) (p : Nat) (W : World) (h : Rdr W RB s p) :
    Calls Tryz.prog 89 #[.pointer (some ⟨RB, 0, none⟩)] W (MarkSaid W RB s p) := by
  have Hm := hide (must_any RB s p 58 (by omega) W h)
  clear h
  go_enter Tryz.func89, Tryz.ntmps89
  go_wp2_with fail
  refine (unhide Hm).mono ?_
  rintro e w1 (⟨q, h1, rfl, hR1, hK1⟩ | ⟨q, v, h1, rfl, hE1, hK1⟩)
  · have hmk : markP s p = if byteAt s q = 45 then .ok (q + 1) else .error q := by unfold markP; rw [h1]
    have Hh := hide (here_any RB s q w1 hR1)
    by_cases hb : byteAt s q = 45
    · have hlt : q < s.size := byteAt_ne (by omega)
      rw [if_pos hb] at hmk
      rw [hb] at Hh
      have hsz := hR1.sz
      have Hmk := hide hmk
      have HR1 := hide hR1
      have HK1 := hide hK1
      clear hmk hR1 hK1 h1 Hm hb
      go_wp2_with (first
        | (go_at_call 110; refine (unhide Hh).mono ?_; rintro e w3 ⟨rfl, hd⟩; have hR3 := (unhide HR1).below hd.bel; have d1 := hR3.c1; have f1 := hR3.f1; have HR3 := hide hR3; have Hd := hide hd; clear hR3 hd))
      go_ret
      exact .inl ⟨q + 1, unhide Hmk, rfl, setPlace (q := q + 1) (unhide HR3) (by omega), ((unhide HK1).trans (KeepX.ofBelow (unhide Hd).bel)).trans (keepX_set1 _ _ _ _)⟩
    · rw [if_neg hb] at hmk
      have hbz : ¬ (byteAt s q : Int) = 45 := by omega
      have Hmk := hide hmk
      have HR1 := hide hR1
      have HK1 := hide hK1
      clear hmk hR1 hK1 h1 Hm
      generalize byteAt s q = bq at *
      go_wp2_with (first
        | (go_at_call 110; refine (unhide Hh).mono ?_; rintro e w3 ⟨rfl, hd⟩; have hR3 := (unhide HR1).below hd.bel; have HR3 := hide hR3; have Hd := hide hd; clear hR3 hd)
        | (go_at_call 109; refine (fault_any RB s q _ (unhide HR3)).mono ?_; rintro e w4 ⟨v, rfl, hE4, hb4⟩; have HE4 := hide hE4; have Hb4 := hide hb4; clear hE4 hb4))
      go_ret
      exact .inr ⟨q, v, unhide Hmk, rfl, (unhide HE4).mono (Nat.le_trans (unhide HK1).size (unhide Hd).bel.size), ((unhide HK1).trans (KeepX.ofBelow (unhide Hd).bel)).trans (KeepX.ofBelow (unhide Hb4))⟩
  · have hmk : markP s p = .error q := by unfold markP; rw [h1]
    obtain ⟨ty, b, rfl, hty⟩ := hE1.form
    have Hmk := hide hmk
    have HE1 := hide hE1
    have HK1 := hide hK1
    clear hmk hE1 hK1 h1 Hm
    go_wp2
    go_ret
    exact .inr ⟨q, _, unhide Hmk, rfl, unhide HE1, unhide HK1⟩

end Go.Proofs.YtgddkjhknlgbbaaGreatDoor

namespace Go.Proofs.YtgddkjhknlgbbaaGreatDoor
set_option linter.unusedVariables false
set_option linter.unusedSimpArgs false
open Go.RowKit Go.Maps

/-- What Read says. -/
def ReadSaid (W : World) (s : ByteArray) (e : Ending) (w' : World) : Prop :=
  (∃ hs xs hv bv QB, readP s = .ok (hs, xs.map (·.1)) ∧ e = .returned (.tuple #[.pointer (some ⟨QB, 0, none⟩), .nilIface]) ∧ W.heap.size ≤ QB ∧ w'.heap[QB]? = some (.cells #[hv, bv] 166 (0, 0)) ∧ w'.ownsRow W.heap.size 208 2 hv hs.length (headC hs) ∧ w'.ownsRow W.heap.size 185 3 bv xs.length (atomsC xs) ∧ (∀ x ∈ xs, w'.ownsRow W.heap.size 187 2 x.2 x.1.ts.length (termsC x.1.ts)) ∧ Below W.heap.size W w') ∨
  (∃ q v, readP s = .error q ∧ e = .returned (.tuple #[.pointer none, v]) ∧ ErrAt W.heap.size w' v 5 q ∧ Below W.heap.size W w')

theorem keepR_below {W W2 w : World} {RB B : Nat} (h : Below W.heap.size W W2) (k : KeepR B RB W2 w) (h1 : W.heap.size ≤ B) (h2 : W.heap.size ≤ RB) : Below W.heap.size W w :=
  h.trans ⟨k.os, k.tape, k.output, k.size, fun q hq => k.blk q (Nat.lt_of_lt_of_le hq h.size) (fun e => by omega)⟩

set_option maxRecDepth 100000 in
set_option maxHeartbeats 2000000 in
theorem read_any (s : ByteArray) (hsz : s.size ≤ 300) (W : World) : Calls Tryz.prog 70 #[.string s] W (ReadSaid W s) := by
  obtain ⟨W2, hW2⟩ : ∃ W2, W2 = (W.alloc (.cells #[.string s, .int .i64 0] 162)).alloc (.cells #[.slice none 0 0, .slice none 0 0] 166) := ⟨_, rfl⟩
  have hb2 : Below W.heap.size W W2 := by rw [hW2]; exact ((Below.refl _ _).alloc (Nat.le_refl _) _).alloc (by simp) _
  have hs2 : W2.heap.size = W.heap.size + 2 := by rw [hW2]; simp
  have hR2 : Rdr W2 W.heap.size s 0 := ⟨by rw [hW2, Below.heap_alloc _ _ _ (by simp)]; exact heap_last _ _ _ rfl, Nat.zero_le _, hsz⟩
  have hQ2 : W2.heap[W.heap.size + 1]? = some (.cells #[.slice none 0 0, .slice none 0 0] 166 (0, 0)) := by rw [hW2]; exact heap_last _ _ _ (by simp)
  have Hh := hide (readHead_any W.heap.size (W.heap.size + 1) (W.heap.size + 1) s (.slice none 0 0) 0 W2 hR2 hQ2 (Nat.le_refl _) (by omega))
  have Hb2 := hide hb2
  clear hR2 hQ2 hb2
  go_enter Tryz.func70, Tryz.ntmps70
  go_wp2_with fail
  rw [← hW2]
  refine (unhide Hh).mono ?_
  clear hW2
  rintro e w3 (⟨hs, q1, hv, h1, rfl, hR3, hQ3, ho3, hK3⟩ | ⟨q, v, h1, rfl, hE3, hK3⟩)
  · have Hm := hide (readMark_any W.heap.size s q1 w3 hR3)
    have HB3 := hide (keepR_below (unhide Hb2) hK3 (by omega) (Nat.le_refl _))
    have hs3 := hK3.size
    have HQ3 := hide hQ3
    have Ho3 := hide ho3
    have H1 := hide h1
    clear hR3 hQ3 ho3 hK3 h1 Hh
    go_wp2_with (first
      | (go_at_call 87; refine (in_nil _ _).mono ?_; rintro e w4 ⟨rfl, hw4⟩; replace hw4 := hw4.symm; subst hw4))
    refine (unhide Hm).mono ?_
    rintro e w5 (⟨q2, h2, rfl, hR5, hK5⟩ | ⟨q2, v, h2, rfl, hE5, hK5⟩)
    · have hQl : W.heap.size + 1 < w3.heap.size := (Array.getElem?_eq_some_iff.1 (unhide HQ3)).1
      have hQ5 := (hK5.blk (W.heap.size + 1) hQl (by omega)).trans (unhide HQ3)
      have ho5 := own_keepR (unhide Ho3) hK5 (fun g hg => by omega)
      have Hbd := hide (readBody_any W.heap.size (W.heap.size + 1) (W.heap.size + 1) s hv hs q2 w5 hR5 hQ5 (Nat.le_refl _) (by omega) ho5)
      have HB5 := hide (keepR_below (B := W.heap.size + 1) (unhide HB3) (hK5.mono fun q _ e => .inl e) (by omega) (Nat.le_refl _))
      have H2 := hide h2
      have hs5 : w3.heap.size ≤ w5.heap.size := hK5.size
      clear hR5 hK5 hQ5 ho5 h2 Hm
      go_wp2_with (first
        | (go_at_call 87; refine (in_nil _ _).mono ?_; rintro e w6 ⟨rfl, hw6⟩; replace hw6 := hw6.symm; subst hw6))
      refine (unhide Hbd).mono ?_
      rintro e w7 (⟨xs, bv, h3, rfl, hQ7, ho7, hx7, hh7, hK7⟩ | ⟨q3, v, h3, rfl, hE7, hK7⟩)
      · have HF := hide (show ReadSaid W s (.returned (.tuple #[.pointer (some ⟨W.heap.size + 1, 0, none⟩), .nilIface])) w7 from .inl ⟨hs, xs, hv, bv, W.heap.size + 1, by unfold readP; rw [unhide H1]; simp only [unhide H2, h3], rfl, by omega, hQ7, own_baseG hh7 (by omega), own_baseG ho7 (by omega), fun x hx => own_baseG (hx7 x hx) (by omega), keepR_below (unhide HB5) hK7 (by omega) (Nat.le_refl _)⟩)
        clear hQ7 ho7 hx7 hh7 hK7 h3
        go_wp2_with (first
          | (go_at_call 87; refine (in_nil _ _).mono ?_; rintro e w8 ⟨rfl, hw8⟩; replace hw8 := hw8.symm; subst hw8))
        go_ret2
        exact unhide HF
      · have Hin := hide (in_err ⟨#[98, 111, 100, 121]⟩ v _ 5 q3 w7 hE7 (by have := hK7.size; omega))
        have HB7 := hide (keepR_below (unhide HB5) hK7 (by omega) (Nat.le_refl _))
        have Hr := hide (show readP s = .error q3 by unfold readP; rw [unhide H1]; simp only [unhide H2, h3])
        clear hE7 hK7 h3
        go_wp2_with fail
        refine (unhide Hin).mono ?_
        rintro e w8 ⟨v', rfl, hE8, hb8⟩
        obtain ⟨ty, b, rfl, hty⟩ := hE8.form
        have HF := hide (show ReadSaid W s (.returned (.tuple #[.pointer none, .iface ty (.pointer (some ⟨b, 0, none⟩))])) w8 from .inr ⟨q3, _, unhide Hr, rfl, hE8.mono (by omega), (unhide HB7).trans (hb8.mono (unhide HB7).size)⟩)
        clear hE8 hb8
        go_wp2
        go_ret2
        exact unhide HF
    · have Hin := hide (in_err ⟨#[109, 97, 114, 107]⟩ v _ 5 q2 w5 hE5 hK5.size)
      have HB5 := hide (keepR_below (B := W.heap.size + 1) (unhide HB3) (hK5.mono fun q _ e => .inl e) (by omega) (Nat.le_refl _))
      have Hr := hide (show readP s = .error q2 by unfold readP; rw [unhide H1]; simp only [h2])
      clear hE5 hK5 h2 Hm
      go_wp2_with fail
      refine (unhide Hin).mono ?_
      rintro e w8 ⟨v', rfl, hE8, hb8⟩
      obtain ⟨ty, b, rfl, hty⟩ := hE8.form
      have HF := hide (show ReadSaid W s (.returned (.tuple #[.pointer none, .iface ty (.pointer (some ⟨b, 0, none⟩))])) w8 from .inr ⟨q2, _, unhide Hr, rfl, hE8.mono (unhide HB3).size, (unhide HB5).trans (hb8.mono (unhide HB5).size)⟩)
      clear hE8 hb8
      go_wp2
      go_ret2
      exact unhide HF
  · have Hin := hide (in_err ⟨#[104, 101, 97, 100]⟩ v _ 5 q w3 hE3 (by have := hK3.size; omega))
    have HB3 := hide (keepR_below (unhide Hb2) hK3 (by omega) (Nat.le_refl _))
    have Hr := hide (show readP s = .error q by unfold readP; rw [h1])
    clear hE3 hK3 h1 Hh
    go_wp2_with fail
    refine (unhide Hin).mono ?_
    rintro e w8 ⟨v', rfl, hE8, hb8⟩
    obtain ⟨ty, b, rfl, hty⟩ := hE8.form
    have HF := hide (show ReadSaid W s (.returned (.tuple #[.pointer none, .iface ty (.pointer (some ⟨b, 0, none⟩))])) w8 from .inr ⟨q, _, unhide Hr, rfl, hE8.mono (by omega), (unhide HB3).trans (hb8.mono (unhide HB3).size)⟩)
    clear hE8 hb8
    go_wp2
    go_ret2
    exact unhide HF

end Go.Proofs.YtgddkjhknlgbbaaGreatDoor

namespace Go.Proofs.YtgddkjhknlgbbaaGreatDoor
set_option linter.unusedVariables false
set_option linter.unusedSimpArgs false
open Go.RowKit Go.Maps Go.Sort Go.Shelf

theorem flat_at {α : Type} (n : Nat) (c : α → List Value) (hc : ∀ x, (c x).length = n) : ∀ (xs : List α) (i j : Nat) (hi : i < xs.length), j < n → (xs.flatMap c)[i * n + j]? = (c xs[i])[j]?
  | [], i, j, hi, _ => by simp at hi
  | x :: xs, 0, j, _, hj => by
    rw [List.flatMap_cons, Nat.zero_mul, Nat.zero_add, List.getElem?_append_left (by rw [hc]; exact hj)]
    rfl
  | x :: xs, i + 1, j, hi, hj => by
    have e : (i + 1) * n = i * n + n := by rw [Nat.add_mul, Nat.one_mul]
    rw [List.flatMap_cons, List.getElem?_append_right (by rw [hc, e]; omega), hc]
    have : (i + 1) * n + j - n = i * n + j := by rw [e]; omega
    rw [this, flat_at n c hc xs i j (by simpa using hi) hj]
    rfl

theorem mul_lt_of {i n k j : Nat} (hi : i < n) (hj : j < k) : i * k + j < n * k := by
  have : (i + 1) * k ≤ n * k := Nat.mul_le_mul_right _ hi
  rw [Nat.add_mul, Nat.one_mul] at this
  omega

theorem terms_of_own {w : World} {base : Nat} {v : Value} {ts : List Trm} (h : w.ownsRow base 187 2 v ts.length (termsC ts)) : TermsAt w v ts := by
  obtain ⟨p, c, rfl, hle, hn, hs⟩ := own_form h
  refine ⟨p, c, rfl, fun j hj => ?_⟩
  cases p with
  | none => have := (hn rfl).1; omega
  | some ad =>
    obtain ⟨g, rfl, _, _, hc⟩ := hs ad rfl
    refine ⟨g, 0, rfl, ?_, ?_⟩
    · rw [Nat.zero_add, hc _ (by have := mul_lt_of hj (show 0 < 2 by omega); omega)]
      have := flat_at 2 termC (fun _ => rfl) ts j 0 hj (by omega)
      rw [Nat.add_zero] at this
      rw [show termsC ts = ts.flatMap termC from rfl, this]
      simp [termC, hj]
    · rw [Nat.zero_add, hc _ (mul_lt_of hj (by omega))]
      have := flat_at 2 termC (fun _ => rfl) ts j 1 hj (by omega)
      rw [show termsC ts = ts.flatMap termC from rfl, this]
      simp [termC, hj]

theorem head_of_own {w : World} {base : Nat} {v : Value} {hs : List (Nat × Nat)} (h : w.ownsRow base 208 2 v hs.length (headC hs)) : HeadAt w v hs := by
  obtain ⟨p, c, rfl, hle, hn, hs'⟩ := own_form h
  refine ⟨p, c, rfl, fun j hj => ?_⟩
  cases p with
  | none => have := (hn rfl).1; omega
  | some ad =>
    obtain ⟨g, rfl, _, _, hc⟩ := hs' ad rfl
    refine ⟨g, 0, rfl, ?_, ?_⟩
    · rw [Nat.zero_add, hc _ (by have := mul_lt_of hj (show 0 < 2 by omega); omega)]
      have := flat_at 2 (fun x : Nat × Nat => [Value.int .u8 x.1, Value.int .i64 x.2]) (fun _ => rfl) hs j 0 hj (by omega)
      rw [Nat.add_zero] at this
      rw [show headC hs = hs.flatMap fun x => [Value.int .u8 x.1, Value.int .i64 x.2] from rfl, this]
      simp [hj]
    · rw [Nat.zero_add, hc _ (mul_lt_of hj (by omega))]
      have := flat_at 2 (fun x : Nat × Nat => [Value.int .u8 x.1, Value.int .i64 x.2]) (fun _ => rfl) hs j 1 hj (by omega)
      rw [show headC hs = hs.flatMap fun x => [Value.int .u8 x.1, Value.int .i64 x.2] from rfl, this]
      simp [hj]

def AtomP.q (a : AtomP) : AtomQ := ⟨a.nm, a.pl, a.ts⟩

theorem body_of_own {w : World} {base : Nat} {v : Value} {xs : List (AtomP × Value)} (h : w.ownsRow base 185 3 v xs.length (atomsC xs)) (ht : ∀ x ∈ xs, w.ownsRow base 187 2 x.2 x.1.ts.length (termsC x.1.ts)) : BodyAt w v ((xs.map (·.1)).map AtomP.q) := by
  obtain ⟨p, c, rfl, hle, hn, hs'⟩ := own_form h
  refine ⟨p, c, by simp, fun j hj => ?_⟩
  have hj' : j < xs.length := by simpa using hj
  have he : (((xs.map (·.1)).map AtomP.q)[j]?.getD noAtom) = (xs[j]).1.q := by simp [hj']
  rw [he]
  cases p with
  | none => have := (hn rfl).1; omega
  | some ad =>
    obtain ⟨g, rfl, _, _, hc⟩ := hs' ad rfl
    have hat : ∀ k, k < 3 → w.cell? ⟨g, 0 + j * 3 + k, none⟩ = [Value.string (xs[j]).1.nm, Value.int .i64 (xs[j]).1.pl, (xs[j]).2][k]? := fun k hk => by
      rw [Nat.zero_add, hc _ (mul_lt_of hj' hk)]
      have := flat_at 3 (fun x : AtomP × Value => [Value.string x.1.nm, Value.int .i64 x.1.pl, x.2]) (fun _ => rfl) xs j k hj' hk
      rw [show atomsC xs = xs.flatMap fun x => [Value.string x.1.nm, Value.int .i64 x.1.pl, x.2] from rfl, this]
    exact ⟨g, 0, (xs[j]).2, rfl, hat 0 (by omega), hat 1 (by omega), hat 2 (by omega), terms_of_own (ht _ (List.getElem_mem hj'))⟩

/-- A letter of a body: nothing, or one of A to Z. -/
abbrev LetOK (v : Nat) : Prop := v = 0 ∨ 65 ≤ v ∧ v ≤ 90

end Go.Proofs.YtgddkjhknlgbbaaGreatDoor
