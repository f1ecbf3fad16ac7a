import Derived.Test.YtgddkjhknlgbbaaGreatDoorR02
import Derived.Test.YtgddkjhknlgbbaaGreatDoorM15
import Derived.Test.YtgddkjhknlgbbaaGreatDoorM13
import Derived.Test.YtgddkjhknlgbbaaGreatDoorM14
set_option linter.unusedVariables false
set_option linter.unusedSimpArgs false

namespace Go.Proofs.YtgddkjhknlgbbaaGreatDoor
set_option linter.unusedVariables false
set_option linter.unusedSimpArgs false
open Go.RowKit Go.Maps

/-- Where a reader stands. -/
def plOf (W : World) (RB : Nat) : Nat := match W.cell? ⟨RB, 1, none⟩ with | some (.int _ z) => z.toNat | _ => 0
theorem Rdr.pl {W : World} {RB : Nat} {s : ByteArray} {p : Nat} (h : Rdr W RB s p) : plOf W RB = p := by
  unfold plOf
  rw [h.c1]
  simp

/-- What readNumber says. -/
def NumSaid (s : ByteArray) (RB p : Nat) (W : World) (e : Ending) (w' : World) : Prop :=
  (∃ z q, numP s p = .ok (z, q) ∧ e = .returned (.tuple #[.int .i64 z, .nilIface]) ∧ Rdr w' RB s q ∧ KeepX (fun q => q = RB) W w') ∨ (∃ q v, numP s p = .error q ∧ e = .returned (.tuple #[.int .i64 0, v]) ∧ ErrAt W.heap.size w' v 5 q ∧ KeepX (fun q => q = RB) W w')

set_option maxRecDepth 100000 in
set_option maxHeartbeats 8000000 in
theorem readNumber_any (RB : Nat) (s : ByteArray) (p : Nat) (W : World) (h : Rdr W RB s p) :
    Calls Tryz.prog 131 #[.pointer (some ⟨RB, 0, none⟩)] W (NumSaid s RB p W) := by
  have hh := here_any RB s p W h
  have hsz := h.sz
  have hle := h.le
  have hRl := h.lt
  obtain ⟨q0, hq0⟩ : ∃ q0, q0 = if byteAt s p = 45 then p + 1 else p := ⟨_, rfl⟩
  obtain ⟨sg, hsg⟩ : ∃ sg : Int, sg = if byteAt s p = 45 then -1 else 1 := ⟨_, rfl⟩
  have hq0s : q0 ≤ s.size := by
    rw [hq0]
    split
    · rename_i hm
      have := byteAt_ne (s := s) (p := p) (by omega)
      omega
    · exact hle
  obtain ⟨rv, hrv⟩ : ∃ rv, rv = digF s 9 q0 0 := ⟨_, rfl⟩
  have hres : numP s p = if rv.2 = q0 then Except.error q0 else Except.ok (sg * (rv.1 : Int), rv.2) := by
    unfold numP
    dsimp only
    rw [← hq0, ← hrv, hsg]
    by_cases hm : byteAt s p = 45
    · rw [if_pos hm, if_pos hm]; simp
    · rw [if_neg hm, if_neg hm]; simp
  have hfin0 : ∀ (w' : World) (v : Value), rv.2 = q0 → ErrAt W.heap.size w' v 5 q0 → KeepX (fun q => q = RB) W w' → NumSaid s RB p W (.returned (.tuple #[.int .i64 0, v])) w' := fun w' v he hE hK => .inr ⟨q0, v, by rw [hres, if_pos he], rfl, hE, hK⟩
  have hfin1 : ∀ (w' : World) (acc k : Nat), rv = (acc, q0 + k) → k ≠ 0 → Rdr w' RB s (q0 + k) → KeepX (fun q => q = RB) W w' → NumSaid s RB p W (.returned (.tuple #[.int .i64 (sg * (acc : Int)), .nilIface])) w' := fun w' acc k he hk hR hK => .inl ⟨_, _, by rw [hres, he, if_neg (by dsimp only; omega)], rfl, hR, hK⟩
  have hsg2 : sg = 1 ∨ sg = -1 := by rw [hsg]; split <;> simp
  have Hq := hide hrv
  have H := hide h
  have Hh := hide hh
  have Hfin0 := hide hfin0
  have Hfin1 := hide hfin1
  clear hrv hres h hh hfin0 hfin1
  by_cases hm : byteAt s p = 45
  · rw [if_pos hm] at hq0 hsg
    have hlt : p < s.size := byteAt_ne (by omega)
    rw [hm] at Hh
    clear hm
    subst hq0
    have hf1 : ∀ (w' : World) (acc k : Nat), rv = (acc, p + 1 + k) → k ≠ 0 → Rdr w' RB s (p + 1 + k) → KeepX (fun q => q = RB) W w' → NumSaid s RB p W (.returned (.tuple #[.int .i64 (-(acc : Int)), .nilIface])) w' := fun w' acc k a b c d => by
      have h := (unhide Hfin1) w' acc k a b c d
      rw [hsg, show (-1 : Int) * (acc : Int) = -(acc : Int) by omega] at h
      exact h
    have Hf1 := hide hf1
    clear hf1 hsg hsg2 Hfin1
    go_enter Tryz.func131, Tryz.ntmps131
    go_wp2_with (first | (go_at_call 110; refine (unhide Hh).mono ?_; rintro e w1 ⟨rfl, hd⟩; have hR1 := (unhide H).below hd.bel; have d1 := hR1.c1; have f1 := hR1.f1; have HR1 := hide hR1; have Hd := hide hd; clear hR1 hd))
    have hS : Rdr (w1.setCell ⟨RB, 1, none⟩ (.int .i64 ((p : Int) + 1))) RB s (p + 1) := setPlace (q := p + 1) (unhide HR1) (by omega)
    have hK : KeepX (fun q => q = RB) W (w1.setCell ⟨RB, 1, none⟩ (.int .i64 ((p : Int) + 1))) := (KeepX.ofBelow (unhide Hd).bel).trans (keepX_set1 _ _ _ _)
    obtain ⟨w2, hw2⟩ : ∃ w2, w2 = w1.setCell ⟨RB, 1, none⟩ (.int .i64 ((p : Int) + 1)) := ⟨_, rfl⟩
    rw [← hw2] at hS hK ⊢
    have HS := hide hS
    have HK := hide hK
    clear hS hK hw2 HR1 d1 f1
    go_loopw [5] (fun v5 wr => ∃ (k acc : Nat), k ≤ 9 ∧ v5 = .int .i64 acc ∧ acc < 10 ^ k ∧ Rdr wr RB s (p + 1 + k) ∧ digF s (9 - k) (p + 1 + k) acc = rv ∧ KeepX (fun q => q = RB) W wr) (fun _ wr => s.size + 1 - plOf wr RB)
    case atStart => exact ⟨0, 0, by omega, rfl, by omega, unhide HS, (unhide Hq).symm, unhide HK⟩
    case round =>
      obtain ⟨k, acc, hk9, rfl, hacc, hR, hdig, hKr⟩ := hrel
      have hhr := here_any RB s (p + 1 + k) wr hR
      have hacc9 : acc < 10 ^ 9 := Nat.lt_of_lt_of_le hacc (Nat.pow_le_pow_right (by omega) hk9)
      have hle2 := hR.le
      by_cases hdg : isDg (byteAt s (p + 1 + k)) = true
      · by_cases hk : k < 9
        · have hb : 48 ≤ byteAt s (p + 1 + k) ∧ byteAt s (p + 1 + k) ≤ 57 := by simpa [isDg] using hdg
          have hlt2 : p + 1 + k < s.size := byteAt_ne (by omega)
          have hstep : digF s (9 - (k + 1)) (p + 1 + (k + 1)) (10 * acc + (byteAt s (p + 1 + k) - 48)) = rv := by
            rw [← hdig, show 9 - k = (9 - (k + 1)) + 1 by omega, digF_go hdg]
            rfl
          obtain ⟨bq, hbq⟩ : ∃ bq, bq = byteAt s (p + 1 + k) := ⟨_, rfl⟩
          have hpow : 10 * acc + (bq - 48) < 10 ^ (k + 1) := by rw [Nat.pow_succ]; omega
          have hisd := fun w => isDg_any bq w
          rw [← hbq] at hhr hb hstep hdg
          have hb1 : (48 : Int) ≤ (bq : Int) := by omega
          have hb2 : (bq : Int) ≤ 57 := by omega
          have e1 : ((bq : Int) - 48) = ((bq - 48 : Nat) : Int) := by omega
          have Hhr := hide hhr
          have hh2 := fun w' (hd : Drawn wr w') => here_any RB s (p + 1 + k) w' (hR.below hd.bel)
          rw [← hbq] at hh2
          have Hh2 := hide hh2
          have HR := hide hR
          have HKr := hide hKr
          have Hstep := hide hstep
          have Hisd := hide hisd
          have Hpow := hide hpow
          have cr := hR.c1
          clear hhr hh2 hR hKr hdig hstep hisd hbq hacc hpow
          go_wp2_with (first
            | (go_at_call 144; refine ((unhide Hisd) _).mono ?_; rintro e w4 ⟨rfl, rfl⟩; rw [hdg])
            | (go_at_call 110; refine (unhide Hhr).mono ?_; rintro e w3 ⟨rfl, hd⟩; have hR1 := (unhide HR).below hd.bel; have d1 := hR1.c1; have HR1 := hide hR1; have Hd := hide hd; clear hR1 hd)
            | (go_at_call 110; refine ((unhide Hh2) _ (unhide Hd)).mono ?_; rintro e w5 ⟨rfl, hd5⟩; have hR5 := (unhide HR1).below hd5.bel; have d5 := hR5.c1; have f5 := hR5.f1; have HR5 := hide hR5; have Hd5 := hide hd5; clear hR5 hd5))
          have hset : Rdr (w5.setCell ⟨RB, 1, none⟩ (.int .i64 ((p : Int) + 1 + (k : Int) + 1))) RB s (p + 1 + (k + 1)) := by
            have h := setPlace (q := p + 1 + (k + 1)) (unhide HR5) (by omega)
            rw [show ((p + 1 + (k + 1) : Nat) : Int) = (p : Int) + 1 + (k : Int) + 1 by omega] at h
            exact h
          have hmes := hset.pl
          go_roundw
          case rel => exact ⟨k + 1, 10 * acc + (bq - 48), by omega, by first | rfl | (congr 1; omega) | (congr 1), unhide Hpow, hset, unhide Hstep, (((unhide HKr).trans (KeepX.ofBelow (unhide Hd).bel)).trans (KeepX.ofBelow (unhide Hd5).bel)).trans (keepX_set1 _ _ _ _)⟩
          case measure => rw [hmes, (unhide HR).pl]; omega
        · have hk' : k = 9 := by omega
          subst hk'
          have hrv : rv = (acc, p + 1 + 9) := hdig.symm
          have hisd := fun w => isDg_any (byteAt s (p + 1 + 9)) w
          generalize byteAt s (p + 1 + 9) = bq at *
          have Hhr := hide hhr
          have HR := hide hR
          have HKr := hide hKr
          have Hisd := hide hisd
          have Hrv := hide hrv
          clear hhr hR hKr hdig hisd hrv hacc
          go_wp2_with (first
            | (go_at_call 144; refine ((unhide Hisd) _).mono ?_; rintro e w4 ⟨rfl, rfl⟩; rw [hdg])
            | (go_at_call 110; refine (unhide Hhr).mono ?_; rintro e w3 ⟨rfl, hd⟩; have hR1 := (unhide HR).below hd.bel; have d1 := hR1.c1; have HR1 := hide hR1; have Hd := hide hd; clear hR1 hd))
          go_ret2
          exact (unhide Hf1) _ acc 9 (unhide Hrv) (by omega) (unhide HR1) ((unhide HKr).trans (KeepX.ofBelow (unhide Hd).bel))
      · have hdf : isDg (byteAt s (p + 1 + k)) = false := by simpa using hdg
        have hrv : rv = (acc, p + 1 + k) := by rw [← hdig]; exact digF_stop hdf
        have hisd := fun w => isDg_any (byteAt s (p + 1 + k)) w
        generalize byteAt s (p + 1 + k) = bq at *
        have Hhr := hide hhr
        have HR := hide hR
        have HKr := hide hKr
        have Hisd := hide hisd
        have Hrv := hide hrv
        clear hhr hR hKr hdig hisd hrv hacc hdg
        by_cases hk0 : k = 0
        · subst hk0
          go_wp2_with (first
            | (go_at_call 144; refine ((unhide Hisd) _).mono ?_; rintro e w4 ⟨rfl, rfl⟩; rw [hdf])
            | (go_at_call 110; refine (unhide Hhr).mono ?_; rintro e w3 ⟨rfl, hd⟩; have hR1 := (unhide HR).below hd.bel; have d1 := hR1.c1; have HR1 := hide hR1; have Hd := hide hd; clear hR1 hd)
            | (go_at_call 109; refine (fault_any RB s (p + 1) _ (unhide HR1)).mono ?_; rintro e w6 ⟨v, rfl, hE, hb6⟩; have HE := hide hE; have Hb6 := hide hb6; clear hE hb6))
          go_ret2
          exact (unhide Hfin0) _ _ (congrArg Prod.snd (unhide Hrv)) ((unhide HE).mono (by have := (unhide HKr).size; have := (unhide Hd).bel.size; omega)) (((unhide HKr).trans (KeepX.ofBelow (unhide Hd).bel)).trans (KeepX.ofBelow (unhide Hb6)))
        · have hkz : ¬ ((p : Int) + 1 + (k : Int) = (p : Int) + 1) := by omega
          go_wp2_with (first
            | (go_at_call 144; refine ((unhide Hisd) _).mono ?_; rintro e w4 ⟨rfl, rfl⟩; rw [hdf])
            | (go_at_call 110; refine (unhide Hhr).mono ?_; rintro e w3 ⟨rfl, hd⟩; have hR1 := (unhide HR).below hd.bel; have d1 := hR1.c1; have HR1 := hide hR1; have Hd := hide hd; clear hR1 hd))
          go_ret2
          exact (unhide Hf1) _ acc k (unhide Hrv) (by omega) (unhide HR1) ((unhide HKr).trans (KeepX.ofBelow (unhide Hd).bel))

  · rw [if_neg hm] at hq0 hsg
    have hmz : ((byteAt s p : Int) == 45) = false := by
      rw [beq_eq_false_iff_ne]
      omega
    generalize byteAt s p = bp at *
    clear hm
    subst hq0
    have hf1 : ∀ (w' : World) (acc k : Nat), rv = (acc, q0 + k) → k ≠ 0 → Rdr w' RB s (q0 + k) → KeepX (fun q => q = RB) W w' → NumSaid s RB q0 W (.returned (.tuple #[.int .i64 (acc : Int), .nilIface])) w' := fun w' acc k a b c d => by
      have h := (unhide Hfin1) w' acc k a b c d
      rw [hsg, Int.one_mul] at h
      exact h
    have Hf1 := hide hf1
    clear hf1 hsg hsg2 Hfin1
    go_enter Tryz.func131, Tryz.ntmps131
    go_wp2_with (first | (go_at_call 110; refine (unhide Hh).mono ?_; rintro e w2 ⟨rfl, hd⟩; have hR1 := (unhide H).below hd.bel; have d1 := hR1.c1; have HR1 := hide hR1; have Hd := hide hd; clear hR1 hd))
    have hS : Rdr w2 RB s q0 := unhide HR1
    have hK : KeepX (fun q => q = RB) W w2 := KeepX.ofBelow (unhide Hd).bel
    have HS := hide hS
    have HK := hide hK
    clear hS hK HR1 d1
    go_loopw [5] (fun v5 wr => ∃ (k acc : Nat), k ≤ 9 ∧ v5 = .int .i64 acc ∧ acc < 10 ^ k ∧ Rdr wr RB s (q0 + k) ∧ digF s (9 - k) (q0 + k) acc = rv ∧ KeepX (fun q => q = RB) W wr) (fun _ wr => s.size + 1 - plOf wr RB)
    case atStart => exact ⟨0, 0, by omega, rfl, by omega, unhide HS, (unhide Hq).symm, unhide HK⟩
    case round =>
      obtain ⟨k, acc, hk9, rfl, hacc, hR, hdig, hKr⟩ := hrel
      have hhr := here_any RB s (q0 + k) wr hR
      have hacc9 : acc < 10 ^ 9 := Nat.lt_of_lt_of_le hacc (Nat.pow_le_pow_right (by omega) hk9)
      have hle2 := hR.le
      by_cases hdg : isDg (byteAt s (q0 + k)) = true
      · by_cases hk : k < 9
        · have hb : 48 ≤ byteAt s (q0 + k) ∧ byteAt s (q0 + k) ≤ 57 := by simpa [isDg] using hdg
          have hlt2 : q0 + k < s.size := byteAt_ne (by omega)
          have hstep : digF s (9 - (k + 1)) (q0 + (k + 1)) (10 * acc + (byteAt s (q0 + k) - 48)) = rv := by
            rw [← hdig, show 9 - k = (9 - (k + 1)) + 1 by omega, digF_go hdg]
            rfl
          obtain ⟨bq, hbq⟩ : ∃ bq, bq = byteAt s (q0 + k) := ⟨_, rfl⟩
          have hpow : 10 * acc + (bq - 48) < 10 ^ (k + 1) := by rw [Nat.pow_succ]; omega
          have hisd := fun w => isDg_any bq w
          rw [← hbq] at hhr hb hstep hdg
          have hb1 : (48 : Int) ≤ (bq : Int) := by omega
          have hb2 : (bq : Int) ≤ 57 := by omega
          have e1 : ((bq : Int) - 48) = ((bq - 48 : Nat) : Int) := by omega
          have Hhr := hide hhr
          have hh2 := fun w' (hd : Drawn wr w') => here_any RB s (q0 + k) w' (hR.below hd.bel)
          rw [← hbq] at hh2
          have Hh2 := hide hh2
          have HR := hide hR
          have HKr := hide hKr
          have Hstep := hide hstep
          have Hisd := hide hisd
          have Hpow := hide hpow
          have cr := hR.c1
          clear hhr hh2 hR hKr hdig hstep hisd hbq hacc hpow
          go_wp2_with (first
            | (go_at_call 144; refine ((unhide Hisd) _).mono ?_; rintro e w4 ⟨rfl, rfl⟩; rw [hdg])
            | (go_at_call 110; refine (unhide Hhr).mono ?_; rintro e w3 ⟨rfl, hd⟩; have hR1 := (unhide HR).below hd.bel; have d1 := hR1.c1; have HR1 := hide hR1; have Hd := hide hd; clear hR1 hd)
            | (go_at_call 110; refine ((unhide Hh2) _ (unhide Hd)).mono ?_; rintro e w5 ⟨rfl, hd5⟩; have hR5 := (unhide HR1).below hd5.bel; have d5 := hR5.c1; have f5 := hR5.f1; have HR5 := hide hR5; have Hd5 := hide hd5; clear hR5 hd5))
          have hset : Rdr (w5.setCell ⟨RB, 1, none⟩ (.int .i64 ((q0 : Int) + (k : Int) + 1))) RB s (q0 + (k + 1)) := by
            have h := setPlace (q := q0 + (k + 1)) (unhide HR5) (by omega)
            rw [show ((q0 + (k + 1) : Nat) : Int) = (q0 : Int) + (k : Int) + 1 by omega] at h
            exact h
          have hmes := hset.pl
          go_roundw
          case rel => exact ⟨k + 1, 10 * acc + (bq - 48), by omega, by first | rfl | (congr 1; omega) | (congr 1), unhide Hpow, hset, unhide Hstep, (((unhide HKr).trans (KeepX.ofBelow (unhide Hd).bel)).trans (KeepX.ofBelow (unhide Hd5).bel)).trans (keepX_set1 _ _ _ _)⟩
          case measure => rw [hmes, (unhide HR).pl]; omega
        · have hk' : k = 9 := by omega
          subst hk'
          have hrv : rv = (acc, q0 + 9) := hdig.symm
          have hisd := fun w => isDg_any (byteAt s (q0 + 9)) w
          generalize byteAt s (q0 + 9) = bq at *
          have Hhr := hide hhr
          have HR := hide hR
          have HKr := hide hKr
          have Hisd := hide hisd
          have Hrv := hide hrv
          clear hhr hR hKr hdig hisd hrv hacc
          go_wp2_with (first
            | (go_at_call 144; refine ((unhide Hisd) _).mono ?_; rintro e w4 ⟨rfl, rfl⟩; rw [hdg])
            | (go_at_call 110; refine (unhide Hhr).mono ?_; rintro e w3 ⟨rfl, hd⟩; have hR1 := (unhide HR).below hd.bel; have d1 := hR1.c1; have HR1 := hide hR1; have Hd := hide hd; clear hR1 hd))
          go_ret2
          exact (unhide Hf1) _ acc 9 (unhide Hrv) (by omega) (unhide HR1) ((unhide HKr).trans (KeepX.ofBelow (unhide Hd).bel))
      · have hdf : isDg (byteAt s (q0 + k)) = false := by simpa using hdg
        have hrv : rv = (acc, q0 + k) := by rw [← hdig]; exact digF_stop hdf
        have hisd := fun w => isDg_any (byteAt s (q0 + k)) w
        generalize byteAt s (q0 + k) = bq at *
        have Hhr := hide hhr
        have HR := hide hR
        have HKr := hide hKr
        have Hisd := hide hisd
        have Hrv := hide hrv
        clear hhr hR hKr hdig hisd hrv hacc hdg
        by_cases hk0 : k = 0
        · subst hk0
          go_wp2_with (first
            | (go_at_call 144; refine ((unhide Hisd) _).mono ?_; rintro e w4 ⟨rfl, rfl⟩; rw [hdf])
            | (go_at_call 110; refine (unhide Hhr).mono ?_; rintro e w3 ⟨rfl, hd⟩; have hR1 := (unhide HR).below hd.bel; have d1 := hR1.c1; have HR1 := hide hR1; have Hd := hide hd; clear hR1 hd)
            | (go_at_call 109; refine (fault_any RB s (q0) _ (unhide HR1)).mono ?_; rintro e w6 ⟨v, rfl, hE, hb6⟩; have HE := hide hE; have Hb6 := hide hb6; clear hE hb6))
          go_ret2
          exact (unhide Hfin0) _ _ (congrArg Prod.snd (unhide Hrv)) ((unhide HE).mono (by have := (unhide HKr).size; have := (unhide Hd).bel.size; omega)) (((unhide HKr).trans (KeepX.ofBelow (unhide Hd).bel)).trans (KeepX.ofBelow (unhide Hb6)))
        · have hkz : ¬ ((q0 : Int) + (k : Int) = (q0 : Int)) := by omega
          go_wp2_with (first
            | (go_at_call 144; refine ((unhide Hisd) _).mono ?_; rintro e w4 ⟨rfl, rfl⟩; rw [hdf])
            | (go_at_call 110; refine (unhide Hhr).mono ?_; rintro e w3 ⟨rfl, hd⟩; have hR1 := (unhide HR).below hd.bel; have d1 := hR1.c1; have HR1 := hide hR1; have Hd := hide hd; clear hR1 hd))
          go_ret2
          exact (unhide Hf1) _ acc k (unhide Hrv) (by omega) (unhide HR1) ((unhide HKr).trans (KeepX.ofBelow (unhide Hd).bel))


end Go.Proofs.YtgddkjhknlgbbaaGreatDoor

namespace Go.Proofs.YtgddkjhknlgbbaaGreatDoor
set_option linter.unusedVariables false
set_option linter.unusedSimpArgs false
open Go.RowKit Go.Maps

theorem keep_new {X : Nat → Prop} {W w : World} (h : KeepX X W w) {b : Nat} (hb : W.heap.size ≤ b) (o : Nat) (v : Value) : KeepX X W (w.setCell ⟨b, o, none⟩ v) :=
  ⟨h.os, h.tape, h.output, Nat.le_trans h.size (KeepsWalks.setCell w _ v).size, fun q hq hx => (Below.heap_setCell _ _ _ q (fun e => by simp at e; omega)).trans (h.blk q hq hx)⟩
theorem Rdr.setO {w : World} {RB : Nat} {s : ByteArray} {q : Nat} (h : Rdr w RB s q) {b : Nat} (hb : b ≠ RB) (o : Nat) (v : Value) : Rdr (w.setCell ⟨b, o, none⟩ v) RB s q :=
  h.keep (Below.heap_setCell _ _ _ RB (fun e => hb (by simp at e; omega)))
theorem ErrAt.setO {B : Nat} {W : World} {v : Value} {c q : Nat} (h : ErrAt B W v c q) {b : Nat} (hb : b < B) (o : Nat) (u : Value) : ErrAt B (W.setCell ⟨b, o, none⟩ u) v c q :=
  h.keep (keepX_set1 W b o u) (fun k e => by omega)

/-- What readTerm says. -/
def TermSaid (W : World) (RB : Nat) (s : ByteArray) (p : Nat) (e : Ending) (w' : World) : Prop :=
  (∃ x q, termP s p = .ok (x, q) ∧ e = .returned (.tuple #[.agg #[.int .u8 x.1, .int .i64 x.2], .nilIface]) ∧ Rdr w' RB s q ∧ KeepX (fun q => q = RB) W w') ∨
  (∃ q v z, termP s p = .error q ∧ e = .returned (.tuple #[.agg #[.int .u8 0, .int .i64 z], v]) ∧ ErrAt W.heap.size w' v 5 q ∧ KeepX (fun q => q = RB) W w')

set_option maxRecDepth 100000 in
set_option maxHeartbeats 1000000 in
theorem readTerm_any (RB : Nat) (s : ByteArray) (p : Nat) (W : World) (h : Rdr W RB s p) :
    Calls Tryz.prog 125 #[.pointer (some ⟨RB, 0, none⟩)] W (TermSaid W RB s p) := by
  have hsz := h.sz
  have hl := h.lt
  have h0 := h.below ((Below.refl _ _).alloc (Nat.le_refl _) (.cells #[.int .u8 0, .int .i64 0] 187))
  have H := hide (upcoming_any RB s p _ h0)
  clear h h0
  have ht : termP s p = if isVr (byteAt s (skipP s p)) then .ok ((byteAt s (skipP s p), 0), skipP s p + 1) else match numP s (skipP s p) with
    | .error q => .error q
    | .ok (z, q) => .ok ((0, z), q) := rfl
  obtain ⟨q, hq⟩ : ∃ q, q = skipP s p := ⟨_, rfl⟩
  rw [← hq] at H ht
  clear hq
  obtain ⟨bq, hbq⟩ : ∃ bq, bq = byteAt s q := ⟨_, rfl⟩
  rw [← hbq] at H ht
  have hv := fun w => isVr_any bq w
  by_cases hb : isVr bq = true
  · have hlt : q < s.size := byteAt_ne (by rw [← hbq]; intro e; rw [e] at hb; cases hb)
    rw [hb] at hv
    rw [if_pos hb] at ht
    have Ht := hide ht
    clear ht
    have Hv := hide hv
    clear hbq hb hv
    go_enter Tryz.func125, Tryz.ntmps125
    go_wp2_with (first
      | (go_at_call 74; refine ((unhide Hv) _).mono ?_; rintro e w4 ⟨rfl, rfl⟩)
      | (go_at_call 108; refine (unhide H).mono ?_; rintro e w1 ⟨rfl, hR1, hK1⟩; have d1 := hR1.c1; have f1 := hR1.f1; have hB1 := (hK1.blk W.heap.size (by simp) (by omega)).trans (heap_last _ _ _ rfl); have e0 : w1.cell? ⟨W.heap.size, 0, none⟩ = some (.int .u8 0) := cell_of_heap hB1 0; have e1 : w1.cell? ⟨W.heap.size, 1, none⟩ = some (.int .i64 0) := cell_of_heap hB1 1; have g0 : w1.frozen? ⟨W.heap.size, 0, none⟩ = false := frozen_of_heap hB1 0; have g1 : w1.frozen? ⟨W.heap.size, 1, none⟩ = false := frozen_of_heap hB1 1; have HR1 := hide hR1; have HK1 := hide hK1; have HB1 := hide hB1; clear hR1 hK1 hB1))
    have hKW : KeepX (fun q => q = RB) W w4 := (KeepX.ofBelow ((Below.refl _ _).alloc (Nat.le_refl _) _)).trans (unhide HK1)
    refine bodyPost_ret (v := .tuple #[.agg #[.int .u8 bq, .int .i64 0], .nilIface]) (by simp [results, Tryz.results125, go_sem, e0, e1, g0, g1]) rfl (.inl ⟨_, _, unhide Ht, rfl, ?_, ?_⟩)
    · exact ((setPlace (q := q + 1) (unhide HR1) (by omega)).setO (by omega) _ _).setO (by omega) _ _
    · exact keep_new (keep_new (hKW.trans (keepX_set1 _ _ _ _)) (Nat.le_refl _) _ _) (Nat.le_refl _) _ _
  · have hbf : isVr bq = false := by simpa using hb
    rw [hbf] at hv
    rw [if_neg (by simp [hbf])] at ht
    have Ht := hide ht
    clear ht
    have Hv := hide hv
    clear hbq hb hv
    go_enter Tryz.func125, Tryz.ntmps125
    go_wp2_with (first
      | (go_at_call 74; refine ((unhide Hv) _).mono ?_; rintro e w4 ⟨rfl, rfl⟩)
      | (go_at_call 108; refine (unhide H).mono ?_; rintro e w1 ⟨rfl, hR1, hK1⟩; have hB1 := (hK1.blk W.heap.size (by simp) (by omega)).trans (heap_last _ _ _ rfl); have HR1 := hide hR1; have HK1 := hide hK1; have HB1 := hide hB1; clear hR1 hK1 hB1)
      | (go_at_call 131; refine (readNumber_any RB s q _ (unhide HR1)).mono ?_))
    rintro e w2 hN
    have hKW : KeepX (fun q => q = RB) W w4 := (KeepX.ofBelow ((Below.refl _ _).alloc (Nat.le_refl _) _)).trans (unhide HK1)
    have hlt4 : W.heap.size < w4.heap.size := by have := (unhide HK1).size; simp at this; omega
    rcases hN with ⟨z, q2, hn, rfl, hR2, hK2⟩ | ⟨q2, v, hn, rfl, hE2, hK2⟩
    · have hB2 := (hK2.blk W.heap.size hlt4 (by omega)).trans (unhide HB1)
      have e0 : w2.cell? ⟨W.heap.size, 0, none⟩ = some (.int .u8 0) := cell_of_heap hB2 0
      have e1 : w2.cell? ⟨W.heap.size, 1, none⟩ = some (.int .i64 0) := cell_of_heap hB2 1
      have g0 : w2.frozen? ⟨W.heap.size, 0, none⟩ = false := frozen_of_heap hB2 0
      have g1 : w2.frozen? ⟨W.heap.size, 1, none⟩ = false := frozen_of_heap hB2 1
      have HR2 := hide hR2
      have HK2 := hide (hKW.trans hK2)
      have Hn := hide hn
      clear hR2 hK2 hKW hB2 hn HR1 HK1 HB1
      go_wp2_with (first
        | (go_at_call 87; refine (in_nil _ _).mono ?_; rintro e w5 ⟨rfl, rfl⟩))
      refine bodyPost_ret (v := .tuple #[.agg #[.int .u8 0, .int .i64 z], .nilIface]) (by simp [results, Tryz.results125, go_sem, e0, e1, g0, g1]) rfl (.inl ⟨(0, z), q2, by rw [unhide Ht, unhide Hn], rfl, ?_, ?_⟩)
      · exact ((unhide HR2).setO (by omega) _ _).setO (by omega) _ _
      · exact keep_new (keep_new (unhide HK2) (Nat.le_refl _) _ _) (Nat.le_refl _) _ _
    · have hB2 := (hK2.blk W.heap.size hlt4 (by omega)).trans (unhide HB1)
      have HE := hide (in_err ⟨#[110, 117, 109, 98, 101, 114]⟩ v _ 5 q2 w2 hE2 hK2.size)
      have HB2 := hide hB2
      have hl2 : W.heap.size < w2.heap.size := by have := hK2.size; omega
      have HK2 := hide (hKW.trans hK2)
      have Hn := hide hn
      clear hE2 hK2 hKW hB2 hn HR1 HK1 HB1
      go_wp2_with fail
      refine (unhide HE).mono ?_
      rintro e w3 ⟨v', rfl, hE3, hb3⟩
      have hB3 := (hb3.block W.heap.size hl2).trans (unhide HB2)
      have e0 : w3.cell? ⟨W.heap.size, 0, none⟩ = some (.int .u8 0) := cell_of_heap hB3 0
      have e1 : w3.cell? ⟨W.heap.size, 1, none⟩ = some (.int .i64 0) := cell_of_heap hB3 1
      have g0 : w3.frozen? ⟨W.heap.size, 0, none⟩ = false := frozen_of_heap hB3 0
      have g1 : w3.frozen? ⟨W.heap.size, 1, none⟩ = false := frozen_of_heap hB3 1
      have HE3 := hide hE3
      have HK3 := hide ((unhide HK2).trans (KeepX.ofBelow hb3))
      clear hE3 hb3 hB3
      go_wp2_with fail
      refine bodyPost_ret (v := .tuple #[.agg #[.int .u8 0, .int .i64 0], v']) (by simp [results, Tryz.results125, go_sem, e0, e1, g0, g1]) rfl (.inr ⟨q2, v', 0, by rw [unhide Ht, unhide Hn], rfl, ?_, ?_⟩)
      · exact ((((unhide HE3).setO hlt4 _ _).setO hlt4 _ _)).mono (by omega)
      · exact keep_new (keep_new (unhide HK3) (Nat.le_refl _) _ _) (Nat.le_refl _) _ _

end Go.Proofs.YtgddkjhknlgbbaaGreatDoor

namespace Go.Proofs.YtgddkjhknlgbbaaGreatDoor
set_option linter.unusedVariables false
set_option linter.unusedSimpArgs false
open Go.RowKit Go.Maps Go.Sort Go.Shelf

def apSem (ts : Array TypeId) (ty : TypeId) (args : Array Value) : Sem Value := Builtin.append_ ts ty args
theorem inv_ap (ts : Array TypeId) (ty : TypeId) (args : Array Value) : Builtin.append_ ts ty args = apSem ts ty args := rfl

theorem belowD (n : Nat) (w : World) : Below n w w.drew := ⟨rfl, rfl, rfl, Nat.le_refl _, fun _ _ => rfl⟩

theorem own_keepX {X : Nat → Prop} {W W' : World} {base : Nat} {e : TypeId} {size : Nat} {v : Value} {n : Nat} {xs : List Value} (h : W.ownsRow base e size v n xs) (hk : KeepX X W W') (hx : ∀ g, v.ownBlock = some g → ¬ X g) : W'.ownsRow base e size v n xs := by
  refine ⟨h.1, ?_⟩
  rcases h.2 with h2 | ⟨g, cap, cur, rfl, hb, hg, r⟩
  · exact .inl h2
  · exact .inr ⟨g, cap, cur, rfl, hb, (hk.blk g (Array.getElem?_eq_some_iff.1 hg).1 (hx g rfl)).trans hg, r⟩

theorem own_lt {W : World} {base : Nat} {e : TypeId} {size : Nat} {v : Value} {n : Nat} {xs : List Value} (h : W.ownsRow base e size v n xs) {g : Nat} (hg : v.ownBlock = some g) : g < W.heap.size := by
  rcases h.2 with ⟨rfl, _⟩ | ⟨g', cap, cur, rfl, hb, hgh, r⟩
  · cases hg
  · simp only [Value.ownBlock] at hg
    injection hg with hg
    rw [← hg]
    exact (Array.getElem?_eq_some_iff.1 hgh).1

theorem cellsN_new (W : World) (cs : Array Value) (t : TypeId) : ∀ j u, cs.toList[j]? = some u → (W.alloc (.cells cs t)).cell? ((⟨W.heap.size, 0, none⟩ : Addr).add j) = some u := by
  intro j u hj
  have ea : (⟨W.heap.size, 0, none⟩ : Addr).add j = ⟨W.heap.size, j, none⟩ := by unfold Addr.add; split <;> simp_all
  rw [ea, cell_of_heap (heap_last _ _ _ rfl)]
  rwa [Array.getElem?_toList] at hj

/-- append of one element to a row of one's own, nil too. -/
theorem apAny {w2 : World} {base n : Nat} {v : Value} {xs : List Value} (cs : Array Value) (t e : TypeId) {size bytes : Nat} {z : Value} (hu : Tryz.prog.underlying t = some (.slice e)) (hinfo : (Tryz.prog.info? e).map (fun i => (i.zero, i.size, i.bytes)) = some (some z, size, bytes)) (hzs : z.cells.size = size) (hsz : 0 < size) (hcs : cs.size = size) (h1 : ∀ u ∈ cs.toList, u.oneCell' = true)
    (hrow : w2.ownsRow base e size v n xs) (hb : base ≤ w2.heap.size) (hl : n ≤ 1000000) (hby : bytes ≤ 1000000) :
    ∃ g' cap' w3, (apSem #[t, t] t #[v, .slice (some ⟨w2.heap.size, 0, none⟩) 1 1]).run Tryz.prog (w2.alloc (.cells cs e)) = .ok (.slice (some ⟨g', 0, none⟩) (n + 1) cap') w3 ∧
      w3.ownsRow base e size (.slice (some ⟨g', 0, none⟩) (n + 1) cap') (n + 1) (xs ++ cs.toList) ∧ (w2.alloc (.cells cs e)).grownBy w3 v.ownBlock := by
  obtain ⟨i, hi, hz0, hz1, hz2⟩ := info_parts hinfo
  obtain ⟨v', w', hr, h2, h3, _⟩ := run_append_own_at (P := Tryz.prog) (w2.alloc (.cells cs e)) base t t e i _ size bytes hu hi hz0 hz1 hz2 hzs hsz v n xs (hrow.alloc _) ⟨w2.heap.size, 0, none⟩ 1 1 cs.toList (by simp [hcs]) (cellsN_new w2 cs e) h1 (by unfold maxLen; omega) (Nat.le_trans (Nat.mul_le_mul (show n + 1 ≤ 1000001 by omega) hby) (by omega)) (by simp; omega)
  obtain ⟨g', cap', rfl⟩ := own_succ h2
  exact ⟨g', cap', w', hr, h2, h3⟩

abbrev Trm := Nat × Int
/-- Terms in the heap: a letter and a number each. -/
def TermsAt (w : World) (v : Value) (ts : List Trm) : Prop :=
  ∃ a cap, v = .slice a ts.length cap ∧ ∀ i, i < ts.length → ∃ b o, a = some ⟨b, o, none⟩ ∧ w.cell? ⟨b, o + i * 2, none⟩ = some (.int .u8 ((ts[i]?.getD (0, 0)).1 : Nat)) ∧ w.cell? ⟨b, o + i * 2 + 1, none⟩ = some (.int .i64 (ts[i]?.getD (0, 0)).2)

/-- An atom: a name, its place, terms. -/
structure AtomQ where
  nm : ByteArray
  pl : Nat
  ts : List Trm
def noAtom : AtomQ := ⟨ByteArray.empty, 0, []⟩

def BodyAt (w : World) (v : Value) (B : List AtomQ) : Prop :=
  ∃ a cap, v = .slice a B.length cap ∧ ∀ i, i < B.length → ∃ b o tv, a = some ⟨b, o, none⟩ ∧ w.cell? ⟨b, o + i * 3, none⟩ = some (.string (B[i]?.getD noAtom).nm) ∧ w.cell? ⟨b, o + i * 3 + 1, none⟩ = some (.int .i64 ((B[i]?.getD noAtom).pl : Nat)) ∧ w.cell? ⟨b, o + i * 3 + 2, none⟩ = some tv ∧ TermsAt w tv (B[i]?.getD noAtom).ts

def HeadAt (w : World) (v : Value) (H : List (Nat × Nat)) : Prop :=
  ∃ a cap, v = .slice a H.length cap ∧ ∀ i, i < H.length → ∃ b o, a = some ⟨b, o, none⟩ ∧ w.cell? ⟨b, o + i * 2, none⟩ = some (.int .u8 ((H[i]?.getD (0, 0)).1 : Nat)) ∧ w.cell? ⟨b, o + i * 2 + 1, none⟩ = some (.int .i64 ((H[i]?.getD (0, 0)).2 : Nat))

/-- A query in the heap. -/
structure QryAt (w : World) (QB : Nat) (H : List (Nat × Nat)) (B : List AtomQ) : Prop where
  blk : ∃ hv bv, w.heap[QB]? = some (.cells #[hv, bv] 166 (0, 0)) ∧ HeadAt w hv H ∧ BodyAt w bv B

theorem blk_below {a b : World} {k : Nat} {o : Obj} (h : Below a.heap.size a b) (hx : a.heap[k]? = some o) : b.heap[k]? = some o := (h.block k (Array.getElem?_eq_some_iff.1 hx).1).trans hx

theorem TermsAt.below {w w' : World} {v : Value} {ts : List Trm} (h : TermsAt w v ts) (hb : Below w.heap.size w w') : TermsAt w' v ts := by
  obtain ⟨a, cap, rfl, hx⟩ := h
  refine ⟨a, cap, rfl, fun i hi => ?_⟩
  obtain ⟨b, o, e, h0, h1⟩ := hx i hi
  exact ⟨b, o, e, (hb.cell (World.block_lt_of_cell? w _ h0)).trans h0, (hb.cell (World.block_lt_of_cell? w _ h1)).trans h1⟩
theorem BodyAt.below {w w' : World} {v : Value} {B : List AtomQ} (h : BodyAt w v B) (hb : Below w.heap.size w w') : BodyAt w' v B := by
  obtain ⟨a, cap, rfl, hx⟩ := h
  refine ⟨a, cap, rfl, fun i hi => ?_⟩
  obtain ⟨b, o, tv, e, h0, h1, h2, h3⟩ := hx i hi
  exact ⟨b, o, tv, e, (hb.cell (World.block_lt_of_cell? w _ h0)).trans h0, (hb.cell (World.block_lt_of_cell? w _ h1)).trans h1, (hb.cell (World.block_lt_of_cell? w _ h2)).trans h2, h3.below hb⟩
theorem HeadAt.below {w w' : World} {v : Value} {H : List (Nat × Nat)} (h : HeadAt w v H) (hb : Below w.heap.size w w') : HeadAt w' v H := by
  obtain ⟨a, cap, rfl, hx⟩ := h
  refine ⟨a, cap, rfl, fun i hi => ?_⟩
  obtain ⟨b, o, e, h0, h1⟩ := hx i hi
  exact ⟨b, o, e, (hb.cell (World.block_lt_of_cell? w _ h0)).trans h0, (hb.cell (World.block_lt_of_cell? w _ h1)).trans h1⟩
theorem QryAt.below {w w' : World} {QB : Nat} {H : List (Nat × Nat)} {B : List AtomQ} (h : QryAt w QB H B) (hb : Below w.heap.size w w') : QryAt w' QB H B := by
  obtain ⟨hv, bv, h1, h2, h3⟩ := h.blk
  exact ⟨hv, bv, blk_below hb h1, h2.below hb, h3.below hb⟩

/-- What a query that was read is sure to be. -/
structure QryOK (H : List (Nat × Nat)) (B : List AtomQ) : Prop where
  h4 : H.length ≤ 4
  b4 : B.length ≤ 4
  t3 : ∀ a ∈ B, a.ts.length ≤ 3

end Go.Proofs.YtgddkjhknlgbbaaGreatDoor

namespace Go.Proofs.YtgddkjhknlgbbaaGreatDoor
set_option linter.unusedVariables false
set_option linter.unusedSimpArgs false
open Go.RowKit Go.Maps

theorem Tryz.info187 : (Tryz.prog.info? 187).map (fun i => (i.zero, i.size, i.bytes)) = some (some (.agg #[.int .u8 0, .int .i64 0]), 2, 16) := by kernel_rfl

def termC (x : Nat × Int) : List Value := [.int .u8 x.1, .int .i64 x.2]
def termsC (xs : List (Nat × Int)) : List Value := xs.flatMap termC

/-- All that lay below B0, but the reader, is kept. -/
abbrev KeepR (B0 RB : Nat) (W w : World) : Prop := KeepX (fun q => q = RB ∨ B0 ≤ q) W w

/-- An atom that is being read: the reader in its box, the atom's block, its terms. -/
structure AtomB (W : World) (B0 RB Bb AB : Nat) (nm : ByteArray) (pl : Nat) (acc : List (Nat × Int)) : Prop where
  box : Boxed W Bb 160 (.pointer (some ⟨RB, 0, none⟩))
  blk : ∃ tv, W.heap[AB]? = some (.cells #[.string nm, .int .i64 pl, tv] 185 (0, 0)) ∧ W.ownsRow B0 187 2 tv acc.length (termsC acc)
  lo : Bb ≠ RB ∧ B0 ≤ AB ∧ RB < B0

theorem own_keepR {X : Nat → Prop} {W W' : World} {base : Nat} {e : TypeId} {size : Nat} {v : Value} {n : Nat} {xs : List Value} (h : W.ownsRow base e size v n xs) (hk : KeepX X W W') (hx : ∀ g, base ≤ g → ¬ X g) : W'.ownsRow base e size v n xs := by
  refine own_keepX h hk fun g hg => hx g ?_
  rcases h.2 with ⟨rfl, _⟩ | ⟨g', cap, cur, rfl, hb, _⟩
  · simp [Value.ownBlock] at hg
  · simp only [Value.ownBlock] at hg
    injection hg with hg
    omega
theorem AtomB.keep {W w : World} {B0 RB Bb AB : Nat} {nm : ByteArray} {pl : Nat} {acc : List (Nat × Int)} (h : AtomB W B0 RB Bb AB nm pl acc) (hk : KeepX (fun q => q = RB) W w) : AtomB w B0 RB Bb AB nm pl acc := by
  obtain ⟨hb, ⟨tv, h1, h2⟩, h3, h4, h5⟩ := h
  exact ⟨(hk.blk Bb (Array.getElem?_eq_some_iff.1 hb).1 h3).trans hb, ⟨tv, (hk.blk AB (Array.getElem?_eq_some_iff.1 h1).1 (by omega)).trans h1, own_keepR h2 hk (fun g hg => by omega)⟩, h3, h4, h5⟩

/-- What the reading of an item says. -/
def ItemSaid {α : Type} (B0 RB : Nat) (s : ByteArray) (r : Except Nat (α × Nat)) (J : α → World → Prop) (J' : World → Prop) (W : World) (e : Ending) (w' : World) : Prop :=
  (∃ x q, r = .ok (x, q) ∧ e = .returned .nilIface ∧ Rdr w' RB s q ∧ J x w' ∧ KeepR B0 RB W w') ∨ (∃ q v, r = .error q ∧ e = .returned v ∧ ErrAt B0 w' v 5 q ∧ J' w' ∧ KeepR B0 RB W w')

theorem own327_cells {W : World} {B0 n : Nat} {tv : Value} {xs : List Value} (h : W.ownsRow B0 187 2 tv n xs) {g : Nat} (hg : tv.ownBlock = some g) : B0 ≤ g ∧ ∃ cur, W.heap[g]? = some (.cells cur 187 (0, 0)) := by
  rcases h.2 with ⟨rfl, _⟩ | ⟨g', cap, cur, rfl, hb, hgh, _⟩
  · simp [Value.ownBlock] at hg
  · simp only [Value.ownBlock] at hg
    injection hg with hg
    subst hg
    exact ⟨hb, cur, hgh⟩

set_option maxRecDepth 100000 in
set_option maxHeartbeats 2000000 in
theorem readAtom1_any (RB Bb AB B0 : Nat) (s nm : ByteArray) (p pl : Nat) (acc : List (Nat × Int)) (hacc : acc.length ≤ 100) (W : World) (h : Rdr W RB s p) (hA : AtomB W B0 RB Bb AB nm pl acc) :
    Calls Tryz.prog 124 #[.pointer (some ⟨Bb, 0, none⟩), .pointer (some ⟨AB, 0, none⟩)] W (ItemSaid B0 RB s (termP s p) (fun x w => AtomB w B0 RB Bb AB nm pl (acc ++ [x])) (fun w => ∃ acc', AtomB w B0 RB Bb AB nm pl acc') W) := by
  obtain ⟨i, hi, hz0, hz1, hz2⟩ := info_parts Tryz.info187
  obtain ⟨tv, hblk, hown⟩ := hA.blk
  have hbx := hA.box
  obtain ⟨hl1, hl2, hl3⟩ := hA.lo
  have hAl : AB < W.heap.size := (Array.getElem?_eq_some_iff.1 hblk).1
  have hbl : Bb < W.heap.size := hbx.lt
  have cb : W.cell? ⟨Bb, 0, none⟩ = some (.pointer (some ⟨RB, 0, none⟩)) := hbx.cell
  have HT := hide (readTerm_any RB s p W h)
  have Hown := hide hown
  have Hblk := hide hblk
  have Hbx := hide hbx
  clear hA h hown hblk hbx
  go_enter Tryz.func124, Tryz.ntmps124
  go_wp2_with fail
  refine (unhide HT).mono ?_
  rintro e w1 hS
  -- the term as it comes, and how it ends
  obtain ⟨x, v, hsay, rfl, hK1, hvv⟩ : ∃ (x : Nat × Int) (v : Value), ((∃ q, termP s p = .ok (x, q) ∧ v = .nilIface ∧ Rdr w1 RB s q) ∨ (∃ q, termP s p = .error q ∧ ErrAt W.heap.size w1 v 5 q)) ∧ e = .returned (.tuple #[.agg #[.int .u8 x.1, .int .i64 x.2], v]) ∧ KeepX (fun q => q = RB) W w1 ∧ True := by
    rcases hS with ⟨x, q, h1, rfl, h2, h3⟩ | ⟨q, v, z, h1, rfl, h2, h3⟩
    · exact ⟨x, .nilIface, .inl ⟨q, h1, rfl, h2⟩, rfl, h3, trivial⟩
    · exact ⟨(0, z), v, .inr ⟨q, h1, h2⟩, rfl, h3, trivial⟩
  obtain ⟨x1, x2⟩ := x
  have hblk1 := (hK1.blk AB hAl (by omega)).trans (unhide Hblk)
  have hbx1 : Boxed w1 Bb 160 (.pointer (some ⟨RB, 0, none⟩)) := (hK1.blk Bb hbl (by omega)).trans (unhide Hbx)
  have hown1 : w1.ownsRow B0 187 2 tv acc.length (termsC acc) := own_keepX (unhide Hown) hK1 (fun g hg e => by have := (own327_cells (unhide Hown) hg).1; omega)
  have hA2 := (Below.heap_alloc w1 (.cells #[.int .u8 x1, .int .i64 x2] 187) AB (by have := hK1.size; omega)).trans hblk1
  have c2 : (w1.alloc (.cells #[.int .u8 x1, .int .i64 x2] 187)).cell? ⟨AB, 2, none⟩ = some tv := cell_of_heap hA2 2
  have f0 : (w1.alloc (.cells #[.int .u8 x1, .int .i64 x2] 187)).cell? ⟨w1.heap.size, 0, none⟩ = some (.int .u8 x1) := cell_of_heap (heap_last _ _ _ rfl) 0
  have f1 : (w1.alloc (.cells #[.int .u8 x1, .int .i64 x2] 187)).cell? ⟨w1.heap.size, 1, none⟩ = some (.int .i64 x2) := cell_of_heap (heap_last _ _ _ rfl) 1
  have Hsay := hide hsay
  have HK1 := hide hK1
  have Hblk1 := hide hblk1
  have Hbx1 := hide hbx1
  have Hown1 := hide hown1
  clear hsay hK1 hblk1 hbx1 hown1 hA2 HT hS
  dsimp only
  have hnew : ∀ j u, [Value.int .u8 x1, Value.int .i64 x2][j]? = some u → ((w1.alloc (.cells #[.int .u8 x1, .int .i64 x2] 187)).alloc (.cells #[.int .u8 x1, .int .i64 x2] 187)).cell? ((⟨w1.heap.size + 1, 0, none⟩ : Addr).add j) = some u := by
    have := cells2_new (w1.alloc (.cells #[.int .u8 x1, .int .i64 x2] 187)) (.int .u8 x1) (.int .i64 x2) 187
    simpa using this
  have hneA : tv.ownBlock ≠ some AB := fun e => by
    obtain ⟨_, cur, hc⟩ := own327_cells (unhide Hown1) e
    rw [unhide Hblk1] at hc
    simp at hc
  have hneB : tv.ownBlock ≠ some Bb := fun e => by
    obtain ⟨_, cur, hc⟩ := own327_cells (unhide Hown1) e
    rw [show w1.heap[Bb]? = _ from unhide Hbx1] at hc
    simp at hc
  have hs1 := (unhide HK1).size
  go_wp2_with (first
    | (at_builtin; refine wpList_append_own_at _ rfl _ _ 183 rfl B0 187 i _ 2 16 Tryz.underlying183 hi hz0 hz1 hz2 rfl (by decide) _ _ _ rfl (((unhide Hown1).alloc _).alloc _) ⟨w1.heap.size + 1, 0, none⟩ 1 1 [.int .u8 x1, .int .i64 x2] rfl rfl hnew (by simp [Value.oneCell']) (by unfold maxLen; omega) (by omega) (by simp; omega) ?_; intro v' w2 hown2 hg2 _ _; have hA3 := (hg2.block AB (by simp; omega) (fun e => hneA e.symm)).trans ((Below.heap_alloc _ _ AB (by simp; omega)).trans ((Below.heap_alloc _ _ AB (by omega)).trans (unhide Hblk1))); have ca := cell_of_heap hA3 2; have fa := frozen_of_heap hA3 2; obtain ⟨g', cap', rfl⟩ := own_succ hown2; have Hown2 := hide hown2; have Hg2 := hide hg2; have HA3 := hide hA3; clear hown2 hg2 hA3))
  go_ret
  show ItemSaid B0 RB s (termP s p) _ _ W (.returned v) (w2.setCell ⟨AB, 2, none⟩ (.slice (some ⟨g', 0, none⟩) (acc.length + 1) cap'))
  have hBA : Bb ≠ AB := fun e => by
    have h1 := unhide Hblk1
    rw [← e, show w1.heap[Bb]? = _ from unhide Hbx1] at h1
    simp at h1
  have hgA : g' ≠ AB := fun e => by
    obtain ⟨_, cur, hc⟩ := own327_cells (unhide Hown2) (g := g') rfl
    rw [e, unhide HA3] at hc
    simp at hc
  have hg2 := unhide Hg2
  have hK2 : KeepX (fun q => tv.ownBlock = some q ∨ q = AB) w1 w2 := (KeepX.ofBelow (((Below.refl _ w1).alloc (Nat.le_refl _) _).alloc (by simp) _)).trans ⟨hg2.os, hg2.tape, hg2.output, hg2.size, fun q hq hx => hg2.block q hq (fun e => hx (.inl e.symm))⟩
  have hK3 : KeepX (fun q => tv.ownBlock = some q ∨ q = AB) w1 (w2.setCell ⟨AB, 2, none⟩ (.slice (some ⟨g', 0, none⟩) (acc.length + 1) cap')) := hK2.trans ((keepX_set1 w2 AB 2 _).mono fun q _ e => .inr e)
  have hXB : ∀ q, (tv.ownBlock = some q ∨ q = AB) → B0 ≤ q ∧ q < W.heap.size := fun q hq => by
    rcases hq with hq | hq
    · obtain ⟨h1, cur, h2⟩ := own327_cells (unhide Hown) hq
      exact ⟨h1, (Array.getElem?_eq_some_iff.1 h2).1⟩
    · subst hq; exact ⟨hl2, hAl⟩
  have hKR : KeepR B0 RB W (w2.setCell ⟨AB, 2, none⟩ (.slice (some ⟨g', 0, none⟩) (acc.length + 1) cap')) := ((unhide HK1).mono fun q _ e => .inl e).trans (hK3.mono fun q _ e => .inr (hXB q e).1)
  have hAtom : AtomB (w2.setCell ⟨AB, 2, none⟩ (.slice (some ⟨g', 0, none⟩) (acc.length + 1) cap')) B0 RB Bb AB nm pl (acc ++ [(x1, x2)]) := by
    refine ⟨?_, ⟨.slice (some ⟨g', 0, none⟩) (acc.length + 1) cap', ?_, ?_⟩, hl1, hl2, hl3⟩
    · exact (hK3.blk Bb (by omega) (fun e => e.elim hneB hBA)).trans (unhide Hbx1)
    · simp only [World.setCell]
      rw [Array.getElem?_modify, if_pos rfl, unhide HA3]
      rfl
    · have e : termsC (acc ++ [(x1, x2)]) = termsC acc ++ [.int .u8 x1, .int .i64 x2] := by simp [termsC, termC]
      rw [e, List.length_append]
      refine own_keepX (unhide Hown2) (keepX_set1 w2 AB 2 _) (fun g hg => ?_)
      simp only [Value.ownBlock] at hg
      injection hg with hg
      omega
  rcases unhide Hsay with ⟨q, h1, rfl, hR⟩ | ⟨q, h1, hE⟩
  · exact .inl ⟨(x1, x2), q, h1, rfl, hR.keep (hK3.blk RB hR.lt (fun e => by have := (hXB RB e).1; omega)), hAtom, hKR⟩
  · exact .inr ⟨q, v, h1, rfl, (hE.keep hK3 (fun k hk => (hXB k hk).2)).mono (by have := (hXB AB (.inr rfl)).1; omega), ⟨_, hAtom⟩, hKR⟩

end Go.Proofs.YtgddkjhknlgbbaaGreatDoor

namespace Go.Proofs.YtgddkjhknlgbbaaGreatDoor
set_option linter.unusedVariables false
set_option linter.unusedSimpArgs false
open Go.RowKit Go.Maps

theorem listP_ok {α : Type} {item : Nat → Except Nat (α × Nat)} {s : ByteArray} {m p q : Nat} {acc : List α} {x : α} (h : item p = .ok (x, q)) : listP item s (m + 1) p acc = if m = 0 then .ok (acc ++ [x], q) else if byteAt s (skipP s q) = 44 then listP item s m (skipP s q + 1) (acc ++ [x]) else .ok (acc ++ [x], skipP s q) := by
  simp only [listP, h]
theorem listP_err {α : Type} {item : Nat → Except Nat (α × Nat)} {s : ByteArray} {m p q : Nat} {acc : List α} (h : item p = .error q) : listP item s (m + 1) p acc = .error q := by
  simp only [listP, h]

/-- What a list says. -/
def ListSaid {α : Type} (B0 RB : Nat) (s : ByteArray) (r : Except Nat (List α × Nat)) (J : List α → World → Prop) (J' : World → Prop) (W : World) (e : Ending) (w' : World) : Prop :=
  (∃ xs q, r = .ok (xs, q) ∧ e = .returned .nilIface ∧ Rdr w' RB s q ∧ J xs w' ∧ KeepR B0 RB W w') ∨ (∃ q v, r = .error q ∧ e = .returned v ∧ ErrAt B0 w' v 5 q ∧ J' w' ∧ KeepR B0 RB W w')


set_option maxRecDepth 100000 in
set_option maxHeartbeats 2000000 in
theorem list_217 {α : Type} (RB B0 : Nat) (s t : ByteArray) (ht : t.size ≤ 1000) (most : Nat) (h1 : 1 ≤ most) (h9 : most ≤ 9) (c1 c2 : Value) (item : Nat → Except Nat (α × Nat)) (J : List α → World → Prop) (J' : World → Prop)
    (hJ : ∀ acc w w', J acc w → KeepX (fun q => q = RB) w w' → J acc w') (hJ' : ∀ w w', J' w → KeepX (fun q => q = RB) w w' → J' w')
    (hcall : ∀ acc p w, acc.length < most → Rdr w RB s p → J acc w → B0 ≤ w.heap.size → Calls Tryz.prog 124 #[c1, c2] w (ItemSaid B0 RB s (item p) (fun x w' => J (acc ++ [x]) w') J' w))
    (p : Nat) (W : World) (hR : Rdr W RB s p) (h0 : J [] W) (hB : B0 ≤ W.heap.size) :
    Calls Tryz.prog 106 #[.pointer (some ⟨RB, 0, none⟩), .string t, .int .i64 most, .func (.func 124) #[] #[c1, c2]] W (ListSaid B0 RB s (listP item s most p []) J J' W) := by
  have HR := hide hR
  have H0 := hide h0
  have Hcall := hide hcall
  have HJ := hide hJ
  have HJ' := hide hJ'
  clear hR h0 hcall hJ hJ'
  go_enter Tryz.func106, Tryz.ntmps106
  go_wp2
  go_loopw [9] (fun i wr => ∃ (k p' : Nat) (acc : List α), acc.length = k ∧ k < most ∧ i = .int .i64 ((k : Int) + 1) ∧ Rdr wr RB s p' ∧ J acc wr ∧ KeepR B0 RB W wr ∧ listP item s (most - k) p' acc = listP item s most p []) (fun i _ => most - (intOf i).toNat)
  case atStart => exact ⟨0, p, [], rfl, by omega, rfl, unhide HR, unhide H0, KeepX.refl _ _, by simp⟩
  case round =>
    obtain ⟨k, p', acc, hk, hlt, rfl, hRr, hJr, hKr, hlist⟩ := hrel
    have hBr : B0 ≤ wr.heap.size := Nat.le_trans hB hKr.size
    have Hc := hide ((unhide Hcall) acc p' wr (by omega) hRr hJr hBr)
    have HKr := hide hKr
    have Hlist := hide hlist
    obtain ⟨m, hm⟩ : ∃ m, most - k = m + 1 := ⟨most - k - 1, by omega⟩
    rw [hm] at hlist
    have Hl := hide hlist
    clear hRr hJr hKr hlist
    go_wp2_with fail
    refine (unhide Hc).mono ?_
    rintro e w1 (⟨x, q, hi, rfl, hR1, hJ1, hK1⟩ | ⟨q, v, hi, rfl, hE1, hJ1, hK1⟩)
    · have hl2 := (listP_ok hi).symm.trans (unhide Hl)
      by_cases hmost : k + 1 = most
      · have hz : (k : Int) + 1 = (most : Int) := by omega
        rw [if_pos (show m = 0 by omega)] at hl2
        have HF := hide (And.intro hl2.symm (And.intro hR1 (And.intro hJ1 ((unhide HKr).trans hK1))))
        clear hl2 hR1 hJ1 hK1 Hc Hl hi
        go_wp2
        go_ret
        exact .inl ⟨_, _, (unhide HF).1, rfl, (unhide HF).2.1, (unhide HF).2.2.1, (unhide HF).2.2.2⟩
      · have hz : ¬ (k : Int) + 1 = (most : Int) := by omega
        rw [if_neg (show ¬ m = 0 by omega)] at hl2
        have Ht := hide (take_any RB s q 44 (by omega) w1 hR1)
        by_cases hcm : byteAt s (skipP s q) = 44
        · rw [if_pos hcm] at hl2 Ht
          rw [decide_eq_true hcm] at Ht
          have HJ1 := hide hJ1
          have HK1 := hide ((unhide HKr).trans hK1)
          have Hl2 := hide hl2
          clear hl2 hR1 hJ1 hK1 Hc Hl hi hcm
          go_wp2_with (first | (go_at_call 105; refine (unhide Ht).mono ?_; rintro e w2 ⟨rfl, hR2, hK2⟩; have HR2 := hide hR2; have HK2 := hide hK2; clear hR2 hK2))
          go_roundw
          case rel => exact ⟨k + 1, _, acc ++ [x], by simp [hk], by omega, by go_num, unhide HR2, (unhide HJ) _ _ _ (unhide HJ1) (unhide HK2), (unhide HK1).trans ((unhide HK2).mono fun q _ e => .inl e), by rw [show most - (k + 1) = m by omega]; exact unhide Hl2⟩
          case measure => simp [intOf]; omega
        · rw [if_neg hcm] at hl2 Ht
          rw [decide_eq_false hcm] at Ht
          have HJ1 := hide hJ1
          have HK1 := hide ((unhide HKr).trans hK1)
          have Hl2 := hide hl2
          clear hl2 hR1 hJ1 hK1 Hc Hl hi hcm
          go_wp2_with (first | (go_at_call 105; refine (unhide Ht).mono ?_; rintro e w2 ⟨rfl, hR2, hK2⟩; have HR2 := hide hR2; have HK2 := hide hK2; clear hR2 hK2))
          go_ret
          exact .inl ⟨_, _, (unhide Hl2).symm, rfl, unhide HR2, (unhide HJ) _ _ _ (unhide HJ1) (unhide HK2), (unhide HK1).trans ((unhide HK2).mono fun q _ e => .inl e)⟩
    · have hl2 := (listP_err hi).symm.trans (unhide Hl)
      obtain ⟨ty, b, rfl, hty⟩ := hE1.form
      have Hi := hide (inItem_any t (k + 1) _ B0 5 q w1 ht (by omega) hE1 (Nat.le_trans hBr hK1.size))
      have HJ1 := hide hJ1
      have HK1 := hide ((unhide HKr).trans hK1)
      have Hl2 := hide hl2
      clear hl2 hE1 hJ1 hK1 Hc Hl hi
      go_wp2_with (first | (go_at_call 114; refine (unhide Hi).mono ?_; rintro e w2 ⟨v', rfl, hE2, hb2⟩; have HE2 := hide hE2; have Hb2 := hide hb2; clear hE2 hb2))
      go_ret
      exact .inr ⟨_, _, (unhide Hl2).symm, rfl, unhide HE2, (unhide HJ') _ _ (unhide HJ1) (KeepX.ofBelow (unhide Hb2)), (unhide HK1).trans (KeepX.ofBelow (unhide Hb2))⟩

set_option maxRecDepth 100000 in
set_option maxHeartbeats 2000000 in
theorem list_179 {α : Type} (RB B0 : Nat) (s t : ByteArray) (ht : t.size ≤ 1000) (most : Nat) (h1 : 1 ≤ most) (h9 : most ≤ 9) (c1 c2 : Value) (item : Nat → Except Nat (α × Nat)) (J : List α → World → Prop) (J' : World → Prop)
    (hJ : ∀ acc w w', J acc w → KeepX (fun q => q = RB) w w' → J acc w') (hJ' : ∀ w w', J' w → KeepX (fun q => q = RB) w w' → J' w')
    (hcall : ∀ acc p w, acc.length < most → Rdr w RB s p → J acc w → B0 ≤ w.heap.size → Calls Tryz.prog 107 #[c1, c2] w (ItemSaid B0 RB s (item p) (fun x w' => J (acc ++ [x]) w') J' w))
    (p : Nat) (W : World) (hR : Rdr W RB s p) (h0 : J [] W) (hB : B0 ≤ W.heap.size) :
    Calls Tryz.prog 106 #[.pointer (some ⟨RB, 0, none⟩), .string t, .int .i64 most, .func (.func 107) #[] #[c1, c2]] W (ListSaid B0 RB s (listP item s most p []) J J' W) := by
  have HR := hide hR
  have H0 := hide h0
  have Hcall := hide hcall
  have HJ := hide hJ
  have HJ' := hide hJ'
  clear hR h0 hcall hJ hJ'
  go_enter Tryz.func106, Tryz.ntmps106
  go_wp2
  go_loopw [9] (fun i wr => ∃ (k p' : Nat) (acc : List α), acc.length = k ∧ k < most ∧ i = .int .i64 ((k : Int) + 1) ∧ Rdr wr RB s p' ∧ J acc wr ∧ KeepR B0 RB W wr ∧ listP item s (most - k) p' acc = listP item s most p []) (fun i _ => most - (intOf i).toNat)
  case atStart => exact ⟨0, p, [], rfl, by omega, rfl, unhide HR, unhide H0, KeepX.refl _ _, by simp⟩
  case round =>
    obtain ⟨k, p', acc, hk, hlt, rfl, hRr, hJr, hKr, hlist⟩ := hrel
    have hBr : B0 ≤ wr.heap.size := Nat.le_trans hB hKr.size
    have Hc := hide ((unhide Hcall) acc p' wr (by omega) hRr hJr hBr)
    have HKr := hide hKr
    have Hlist := hide hlist
    obtain ⟨m, hm⟩ : ∃ m, most - k = m + 1 := ⟨most - k - 1, by omega⟩
    rw [hm] at hlist
    have Hl := hide hlist
    clear hRr hJr hKr hlist
    go_wp2_with fail
    refine (unhide Hc).mono ?_
    rintro e w1 (⟨x, q, hi, rfl, hR1, hJ1, hK1⟩ | ⟨q, v, hi, rfl, hE1, hJ1, hK1⟩)
    · have hl2 := (listP_ok hi).symm.trans (unhide Hl)
      by_cases hmost : k + 1 = most
      · have hz : (k : Int) + 1 = (most : Int) := by omega
        rw [if_pos (show m = 0 by omega)] at hl2
        have HF := hide (And.intro hl2.symm (And.intro hR1 (And.intro hJ1 ((unhide HKr).trans hK1))))
        clear hl2 hR1 hJ1 hK1 Hc Hl hi
        go_wp2
        go_ret
        exact .inl ⟨_, _, (unhide HF).1, rfl, (unhide HF).2.1, (unhide HF).2.2.1, (unhide HF).2.2.2⟩
      · have hz : ¬ (k : Int) + 1 = (most : Int) := by omega
        rw [if_neg (show ¬ m = 0 by omega)] at hl2
        have Ht := hide (take_any RB s q 44 (by omega) w1 hR1)
        by_cases hcm : byteAt s (skipP s q) = 44
        · rw [if_pos hcm] at hl2 Ht
          rw [decide_eq_true hcm] at Ht
          have HJ1 := hide hJ1
          have HK1 := hide ((unhide HKr).trans hK1)
          have Hl2 := hide hl2
          clear hl2 hR1 hJ1 hK1 Hc Hl hi hcm
          go_wp2_with (first | (go_at_call 105; refine (unhide Ht).mono ?_; rintro e w2 ⟨rfl, hR2, hK2⟩; have HR2 := hide hR2; have HK2 := hide hK2; clear hR2 hK2))
          go_roundw
          case rel => exact ⟨k + 1, _, acc ++ [x], by simp [hk], by omega, by go_num, unhide HR2, (unhide HJ) _ _ _ (unhide HJ1) (unhide HK2), (unhide HK1).trans ((unhide HK2).mono fun q _ e => .inl e), by rw [show most - (k + 1) = m by omega]; exact unhide Hl2⟩
          case measure => simp [intOf]; omega
        · rw [if_neg hcm] at hl2 Ht
          rw [decide_eq_false hcm] at Ht
          have HJ1 := hide hJ1
          have HK1 := hide ((unhide HKr).trans hK1)
          have Hl2 := hide hl2
          clear hl2 hR1 hJ1 hK1 Hc Hl hi hcm
          go_wp2_with (first | (go_at_call 105; refine (unhide Ht).mono ?_; rintro e w2 ⟨rfl, hR2, hK2⟩; have HR2 := hide hR2; have HK2 := hide hK2; clear hR2 hK2))
          go_ret
          exact .inl ⟨_, _, (unhide Hl2).symm, rfl, unhide HR2, (unhide HJ) _ _ _ (unhide HJ1) (unhide HK2), (unhide HK1).trans ((unhide HK2).mono fun q _ e => .inl e)⟩
    · have hl2 := (listP_err hi).symm.trans (unhide Hl)
      obtain ⟨ty, b, rfl, hty⟩ := hE1.form
      have Hi := hide (inItem_any t (k + 1) _ B0 5 q w1 ht (by omega) hE1 (Nat.le_trans hBr hK1.size))
      have HJ1 := hide hJ1
      have HK1 := hide ((unhide HKr).trans hK1)
      have Hl2 := hide hl2
      clear hl2 hE1 hJ1 hK1 Hc Hl hi
      go_wp2_with (first | (go_at_call 114; refine (unhide Hi).mono ?_; rintro e w2 ⟨v', rfl, hE2, hb2⟩; have HE2 := hide hE2; have Hb2 := hide hb2; clear hE2 hb2))
      go_ret
      exact .inr ⟨_, _, (unhide Hl2).symm, rfl, unhide HE2, (unhide HJ') _ _ (unhide HJ1) (KeepX.ofBelow (unhide Hb2)), (unhide HK1).trans (KeepX.ofBelow (unhide Hb2))⟩

set_option maxRecDepth 100000 in
set_option maxHeartbeats 2000000 in
theorem list_183 {α : Type} (RB B0 : Nat) (s t : ByteArray) (ht : t.size ≤ 1000) (most : Nat) (h1 : 1 ≤ most) (h9 : most ≤ 9) (c1 c2 : Value) (item : Nat → Except Nat (α × Nat)) (J : List α → World → Prop) (J' : World → Prop)
    (hJ : ∀ acc w w', J acc w → KeepX (fun q => q = RB) w w' → J acc w') (hJ' : ∀ w w', J' w → KeepX (fun q => q = RB) w w' → J' w')
    (hcall : ∀ acc p w, acc.length < most → Rdr w RB s p → J acc w → B0 ≤ w.heap.size → Calls Tryz.prog 111 #[c1, c2] w (ItemSaid B0 RB s (item p) (fun x w' => J (acc ++ [x]) w') J' w))
    (p : Nat) (W : World) (hR : Rdr W RB s p) (h0 : J [] W) (hB : B0 ≤ W.heap.size) :
    Calls Tryz.prog 106 #[.pointer (some ⟨RB, 0, none⟩), .string t, .int .i64 most, .func (.func 111) #[] #[c1, c2]] W (ListSaid B0 RB s (listP item s most p []) J J' W) := by
  have HR := hide hR
  have H0 := hide h0
  have Hcall := hide hcall
  have HJ := hide hJ
  have HJ' := hide hJ'
  clear hR h0 hcall hJ hJ'
  go_enter Tryz.func106, Tryz.ntmps106
  go_wp2
  go_loopw [9] (fun i wr => ∃ (k p' : Nat) (acc : List α), acc.length = k ∧ k < most ∧ i = .int .i64 ((k : Int) + 1) ∧ Rdr wr RB s p' ∧ J acc wr ∧ KeepR B0 RB W wr ∧ listP item s (most - k) p' acc = listP item s most p []) (fun i _ => most - (intOf i).toNat)
  case atStart => exact ⟨0, p, [], rfl, by omega, rfl, unhide HR, unhide H0, KeepX.refl _ _, by simp⟩
  case round =>
    obtain ⟨k, p', acc, hk, hlt, rfl, hRr, hJr, hKr, hlist⟩ := hrel
    have hBr : B0 ≤ wr.heap.size := Nat.le_trans hB hKr.size
    have Hc := hide ((unhide Hcall) acc p' wr (by omega) hRr hJr hBr)
    have HKr := hide hKr
    have Hlist := hide hlist
    obtain ⟨m, hm⟩ : ∃ m, most - k = m + 1 := ⟨most - k - 1, by omega⟩
    rw [hm] at hlist
    have Hl := hide hlist
    clear hRr hJr hKr hlist
    go_wp2_with fail
    refine (unhide Hc).mono ?_
    rintro e w1 (⟨x, q, hi, rfl, hR1, hJ1, hK1⟩ | ⟨q, v, hi, rfl, hE1, hJ1, hK1⟩)
    · have hl2 := (listP_ok hi).symm.trans (unhide Hl)
      by_cases hmost : k + 1 = most
      · have hz : (k : Int) + 1 = (most : Int) := by omega
        rw [if_pos (show m = 0 by omega)] at hl2
        have HF := hide (And.intro hl2.symm (And.intro hR1 (And.intro hJ1 ((unhide HKr).trans hK1))))
        clear hl2 hR1 hJ1 hK1 Hc Hl hi
        go_wp2
        go_ret
        exact .inl ⟨_, _, (unhide HF).1, rfl, (unhide HF).2.1, (unhide HF).2.2.1, (unhide HF).2.2.2⟩
      · have hz : ¬ (k : Int) + 1 = (most : Int) := by omega
        rw [if_neg (show ¬ m = 0 by omega)] at hl2
        have Ht := hide (take_any RB s q 44 (by omega) w1 hR1)
        by_cases hcm : byteAt s (skipP s q) = 44
        · rw [if_pos hcm] at hl2 Ht
          rw [decide_eq_true hcm] at Ht
          have HJ1 := hide hJ1
          have HK1 := hide ((unhide HKr).trans hK1)
          have Hl2 := hide hl2
          clear hl2 hR1 hJ1 hK1 Hc Hl hi hcm
          go_wp2_with (first | (go_at_call 105; refine (unhide Ht).mono ?_; rintro e w2 ⟨rfl, hR2, hK2⟩; have HR2 := hide hR2; have HK2 := hide hK2; clear hR2 hK2))
          go_roundw
          case rel => exact ⟨k + 1, _, acc ++ [x], by simp [hk], by omega, by go_num, unhide HR2, (unhide HJ) _ _ _ (unhide HJ1) (unhide HK2), (unhide HK1).trans ((unhide HK2).mono fun q _ e => .inl e), by rw [show most - (k + 1) = m by omega]; exact unhide Hl2⟩
          case measure => simp [intOf]; omega
        · rw [if_neg hcm] at hl2 Ht
          rw [decide_eq_false hcm] at Ht
          have HJ1 := hide hJ1
          have HK1 := hide ((unhide HKr).trans hK1)
          have Hl2 := hide hl2
          clear hl2 hR1 hJ1 hK1 Hc Hl hi hcm
          go_wp2_with (first | (go_at_call 105; refine (unhide Ht).mono ?_; rintro e w2 ⟨rfl, hR2, hK2⟩; have HR2 := hide hR2; have HK2 := hide hK2; clear hR2 hK2))
          go_ret
          exact .inl ⟨_, _, (unhide Hl2).symm, rfl, unhide HR2, (unhide HJ) _ _ _ (unhide HJ1) (unhide HK2), (unhide HK1).trans ((unhide HK2).mono fun q _ e => .inl e)⟩
    · have hl2 := (listP_err hi).symm.trans (unhide Hl)
      obtain ⟨ty, b, rfl, hty⟩ := hE1.form
      have Hi := hide (inItem_any t (k + 1) _ B0 5 q w1 ht (by omega) hE1 (Nat.le_trans hBr hK1.size))
      have HJ1 := hide hJ1
      have HK1 := hide ((unhide HKr).trans hK1)
      have Hl2 := hide hl2
      clear hl2 hE1 hJ1 hK1 Hc Hl hi
      go_wp2_with (first | (go_at_call 114; refine (unhide Hi).mono ?_; rintro e w2 ⟨v', rfl, hE2, hb2⟩; have HE2 := hide hE2; have Hb2 := hide hb2; clear hE2 hb2))
      go_ret
      exact .inr ⟨_, _, (unhide Hl2).symm, rfl, unhide HE2, (unhide HJ') _ _ (unhide HJ1) (KeepX.ofBelow (unhide Hb2)), (unhide HK1).trans (KeepX.ofBelow (unhide Hb2))⟩

end Go.Proofs.YtgddkjhknlgbbaaGreatDoor
