import Derived.Test.YtoifcnidhfnapaaGreatApplies
set_option linter.unusedVariables false
set_option linter.unusedSimpArgs false
namespace Go.Proofs.YtoifcnidhfnapaaGreat
open Go.RowKit Go.Maps

def cmpI (x y : Int) : Int := if x < y then -1 else if y < x then 1 else 0

set_option maxHeartbeats 400000 in
theorem nan_any (x : Int) (w : World) : Calls Tryz.prog 117 #[.int .i64 x] w fun e w' => e = .returned (.bool false) ∧ w' = w := by
  have h : (x != x) = false := by simp
  go_enter Tryz.func117, Tryz.ntmps117
  go_wp2
  go_ret
  exact ⟨by simp, rfl⟩

set_option maxHeartbeats 400000 in
theorem cmp_any (x y : Int) (w : World) : Calls Tryz.prog 110 #[.int .i64 x, .int .i64 y] w fun e w' => e = .returned (.int .i64 (cmpI x y)) ∧ w' = w := by
  by_cases h1 : x < y
  · have e : Hid (cmpI x y = -1) := by unfold Hid cmpI; rw [if_pos h1]
    go_enter Tryz.func110, Tryz.ntmps110
    go_wp2_with (first | (go_at_call 117; refine (nan_any _ _).mono ?_; rintro e w' ⟨rfl, rfl⟩))
    go_ret
    exact ⟨ret_int e.out.symm, rfl⟩
  · by_cases h2 : y < x
    · have e : Hid (cmpI x y = 1) := by unfold Hid cmpI; rw [if_neg h1, if_pos h2]
      go_enter Tryz.func110, Tryz.ntmps110
      go_wp2_with (first | (go_at_call 117; refine (nan_any _ _).mono ?_; rintro e w' ⟨rfl, rfl⟩))
      go_ret
      exact ⟨ret_int e.out.symm, rfl⟩
    · have e : Hid (cmpI x y = 0) := by unfold Hid cmpI; rw [if_neg h1, if_neg h2]
      go_enter Tryz.func110, Tryz.ntmps110
      go_wp2_with (first | (go_at_call 117; refine (nan_any _ _).mono ?_; rintro e w' ⟨rfl, rfl⟩))
      go_ret
      exact ⟨ret_int e.out.symm, rfl⟩

/-- The order of rows, as slices.Compare tells it, at one length. -/
def cmpL : List Int → List Int → Int
  | x :: xs, y :: ys => if cmpI x y = 0 then cmpL xs ys else cmpI x y
  | _, _ => 0

theorem cmpL_step {xs ys : List Int} {k : Nat} (h1 : k < xs.length) (h2 : k < ys.length) : cmpL (xs.drop k) (ys.drop k) = if cmpI (xs[k]?.getD 0) (ys[k]?.getD 0) = 0 then cmpL (xs.drop (k + 1)) (ys.drop (k + 1)) else cmpI (xs[k]?.getD 0) (ys[k]?.getD 0) := by
  rw [List.drop_eq_getElem_cons h1, List.drop_eq_getElem_cons h2]
  simp [cmpL, h1, h2]

theorem cmpI_bd (x y : Int) : -1 ≤ cmpI x y ∧ cmpI x y ≤ 1 := by
  unfold cmpI
  split
  · omega
  · split <;> omega

set_option maxHeartbeats 400000 in
theorem compare_any (v u : Value) (zs ys : List Int) (w : World) (hv : IntsAt w v zs) (hu : IntsAt w u ys) (hl : zs.length = ys.length) (hl2 : zs.length ≤ 1000000) :
    Calls Tryz.prog 96 #[v, u] w fun e w' => e = .returned (.int .i64 (cmpL zs ys)) ∧ w' = w := by
  obtain ⟨a, cap, rfl, hc⟩ := hv
  obtain ⟨a', cap', rfl, hc'⟩ := hu
  have Hc := hide hc
  have Hc' := hide hc'
  have g1 : zs.length ≤ ys.length := by omega
  have g2 : ys.length ≤ zs.length := by omega
  clear hc hc' hl
  go_enter Tryz.func96, Tryz.ntmps96
  go_wp2
  go_loop [11] (fun i => ∃ k : Nat, k ≤ zs.length ∧ i = .int .i64 k ∧ cmpL zs ys = cmpL (zs.drop k) (ys.drop k)) (fun i => zs.length - (intOf i).toNat)
  case atStart => exact ⟨0, Nat.zero_le _, rfl, by simp⟩
  case round =>
    obtain ⟨k, hk, rfl, hcm⟩ := hrel
    have Hcm := hide hcm
    clear hcm
    by_cases hlt : k < zs.length
    · obtain ⟨b, o, rfl, h1⟩ := (unhide Hc) k hlt
      obtain ⟨b', o', rfl, h2⟩ := (unhide Hc') k (by omega)
      have hlt' : k < ys.length := by omega
      have hst := cmpL_step hlt hlt'
      obtain ⟨z, hz⟩ : ∃ z, z = zs[k]?.getD 0 := ⟨_, rfl⟩
      obtain ⟨y, hy⟩ : ∃ y, y = ys[k]?.getD 0 := ⟨_, rfl⟩
      rw [← hz] at h1 hst
      rw [← hy] at h2 hst
      have Hst := hide hst
      clear hz hy hst
      have hx : (k : Int) < (zs.length : Int) := by omega
      have hx' : (k : Int) < (ys.length : Int) := by omega
      by_cases hq : cmpI z y = 0
      · have hqb : (cmpI z y != 0) = false := by simp [hq]
        have Hr : Hid (cmpL zs ys = cmpL (zs.drop (k + 1)) (ys.drop (k + 1))) := by unfold Hid; rw [unhide Hcm, unhide Hst, if_pos hq]
        clear hq
        go_wp2_with (first | (go_at_call 110; refine (cmp_any _ _ _).mono ?_; rintro e w' ⟨rfl, rfl⟩))
        go_round
        case rel => exact ⟨k + 1, by omega, by go_num, unhide Hr⟩
        case measure => simp [intOf]; omega
      · have hqb : (cmpI z y != 0) = true := by simp [hq]
        have Hr : Hid (cmpL zs ys = cmpI z y) := by unfold Hid; rw [unhide Hcm, unhide Hst, if_neg hq]
        clear hq
        go_wp2_with (first | (go_at_call 110; refine (cmp_any _ _ _).mono ?_; rintro e w' ⟨rfl, rfl⟩))
        go_ret
        exact ⟨ret_int (unhide Hr).symm, rfl⟩
    · have Hr : Hid (cmpL zs ys = 0) := by
        unfold Hid; rw [unhide Hcm, List.drop_eq_nil_of_le (by omega)]; rfl
      go_wp2
      go_ret
      exact ⟨ret_int (unhide Hr).symm, rfl⟩

end Go.Proofs.YtoifcnidhfnapaaGreat
