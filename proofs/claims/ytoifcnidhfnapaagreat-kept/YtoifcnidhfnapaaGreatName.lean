import Derived.Test.YtoifcnidhfnapaaGreatEng
namespace Go.Proofs.YtoifcnidhfnapaaGreat
set_option linter.unusedVariables false
set_option linter.unusedSimpArgs false
open Go.RowKit Go.Maps

def lowB (c : UInt8) : Bool := decide (97 ≤ c.toNat) && decide (c.toNat ≤ 122)
def nameB (s : ByteArray) : Bool := decide (1 ≤ s.size) && decide (s.size ≤ 8) && s.data.toList.all lowB

theorem all_snoc (s : ByteArray) (k : Nat) (h : k < s.size) : (s.data.toList.take (k + 1)).all lowB = ((s.data.toList.take k).all lowB && lowB s[k]) := by
  have e : s.data.toList.take (k + 1) = s.data.toList.take k ++ [s[k]] := by
    rw [List.take_succ_eq_append_getElem (by simpa using h)]; rfl
  rw [e, List.all_append]
  simp

theorem nameB_bad {s : ByteArray} {k : Nat} (h : k < s.size) (hb : lowB s[k] = false) : nameB s = false := by
  unfold nameB
  have : s.data.toList.all lowB = false := by
    rw [List.all_eq_false]
    refine ⟨s[k], ?_, by simp [hb]⟩
    have : s[k] = s.data.toList[k]'(by simpa using h) := rfl
    rw [this]
    exact List.getElem_mem _
  simp [this]

theorem nameB_good {s : ByteArray} (h1 : 1 ≤ s.size) (h2 : s.size ≤ 8) (h : (s.data.toList.take s.size).all lowB = true) : nameB s = true := by
  unfold nameB
  rw [List.take_of_length_le (by simp)] at h
  simp [h1, h2, h]

set_option maxHeartbeats 400000 in
theorem isName_any (s : ByteArray) (w : World) (hs : s.size ≤ 9223372036854775807) :
    Calls Tryz.prog 28 #[.string s] w fun e w' => e = .returned (.bool (nameB s)) ∧ w' = w := by
  by_cases h1 : s.size < 1
  · have hf : nameB s = false := by unfold nameB; simp [show ¬ 1 ≤ s.size by omega]
    go_enter Tryz.func28, Tryz.ntmps28
    go_wp2
    go_ret
    exact ⟨by simp [hf], rfl⟩
  · by_cases h2 : 8 < s.size
    · have hf : nameB s = false := by unfold nameB; simp [show ¬ s.size ≤ 8 by omega]
      go_enter Tryz.func28, Tryz.ntmps28
      go_wp2
      go_ret
      exact ⟨by simp [hf], rfl⟩
    · go_enter Tryz.func28, Tryz.ntmps28
      go_wp2
      go_loop [14] (fun i => ∃ k : Nat, k ≤ s.size ∧ i = .int .i64 k ∧ (s.data.toList.take k).all lowB = true) (fun i => s.size - (intOf i).toNat)
      case atStart => exact ⟨0, Nat.zero_le _, rfl, by simp⟩
      case round =>
        obtain ⟨k, hk, rfl, hall⟩ := hrel
        have Hall := hide hall
        clear hall
        by_cases hlt : k < s.size
        · by_cases hl : lowB s[k] = true
          · have Hn : Hid ((s.data.toList.take (k + 1)).all lowB = true) := by
              unfold Hid; rw [all_snoc s k hlt, unhide Hall, hl]; rfl
            have hl' := hl
            unfold lowB at hl'
            simp at hl'
            obtain ⟨g1, g2⟩ := hl'
            have g1' : ¬ ((s[k].toNat : Int) < 97) := by omega
            have g2' : ¬ (122 < (s[k].toNat : Int)) := by omega
            clear hl
            go_wp2
            all_goals
              go_round
              case rel => exact ⟨k + 1, by omega, by go_num, unhide Hn⟩
              case measure => simp [intOf]; omega
          · have hf : Hid (nameB s = false) := nameB_bad hlt (by simpa using hl)
            have hl' := hl
            unfold lowB at hl'
            simp at hl'
            clear hl
            by_cases g1 : (s[k].toNat : Int) < 97
            · go_wp2
              go_ret
              exact ⟨by rw [hf.out]; rfl, rfl⟩
            · have g2 : 122 < (s[k].toNat : Int) := by have := hl' (by omega); omega
              clear hl'
              go_wp2
              go_ret
              exact ⟨by rw [hf.out]; rfl, rfl⟩
        · have hf : Hid (nameB s = true) := by
            have : k = s.size := by omega
            subst this
            exact nameB_good (by omega) (by omega) (unhide Hall)
          go_wp2
          go_ret
          exact ⟨by rw [hf.out]; rfl, rfl⟩

end Go.Proofs.YtoifcnidhfnapaaGreat
