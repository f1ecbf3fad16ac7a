import Derived.Test.YtoifcnidhfnapaaGreatRows2
namespace Go.Proofs.YtoifcnidhfnapaaGreat
set_option linter.unusedVariables false
set_option linter.unusedSimpArgs false
open Go.RowKit

/-- The one list of numbers stands ahead of the other, and they part at place m. -/
def PartAt (a b : List Int) (m : Nat) : Prop := m < a.length ∧ m < b.length ∧ (∀ j, j < m → a[j]?.getD 0 = b[j]?.getD 0) ∧ a[m]?.getD 0 < b[m]?.getD 0

structure Rises (rs : List (List Int × Int)) : Prop where
  nz : ∀ i, i < rs.length → (rs[i]?.getD ([], 0)).2 ≠ 0
  lt : ∀ i, i + 1 < rs.length → ∃ m, PartAt (rs[i]?.getD ([], 0)).1 (rs[i + 1]?.getD ([], 0)).1 m

set_option maxRecDepth 100000 in
set_option maxHeartbeats 2000000 in
theorem rising_any (v : Value) (rs : List (List Int × Int)) (w : World) (hv : RowsAt w v rs) (hl : rs.length ≤ 1000000000) (hs : shortRows rs) (hr : Rises rs) :
    Calls Tryz.prog 9 #[v] w fun e w' => e = .returned (.bool true) ∧ Drawn w w' := by
  obtain ⟨a, cap, rfl, hc⟩ := hv
  have Hc := hide hc
  have Hs := hide hs
  have Hr := hide hr
  clear hc hs hr
  go_enter Tryz.func9, Tryz.ntmps9
  go_wp2
  go_loopw [3] (fun i wr => ∃ k : Nat, k ≤ rs.length ∧ i = .int .i64 k ∧ Drawn w wr) (fun i _ => rs.length - (intOf i).toNat)
  case atStart => exact ⟨0, Nat.zero_le _, rfl, Drawn.refl _⟩
  case round =>
    obtain ⟨k, hk, rfl, hdr⟩ := hrel
    have Hdr := hide hdr
    clear hdr
    by_cases hlt : k < rs.length
    · obtain ⟨b, o, sv, rfl, h1, h2, h3⟩ := (unhide Hc) k hlt
      have hx : (k : Int) < (rs.length : Int) := by omega
      rw [← (unhide Hdr).cell] at h1 h3
      have hnz := (unhide Hr).nz k hlt
      obtain ⟨z, hz⟩ : ∃ z, z = (rs[k]?.getD ([], 0)).1 := ⟨_, rfl⟩
      obtain ⟨q, hq⟩ : ∃ q, q = (rs[k]?.getD ([], 0)).2 := ⟨_, rfl⟩
      rw [← hz] at h2
      rw [← hq] at h3 hnz
      have hqb : (q == 0) = false := by simpa using hnz
      have HZ := hide hz
      clear hq hz hnz
      rcases k with _ | k
      · have H2 := hide h2
        clear h2 h1
        simp only [Nat.zero_mul, Nat.add_zero] at h3
        go_wp2
        go_roundw
        case rel => exact ⟨1, by omega, by simp, unhide Hdr⟩
        case measure => simp [intOf]; omega
      · obtain ⟨b', o', sv', hbo, g1, g2, g3⟩ := (unhide Hc) k (by omega)
        cases hbo
        rw [← (unhide Hdr).cell] at g1
        obtain ⟨y, hy⟩ : ∃ y, y = (rs[k]?.getD ([], 0)).1 := ⟨_, rfl⟩
        rw [← hy] at g2
        obtain ⟨m, hp⟩ := (unhide Hr).lt k hlt
        rw [← hy, ← unhide HZ] at hp
        have hyl := short_at (unhide Hs) (by omega) hy
        have hzl := short_at (unhide Hs) hlt (unhide HZ)
        clear hy g3
        obtain ⟨a1, c1, rfl, g2⟩ := g2
        obtain ⟨a2, c2, rfl, h2⟩ := h2
        have Hg := hide g2
        have Hh := hide h2
        have Hp := hide hp
        obtain ⟨p1, p2, -, -⟩ := hp
        have hk0 : ((k : Int) + 1 == 0) = false := by simp; omega
        have hk1 : (k : Int) < (rs.length : Int) := by omega
        clear g2 h2
        push_cast at hx
        go_wp2
        go_quiet (fail)
        go_wp2_with fail
        go_loopw [6] (fun i wq => ∃ j : Nat, j ≤ m ∧ i = .int .i64 j ∧ Drawn w wq) (fun i _ => m - (intOf i).toNat)
        case atStart => exact ⟨0, Nat.zero_le _, rfl, (unhide Hdr).thenN _⟩
        case round =>
          obtain ⟨j, hj, rfl, hdq⟩ := hrel
          obtain ⟨b1, o1, rfl, e1⟩ := (unhide Hg) j (by omega)
          obtain ⟨b2, o2, rfl, e2⟩ := (unhide Hh) j (by omega)
          obtain ⟨s1, hs1⟩ : ∃ s1, s1 = y[j]?.getD 0 := ⟨_, rfl⟩
          obtain ⟨s2, hs2⟩ : ∃ s2, s2 = z[j]?.getD 0 := ⟨_, rfl⟩
          rw [← hs1, ← hdq.cell] at e1
          rw [← hs2, ← hdq.cell] at e2
          have hx1 : (j : Int) < (y.length : Int) := by omega
          have hx2 : (j : Int) < (z.length : Int) := by omega
          have Hdq := hide hdq
          clear hdq g1 h1 h3
          by_cases hjm : j < m
          · have heq : s1 = s2 := by rw [hs1, hs2]; exact (unhide Hp).2.2.1 j hjm
            have hd : (s1 == s2) = true := by simp [heq]
            clear heq hs1 hs2
            go_wp2
            go_quiet (fail)
            go_wp2
            go_roundw
            case rel => exact ⟨j + 1, by omega, by go_num, (unhide Hdq).thenN _⟩
            case measure => simp [intOf]; omega
          · have hjm' : j = m := by omega
            subst hjm'
            have hlt2 : s1 < s2 := by rw [hs1, hs2]; exact (unhide Hp).2.2.2
            have hd : (s1 == s2) = false := by simp; omega
            have hd2 : ¬ s2 < s1 := by omega
            clear hs1 hs2
            go_wp2
            go_quiet (fail)
            go_wp2_with fail
            generalize hW : World.drewN _ _ = W9
            have Hd9 : Hid (Drawn w W9) := by rw [← hW]; exact (unhide Hdq).thenN _
            have e1' : W9.cell? ⟨b1, o1 + j, none⟩ = some (.int .i64 s1) := by rw [← hW]; exact e1
            have e2' : W9.cell? ⟨b2, o2 + j, none⟩ = some (.int .i64 s2) := by rw [← hW]; exact e2
            clear hW
            go_quiet (fail)
            go_wp2
            go_roundw
            case rel => exact ⟨k + 2, by omega, by go_num, (unhide Hd9).thenN _⟩
            case measure => simp [intOf]; omega
    · go_wp2
      go_ret
      exact ⟨rfl, unhide Hdr⟩

end Go.Proofs.YtoifcnidhfnapaaGreat
