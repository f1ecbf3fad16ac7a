import Derived.Test.YtoifcnidhfnapaaGreatSame
set_option linter.unusedVariables false
set_option linter.unusedSimpArgs false
namespace Go.Proofs.YtoifcnidhfnapaaGreat
open Go.RowKit

/-- The slice v reads as the rows rs: numbers, and a weight. -/
def RowsAt (w : World) (v : Value) (rs : List (List Int × Int)) : Prop :=
  ∃ a cap, v = .slice a rs.length cap ∧ ∀ i, i < rs.length → ∃ b o sv, a = some ⟨b, o, none⟩ ∧ w.cell? ⟨b, o + i * 2, none⟩ = some sv ∧ IntsAt w sv ((rs[i]?.getD ([], 0)).1) ∧
    w.cell? ⟨b, o + i * 2 + 1, none⟩ = some (.int .i64 ((rs[i]?.getD ([], 0)).2))

/-- What 'weight' answers. -/
def weightZ : List (List Int × Int) → List Int → Int
  | [], _ => 0
  | r :: rs, zs => if r.1 = zs then r.2 else weightZ rs zs

def shortRows (rs : List (List Int × Int)) : Prop := ∀ r ∈ rs, r.1.length ≤ 1000000000

theorem weightZ_hit {rs : List (List Int × Int)} {zs z : List Int} {q : Int} {k : Nat} (h : weightZ rs zs = weightZ (rs.drop k) zs) (hlt : k < rs.length) (hz : z = (rs[k]?.getD ([], 0)).1) (hq : q = (rs[k]?.getD ([], 0)).2) (hB : sameB z zs = true) :
    weightZ rs zs = q := by
  rw [h, List.drop_eq_getElem_cons hlt]
  simp [hlt] at hz hq
  subst hz hq
  simp [sameB] at hB
  simp [weightZ, hB]
theorem weightZ_miss {rs : List (List Int × Int)} {zs z : List Int} {k : Nat} (h : weightZ rs zs = weightZ (rs.drop k) zs) (hlt : k < rs.length) (hz : z = (rs[k]?.getD ([], 0)).1) (hB : sameB z zs = false) :
    weightZ rs zs = weightZ (rs.drop (k + 1)) zs := by
  rw [h, List.drop_eq_getElem_cons hlt]
  simp [hlt] at hz
  subst hz
  simp [sameB] at hB
  simp [weightZ, hB]
theorem weightZ_end {rs : List (List Int × Int)} {zs : List Int} {k : Nat} (h : weightZ rs zs = weightZ (rs.drop k) zs) (hlt : rs.length ≤ k) : weightZ rs zs = 0 := by
  rw [h, List.drop_eq_nil_of_le hlt]
  rfl
theorem short_at {rs : List (List Int × Int)} {z : List Int} {k : Nat} (h : shortRows rs) (hlt : k < rs.length) (hz : z = (rs[k]?.getD ([], 0)).1) : z.length ≤ 1000000000 := by
  simp [hlt] at hz
  subst hz
  exact h _ (List.getElem_mem hlt)

set_option maxHeartbeats 400000 in
theorem weight_any (v u : Value) (rs : List (List Int × Int)) (zs : List Int) (w : World) (hv : RowsAt w v rs) (hu : IntsAt w u zs) (hl : rs.length ≤ 1000000000) (hs : shortRows rs) (hl2 : zs.length ≤ 1000000000) :
    Calls Tryz.prog 12 #[v, u] w fun e w' => e = .returned (.int .i64 (weightZ rs zs)) ∧ Drawn w w' := by
  obtain ⟨a, cap, rfl, hc⟩ := hv
  have Hc := hide hc
  have Hu := hide hu
  have Hs := hide hs
  clear hc hu hs
  go_enter Tryz.func12, Tryz.ntmps12
  go_wp2
  go_loopw [5] (fun i wr => ∃ k : Nat, k ≤ rs.length ∧ i = .int .i64 k ∧ weightZ rs zs = weightZ (rs.drop k) zs ∧ Drawn w wr) (fun i _ => rs.length - (intOf i).toNat)
  case atStart => exact ⟨0, Nat.zero_le _, rfl, by simp, Drawn.refl _⟩
  case round =>
    obtain ⟨k, hk, rfl, htk, hdr⟩ := hrel
    have Hdr := hide hdr
    clear hdr
    have Htk := hide htk
    clear htk
    by_cases hlt : k < rs.length
    · obtain ⟨b, o, sv, rfl, h1, h2, h3⟩ := (unhide Hc) k hlt
      have hx : (k : Int) < (rs.length : Int) := by omega
      rw [← (unhide Hdr).cell] at h1 h3
      obtain ⟨z, hz⟩ : ∃ z, z = (rs[k]?.getD ([], 0)).1 := ⟨_, rfl⟩
      obtain ⟨q, hq⟩ : ∃ q, q = (rs[k]?.getD ([], 0)).2 := ⟨_, rfl⟩
      rw [← hz] at h2
      rw [← hq] at h3
      have HZ := hide hz
      have HQ := hide hq
      have H2 := hide h2
      clear hz hq h2
      by_cases hB : sameB z zs = true
      · have hans : Hid (weightZ rs zs = q) := weightZ_hit (unhide Htk) hlt (unhide HZ) (unhide HQ) hB
        go_wp2_with fail
        refine (same_any _ _ z zs _ ((unhide H2).drawn (unhide Hdr)) ((unhide Hu).drawn (unhide Hdr)) (short_at (unhide Hs) hlt (unhide HZ)) hl2).mono ?_
        rintro e w1 ⟨rfl, hd1⟩
        rw [← hd1.cell] at h3
        have Hd1 := hide hd1
        clear hd1
        rw [hB]
        go_wp2
        go_ret
        exact ⟨ret_int hans.out.symm, (unhide Hdr).trans (unhide Hd1)⟩
      · have hB' : sameB z zs = false := by simpa using hB
        have hans : Hid (weightZ rs zs = weightZ (rs.drop (k + 1)) zs) := weightZ_miss (unhide Htk) hlt (unhide HZ) hB'
        go_wp2_with fail
        refine (same_any _ _ z zs _ ((unhide H2).drawn (unhide Hdr)) ((unhide Hu).drawn (unhide Hdr)) (short_at (unhide Hs) hlt (unhide HZ)) hl2).mono ?_
        rintro e w1 ⟨rfl, hd1⟩
        have Hd1 := hide hd1
        clear hd1
        rw [hB']
        go_wp2
        go_roundw
        case rel => exact ⟨k + 1, by omega, by go_num, hans.out, (unhide Hdr).trans (unhide Hd1)⟩
        case measure => simp [intOf]; omega
    · have hans : Hid (weightZ rs zs = 0) := weightZ_end (unhide Htk) (by omega)
      go_wp2
      go_ret
      exact ⟨ret_int hans.out.symm, unhide Hdr⟩

theorem same_eq (v u : Value) (zs : List Int) (w : World) (hv : IntsAt w v zs) (hu : IntsAt w u zs) (hl : zs.length ≤ 1000000000) :
    Calls Tryz.prog 11 #[v, u] w fun e w' => e = .returned (.bool true) ∧ Drawn w w' := by
  refine (same_any v u zs zs w hv hu hl hl).mono ?_
  rintro e w' ⟨rfl, h⟩
  exact ⟨by simp [sameB], h⟩

def sameRowsB (rs ss : List (List Int × Int)) : Bool := decide (rs = ss)

set_option maxHeartbeats 400000 in
theorem sameRows_eq (v u : Value) (rs : List (List Int × Int)) (w : World) (hv : RowsAt w v rs) (hu : RowsAt w u rs) (hl : rs.length ≤ 1000000000) (hs : shortRows rs) :
    Calls Tryz.prog 16 #[v, u] w fun e w' => e = .returned (.bool true) ∧ Drawn w w' := by
  obtain ⟨a, cap, rfl, hc⟩ := hv
  obtain ⟨a', cap', rfl, hc'⟩ := hu
  have Hc := hide hc
  have Hc' := hide hc'
  have Hs := hide hs
  clear hc hc' hs
  go_enter Tryz.func16, Tryz.ntmps16
  go_wp2
  go_loopw [5] (fun i wr => ∃ k : Nat, k ≤ rs.length ∧ i = .int .i64 k ∧ Drawn w wr) (fun i _ => rs.length - (intOf i).toNat)
  case atStart => exact ⟨0, Nat.zero_le _, rfl, Drawn.refl _⟩
  case round =>
    obtain ⟨k, hk, rfl, hdr⟩ := hrel
    have Hdr := hide hdr
    clear hdr
    by_cases hlt : k < rs.length
    · obtain ⟨b, o, sv, rfl, h1, h2, h3⟩ := (unhide Hc) k hlt
      obtain ⟨b', o', sv', rfl, h1', h2', h3'⟩ := (unhide Hc') k hlt
      have hx : (k : Int) < (rs.length : Int) := by omega
      obtain ⟨z, hz⟩ : ∃ z, z = (rs[k]?.getD ([], 0)).1 := ⟨_, rfl⟩
      obtain ⟨q, hq⟩ : ∃ q, q = (rs[k]?.getD ([], 0)).2 := ⟨_, rfl⟩
      rw [← (unhide Hdr).cell] at h1 h3 h1' h3'
      rw [← hz] at h2 h2'
      rw [← hq] at h3 h3'
      have HZ := hide hz
      have H2 := hide h2
      have H2' := hide h2'
      have hqq : (q != q) = false := by simp
      clear hz hq h2 h2'
      have hB : sameB z z = true := by simp [sameB]
      go_wp2_with fail
      have hlz := short_at (unhide Hs) hlt (unhide HZ)
      go_quiet ((go_at_call 11; exact quiet_of_drawn (same_eq _ _ z _ (by exact ((unhide H2).drawn (unhide Hdr)).drewN _) (by exact ((unhide H2').drawn (unhide Hdr)).drewN _) hlz)))
      go_wp2_with fail
      go_quiet (fail)
      go_wp2
      exact ⟨⟨k + 1, by omega, by go_num, (unhide Hdr).thenN _⟩, by simp [intOf]; omega⟩
    · go_wp2
      go_ret
      exact ⟨by simp, unhide Hdr⟩

end Go.Proofs.YtoifcnidhfnapaaGreat
