import Derived.Test.YtoifcnidhfnapaaGreatLeaf
namespace Go.Proofs.YtoifcnidhfnapaaGreat
set_option linter.unusedVariables false
set_option linter.unusedSimpArgs false
open Go.RowKit

theorem hide {p : Prop} (h : p) : Hid p := h
theorem unhide {p : Prop} (h : Hid p) : p := h

/-- w' is w but for draws. -/
def Drawn (w w' : World) : Prop := ∃ n, w' = w.drewN n
theorem Drawn.refl (w : World) : Drawn w w := ⟨0, rfl⟩
theorem Drawn.ofN (w : World) (n : Nat) : Drawn w (w.drewN n) := ⟨n, rfl⟩
theorem Drawn.trans {a b c : World} (h : Drawn a b) (k : Drawn b c) : Drawn a c := by
  obtain ⟨n, rfl⟩ := h
  obtain ⟨m, rfl⟩ := k
  exact ⟨n + m, World.drewN_drewN _ _ _⟩
theorem Drawn.thenN {a b : World} (h : Drawn a b) (n : Nat) : Drawn a (b.drewN n) := h.trans (Drawn.ofN _ _)
theorem Drawn.cell {a b : World} (h : Drawn a b) (p : Addr) : b.cell? p = a.cell? p := by
  obtain ⟨n, rfl⟩ := h
  rfl
theorem Drawn.heap {a b : World} (h : Drawn a b) : b.heap = a.heap := by
  obtain ⟨n, rfl⟩ := h
  rfl
theorem Drawn.below {a b : World} (h : Drawn a b) (B : Nat) : Below B a b := by
  obtain ⟨n, rfl⟩ := h
  exact ⟨rfl, rfl, rfl, Nat.le_refl _, fun _ _ => rfl⟩
/-- A callee that only reads, in a region that draws. -/
theorem quiet_of_drawn {P : Program} {f : FuncId} {args : Array Value} {w : World} {n : Nat} {v : Value}
    (h : Calls P f args (w.drewN n) fun e w' => e = .returned v ∧ Drawn (w.drewN n) w') : Calls P f args (w.drewN n) fun e w'' => e = .returned v ∧ ∃ m, w'' = w.drewN m :=
  h.mono fun _ _ ⟨he, hm⟩ => ⟨he, (Drawn.ofN w n).trans hm⟩

/-- The slice v reads as the numbers zs. -/
def IntsAt (w : World) (v : Value) (zs : List Int) : Prop :=
  ∃ a cap, v = .slice a zs.length cap ∧ ∀ i, i < zs.length → ∃ b o, a = some ⟨b, o, none⟩ ∧ w.cell? ⟨b, o + i, none⟩ = some (.int .i64 (zs[i]?.getD 0))

theorem IntsAt.drawn {w w' : World} {v : Value} {zs : List Int} (h : IntsAt w v zs) (hd : Drawn w w') : IntsAt w' v zs := by
  obtain ⟨a, cap, rfl, hc⟩ := h
  exact ⟨a, cap, rfl, fun i hi => by obtain ⟨b, o, ha, hb⟩ := hc i hi; exact ⟨b, o, ha, by rw [hd.cell]; exact hb⟩⟩

theorem IntsAt.drewN {w : World} {v : Value} {zs : List Int} (h : IntsAt w v zs) (n : Nat) : IntsAt (w.drewN n) v zs := by
  obtain ⟨a, cap, rfl, hc⟩ := h
  exact ⟨a, cap, rfl, fun i hi => by obtain ⟨b, o, ha, hb⟩ := hc i hi; exact ⟨b, o, ha, by simpa using hb⟩⟩

def sameB (zs ys : List Int) : Bool := decide (zs = ys)

theorem sameB_at {zs ys : List Int} {k : Nat} (h : ¬ zs[k]?.getD 0 = ys[k]?.getD 0) : sameB zs ys = false := by
  unfold sameB
  rw [decide_eq_false_iff_not]
  intro e
  exact h (by rw [e])
theorem sameB_len {zs ys : List Int} (h : ¬ zs.length = ys.length) : sameB zs ys = false := by
  unfold sameB
  rw [decide_eq_false_iff_not]
  intro e
  exact h (by rw [e])
theorem sameB_all {zs ys : List Int} {k : Nat} (h : zs.take k = ys.take k) (h1 : zs.length ≤ k) (h2 : ys.length ≤ k) : sameB zs ys = true := by
  unfold sameB
  rw [decide_eq_true_iff]
  rw [List.take_of_length_le h1, List.take_of_length_le h2] at h
  exact h
theorem take_snoc2 {zs ys : List Int} {k : Nat} (h : zs.take k = ys.take k) (h1 : k < zs.length) (h2 : k < ys.length) (he : zs[k]?.getD 0 = ys[k]?.getD 0) : zs.take (k + 1) = ys.take (k + 1) := by
  rw [List.take_succ_eq_append_getElem h1, List.take_succ_eq_append_getElem h2, h]
  simp [h1, h2] at he
  rw [he]

set_option maxHeartbeats 400000 in
theorem same_any (v u : Value) (zs ys : List Int) (w : World) (hv : IntsAt w v zs) (hu : IntsAt w u ys) (hl : zs.length ≤ 1000000000) (hl2 : ys.length ≤ 1000000000) :
    Calls Tryz.prog 11 #[v, u] w fun e w' => e = .returned (.bool (sameB zs ys)) ∧ Drawn w w' := by
  obtain ⟨a, cap, rfl, hc⟩ := hv
  obtain ⟨a', cap', rfl, hc'⟩ := hu
  have Hc := hide hc
  have Hc' := hide hc'
  clear hc hc'
  by_cases hne : zs.length = ys.length
  · have hb : (((zs.length : Nat) : Int) != ((ys.length : Nat) : Int)) = false := by simp [hne]
    have g1 : zs.length ≤ ys.length := by omega
    have g2 : ys.length ≤ zs.length := by omega
    clear hne
    go_enter Tryz.func11, Tryz.ntmps11
    go_wp2
    go_loopw [5] (fun i wr => ∃ k : Nat, k ≤ zs.length ∧ i = .int .i64 k ∧ zs.take k = ys.take k ∧ Drawn w wr) (fun i _ => zs.length - (intOf i).toNat)
    case atStart => exact ⟨0, Nat.zero_le _, rfl, by simp, Drawn.refl _⟩
    case round =>
      obtain ⟨k, hk, rfl, htk, hdr⟩ := hrel
      have Hdr := hide hdr
      clear hdr
      have Htk := hide htk
      clear htk
      by_cases hlt : k < zs.length
      · obtain ⟨b, o, rfl, h1⟩ := (unhide Hc) k hlt
        obtain ⟨b', o', rfl, h2⟩ := (unhide Hc') k (by omega)
        have hlt' : k < ys.length := by omega
        obtain ⟨z, hz⟩ : ∃ z, z = zs[k]?.getD 0 := ⟨_, rfl⟩
        obtain ⟨y, hyy⟩ : ∃ y, y = ys[k]?.getD 0 := ⟨_, rfl⟩
        rw [← hz] at h1
        rw [← hyy] at h2
        rw [← (unhide Hdr).cell] at h1 h2
        have HZ := hide hz
        have HY := hide hyy
        clear hz hyy
        have hx : (k : Int) < (zs.length : Int) := by omega
        have hy : (k : Int) < (ys.length : Int) := by omega
        by_cases heq : z = y
        · have hd : (z != y) = false := by simp [heq]
          have Heq := hide heq
          clear heq
          go_wp2
          go_quiet (fail)
          go_wp2
          go_roundw
          case rel => exact ⟨k + 1, by omega, by go_num, take_snoc2 (unhide Htk) hlt hlt' (by rw [← unhide HZ, ← unhide HY]; exact unhide Heq), (unhide Hdr).thenN _⟩
          case measure => simp [intOf]; omega
        · have hd : (z != y) = true := by simp [heq]
          have hf : sameB zs ys = false := sameB_at (k := k) (by rw [← unhide HZ, ← unhide HY]; exact heq)
          clear heq
          go_wp2
          go_quiet (fail)
          go_wp2
          go_ret
          exact ⟨by simp [hf], (unhide Hdr).thenN _⟩
      · have hf : sameB zs ys = true := sameB_all (unhide Htk) (by omega) (by omega)
        go_wp2
        go_ret
        exact ⟨by simp [hf], unhide Hdr⟩
  · have hb : (((zs.length : Nat) : Int) != ((ys.length : Nat) : Int)) = true := by rw [bne_iff_ne]; omega
    have hf : sameB zs ys = false := sameB_len hne
    go_enter Tryz.func11, Tryz.ntmps11
    go_wp2
    go_ret
    exact ⟨by simp [hf], Drawn.refl _⟩

end Go.Proofs.YtoifcnidhfnapaaGreat
