import Derived.Test.YtoifcnidhfnapaaGreatProg
import Derived.WalkKit
import Derived.WalkSpells
import Derived.Deep.QuietTactic
import Derived.BigQuiet
import Derived.Laws.ResultCell
namespace Go.Proofs.YtoifcnidhfnapaaGreat
set_option linter.unusedVariables false
set_option linter.unusedSimpArgs false
open Go.RowKit

theorem ret_int {k : IntKind} {a b : Int} (h : a = b) : Ending.returned (.int k a) = .returned (.int k b) := by rw [h]

/-- The greatest and the least number of 67 bits, behind names. -/
def top : Int := 9223372036854775807
def bot : Int := -9223372036854775808

/-- 'pick', as a number. -/
def pickZ (c n : Int) : Int := (if c < 0 then -(c + 1) else c) % n

theorem pickZ_range (c n : Int) (hn : 0 < n) : 0 ≤ pickZ c n ∧ pickZ c n < n := by
  unfold pickZ
  exact ⟨Int.emod_nonneg _ (by omega), Int.emod_lt_of_pos _ hn⟩

set_option maxHeartbeats 400000 in
theorem pick_any (c n : Int) (w : World) (hc : -9223372036854775808 ≤ c) (hc2 : c ≤ 9223372036854775807) (hn : 0 < n) (hn2 : n ≤ 1152921504606846976) :
    Calls Tryz.prog 14 #[.int .i64 c, .int .i64 n] w fun e w' => e = .returned (.int .i64 (pickZ c n)) ∧ w' = w := by
  by_cases h : c < 0
  · have e : Hid ((-(c + 1)).tmod n = pickZ c n) := by
      unfold pickZ Hid
      rw [if_pos h, Int.tmod_eq_emod_of_nonneg (by omega)]
    go_enter Tryz.func14, Tryz.ntmps14
    go_wp2
    go_ret
    refine ⟨?_, rfl⟩
    exact ret_int (by simpa using e.out)
  · have e : Hid (c % n = pickZ c n) := by
      unfold pickZ Hid
      rw [if_neg h]
    go_enter Tryz.func14, Tryz.ntmps14
    go_wp2
    go_ret
    exact ⟨ret_int e.out, rfl⟩

/-- 'number', as a number. -/
def numT (k : Int) : Int := if k = 0 then 0 else if k = 1 then 1 else if k = 2 then top else bot
def numZ (c : Int) : Int := numT (pickZ c 4)

set_option maxHeartbeats 400000 in
theorem number_any (c : Int) (w : World) (hc : -9223372036854775808 ≤ c) (hc2 : c ≤ 9223372036854775807) :
    Calls Tryz.prog 10 #[.int .i64 c] w fun e w' => e = .returned (.int .i64 (numZ c)) ∧ Below w.heap.size w w' := by
  obtain ⟨k, hk⟩ : ∃ k, k = pickZ c 4 := ⟨_, rfl⟩
  have hr := pickZ_range c 4 (by omega)
  rw [← hk] at hr
  have HK : Hid (k = pickZ c 4) := hk
  clear hk
  have hcase : k = 0 ∨ k = 1 ∨ k = 2 ∨ k = 3 := by omega
  go_enter Tryz.func10, Tryz.ntmps10
  go_wp2_with (first | (go_at_call 14; refine (pick_any _ 4 _ hc hc2 (by omega) (by omega)).mono ?_; rintro e w' ⟨rfl, rfl⟩; rw [← HK.out]))
  rcases hcase with rfl | rfl | rfl | rfl
  all_goals
    go_wp2
    go_ret
    refine ⟨?_, (Below.refl _ _).alloc (Nat.le_refl _) _⟩
    unfold numZ
    rw [← HK.out]
    rfl


/-- An entry of a batch, as data. -/
structure Ent where
  nm : ByteArray
  row : List Int
  wt : Int

def nmR : ByteArray := ⟨#[114]⟩
def nmS : ByteArray := ⟨#[115]⟩
def nmT : ByteArray := ⟨#[116]⟩

/-- 'entry', as data. -/
def entC (c : Int) : Int := pickZ c 1152921504606846976 / 36
def entZ (c : Int) : Ent :=
  if pickZ c 36 < 16 then ⟨nmR, [numZ (entC c / 5), numZ (entC c / 5 / 4)], entC c % 5 - 2⟩
  else if pickZ c 36 < 30 then ⟨nmS, [numZ (entC c / 5), numZ (entC c / 5 / 4)], entC c % 5 - 2⟩
  else ⟨nmT, [numZ (entC c / 5)], entC c % 5 - 2⟩

theorem bcell {W w1 : World} (hb : Below W.heap.size W w1) : (∀ b o, b < W.heap.size → w1.cell? ⟨b, o, none⟩ = W.cell? ⟨b, o, none⟩) ∧ (∀ b o, b < W.heap.size → w1.frozen? ⟨b, o, none⟩ = W.frozen? ⟨b, o, none⟩) :=
  ⟨fun b o h => hb.cell (p := ⟨b, o, none⟩) h, fun b o h => hb.frozen (p := ⟨b, o, none⟩) h⟩

/-- The value of an entry whose row lies in block b. -/
def entVal (x : Ent) (b : Nat) : Value := .agg #[.string x.nm, .slice (some ⟨b, 0, none⟩) x.row.length x.row.length, .int .i64 x.wt]

theorem heap_last (w : World) (o : Obj) (n : Nat) (h : w.heap.size = n) : (w.alloc o).heap[n]? = some o := by
  subst h
  exact heap_alloc_new w o

theorem entZ_1 {c k m n1 n2 : Int} (hk : k = pickZ c 36) (hm : m = pickZ c 1152921504606846976) (h1 : n1 = numZ (m / 36 / 5)) (h2 : n2 = numZ (m / 36 / 5 / 4)) (hlt : k < 16) :
    entZ c = ⟨nmR, [n1, n2], m / 36 % 5 - 2⟩ := by
  unfold entZ entC
  rw [← hk, ← hm, if_pos hlt, ← h1, ← h2]

theorem entZ_2 {c k m n1 n2 : Int} (hk : k = pickZ c 36) (hm : m = pickZ c 1152921504606846976) (h1 : n1 = numZ (m / 36 / 5)) (h2 : n2 = numZ (m / 36 / 5 / 4)) (hnl : ¬ k < 16) (hlt : k < 30) :
    entZ c = ⟨nmS, [n1, n2], m / 36 % 5 - 2⟩ := by
  unfold entZ entC
  rw [← hk, ← hm, if_neg hnl, if_pos hlt, ← h1, ← h2]

theorem entZ_3 {c k m n1 : Int} (hk : k = pickZ c 36) (hm : m = pickZ c 1152921504606846976) (h1 : n1 = numZ (m / 36 / 5)) (hnl : ¬ k < 16) (hnl2 : ¬ k < 30) :
    entZ c = ⟨nmT, [n1], m / 36 % 5 - 2⟩ := by
  unfold entZ entC
  rw [← hk, ← hm, if_neg hnl, if_neg hnl2, ← h1]

theorem below3 {w w2 : World} (hB : Below w.heap.size w w2) (hz : w.heap.size ≤ w2.heap.size) (x0 x1 x2 : Value) (o : Obj) :
    Below w.heap.size w ((((w2.setCell ⟨w.heap.size, 0, none⟩ x0).setCell ⟨w.heap.size, 1, none⟩ x1).setCell ⟨w.heap.size, 2, none⟩ x2).alloc o) :=
  (((hB.setCell (p := ⟨w.heap.size, 0, none⟩) (Nat.le_refl _) _).setCell (p := ⟨w.heap.size, 1, none⟩) (Nat.le_refl _) _).setCell (p := ⟨w.heap.size, 2, none⟩) (Nat.le_refl _) _).alloc (by simpa [World.setCell] using hz) _

set_option maxHeartbeats 400000 in
theorem entry_any (c : Int) (w : World) (hc : -9223372036854775808 ≤ c) (hc2 : c ≤ 9223372036854775807) :
    Calls Tryz.prog 13 #[.int .i64 c] w fun e w' => ∃ b, e = .returned (entVal (entZ c) b) ∧ w.heap.size ≤ b ∧ w'.heap[b]? = some (.cells ((entZ c).row.map (Value.int .i64)).toArray 2 (0, 0)) ∧ Below w.heap.size w w' := by
  obtain ⟨k, hk⟩ : ∃ k, k = pickZ c 36 := ⟨_, rfl⟩
  have hr := pickZ_range c 36 (by omega)
  obtain ⟨m, hm⟩ : ∃ m, m = pickZ c 1152921504606846976 := ⟨_, rfl⟩
  have hs := pickZ_range c 1152921504606846976 (by omega)
  rw [← hk] at hr
  rw [← hm] at hs
  have HK : Hid (k = pickZ c 36) := hk
  have HM : Hid (m = pickZ c 1152921504606846976) := hm
  clear hk hm
  go_enter Tryz.func13, Tryz.ntmps13
  go_wp2_with fail
  refine (pick_any _ 36 _ hc hc2 (by omega) (by omega)).mono ?_
  rintro e w' ⟨rfl, rfl⟩
  rw [← HK.out]
  go_wp2_with fail
  refine (pick_any _ 1152921504606846976 _ hc hc2 (by omega) (by omega)).mono ?_
  rintro e w' ⟨rfl, rfl⟩
  rw [← HM.out]
  go_wp2_with fail
  refine (number_any _ _ (by omega) (by omega)).mono ?_
  rintro e w1 ⟨rfl, hb1⟩
  obtain ⟨n1, hn1⟩ : ∃ n1, n1 = numZ (m / 36 / 5) := ⟨_, rfl⟩
  rw [← hn1]
  have HN1 : Hid (n1 = numZ (m / 36 / 5)) := hn1
  clear hn1
  go_wp2_with fail
  refine (number_any _ _ (by omega) (by omega)).mono ?_
  rintro e w2 ⟨rfl, hb2⟩
  obtain ⟨n2, hn2⟩ : ∃ n2, n2 = numZ (m / 36 / 5 / 4) := ⟨_, rfl⟩
  rw [← hn2]
  have HN2 : Hid (n2 = numZ (m / 36 / 5 / 4)) := hn2
  clear hn2
  have hb := hb1.trans (hb2.mono hb1.size)
  obtain ⟨hce, hfr⟩ := bcell hb
  have hz := hb.size
  simp only [World.size_alloc] at hz hce hfr
  have hB : Below w.heap.size w w2 := ((Below.refl _ _).alloc (Nat.le_refl _) _).trans (hb.mono (by simp))
  have hz' : w.heap.size < w2.heap.size := by omega
  have hne : ¬ w.heap.size = w2.heap.size := by omega
  have c0 : w2.cell? ⟨w.heap.size, 0, none⟩ = some (.string ⟨#[]⟩) := by rw [hce _ _ (by omega)]; simp [go_sem]
  have c1 : w2.cell? ⟨w.heap.size, 1, none⟩ = some (.slice none 0 0) := by rw [hce _ _ (by omega)]; simp [go_sem]
  have c2 : w2.cell? ⟨w.heap.size, 2, none⟩ = some (.int .i64 0) := by rw [hce _ _ (by omega)]; simp [go_sem]
  have f0 : w2.frozen? ⟨w.heap.size, 0, none⟩ = false := by rw [hfr _ _ (by omega)]; simp [go_sem]
  have f1 : w2.frozen? ⟨w.heap.size, 1, none⟩ = false := by rw [hfr _ _ (by omega)]; simp [go_sem]
  have f2 : w2.frozen? ⟨w.heap.size, 2, none⟩ = false := by rw [hfr _ _ (by omega)]; simp [go_sem]
  clear hb hb1 hb2 hce hfr
  by_cases h1 : k < 16
  · go_wp2
    rw [entZ_1 HK.out HM.out HN1.out HN2.out h1]
    refine bodyPost_ret (v := entVal ⟨nmR, [n1, n2], m / 36 % 5 - 2⟩ w2.heap.size) (by simp [results, Tryz.results13, go_sem, c0, c1, c2, f0, f1, f2, hne, hz', entVal, nmR]) rfl ?_
    exact ⟨w2.heap.size, rfl, by omega, heap_last _ _ _ (by simp [World.setCell]), below3 hB (by omega) _ _ _ _⟩
  · by_cases h2 : k < 30
    · go_wp2
      rw [entZ_2 HK.out HM.out HN1.out HN2.out (by omega) (by omega)]
      refine bodyPost_ret (v := entVal ⟨nmS, [n1, n2], m / 36 % 5 - 2⟩ w2.heap.size) (by simp [results, Tryz.results13, go_sem, c0, c1, c2, f0, f1, f2, hne, hz', entVal, nmS]) rfl ?_
      exact ⟨w2.heap.size, rfl, by omega, heap_last _ _ _ (by simp [World.setCell]), below3 hB (by omega) _ _ _ _⟩
    · go_wp2
      rw [entZ_3 HK.out HM.out HN1.out (by omega) (by omega)]
      refine bodyPost_ret (v := entVal ⟨nmT, [n1], m / 36 % 5 - 2⟩ w2.heap.size) (by simp [results, Tryz.results13, go_sem, c0, c1, c2, f0, f1, f2, hne, hz', entVal, nmT]) rfl ?_
      exact ⟨w2.heap.size, rfl, by omega, heap_last _ _ _ (by simp [World.setCell]), below3 hB (by omega) _ _ _ _⟩

end Go.Proofs.YtoifcnidhfnapaaGreat
