import Derived.Test.YtgddkjhknlgbbaaGreatDoorM01
import Derived.Test.YtgddkjhknlgbbaaGreatDoorR03
import Derived.Test.YtgddkjhknlgbbaaGreatDoorR02
import Derived.Deep.Cut
import Derived.Test.YtgddkjhknlgbbaaGreatDoorM06
import Derived.Test.YtgddkjhknlgbbaaGreatDoorR06
import Derived.Test.YtgddkjhknlgbbaaGreatDoorR05
import Derived.Test.YtgddkjhknlgbbaaGreatDoorR07
import Derived.Test.YtgddkjhknlgbbaaGreatDoorR10
import Derived.Test.YtgddkjhknlgbbaaGreatDoorM20
set_option linter.unusedVariables false
set_option linter.unusedSimpArgs false

namespace Go.Proofs.YtgddkjhknlgbbaaGreatDoor
set_option linter.unusedVariables false
set_option linter.unusedSimpArgs false
open Go.RowKit

theorem bits_or32 (a b : Nat) (ha : a < 4294967296) (hb : b < 4294967296) : bits .or .u32 (a : Int) (b : Int) = ((a ||| b : Nat) : Int) := by
  have hx : a ||| b < 2 ^ 32 := Nat.or_lt_two_pow (by omega) (by omega)
  have h1 : (BitVec.ofInt 32 (a : Int)).toNat = a := by
    rw [BitVec.ofInt_natCast, BitVec.toNat_ofNat]; exact Nat.mod_eq_of_lt (by omega)
  have h2 : (BitVec.ofInt 32 (b : Int)).toNat = b := by
    rw [BitVec.ofInt_natCast, BitVec.toNat_ofNat]; exact Nat.mod_eq_of_lt (by omega)
  show IntKind.u32.wrap ((BitVec.ofInt 32 (a : Int) ||| BitVec.ofInt 32 (b : Int)).toNat : Int) = _
  rw [BitVec.toNat_or, h1, h2, IntKind.wrap_u32]
  omega
theorem bits_and32 (a b : Nat) (ha : a < 4294967296) (hb : b < 4294967296) : bits .and .u32 (a : Int) (b : Int) = ((a &&& b : Nat) : Int) := by
  have hx : a &&& b < 2 ^ 32 := Nat.and_lt_two_pow _ (by omega)
  have h1 : (BitVec.ofInt 32 (a : Int)).toNat = a := by
    rw [BitVec.ofInt_natCast, BitVec.toNat_ofNat]; exact Nat.mod_eq_of_lt (by omega)
  have h2 : (BitVec.ofInt 32 (b : Int)).toNat = b := by
    rw [BitVec.ofInt_natCast, BitVec.toNat_ofNat]; exact Nat.mod_eq_of_lt (by omega)
  show IntKind.u32.wrap ((BitVec.ofInt 32 (a : Int) &&& BitVec.ofInt 32 (b : Int)).toNat : Int) = _
  rw [BitVec.toNat_and, h1, h2, IntKind.wrap_u32]
  omega

theorem two26 {k : Nat} (hk : k ≤ 25) : 2 ^ k < 67108865 := by
  have : 2 ^ k ≤ 2 ^ 25 := Nat.pow_le_pow_right (by omega) hk
  omega
theorem shl32 {k : Nat} (hk : k ≤ 25) : (2 : Int) ^ k % 4294967296 = ((2 ^ k : Nat) : Int) := by
  have h1 := two26 hk
  have h2 : ((2 ^ k : Nat) : Int) = (2 : Int) ^ k := by push_cast; rfl
  rw [← h2]
  generalize 2 ^ k = y at h1
  omega

theorem and_bit (m k : Nat) : (((m &&& 2 ^ k : Nat) : Int) != 0) = m.testBit k := by
  cases ht : m.testBit k
  · have : m &&& 2 ^ k = 0 := by
      apply Nat.eq_of_testBit_eq
      intro i
      rw [Nat.testBit_and, Nat.testBit_two_pow, Nat.zero_testBit]
      by_cases e : k = i
      · subst e; rw [ht]; rfl
      · simp [e]
    rw [this]; rfl
  · have : (m &&& 2 ^ k).testBit k = true := by rw [Nat.testBit_and, ht, Nat.testBit_two_pow]; simp
    have h0 : m &&& 2 ^ k ≠ 0 := fun e => by rw [e, Nat.zero_testBit] at this; cases this
    simp only [bne_iff_ne, ne_eq]
    omega

theorem lhas_any (m x : Nat) (W : World) (hm : m < 4294967296) (h1 : 65 ≤ x) (h2 : x ≤ 90) : Calls Tryz.prog 75 #[.int .u32 m, .int .u8 x] W fun e w' => e = .returned (.bool (m.testBit (x - 65))) ∧ w' = W := by
  obtain ⟨k, rfl⟩ : ∃ k, x = k + 65 := ⟨x - 65, by omega⟩
  have hk : k ≤ 25 := by omega
  have hb : (bits .and .u32 (m : Int) (2 ^ k % 4294967296) != 0) = m.testBit k := by
    rw [shl32 hk, bits_and32 _ _ hm (by have := two26 hk; omega), and_bit]
  rw [Nat.add_sub_cancel]
  go_enter Tryz.func75, Tryz.ntmps75
  go_wp2
  go_ret
  exact ⟨rfl, rfl⟩

theorem ladd_any (B m x : Nat) (W : World) (hB : W.heap[B]? = some (.cells #[.int .u32 m] 138 (0, 0))) (hm : m < 4294967296) (h1 : 65 ≤ x) (h2 : x ≤ 90) : Calls Tryz.prog 76 #[.pointer (some ⟨B, 0, none⟩), .int .u8 x] W fun e w' => e = .returned (.tuple #[]) ∧ w'.heap[B]? = some (.cells #[.int .u32 ((m ||| 2 ^ (x - 65) : Nat) : Int)] 138 (0, 0)) ∧ w' = W.setCell ⟨B, 0, none⟩ (.int .u32 ((m ||| 2 ^ (x - 65) : Nat) : Int)) := by
  obtain ⟨k, rfl⟩ : ∃ k, x = k + 65 := ⟨x - 65, by omega⟩
  have hk : k ≤ 25 := by omega
  have hb : bits .or .u32 (m : Int) (2 ^ k % 4294967296) = ((m ||| 2 ^ k : Nat) : Int) := by
    rw [shl32 hk, bits_or32 _ _ hm (by have := two26 hk; omega)]
  have c0 : W.cell? ⟨B, 0, none⟩ = some (.int .u32 m) := by simp [World.cell?, hB]
  have f0 : W.frozen? ⟨B, 0, none⟩ = false := by simp [World.frozen?, hB]
  rw [Nat.add_sub_cancel]
  go_enter Tryz.func76, Tryz.ntmps76
  go_wp2
  go_end0
  refine ⟨rfl, ?_, rfl⟩
  simp [World.setCell, Array.getElem?_modify, hB]

/-- A set of letters as bits. -/
def maskF (m : Nat) (l : List Nat) : Nat := l.foldl (fun m x => m ||| 2 ^ (x - 65)) m
def maskL (l : List Nat) : Nat := maskF 0 l
theorem maskF_snoc (m : Nat) (l : List Nat) (x : Nat) : maskF m (l ++ [x]) = maskF m l ||| 2 ^ (x - 65) := by simp [maskF, List.foldl_append]
theorem maskF_test (k : Nat) : ∀ (l : List Nat) (m : Nat), (maskF m l).testBit k = (m.testBit k || l.any fun x => decide (x - 65 = k))
  | [], m => by simp [maskF]
  | x :: l, m => by
    have ih := maskF_test k l (m ||| 2 ^ (x - 65))
    unfold maskF at ih ⊢
    rw [List.foldl_cons, ih, Nat.testBit_or, Nat.testBit_two_pow]
    simp [Bool.or_assoc]
theorem maskL_test {l : List Nat} (hl : ∀ x ∈ l, 65 ≤ x) {x : Nat} (hx : 65 ≤ x) : (maskL l).testBit (x - 65) = decide (x ∈ l) := by
  unfold maskL
  rw [maskF_test]
  simp only [Nat.zero_testBit, Bool.false_or]
  rw [Bool.eq_iff_iff]
  simp only [List.any_eq_true, decide_eq_true_eq]
  constructor
  · rintro ⟨y, hy, e⟩
    have := hl y hy
    have : y = x := by omega
    exact this ▸ hy
  · exact fun h => ⟨x, h, rfl⟩
theorem maskF_lt : ∀ (l : List Nat) (m : Nat), (∀ x ∈ l, x ≤ 90) → m < 2 ^ 26 → maskF m l < 2 ^ 26
  | [], m, _, h => h
  | x :: l, m, hl, h => by
    have hx := hl x (by simp)
    exact maskF_lt l (m ||| 2 ^ (x - 65)) (fun y hy => hl y (by simp [hy])) (Nat.or_lt_two_pow h (by have := two26 (show x - 65 ≤ 25 by omega); have : 2 ^ (x - 65) ≤ 2 ^ 25 := Nat.pow_le_pow_right (by omega) (by omega); omega))
theorem maskL_lt {l : List Nat} (hl : ∀ x ∈ l, x ≤ 90) : maskL l < 4294967296 := by
  have := maskF_lt l 0 hl (by omega)
  unfold maskL
  omega
theorem maskL_perm {l l' : List Nat} (h : l.Perm l') : maskL l = maskL l' := by
  apply Nat.eq_of_testBit_eq
  intro i
  unfold maskL
  rw [maskF_test, maskF_test]
  congr 1
  rw [Bool.eq_iff_iff]
  simp only [List.any_eq_true, decide_eq_true_eq]
  constructor
  · rintro ⟨y, hy, e⟩; exact ⟨y, h.mem_iff.1 hy, e⟩
  · rintro ⟨y, hy, e⟩; exact ⟨y, h.mem_iff.2 hy, e⟩

end Go.Proofs.YtgddkjhknlgbbaaGreatDoor

namespace Go.Proofs.YtgddkjhknlgbbaaGreatDoor
set_option linter.unusedVariables false
set_option linter.unusedSimpArgs false
open Go.RowKit Go.Maps Go.Sort Go.Shelf

def letsT (ts : List Trm) : List Nat := (ts.map (·.1)).filter fun x => decide (x ≠ 0)
def lettersQ (B : List AtomQ) : List Nat := B.flatMap fun a => letsT a.ts
/-- The letters of a body are A to Z. -/
def LetB (B : List AtomQ) : Prop := ∀ a ∈ B, ∀ t ∈ a.ts, t.1 = 0 ∨ 65 ≤ t.1 ∧ t.1 ≤ 90
theorem LetB.vars {B : List AtomQ} (h : LetB B) : ∀ x ∈ lettersQ B, 65 ≤ x ∧ x ≤ 90 := by
  intro x hx
  obtain ⟨a, ha, hx⟩ := List.mem_flatMap.1 hx
  obtain ⟨hx, h0⟩ := List.mem_filter.1 hx
  obtain ⟨t, ht, rfl⟩ := List.mem_map.1 hx
  rcases h a ha t ht with h1 | h1
  · simp [h1] at h0
  · exact h1

theorem maskF_append (m : Nat) (l l' : List Nat) : maskF m (l ++ l') = maskF (maskF m l) l' := by simp [maskF, List.foldl_append]
theorem lettersQ_snoc {B : List AtomQ} {k : Nat} (hk : k < B.length) : lettersQ (B.take (k + 1)) = lettersQ (B.take k) ++ letsT (B[k]?.getD noAtom).ts := by
  rw [List.take_succ_eq_append_getElem hk]
  unfold lettersQ
  rw [List.flatMap_append]
  simp [hk]
theorem letsT_snoc {ts : List Trm} {k : Nat} (hk : k < ts.length) : letsT (ts.take (k + 1)) = letsT (ts.take k) ++ (if (ts[k]?.getD (0, 0)).1 = 0 then [] else [(ts[k]?.getD (0, 0)).1]) := by
  rw [List.take_add_one]
  unfold letsT
  rw [List.map_append, List.filter_append]
  congr 1
  simp [hk]
  split <;> simp_all

set_option maxRecDepth 100000 in
set_option maxHeartbeats 4000000 in
theorem bodyLetters_any (QB : Nat) (H : List (Nat × Nat)) (B : List AtomQ) (W : World) (hQ : QryAt W QB H B) (hO : QryOK H B) (hL : LetB B) :
    Calls Tryz.prog 77 #[.pointer (some ⟨QB, 0, none⟩)] W fun e w' => e = .returned (.int .u32 (maskL (lettersQ B) : Nat)) ∧ Below W.heap.size W w' := by
  obtain ⟨hdv, bv, hblk, _, hbody⟩ := hQ.blk
  obtain ⟨ba, bcap, rfl, hx⟩ := hbody
  have h4 := hO.b4
  have ht3 := hO.t3
  obtain ⟨W1, hW1⟩ : ∃ W1, W1 = W.alloc (.cells #[.int .u32 0] 138) := ⟨_, rfl⟩
  have hb1 : Below W.heap.size W W1 := by rw [hW1]; exact (Below.refl _ _).alloc (Nat.le_refl _) _
  have hB1 : W1.heap[W.heap.size]? = some (.cells #[.int .u32 0] 138 (0, 0)) := by rw [hW1]; exact heap_last _ _ _ rfl
  have hQl : QB < W.heap.size := (Array.getElem?_eq_some_iff.1 hblk).1
  have c1 : W1.cell? ⟨QB, 1, none⟩ = some (.slice ba B.length bcap) := cell_of_heap ((hb1.block QB hQl).trans hblk) 1
  have Hx := hide hx
  have HL := hide hL
  have Ht3 := hide ht3
  have Hb1 := hide hb1
  have HB1 := hide hB1
  have HW1 := hide hW1
  clear hQ hblk hx hL hb1 hB1 hW1 hO ht3
  go_enter Tryz.func77, Tryz.ntmps77
  go_upto_region 2 with fail
  rw [← unhide HW1]
  go_wp2
  go_loopw [13] (fun i wr => ∃ k : Nat, k ≤ B.length ∧ i = .int .i64 k ∧ wr.heap[W.heap.size]? = some (.cells #[.int .u32 (maskL (lettersQ (B.take k)) : Nat)] 138 (0, 0)) ∧ Below W.heap.size W wr) (fun i _ => B.length - (intOf i).toNat)
  case atStart => exact ⟨0, Nat.zero_le _, rfl, unhide HB1, unhide Hb1⟩
  case round =>
    obtain ⟨k, hk, rfl, hmk, hbk⟩ := hrel
    by_cases hlt : k < B.length
    · have hkz : (k : Int) < (B.length : Int) := by omega
      obtain ⟨b, o, tv, rfl, e0, e1, e2, ht⟩ := (unhide Hx) k hlt
      have hbl : b < W.heap.size := World.block_lt_of_cell? W _ e0
      have hmem : (B[k]?.getD noAtom) ∈ B := by simp [hlt]
      have hsn := lettersQ_snoc hlt
      obtain ⟨at_, hat⟩ : ∃ at_, at_ = B[k]?.getD noAtom := ⟨_, rfl⟩
      rw [← hat] at e0 e1 ht hmem hsn
      have ht3 := (unhide Ht3) _ hmem
      have hlet := (unhide HL) _ hmem
      have hle0 : ∀ x ∈ lettersQ (B.take k), x ≤ 90 := fun x hx => ((LetB.vars (B := B.take k) (fun a ha => (unhide HL) a (List.mem_of_mem_take ha))) x hx).2
      replace e0 := (hbk.cell (p := ⟨b, o + k * 3, none⟩) hbl).trans e0
      replace e1 := (hbk.cell (p := ⟨b, o + k * 3 + 1, none⟩) hbl).trans e1
      replace e2 := (hbk.cell (p := ⟨b, o + k * 3 + 2, none⟩) hbl).trans e2
      obtain ⟨nm, pl, ts⟩ := at_
      dsimp only at *
      obtain ⟨ta, tcap, rfl, htx⟩ := ht
      obtain ⟨wx, hwx⟩ : ∃ wx, wx = wr.alloc (.cells #[.string nm, .int .i64 pl, .slice ta ts.length tcap] 185) := ⟨_, rfl⟩
      have hb2 : Below W.heap.size W wx := by rw [hwx]; exact hbk.alloc hbk.size _
      have gx : wx.heap[wr.heap.size]? = some (.cells #[.string nm, .int .i64 pl, .slice ta ts.length tcap] 185 (0, 0)) := by rw [hwx]; exact heap_last _ _ _ rfl
      have g2 : wx.cell? ⟨wr.heap.size, 2, none⟩ = some (.slice ta ts.length tcap) := cell_of_heap gx 2
      have hmx : wx.heap[W.heap.size]? = some (.cells #[.int .u32 (maskL (lettersQ (B.take k)) : Nat)] 138 (0, 0)) := by rw [hwx]; exact (Below.heap_alloc _ _ _ (Array.getElem?_eq_some_iff.1 hmk).1).trans hmk
      have Hb2 := hide hb2
      have Hmx := hide hmx
      have Htx := hide htx
      have Hlet := hide hlet
      have Hle0 := hide hle0
      have Hsn := hide hsn
      generalize hmm : maskL (lettersQ (B.take k)) = m0 at *
      have hm0 : m0 < 2 ^ 26 := by rw [← hmm]; exact maskF_lt _ 0 hle0 (by omega)
      clear hbk hb2 hat hmem gx hmx hmk htx hlet hle0 hsn
      go_upto_region 5 with fail
      rw [← hwx]
      clear hwx e0 e1 e2
      go_wp2
      go_loopw [20] (fun i w2 => ∃ j : Nat, j ≤ ts.length ∧ i = .int .i64 j ∧ w2.heap[W.heap.size]? = some (.cells #[.int .u32 (maskF m0 (letsT (ts.take j)) : Nat)] 138 (0, 0)) ∧ Below W.heap.size W w2) (fun i _ => ts.length - (intOf i).toNat)
      case atStart => exact ⟨0, Nat.zero_le _, rfl, unhide Hmx, unhide Hb2⟩
      case round =>
        obtain ⟨j, hj, rfl, hmj, hbj⟩ := hrel
        by_cases hjl : j < ts.length
        · have hjz : (j : Int) < (ts.length : Int) := by omega
          obtain ⟨b', o', rfl, f0, f1⟩ := (unhide Htx) j hjl
          have hbl' : b' < W.heap.size := World.block_lt_of_cell? W _ f0
          have hmem' : ts[j]?.getD (0, 0) ∈ ts := by simp [hjl]
          have hs := letsT_snoc hjl
          obtain ⟨⟨x, z⟩, hxz⟩ : ∃ q, q = ts[j]?.getD (0, 0) := ⟨_, rfl⟩
          rw [← hxz] at f0 f1 hmem' hs
          have hx9 := (unhide Hlet) _ hmem'
          dsimp only at f0 f1 hx9 hs
          replace f0 := (hbj.cell (p := ⟨b', o' + j * 2, none⟩) hbl').trans f0
          replace f1 := (hbj.cell (p := ⟨b', o' + j * 2 + 1, none⟩) hbl').trans f1
          obtain ⟨wy, hwy⟩ : ∃ wy, wy = wr.alloc (.cells #[.int .u8 x, .int .i64 z] 187) := ⟨_, rfl⟩
          have hb3 : Below W.heap.size W wy := by rw [hwy]; exact hbj.alloc hbj.size _
          have gy : wy.heap[wr.heap.size]? = some (.cells #[.int .u8 x, .int .i64 z] 187 (0, 0)) := by rw [hwy]; exact heap_last _ _ _ rfl
          have y0 : wy.cell? ⟨wr.heap.size, 0, none⟩ = some (.int .u8 x) := cell_of_heap gy 0
          have hmy : wy.heap[W.heap.size]? = some (.cells #[.int .u32 (maskF m0 (letsT (ts.take j)) : Nat)] 138 (0, 0)) := by rw [hwy]; exact (Below.heap_alloc _ _ _ (Array.getElem?_eq_some_iff.1 hmj).1).trans hmj
          have hml : maskF m0 (letsT (ts.take j)) < 4294967296 := by
            have := maskF_lt (letsT (ts.take j)) m0 (fun y hy => by
              obtain ⟨hy, hy0⟩ := List.mem_filter.1 hy
              obtain ⟨t, ht, rfl⟩ := List.mem_map.1 hy
              rcases (unhide Hlet) t (List.mem_of_mem_take ht) with h1 | h1
              · omega
              · exact h1.2) hm0
            omega
          by_cases hx0 : x = 0
          · subst hx0
            replace hwy : wy = wr.alloc (.cells #[.int .u8 0, .int .i64 z] 187) := hwy
            replace y0 : wy.cell? ⟨wr.heap.size, 0, none⟩ = some (.int .u8 0) := y0
            replace f0 : wr.cell? ⟨b', o' + j * 2, none⟩ = some (.int .u8 0) := f0
            have Hb3 := hide hb3
            have Hmy := hide hmy
            rw [if_pos rfl, List.append_nil] at hs
            have Hs := hide hs
            clear hb3 hmy gy hbj hmj hxz hmem' hs
            go_upto_region 8 with fail
            rw [← hwy]
            clear hwy f0 f1
            go_wp2
            go_roundw
            case rel => exact ⟨j + 1, by omega, by go_num, by rw [unhide Hs]; exact unhide Hmy, unhide Hb3⟩
            case measure => simp [intOf]; omega
          · have hx1 : 65 ≤ x ∧ x ≤ 90 := by rcases hx9 with h1 | h1 <;> omega
            have hne : ¬ (x : Int) = 0 := by omega
            have Hadd := hide (ladd_any W.heap.size _ x wy hmy hml hx1.1 hx1.2)
            rw [if_neg hx0] at hs
            have Hs := hide hs
            have Hb3 := hide hb3
            clear hb3 hmy gy hbj hmj hxz hmem' hs
            go_upto_region 8 with fail
            rw [← hwy]
            clear hwy f0 f1
            go_wp2_with fail
            refine (unhide Hadd).mono ?_
            rintro e w4 ⟨rfl, hm4, hw4⟩
            have Hb4 : Hid (Below W.heap.size W w4) := (unhide Hb3).trans (by rw [hw4]; exact (keepX_set1 _ _ _ _).below (unhide Hb3).size (fun k e => by omega))
            have Hm4 := hide hm4
            clear hm4 hw4 Hadd
            go_wp2
            go_roundw
            case rel => exact ⟨j + 1, by omega, by go_num, by rw [unhide Hs, maskF_append]; exact unhide Hm4, unhide Hb4⟩
            case measure => simp [intOf]; omega
        · have Hmj := hide hmj
          have Hbj := hide hbj
          have ej : j = ts.length := by omega
          clear hmj hbj
          go_wp2
          go_roundw
          case rel =>
            refine ⟨k + 1, by omega, by go_num, ?_, unhide Hbj⟩
            have := unhide Hmj
            rw [ej, List.take_length] at this
            rw [unhide Hsn]
            unfold maskL at hmm ⊢
            rw [maskF_append, hmm]
            exact this
          case measure => simp [intOf]; omega
    · have ek : k = B.length := by omega
      have c9 : wr.cell? ⟨W.heap.size, 0, none⟩ = some (.int .u32 (maskL (lettersQ (B.take k)) : Nat)) := cell_of_heap hmk 0
      have Hbk := hide hbk
      clear hbk hmk
      go_wp2
      go_ret
      exact ⟨by first | rfl | rw [ek, List.take_length], unhide Hbk⟩

end Go.Proofs.YtgddkjhknlgbbaaGreatDoor

namespace Go.Proofs.YtgddkjhknlgbbaaGreatDoor
set_option linter.unusedVariables false
set_option linter.unusedSimpArgs false
open Go.RowKit Go.Maps

theorem arityOf_ok (nm : ByteArray) (W : World) {eb db nD S E : Nat} {st : St} {R : Rel} (hE : EngRep W eb db nD S E st) (hn : nm.size ≤ maxLen) (hR : st nm = some R) :
    Calls Tryz.prog 72 #[.pointer (some ⟨eb, 0, none⟩), .string nm] W fun e w' => e = .returned (.tuple #[.int .i64 R.ar, .bool true]) ∧ w' = W := by
  have hrun := hE.hit hn hR
  have c0 := hE.c0
  have Ha := hide (arity_any R.rb R.ar R.mb W (hE.rel nm R hR).1)
  clear hE
  go_enter Tryz.func72, Tryz.ntmps72
  go_wp2_with (first | (go_at_call 64; refine (unhide Ha).mono ?_; rintro e w' ⟨rfl, hw⟩; replace hw := hw.symm; subst hw))
  go_ret2
  exact ⟨rfl, rfl⟩

theorem arityOf_miss (nm : ByteArray) (W : World) {eb db nD S E : Nat} {st : St} (hE : EngRep W eb db nD S E st) (hn : nm.size ≤ maxLen) (hR : st nm = none) :
    Calls Tryz.prog 72 #[.pointer (some ⟨eb, 0, none⟩), .string nm] W fun e w' => e = .returned (.tuple #[.int .i64 0, .bool false]) ∧ w' = W := by
  have hrun := hE.miss hn hR
  have c0 := hE.c0
  clear hE
  go_enter Tryz.func72, Tryz.ntmps72
  go_wp2
  go_ret2
  exact ⟨rfl, rfl⟩

/-- What an atom is told. -/
def atomE (st : St) (nm : ByteArray) (n : Nat) : Int := if 8 < nm.size then 1 else match st nm with | none => 6 | some R => if n = R.ar then 0 else 2

theorem atomCheck_any (nm : ByteArray) (pl : Nat) (a : Option Addr) (n cap : Nat) (W : World) {eb db nD S E : Nat} {st : St} (hE : EngRep W eb db nD S E st) (hn : nm.size ≤ 1000) (hl : n ≤ 1000) (har : ∀ R, st nm = some R → R.ar ≤ 1000) :
    Calls Tryz.prog 115 #[.agg #[.string nm, .int .i64 pl, .slice a n cap], .func (.func 72) #[.pointer (some ⟨eb, 0, none⟩)] #[]] W fun e w' => e = .returned (.int .i64 (atomE st nm n)) ∧ Below W.heap.size W w' := by
  obtain ⟨W1, hW1⟩ : ∃ W1, W1 = W.alloc (.cells #[.string nm, .int .i64 pl, .slice a n cap] 185) := ⟨_, rfl⟩
  have hb1 : Below W.heap.size W W1 := by rw [hW1]; exact (Below.refl _ _).alloc (Nat.le_refl _) _
  have g1 : W1.heap[W.heap.size]? = some (.cells #[.string nm, .int .i64 pl, .slice a n cap] 185 (0, 0)) := by rw [hW1]; exact heap_last _ _ _ rfl
  have d0 : W1.cell? ⟨W.heap.size, 0, none⟩ = some (.string nm) := cell_of_heap g1 0
  have d2 : W1.cell? ⟨W.heap.size, 2, none⟩ = some (.slice a n cap) := cell_of_heap g1 2
  have hE1 := hE.below hb1
  have Hb1 := hide hb1
  have HE1 := hide hE1
  clear g1 hb1 hE hE1
  have hm : nm.size ≤ maxLen := Nat.le_trans hn (by unfold maxLen; omega)
  by_cases h8 : 8 < nm.size
  · have h8z : (8 : Int) < (nm.size : Int) := by omega
    have hans : Hid (atomE st nm n = 1) := by unfold atomE Hid; rw [if_pos h8]
    go_enter Tryz.func115, Tryz.ntmps115
    go_wp2_with fail
    rw [← hW1]
    clear hW1
    go_wp2
    go_ret
    exact ⟨ret_int (unhide hans).symm, unhide Hb1⟩
  · have h8z : ¬ (8 : Int) < (nm.size : Int) := by omega
    cases hR : st nm with
    | none =>
      have hans : Hid (atomE st nm n = 6) := by unfold atomE Hid; rw [if_neg h8, hR]
      have Hc := hide (arityOf_miss nm W1 (unhide HE1) hm hR)
      go_enter Tryz.func115, Tryz.ntmps115
      go_wp2_with fail
      rw [← hW1]
      clear hW1
      go_wp2_with fail
      refine (unhide Hc).mono ?_
      rintro e w' ⟨rfl, hw⟩
      replace hw := hw.symm
      subst hw
      go_wp2
      go_ret
      exact ⟨ret_int (unhide hans).symm, unhide Hb1⟩
    | some R =>
      have Hc := hide (arityOf_ok nm W1 (unhide HE1) hm hR)
      have hRa := har R hR
      by_cases hq : n = R.ar
      · have hans : Hid (atomE st nm n = 0) := by unfold atomE Hid; rw [if_neg h8, hR]; exact if_pos hq
        subst hq
        go_enter Tryz.func115, Tryz.ntmps115
        go_wp2_with fail
        rw [← hW1]
        clear hW1
        go_wp2_with fail
        refine (unhide Hc).mono ?_
        rintro e w' ⟨rfl, hw⟩
        replace hw := hw.symm
        subst hw
        go_wp2
        go_ret
        exact ⟨ret_int (unhide hans).symm, unhide Hb1⟩
      · have hans : Hid (atomE st nm n = 2) := by unfold atomE Hid; rw [if_neg h8, hR]; exact if_neg hq
        have hqz : ((n : Int) != (R.ar : Int)) = true := by simp; omega
        have hqz' : ((n : Int) == (R.ar : Int)) = false := by simp; omega
        go_enter Tryz.func115, Tryz.ntmps115
        go_wp2_with fail
        rw [← hW1]
        clear hW1
        go_wp2_with fail
        refine (unhide Hc).mono ?_
        rintro e w' ⟨rfl, hw⟩
        replace hw := hw.symm
        subst hw
        go_wp2
        go_ret
        exact ⟨ret_int (unhide hans).symm, unhide Hb1⟩

theorem faultOf_nil (W : World) : Calls Tryz.prog 44 #[.nilIface] W fun e w' => e = .returned (.tuple #[.int .i64 0, .int .i64 0]) ∧ Below W.heap.size W w' := by
  have has : ∀ v W', Calls Tryz.prog 73 #[.nilIface, v] W' fun e w' => e = .returned (.bool false) ∧ w' = W' := by
    intro v W'
    go_enter Tryz.func73, Tryz.ntmps73
    go_wp2
    go_ret
    exact ⟨rfl, rfl⟩
  go_enter Tryz.func44, Tryz.ntmps44
  go_wp2_with (first | (go_at_call 73; refine (has _ _).mono ?_; rintro e w' ⟨rfl, hw⟩; replace hw := hw.symm; subst hw))
  go_ret2
  exact ⟨rfl, (Below.refl _ _).alloc (Nat.le_refl _) _⟩

end Go.Proofs.YtgddkjhknlgbbaaGreatDoor

namespace Go.Proofs.YtgddkjhknlgbbaaGreatDoor
set_option linter.unusedVariables false
set_option linter.unusedSimpArgs false
open Go.RowKit Go.Maps Go.Sort Go.Shelf

/-- What a check says: the first fault of a list, or none. -/
def CheckSaid (W : World) (L : List (Nat × Int)) (e : Ending) (w' : World) : Prop :=
  (firstBad L = none ∧ e = .returned .nilIface ∧ Below W.heap.size W w') ∨ (∃ p c v, firstBad L = some (p, ((c : Nat) : Int)) ∧ e = .returned v ∧ ErrAt W.heap.size w' v c p ∧ Below W.heap.size W w')

theorem firstBad_snoc {L : List (Nat × Int)} {k : Nat} (hk : k < L.length) (h : firstBad (L.take k) = none) (h0 : (L[k]?.getD (0, 0)).2 = 0) : firstBad (L.take (k + 1)) = none := by
  rw [List.take_succ_eq_append_getElem hk]
  unfold firstBad at *
  rw [List.find?_append, h]
  simp [hk] at h0
  simp [h0]
theorem firstBad_at {L : List (Nat × Int)} {k : Nat} (hk : k < L.length) (h : firstBad (L.take k) = none) (h0 : (L[k]?.getD (0, 0)).2 ≠ 0) : firstBad L = some (L[k]?.getD (0, 0)) := by
  have h1 : firstBad L = firstBad (L.take k ++ L.drop k) := by rw [List.take_append_drop]
  rw [h1, List.drop_eq_getElem_cons hk]
  unfold firstBad at *
  have h2 : (L[k]'hk).2 ≠ 0 := by simpa [hk] using h0
  rw [List.find?_append, h, Option.none_or, List.find?_cons_of_pos (p := fun x : Nat × Int => decide (x.2 ≠ 0)) (decide_eq_true h2)]
  simp [hk]

def headJ (vs : List Nat) (H : List (Nat × Nat)) : List (Nat × Int) := H.map fun x => (x.2, if x.1 ∈ vs then 0 else 7)
def bodyJ (st : St) (B : List AtomQ) : List (Nat × Int) := B.map fun a => (a.pl, atomE st a.nm a.ts.length)

set_option maxRecDepth 100000 in
set_option maxHeartbeats 4000000 in
theorem checkHead_any (QB : Nat) (H : List (Nat × Nat)) (B : List AtomQ) (W : World) (hQ : QryAt W QB H B) (hO : QryOK H B) (hL : LetB B) (hh : ∀ x ∈ H, 65 ≤ x.1 ∧ x.1 ≤ 90) :
    Calls Tryz.prog 91 #[.pointer (some ⟨QB, 0, none⟩)] W (CheckSaid W (headJ (lettersQ B) H)) := by
  have Hbl := hide (bodyLetters_any QB H B W hQ hO hL)
  obtain ⟨hdv, bv, hblk, hhead, _⟩ := hQ.blk
  obtain ⟨ha, hcap, rfl, hx⟩ := hhead
  have hvl := hL.vars
  have h4 := hO.h4
  have c0 : W.cell? ⟨QB, 0, none⟩ = some (.slice ha H.length hcap) := cell_of_heap hblk 0
  have hQl : QB < W.heap.size := (Array.getElem?_eq_some_iff.1 hblk).1
  generalize lettersQ B = vs at *
  have hmlt : maskL vs < 4294967296 := maskL_lt fun y hy => (hvl y hy).2
  have hmt : ∀ x, 65 ≤ x → (maskL vs).testBit (x - 65) = decide (x ∈ vs) := fun x hx => maskL_test (fun y hy => (hvl y hy).1) hx
  obtain ⟨m, hm⟩ : ∃ m, m = maskL vs := ⟨_, rfl⟩
  rw [← hm] at Hbl hmlt hmt
  have hjl : (headJ vs H).length = H.length := by simp [headJ]
  have hjk : ∀ k, k < H.length → (headJ vs H)[k]?.getD (0, 0) = ((H[k]?.getD (0, 0)).2, if (H[k]?.getD (0, 0)).1 ∈ vs then 0 else 7) := fun k hk => by simp [headJ, hk]
  obtain ⟨L, hL'⟩ : ∃ L, L = headJ vs H := ⟨_, rfl⟩
  rw [← hL'] at hjl hjk ⊢
  have Hx := hide hx
  have Hh := hide hh
  have Hmt := hide hmt
  have Hjl := hide hjl
  have Hjk := hide hjk
  clear hQ hO hL hblk hx hh hvl hmt hm hjl hjk hL'
  go_enter Tryz.func91, Tryz.ntmps91
  go_wp2_with fail
  refine (unhide Hbl).mono ?_
  rintro e w1 ⟨rfl, hb1⟩
  have d0 := (hb1.cell (p := ⟨QB, 0, none⟩) hQl).trans c0
  have Hb1 := hide hb1
  clear hb1 Hbl
  go_wp2
  go_loopw [13] (fun i wr => ∃ k : Nat, k ≤ H.length ∧ i = .int .i64 k ∧ firstBad (L.take k) = none ∧ Below W.heap.size W wr) (fun i _ => H.length - (intOf i).toNat)
  case atStart => exact ⟨0, Nat.zero_le _, rfl, rfl, unhide Hb1⟩
  case round =>
    obtain ⟨k, hk, rfl, hfk, hbk⟩ := hrel
    by_cases hlt : k < H.length
    · have hkz : (k : Int) < (H.length : Int) := by omega
      obtain ⟨b, o, rfl, e0, e1⟩ := (unhide Hx) k hlt
      have hbl : b < W.heap.size := World.block_lt_of_cell? W _ e0
      have hmem : (H[k]?.getD (0, 0)) ∈ H := by simp [hlt]
      have hLk := (unhide Hjk) k hlt
      obtain ⟨⟨x, p⟩, hxp⟩ : ∃ q, q = H[k]?.getD (0, 0) := ⟨_, rfl⟩
      rw [← hxp] at e0 e1 hmem hLk
      replace e0 := (hbk.cell (p := ⟨b, o + k * 2, none⟩) hbl).trans e0
      replace e1 := (hbk.cell (p := ⟨b, o + k * 2 + 1, none⟩) hbl).trans e1
      dsimp only at e0 e1 hLk
      obtain ⟨x1, x2⟩ := (unhide Hh) _ hmem
      dsimp only at x1 x2
      obtain ⟨wx, hwx⟩ : ∃ wx, wx = wr.alloc (.cells #[.int .u8 x, .int .i64 p] 208) := ⟨_, rfl⟩
      have hbx : Below W.heap.size W wx := by rw [hwx]; exact hbk.alloc hbk.size _
      have gx : wx.heap[wr.heap.size]? = some (.cells #[.int .u8 x, .int .i64 p] 208 (0, 0)) := by rw [hwx]; exact heap_last _ _ _ rfl
      have g0 : wx.cell? ⟨wr.heap.size, 0, none⟩ = some (.int .u8 x) := cell_of_heap gx 0
      have g1 : wx.cell? ⟨wr.heap.size, 1, none⟩ = some (.int .i64 p) := cell_of_heap gx 1
      have Hbx := hide hbx
      have hLl := unhide Hjl
      by_cases hin : x ∈ vs
      · have Hhas := hide (lhas_any m x wx hmlt x1 x2)
        rw [(unhide Hmt) x x1, decide_eq_true hin] at Hhas
        rw [if_pos hin] at hLk
        have Hf := hide (firstBad_snoc (L := L) (k := k) (by omega) hfk (by rw [hLk]))
        clear hbk hxp hmem hbx gx hLk hfk
        go_upto_region 5 with fail
        rw [← hwx]
        clear hwx e0 e1
        go_wp2_with fail
        refine (unhide Hhas).mono ?_
        rintro e w3 ⟨rfl, hw3⟩
        replace hw3 := hw3.symm
        subst hw3
        go_wp2
        go_roundw
        case rel => exact ⟨k + 1, by omega, by go_num, unhide Hf, unhide Hbx⟩
        case measure => simp [intOf]; omega
      · have Hhas := hide (lhas_any m x wx hmlt x1 x2)
        rw [(unhide Hmt) x x1, decide_eq_false hin] at Hhas
        rw [if_neg hin] at hLk
        have Hf := hide (firstBad_at (L := L) (k := k) (by omega) hfk (by rw [hLk]; show (7 : Int) ≠ 0; decide))
        rw [hLk] at Hf
        obtain ⟨wy, hwy⟩ : ∃ wy, wy = wx.alloc (.cells #[.int .i64 7, .int .i64 p] 136) := ⟨_, rfl⟩
        have hby : Below W.heap.size W wy := by rw [hwy]; exact hbx.alloc hbx.size _
        have gy : wy.heap[wx.heap.size]? = some (.cells #[.int .i64 ((7 : Nat) : Int), .int .i64 p] 136 (0, 0)) := by rw [hwy]; exact heap_last _ _ _ rfl
        have hi := inItem_any ⟨#[118, 97, 114, 105, 97, 98, 108, 101]⟩ (k + 1) (.iface 132 (.pointer (some ⟨wx.heap.size, 0, none⟩))) W.heap.size 7 p wy (by decide) (by omega) (ErrAt.fault hbx.size gy) hby.size
        rw [show (((k + 1 : Nat)) : Int) = (k : Int) + 1 from by omega] at hi
        have Hi := hide hi
        have Hby := hide hby
        clear hbk hxp hmem hbx gx hLk hfk hi hby gy
        go_upto_region 5 with fail
        rw [← hwx]
        clear hwx e0 e1
        go_wp2_with fail
        refine (unhide Hhas).mono ?_
        rintro e w3 ⟨rfl, hw3⟩
        replace hw3 := hw3.symm
        subst hw3
        clear Hhas
        go_wp2_with fail
        rw [← hwy]
        refine (unhide Hi).mono ?_
        rintro e w4 ⟨v', rfl, hv', hb4⟩
        have Hv' := hide hv'
        have Hb4 := hide ((unhide Hby).trans (hb4.mono (unhide Hby).size))
        clear hv' hb4 Hi
        go_wp2
        go_ret
        exact .inr ⟨p, 7, v', unhide Hf, rfl, unhide Hv', unhide Hb4⟩
    · have ek : k = H.length := by omega
      have Hbk := hide hbk
      have Hf : Hid (firstBad L = none) := by
        have := unhide Hjl
        rw [ek, ← this, List.take_length] at hfk
        exact hfk
      clear hbk hfk
      go_wp2
      go_ret
      exact .inl ⟨unhide Hf, rfl, unhide Hbk⟩

end Go.Proofs.YtgddkjhknlgbbaaGreatDoor

namespace Go.Proofs.YtgddkjhknlgbbaaGreatDoor
set_option linter.unusedVariables false
set_option linter.unusedSimpArgs false
open Go.RowKit Go.Maps Go.Sort Go.Shelf

/-- A slice of bytes that reads so. -/
def BytesAt (w : World) (v : Value) (l : List Nat) : Prop :=
  ∃ a cap, v = .slice a l.length cap ∧ ∀ i, i < l.length → ∃ b o, a = some ⟨b, o, none⟩ ∧ w.cell? ⟨b, o + i, none⟩ = some (.int .u8 ((l[i]?.getD 0 : Nat) : Int))
theorem BytesAt.below {w w' : World} {v : Value} {l : List Nat} (h : BytesAt w v l) (hb : Below w.heap.size w w') : BytesAt w' v l := by
  obtain ⟨a, cap, rfl, hx⟩ := h
  refine ⟨a, cap, rfl, fun i hi => ?_⟩
  obtain ⟨b, o, e, h0⟩ := hx i hi
  exact ⟨b, o, e, (hb.cell (World.block_lt_of_cell? w _ h0)).trans h0⟩
def byteC (l : List Nat) : List Value := l.map fun x => .int .u8 ((x : Nat) : Int)
theorem bytes_of_own {w : World} {base : Nat} {v : Value} {l : List Nat} (h : w.ownsRow base 5 1 v l.length (byteC l)) : BytesAt w v l := by
  obtain ⟨p, c, rfl, hle, hn, hs⟩ := own_form h
  refine ⟨p, c, rfl, fun i hi => ?_⟩
  cases p with
  | none => have := (hn rfl).1; omega
  | some ad =>
    obtain ⟨g, rfl, _, _, hc⟩ := hs ad rfl
    refine ⟨g, 0, rfl, ?_⟩
    rw [Nat.zero_add, hc i (by omega)]
    simp [byteC, hi]

set_option maxRecDepth 100000 in
set_option maxHeartbeats 2000000 in
theorem has_any (v : Value) (l : List Nat) (c : Nat) (W : World) (hv : BytesAt W v l) (hl : l.length ≤ 1000000) :
    Calls Tryz.prog 82 #[v, .int .u8 c] W fun e w' => e = .returned (.bool (decide (c ∈ l))) ∧ w' = W := by
  obtain ⟨a, cap, rfl, hx⟩ := hv
  have Hx := hide hx
  clear hx
  go_enter Tryz.func82, Tryz.ntmps82
  go_wp2
  go_loopw [5] (fun i wr => ∃ k : Nat, k ≤ l.length ∧ i = .int .i64 k ∧ c ∉ l.take k ∧ wr = W) (fun i _ => l.length - (intOf i).toNat)
  case atStart => exact ⟨0, Nat.zero_le _, rfl, by simp, rfl⟩
  case round =>
    obtain ⟨k, hk, rfl, hno, hw⟩ := hrel
    subst hw
    by_cases hlt : k < l.length
    · have hkz : (k : Int) < (l.length : Int) := by omega
      obtain ⟨b, o, rfl, e0⟩ := (unhide Hx) k hlt
      have htk : l.take (k + 1) = l.take k ++ [l[k]?.getD 0] := by rw [List.take_succ_eq_append_getElem hlt]; simp [hlt]
      have hmem : l[k]?.getD 0 ∈ l := by simp [hlt]
      obtain ⟨y, hy⟩ : ∃ y, y = l[k]?.getD 0 := ⟨_, rfl⟩
      rw [← hy] at e0 htk hmem
      clear hy
      by_cases hyc : y = c
      · have Hin : Hid (c ∈ l) := hyc ▸ hmem
        have hyc' : (y : Int) = (c : Int) := by omega
        have hb : ((y : Int) == (c : Int)) = true := by simpa using hyc'
        clear hyc hno htk hmem
        go_wp2
        go_ret
        exact ⟨by rw [decide_eq_true (unhide Hin)]; rfl, rfl⟩
      · have hb : ((y : Int) == (c : Int)) = false := by simpa using (show ¬ (y : Int) = (c : Int) by omega)
        have Hno : Hid (c ∉ l.take (k + 1)) := by
          show c ∉ l.take (k + 1)
          rw [htk]
          intro h
          rcases List.mem_append.1 h with h | h
          · exact hno h
          · exact hyc (List.mem_singleton.1 h).symm
        clear hyc hno htk hmem
        go_wp2
        go_roundw
        case rel => exact ⟨k + 1, by omega, by go_num, unhide Hno, by first | rfl | trivial⟩
        case measure => simp [intOf]; omega
    · have hkz : ¬ (k : Int) < (l.length : Int) := by omega
      have Hno : Hid (c ∉ l) := by
        have : k = l.length := by omega
        rw [this, List.take_length] at hno
        exact hno
      clear hno
      go_wp2
      go_ret
      exact ⟨by rw [decide_eq_false (unhide Hno)]; rfl, rfl⟩

end Go.Proofs.YtgddkjhknlgbbaaGreatDoor

namespace Go.Proofs.YtgddkjhknlgbbaaGreatDoor
set_option linter.unusedVariables false
set_option linter.unusedSimpArgs false
open Go.RowKit Go.Maps Go.Sort Go.Shelf

theorem Tryz.info5 : (Tryz.prog.info? 5).map (fun i => (i.zero, i.size, i.bytes)) = some (some (.int .u8 0), 1, 1) := by kernel_rfl

/-- Letters, each once, as they come. -/
def dedF (acc : List Nat) (l : List Nat) : List Nat := l.foldl (fun acc c => if c ≠ 0 ∧ c ∉ acc then acc ++ [c] else acc) acc
theorem dedF_snoc (acc l : List Nat) (c : Nat) : dedF acc (l ++ [c]) = if c ≠ 0 ∧ c ∉ dedF acc l then dedF acc l ++ [c] else dedF acc l := by
  unfold dedF
  rw [List.foldl_append]
  rfl
theorem dedF_append (acc l m : List Nat) : dedF acc (l ++ m) = dedF (dedF acc l) m := by simp [dedF, List.foldl_append]
def lets1 (ts : List Trm) : List Nat := ts.map (·.1)
def varsR (B : List AtomQ) : List Nat := dedF [] (B.flatMap fun a => lets1 a.ts)
theorem dedF_mem : ∀ (l acc : List Nat) (x : Nat), x ∈ dedF acc l ↔ x ∈ acc ∨ (x ≠ 0 ∧ x ∈ l)
  | [], acc, x => by simp [dedF]
  | c :: l, acc, x => by
    have ih := dedF_mem l (if c ≠ 0 ∧ c ∉ acc then acc ++ [c] else acc) x
    show x ∈ dedF (if c ≠ 0 ∧ c ∉ acc then acc ++ [c] else acc) l ↔ _
    rw [ih]
    by_cases h : c ≠ 0 ∧ c ∉ acc
    · rw [if_pos h]
      simp only [List.mem_append, List.mem_cons, List.not_mem_nil, or_false]
      constructor
      · rintro ((h1 | h1) | h1)
        · exact .inl h1
        · exact .inr ⟨h1 ▸ h.1, .inl h1⟩
        · exact .inr ⟨h1.1, .inr h1.2⟩
      · rintro (h1 | ⟨h1, h2 | h2⟩)
        · exact .inl (.inl h1)
        · exact .inl (.inr h2)
        · exact .inr ⟨h1, h2⟩
    · rw [if_neg h]
      simp only [List.mem_cons]
      constructor
      · rintro (h1 | h1)
        · exact .inl h1
        · exact .inr ⟨h1.1, .inr h1.2⟩
      · rintro (h1 | ⟨h1, h2 | h2⟩)
        · exact .inl h1
        · subst h2
          by_cases h3 : x ∈ acc
          · exact .inl h3
          · exact absurd ⟨h1, h3⟩ h
        · exact .inr ⟨h1, h2⟩
theorem dedF_nodup : ∀ (l acc : List Nat), acc.Nodup → (dedF acc l).Nodup
  | [], acc, h => h
  | c :: l, acc, h => by
    show (dedF (if c ≠ 0 ∧ c ∉ acc then acc ++ [c] else acc) l).Nodup
    apply dedF_nodup
    by_cases h1 : c ≠ 0 ∧ c ∉ acc
    · rw [if_pos h1]
      exact List.nodup_append.2 ⟨h, by simp, fun a ha b hb => by rw [List.mem_singleton.1 hb]; exact fun e => h1.2 (e ▸ ha)⟩
    · rw [if_neg h1]; exact h
theorem dedF_len : ∀ (l acc : List Nat), (dedF acc l).length ≤ acc.length + l.length
  | [], acc => by simp [dedF]
  | c :: l, acc => by
    show (dedF (if c ≠ 0 ∧ c ∉ acc then acc ++ [c] else acc) l).length ≤ _
    have := dedF_len l (if c ≠ 0 ∧ c ∉ acc then acc ++ [c] else acc)
    by_cases h1 : c ≠ 0 ∧ c ∉ acc
    · rw [if_pos h1] at this ⊢; simp at this ⊢; omega
    · rw [if_neg h1] at this ⊢; simp at this ⊢; omega
theorem flat_len {B : List AtomQ} (h3 : ∀ a ∈ B, a.ts.length ≤ 3) : (B.flatMap fun a => lets1 a.ts).length ≤ 3 * B.length := by
  induction B with
  | nil => simp
  | cons a B ih =>
    have h1 := h3 a (by simp)
    have h2 := ih (fun b hb => h3 b (by simp [hb]))
    simp [List.flatMap_cons, lets1] at h2 ⊢
    omega
theorem flat_snoc {B : List AtomQ} {k : Nat} (hk : k < B.length) : (B.take (k + 1)).flatMap (fun a => lets1 a.ts) = (B.take k).flatMap (fun a => lets1 a.ts) ++ lets1 (B[k]?.getD noAtom).ts := by
  rw [List.take_succ_eq_append_getElem hk, List.flatMap_append]
  simp [hk]
theorem lets1_snoc {ts : List Trm} {k : Nat} (hk : k < ts.length) : lets1 (ts.take (k + 1)) = lets1 (ts.take k) ++ [(ts[k]?.getD (0, 0)).1] := by
  rw [List.take_succ_eq_append_getElem hk]
  unfold lets1
  rw [List.map_append, show ts[k]?.getD (0, 0) = ts[k] by simp [hk]]
  rfl

set_option maxRecDepth 100000 in
set_option maxHeartbeats 8000000 in
theorem vars_any (ha : Option Addr) (hn hc : Nat) (pa : Option Addr) (pn pc : Nat) (bv : Value) (B : List AtomQ) (W : World) (hB : BodyAt W bv B) (hb4 : B.length ≤ 4) (ht3 : ∀ a ∈ B, a.ts.length ≤ 3) :
    Calls Tryz.prog 51 #[.agg #[.slice ha hn hc, .slice pa pn pc, bv]] W fun e w' => ∃ v, e = .returned v ∧ w'.ownsRow W.heap.size 5 1 v (varsR B).length (byteC (varsR B)) ∧ Below W.heap.size W w' := by
  obtain ⟨ba, bcap, rfl, hx⟩ := hB
  obtain ⟨W1, hW1⟩ : ∃ W1, W1 = W.alloc (.cells #[.slice ha hn hc, .slice pa pn pc, .slice ba B.length bcap] 105) := ⟨_, rfl⟩
  have hb1 : Below W.heap.size W W1 := by rw [hW1]; exact (Below.refl _ _).alloc (Nat.le_refl _) _
  have hB1 : W1.heap[W.heap.size]? = some (.cells #[.slice ha hn hc, .slice pa pn pc, .slice ba B.length bcap] 105 (0, 0)) := by rw [hW1]; exact heap_last _ _ _ rfl
  have hs1 : W1.heap.size = W.heap.size + 1 := by rw [hW1]; simp
  have hq0 : W.heap.size < W1.heap.size := by omega
  have Hq : Hid (W1.cell? ⟨W.heap.size, 2, none⟩ = some (.slice ba B.length bcap)) := cell_of_heap hB1 2
  have Hx : Hid (∀ i, i < B.length → ∃ b o tv, ba = some ⟨b, o, none⟩ ∧ b < W1.heap.size ∧ W1.cell? ⟨b, o + i * 3 + 2, none⟩ = some tv ∧ TermsAt W1 tv (B[i]?.getD noAtom).ts) := fun i hi => by
    obtain ⟨b, o, tv, e, h0, h1, h2, h3⟩ := hx i hi
    have hbl := World.block_lt_of_cell? W _ h2
    have hbl' : b < W.heap.size := hbl
    exact ⟨b, o, tv, e, by omega, (hb1.cell (p := ⟨b, _, none⟩) hbl).trans h2, h3.below hb1⟩
  have Hb1 := hide hb1
  have HW1 := hide hW1
  have Ht3 := hide ht3
  obtain ⟨i5, hi, hz0, hz1, hz2⟩ := info_parts Tryz.info5
  clear hx hb1 hB1 hW1 ht3 hs1
  go_enter Tryz.func51, Tryz.ntmps51
  go_upto_region 1 with fail
  rw [← unhide HW1]
  go_wp2
  go_loopw [3, 4] (fun vo i wr => ∃ k : Nat, k ≤ B.length ∧ i = .int .i64 k ∧ wr.ownsRow W1.heap.size 5 1 vo (dedF [] ((B.take k).flatMap fun a => lets1 a.ts)).length (byteC (dedF [] ((B.take k).flatMap fun a => lets1 a.ts))) ∧ Below W1.heap.size W1 wr) (fun _ i _ => B.length - (intOf i).toNat)
  case atStart => exact ⟨0, Nat.zero_le _, rfl, World.ownsRow_nil _ _ _ _, Below.refl _ _⟩
  case round =>
    obtain ⟨k, hk, rfl, ho, hbk⟩ := hrel
    by_cases hlt : k < B.length
    · have hkz : (k : Int) < (B.length : Int) := by omega
      have q2 := (hbk.cell (p := ⟨W.heap.size, 2, none⟩) hq0).trans (unhide Hq)
      obtain ⟨b, o, tv, rfl, hbl, e2, ht⟩ := (unhide Hx) k hlt
      have hmem : (B[k]?.getD noAtom) ∈ B := by simp [hlt]
      have hsn := flat_snoc hlt
      have ht3 := (unhide Ht3) _ hmem
      have hlen0 := dedF_len ((B.take k).flatMap fun a => lets1 a.ts) []
      have hlen1 := flat_len (B := B.take k) (fun a ha => (unhide Ht3) a (List.mem_of_mem_take ha))
      have htk : (B.take k).length = k := by simp; omega
      generalize (B[k]?.getD noAtom).ts = ts at *
      obtain ⟨acc, hacc⟩ : ∃ acc, acc = dedF [] ((B.take k).flatMap fun a => lets1 a.ts) := ⟨_, rfl⟩
      rw [← hacc] at ho hlen0
      have haccl : acc.length ≤ 12 := by rw [List.length_nil] at hlen0; omega
      obtain ⟨ta, tcap, rfl, htx⟩ := ht
      have Htx := hide htx
      have Ho := hide ho
      have Hbk := hide hbk
      have Hsn := hide hsn
      have Hacc := hide hacc
      clear hmem htx ho hbk hsn hacc hlen0 hlen1 htk
      go_wp2
      clear q2
      go_loopw [3, 5] (fun vo i w2 => ∃ j : Nat, j ≤ ts.length ∧ i = .int .i64 j ∧ w2.ownsRow W1.heap.size 5 1 vo (dedF acc (lets1 (ts.take j))).length (byteC (dedF acc (lets1 (ts.take j)))) ∧ Below W1.heap.size W1 w2) (fun _ i _ => ts.length - (intOf i).toNat)
      case atStart => exact ⟨0, Nat.zero_le _, rfl, unhide Ho, unhide Hbk⟩
      case round =>
        obtain ⟨j, hj, rfl, hoj, hbj⟩ := hrel
        have q2 := (hbj.cell (p := ⟨W.heap.size, 2, none⟩) hq0).trans (unhide Hq)
        have r2 := (hbj.cell (p := ⟨b, o + k * 3 + 2, none⟩) hbl).trans e2
        by_cases hjl : j < ts.length
        · have hjz : (j : Int) < (ts.length : Int) := by omega
          obtain ⟨b', o', rfl, f0, f1⟩ := (unhide Htx) j hjl
          have hs := lets1_snoc hjl
          obtain ⟨x, hx'⟩ : ∃ x, x = (ts[j]?.getD (0, 0)).1 := ⟨_, rfl⟩
          rw [← hx'] at f0 hs
          replace f0 := (hbj.cell (p := ⟨b', o' + j * 2, none⟩) (World.block_lt_of_cell? W1 _ f0)).trans f0
          have hl9 := dedF_len (lets1 (ts.take j)) acc
          have hl8 : (lets1 (ts.take j)).length ≤ 3 := by simp [lets1]; omega
          have hds := dedF_snoc acc (lets1 (ts.take j)) x
          rw [← hs] at hds
          obtain ⟨l, hl⟩ : ∃ l, l = dedF acc (lets1 (ts.take j)) := ⟨_, rfl⟩
          rw [← hl] at hoj hl9 hds
          have hll : l.length ≤ 15 := by omega
          have Hhas : Hid (Calls Tryz.prog 82 #[u3, .int .u8 x] wr fun e w' => e = .returned (.bool (decide (x ∈ l))) ∧ w' = wr) := has_any u3 l x wr (bytes_of_own hoj) (by omega)
          obtain ⟨vp, vc, rfl⟩ : ∃ vp vc, u3 = .slice vp l.length vc := by
            rcases hoj.2 with ⟨rfl, h0⟩ | ⟨g, cap', cur, rfl, _⟩
            · exact ⟨none, 0, by rw [h0]⟩
            · exact ⟨_, _, rfl⟩
          have Hds := hide hds
          have Hoj := hide hoj
          have Hbj := hide hbj
          have hbjs := hbj.size
          clear hx' hs f1 hl9 hl8 hds hl hoj hbj
          by_cases hx0 : x = 0
          · have hxz : (x : Int) = 0 := by omega
            have kz : ((x : Int) != 0) = false := by simpa using hxz
            have Hd2 : Hid (dedF acc (lets1 (ts.take (j + 1))) = l) := by
              show _ = _
              rw [unhide Hds, if_neg (fun h => h.1 hx0)]
            clear hx0 hxz Hds
            go_wp2_with fail
            refine (unhide Hhas).mono ?_
            rintro e w4 ⟨rfl, hw4⟩
            replace hw4 := hw4.symm
            subst hw4
            go_wp2
            go_roundw
            case rel => exact ⟨j + 1, by omega, by go_num, by rw [unhide Hd2]; exact unhide Hoj, unhide Hbj⟩
            case measure => simp [intOf]; omega
          · have hxz : ¬ (x : Int) = 0 := by omega
            have kz : ((x : Int) != 0) = true := by simpa using hxz
            by_cases hin : x ∈ l
            · have Hd2 : Hid (dedF acc (lets1 (ts.take (j + 1))) = l) := by
                show _ = _
                rw [unhide Hds, if_neg (fun h => h.2 hin)]
              rw [decide_eq_true hin] at Hhas
              clear hx0 hxz Hds hin
              go_wp2_with fail
              refine (unhide Hhas).mono ?_
              rintro e w4 ⟨rfl, hw4⟩
              replace hw4 := hw4.symm
              subst hw4
              go_wp2
              go_roundw
              case rel => exact ⟨j + 1, by omega, by go_num, by rw [unhide Hd2]; exact unhide Hoj, unhide Hbj⟩
              case measure => simp [intOf]; omega
            · have Hd2 : Hid (dedF acc (lets1 (ts.take (j + 1))) = l ++ [x]) := by
                show _ = _
                rw [unhide Hds, if_pos ⟨hx0, hin⟩]
              rw [decide_eq_false hin] at Hhas
              have hnew := cell1_new wr (.int .u8 x) 5
              clear hx0 hxz Hds hin
              go_wp2_with fail
              refine (unhide Hhas).mono ?_
              rintro e w4 ⟨rfl, hw4⟩
              replace hw4 := hw4.symm
              subst hw4
              go_wp2_with (first
                | (at_builtin; refine wpList_append_own_at _ rfl _ _ 101 rfl W1.heap.size 5 i5 _ 1 1 Tryz.underlying101 hi hz0 hz1 hz2 rfl (by decide) _ _ _ rfl ((unhide Hoj).alloc _) ⟨wr.heap.size, 0, none⟩ 1 1 [.int .u8 x] rfl rfl hnew (by simp [Value.oneCell']) (by unfold maxLen; omega) (by omega) (by simp; omega) ?_; intro v' w2 ho2 hg2 _ _; have HB2 := hide (((unhide Hbj).alloc hbjs _).grown hg2 (by simp; omega) (fun j e => (own_block (unhide Hoj) j e).1)); obtain ⟨g', cap', rfl⟩ := own_succ ho2; have Ho2 := hide ho2; clear ho2 hg2 hnew))
              go_roundw
              case rel => exact ⟨j + 1, by omega, by go_num, by rw [unhide Hd2]; simpa [byteC] using unhide Ho2, unhide HB2⟩
              case measure => simp [intOf]; omega
        · have hjz : ¬ (j : Int) < (ts.length : Int) := by omega
          have ej : j = ts.length := by omega
          have Hoj : Hid (wr.ownsRow W1.heap.size 5 1 u3 (dedF [] ((B.take (k + 1)).flatMap fun a => lets1 a.ts)).length (byteC (dedF [] ((B.take (k + 1)).flatMap fun a => lets1 a.ts)))) := by
            rw [ej, List.take_length] at hoj
            show wr.ownsRow _ _ _ _ _ _
            rw [unhide Hsn, dedF_append, ← unhide Hacc]
            exact hoj
          have Hbj := hide hbj
          clear hoj hbj ej
          go_wp2
          go_roundw
          case rel => exact ⟨k + 1, by omega, by go_num, unhide Hoj, unhide Hbj⟩
          case measure => simp [intOf]; omega
    · have hkz : ¬ (k : Int) < (B.length : Int) := by omega
      have ek : k = B.length := by omega
      have q2 := (hbk.cell (p := ⟨W.heap.size, 2, none⟩) hq0).trans (unhide Hq)
      rw [ek, List.take_length] at ho
      have hb := unhide Hb1
      have Ho := hide (own_baseG ho (show W.heap.size ≤ W1.heap.size from hb.size))
      have Hbe := hide (hb.trans (hbk.mono hb.size))
      clear ho hbk ek hb
      go_wp2
      go_ret
      exact ⟨_, rfl, unhide Ho, unhide Hbe⟩

end Go.Proofs.YtgddkjhknlgbbaaGreatDoor

namespace Go.Proofs.YtgddkjhknlgbbaaGreatDoor
set_option linter.unusedVariables false
set_option linter.unusedSimpArgs false
open Go.RowKit Go.Maps Go.Sort Go.Shelf

theorem Tryz.info150 : (Tryz.prog.info? 150).map (fun i => (i.zero, i.size, i.bytes)) = some (some (.agg #[.string ⟨#[]⟩, .int .i64 0, .slice none 0 0]), 3, 48) := by kernel_rfl
theorem Tryz.info152 : (Tryz.prog.info? 152).map (fun i => (i.zero, i.size, i.bytes)) = some (some (.agg #[.int .u8 0, .int .i64 0]), 2, 16) := by kernel_rfl
theorem Tryz.info3 : (Tryz.prog.info? 3).map (fun i => (i.zero, i.size, i.bytes)) = some (some (.int .i64 0), 1, 8) := by kernel_rfl

def intC (l : List Nat) : List Value := l.map fun x => .int .i64 ((x : Nat) : Int)

/-- A query of the reference's, as it is built. -/
structure QW (W w : World) (hl pl : List Nat) (xs : List (AtomP × Value)) (hv pv bv : Value) : Prop where
  res : w.heap[W.heap.size]? = some (.cells #[.slice none 0 0, .slice none 0 0, .slice none 0 0] 105 (0, 0))
  q : w.heap[W.heap.size + 1]? = some (.cells #[hv, pv, bv] 105 (0, 0))
  head : w.ownsRow (W.heap.size + 2) 5 1 hv hl.length (byteC hl)
  pla : w.ownsRow (W.heap.size + 2) 3 1 pv pl.length (intC pl)
  body : w.ownsRow (W.heap.size + 2) 150 3 bv xs.length (atomsC xs)
  terms : ∀ x ∈ xs, w.ownsRow (W.heap.size + 2) 152 2 x.2 x.1.ts.length (termsC x.1.ts)
  bel : Below W.heap.size W w

theorem QW.below {W w w' : World} {hl pl : List Nat} {xs : List (AtomP × Value)} {hv pv bv : Value} (h : QW W w hl pl xs hv pv bv) (hb : Below w.heap.size w w') : QW W w' hl pl xs hv pv bv :=
  ⟨blk_below hb h.res, blk_below hb h.q, own_below h.head hb, own_below h.pla hb, own_below h.body hb, fun x hx => own_below (h.terms x hx) hb, h.bel.trans (hb.mono h.bel.size)⟩

theorem row_other {w w' : World} {B e e' : Nat} {size n : Nat} {v : Value} {xs : List Value} {X : Nat → Prop} (ho : w.ownsRow B e size v n xs) (hk : KeepX X w w') (hne : e ≠ e') (hX : ∀ k, X k → k < B ∨ ∃ cur, w.heap[k]? = some (.cells cur e' (0, 0))) : w'.ownsRow B e size v n xs :=
  own_keepX ho hk fun g hg hx => by
    obtain ⟨h1, cur, h2⟩ := own_block ho g hg
    rcases hX g hx with h | ⟨c', h⟩
    · omega
    · rw [h] at h2
      injection h2 with h2
      injection h2 with _ h3
      exact hne h3.symm

/-- One field of the query is another row now. -/
theorem QW.frame {W w w1 w2 : World} {hl pl : List Nat} {xs : List (AtomP × Value)} {hv pv bv rv rv' : Value} {j e : Nat} {size n : Nat} {ys : List Value} (h : QW W w hl pl xs hv pv bv) (hrow : w.ownsRow (W.heap.size + 2) e size rv n ys) (hb : Below w.heap.size w w1) (hg : w1.grownBy w2 rv.ownBlock) :
    KeepX (fun k => rv.ownBlock = some k ∨ k = W.heap.size + 1) w (w2.setCell ⟨W.heap.size + 1, j, none⟩ rv') ∧ (∀ k, (rv.ownBlock = some k ∨ k = W.heap.size + 1) → k < W.heap.size + 2 ∨ ∃ cur, w.heap[k]? = some (.cells cur e (0, 0))) ∧ w2.heap[W.heap.size + 1]? = some (.cells #[hv, pv, bv] 105 (0, 0)) ∧ W.heap.size + 2 ≤ w.heap.size ∧ (w2.setCell ⟨W.heap.size + 1, j, none⟩ rv').heap[W.heap.size]? = some (.cells #[.slice none 0 0, .slice none 0 0, .slice none 0 0] 105 (0, 0)) ∧ Below W.heap.size W (w2.setCell ⟨W.heap.size + 1, j, none⟩ rv') := by
  have hql : W.heap.size + 1 < w.heap.size := (Array.getElem?_eq_some_iff.1 h.q).1
  have hne : ∀ k, rv.ownBlock = some k → W.heap.size + 2 ≤ k := fun k hk => (own_block hrow k hk).1
  have hk : KeepX (fun k => rv.ownBlock = some k ∨ k = W.heap.size + 1) w (w2.setCell ⟨W.heap.size + 1, j, none⟩ rv') :=
    ((KeepX.ofBelow hb).trans ⟨hg.os, hg.tape, hg.output, hg.size, fun q hq hx => hg.block q hq (fun e => hx (.inl e.symm))⟩).trans ((keepX_set1 w2 (W.heap.size + 1) j rv').mono fun q _ e => .inr e)
  refine ⟨hk, fun k hk' => ?_, ?_, by omega, ?_, ?_⟩
  · rcases hk' with h1 | h1
    · exact .inr (own_block hrow k h1).2
    · exact .inl (by omega)
  · refine (hg.block _ (Nat.lt_of_lt_of_le hql hb.size) (fun e => ?_)).trans (blk_below hb h.q)
    have := hne _ e.symm
    omega
  · refine (hk.blk _ (by omega) (fun e => ?_)).trans h.res
    rcases e with e | e
    · have := hne _ e; omega
    · omega
  · refine h.bel.trans ?_
    refine ⟨hk.os, hk.tape, hk.output, hk.size, fun k hk' => hk.blk k (by omega) (fun e => ?_)⟩
    rcases e with e | e
    · have := hne _ e; omega
    · omega

theorem set_row {w : World} {b j : Nat} {xs : Array Value} {t : Nat} (h : w.heap[b]? = some (.cells xs t (0, 0))) (v : Value) : (w.setCell ⟨b, j, none⟩ v).heap[b]? = some (.cells (xs.setIfInBounds j v) t (0, 0)) := by
  simp only [World.setCell]
  rw [Array.getElem?_modify, if_pos rfl, h]
  rfl

theorem QW.putHead {W w w1 w2 : World} {hl pl : List Nat} {xs : List (AtomP × Value)} {hv pv bv hv' : Value} {c : Nat} (h : QW W w hl pl xs hv pv bv) (hb : Below w.heap.size w w1) (hg : w1.grownBy w2 hv.ownBlock) (ho : w2.ownsRow (W.heap.size + 2) 5 1 hv' (hl.length + 1) (byteC hl ++ [.int .u8 c])) : QW W (w2.setCell ⟨W.heap.size + 1, 0, none⟩ hv') (hl ++ [c]) pl xs hv' pv bv := by
  obtain ⟨hk, hX, hq, hs, hr, hbe⟩ := h.frame (j := 0) (rv' := hv') h.head hb hg
  refine ⟨hr, ?_, ?_, row_other h.pla hk (by decide) hX, row_other h.body hk (by decide) hX, fun x hx => row_other (h.terms x hx) hk (by decide) hX, hbe⟩
  · rw [set_row hq]; rfl
  · have := own_keepX ho (keepX_set1 w2 (W.heap.size + 1) 0 hv') (fun g hg' e => by have := (own_block ho g hg').1; omega)
    simpa [byteC] using this
theorem QW.putPlace {W w w1 w2 : World} {hl pl : List Nat} {xs : List (AtomP × Value)} {hv pv bv pv' : Value} {c : Nat} (h : QW W w hl pl xs hv pv bv) (hb : Below w.heap.size w w1) (hg : w1.grownBy w2 pv.ownBlock) (ho : w2.ownsRow (W.heap.size + 2) 3 1 pv' (pl.length + 1) (intC pl ++ [.int .i64 c])) : QW W (w2.setCell ⟨W.heap.size + 1, 1, none⟩ pv') hl (pl ++ [c]) xs hv pv' bv := by
  obtain ⟨hk, hX, hq, hs, hr, hbe⟩ := h.frame (j := 1) (rv' := pv') h.pla hb hg
  refine ⟨hr, ?_, row_other h.head hk (by decide) hX, ?_, row_other h.body hk (by decide) hX, fun x hx => row_other (h.terms x hx) hk (by decide) hX, hbe⟩
  · rw [set_row hq]; rfl
  · have := own_keepX ho (keepX_set1 w2 (W.heap.size + 1) 1 pv') (fun g hg' e => by have := (own_block ho g hg').1; omega)
    simpa [intC] using this
theorem QW.putBody {W w w1 w2 : World} {hl pl : List Nat} {xs : List (AtomP × Value)} {hv pv bv bv' tv : Value} {a : AtomP} (h : QW W w hl pl xs hv pv bv) (ht : w.ownsRow (W.heap.size + 2) 152 2 tv a.ts.length (termsC a.ts)) (hb : Below w.heap.size w w1) (hg : w1.grownBy w2 bv.ownBlock) (ho : w2.ownsRow (W.heap.size + 2) 150 3 bv' (xs.length + 1) (atomsC xs ++ [.string a.nm, .int .i64 a.pl, tv])) : QW W (w2.setCell ⟨W.heap.size + 1, 2, none⟩ bv') hl pl (xs ++ [(a, tv)]) hv pv bv' := by
  obtain ⟨hk, hX, hq, hs, hr, hbe⟩ := h.frame (j := 2) (rv' := bv') h.body hb hg
  refine ⟨hr, ?_, row_other h.head hk (by decide) hX, row_other h.pla hk (by decide) hX, ?_, fun x hx => ?_, hbe⟩
  · rw [set_row hq]; rfl
  · have := own_keepX ho (keepX_set1 w2 (W.heap.size + 1) 2 bv') (fun g hg' e => by have := (own_block ho g hg').1; omega)
    simpa [atomsC] using this
  · rcases List.mem_append.1 hx with hx | hx
    · exact row_other (h.terms x hx) hk (by decide) hX
    · rw [List.mem_singleton.1 hx]
      exact row_other ht hk (by decide) hX

theorem termsR_of_own {w : World} {base : Nat} {v : Value} {ts : List Trm} (h : w.ownsRow base 152 2 v ts.length (termsC ts)) : TermsAt w v ts := by
  obtain ⟨p, c, rfl, hle, hn, hs⟩ := own_form h
  refine ⟨p, c, rfl, fun j hj => ?_⟩
  cases p with
  | none => have := (hn rfl).1; omega
  | some ad =>
    obtain ⟨g, rfl, _, _, hc⟩ := hs ad rfl
    have hf : ∀ i, i < 2 → w.cell? ⟨g, 0 + j * 2 + i, none⟩ = (termC (ts[j]?.getD (0, 0)))[i]? := fun i hi => by
      rw [Nat.zero_add, hc (j * 2 + i) (by omega)]
      unfold termsC
      rw [flat_at 2 termC (fun x => rfl) ts j i hj hi]
      simp [hj]
    exact ⟨g, 0, rfl, hf 0 (by omega), hf 1 (by omega)⟩
theorem bodyR_of_own {w : World} {base : Nat} {v : Value} {xs : List (AtomP × Value)} (h : w.ownsRow base 150 3 v xs.length (atomsC xs)) (ht : ∀ x ∈ xs, w.ownsRow base 152 2 x.2 x.1.ts.length (termsC x.1.ts)) : BodyAt w v ((xs.map (·.1)).map AtomP.q) := by
  obtain ⟨p, c, rfl, hle, hn, hs'⟩ := own_form h
  refine ⟨p, c, by simp, fun j hj => ?_⟩
  have hj' : j < xs.length := by simpa using hj
  have he : (((xs.map (·.1)).map AtomP.q)[j]?.getD noAtom) = (xs[j]).1.q := by simp [hj']
  rw [he]
  cases p with
  | none => have := (hn rfl).1; omega
  | some ad =>
    obtain ⟨g, rfl, _, _, hc⟩ := hs' ad rfl
    have hf : ∀ i, i < 3 → w.cell? ⟨g, 0 + j * 3 + i, none⟩ = ([Value.string (xs[j]).1.nm, .int .i64 (xs[j]).1.pl, (xs[j]).2] : List Value)[i]? := fun i hi => by
      rw [Nat.zero_add, hc (j * 3 + i) (by omega)]
      unfold atomsC
      rw [flat_at 3 (fun x : AtomP × Value => [.string x.1.nm, .int .i64 x.1.pl, x.2]) (fun x => rfl) xs j i hj' hi]
    exact ⟨g, 0, (xs[j]).2, rfl, hf 0 (by omega), hf 1 (by omega), hf 2 (by omega), termsR_of_own (ht _ (List.getElem_mem _))⟩
theorem ints_of_own3 {w : World} {base : Nat} {v : Value} {l : List Nat} (h : w.ownsRow base 3 1 v l.length (intC l)) : IntsAt w v (l.map fun x => ((x : Nat) : Int)) := by
  obtain ⟨p, c, rfl, hle, hn, hs⟩ := own_form h
  refine ⟨p, c, by simp, fun i hi => ?_⟩
  have hi' : i < l.length := by simpa using hi
  cases p with
  | none => have := (hn rfl).1; omega
  | some ad =>
    obtain ⟨g, rfl, _, _, hc⟩ := hs ad rfl
    refine ⟨g, 0, rfl, ?_⟩
    rw [Nat.zero_add, hc i (by omega)]
    simp [intC, hi']

end Go.Proofs.YtgddkjhknlgbbaaGreatDoor
