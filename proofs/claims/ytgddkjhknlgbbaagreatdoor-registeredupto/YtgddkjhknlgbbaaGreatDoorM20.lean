import Derived.Test.YtgddkjhknlgbbaaGreatDoorM19
set_option linter.unusedVariables false
set_option linter.unusedSimpArgs false

namespace Go.Proofs.YtgddkjhknlgbbaaGreatDoor
set_option linter.unusedVariables false
set_option linter.unusedSimpArgs false
open Go.RowKit Go.Maps

theorem own_grown {W W' : World} {base : Nat} {e : TypeId} {size : Nat} {v : Value} {n : Nat} {xs : List Value} (h : W.ownsRow base e size v n xs) {row : Option Nat} (hg : W.grownBy W' row) (ht : ∀ g cur, row = some g → W.heap[g]? ≠ some (Obj.cells cur e (0, 0))) : W'.ownsRow base e size v n xs := by
  refine ⟨h.1, ?_⟩
  rcases h.2 with h1 | ⟨g, cap, cur, h1, h2, h3, h4⟩
  · exact .inl h1
  · exact .inr ⟨g, cap, cur, h1, h2, (hg.block g (heap_lt h3) (fun e => ht g cur e.symm h3)).trans h3, h4⟩

theorem own_lower {W : World} {base base' : Nat} {e : TypeId} {size : Nat} {v : Value} {n : Nat} {xs : List Value} (h : W.ownsRow base e size v n xs) (hb : base' ≤ base) : W.ownsRow base' e size v n xs := by
  refine ⟨h.1, ?_⟩
  rcases h.2 with h1 | ⟨g, cap, cur, h1, h2, h3⟩
  · exact .inl h1
  · exact .inr ⟨g, cap, cur, h1, Nat.le_trans hb h2, h3⟩

/-- A block of another type is another block. -/
theorem other_type {W : World} {t t' : TypeId} {row : Option Nat} (hrow : ∀ g, row = some g → ∃ cur : Array Value, W.heap[g]? = some (Obj.cells cur t (0, 0))) (hne : t ≠ t') : ∀ g cur, row = some g → W.heap[g]? ≠ some (Obj.cells cur t' (0, 0)) := fun g cur hg h => by
  obtain ⟨c, hc⟩ := hrow g hg
  exact hne (type_ne hc h)

theorem MarkB.refine {T T' : Nat → Prop} {W : World} {t : TypeId} {size : Nat} {pat : List Value} {u : Value} {bd : Nat} (h : MarkB T W t size pat u bd) (hT : ∀ b cur, T b → W.heap[b]? = some (Obj.cells cur t (0, 0)) → T' b) : MarkB T' W t size pat u bd := by
  obtain ⟨p, nu, cap, h1, h2, h3⟩ := h
  exact ⟨p, nu, cap, h1, h2, fun i hi => by obtain ⟨b, cur, h4, h5, h6, h7⟩ := h3 i hi; exact ⟨b, cur, h4, hT b cur h5 h6, h6, h7⟩⟩

set_option maxRecDepth 100000 in
set_option maxHeartbeats 4000000 in
/-- keepNumbers: the list is written full, eight places behind it too, and held. -/
theorem keepNumbers_any (wb : Nat) (pv hv : Value) (hs : List Nat) (base n : Nat) (l : Value) (xs : List Value) (w : World) (hS : Spine w wb pv hv hs) (hhl : hs.length ≤ 100000000000) (ho : w.ownsRow base 2 1 l n xs) (hn : n ≤ 100000000) (hbw : base ≤ w.heap.size) :
    Calls Tryz.prog 41 #[.pointer (some ⟨wb, 0, none⟩), l] w fun e w' => ∃ hv' h, e = .returned (.tuple #[]) ∧ KeptBy w w' wb pv hv hs l hv' h := by
  obtain ⟨m, hm⟩ : ∃ m : Int, m = -1000000 - hs.length := ⟨_, rfl⟩
  have Hmark := hide (mark_any wb pv hv hs w hS (by omega))
  rw [← hm] at Hmark
  obtain ⟨p, c, hle, hcap, hpn, hps⟩ := own_form ho
  have Hps := hide hps
  have HS := hide hS
  have Ho := hide ho
  have hlb : ∀ g, l.ownBlock = some g → g < w.heap.size := fun g hg => by obtain ⟨cur, h⟩ := own_type ho hg; exact heap_lt h
  have Hlb := hide hlb
  have Hm := hide hm
  obtain ⟨i2, ji, jz0, jz1, jz2⟩ := info_parts Tryz.info2
  obtain ⟨i73, hi, hz0, hz1, hz2⟩ := info_parts Tryz.info73
  obtain ⟨i59, ki, kz0, kz1, kz2⟩ := info_parts Tryz.info59
  obtain ⟨l0, hl0⟩ : ∃ l0, l0 = l := ⟨_, rfl⟩
  have Hl0 := hide hl0
  rw [← hl0] at Ho Hlb ⊢
  rw [hle] at hl0
  subst hl0
  clear hle hS ho hps hlb hm Hl0
  go_enter Tryz.func41, Tryz.ntmps41
  go_wp2_with fail
  refine (unhide Hmark).mono ?_
  rintro e w1 ⟨rfl, hw1⟩
  replace hw1 := hw1.symm
  subst hw1
  clear Hmark
  go_wp2
  obtain ⟨w1, hw1⟩ : ∃ w1, w1 = w.alloc (.cells #[.slice none 0 0, .slice none 0 0, .slice none 0 0, .int .i64 m] 91) := ⟨_, rfl⟩
  rw [← hw1]
  have hB0 : w1.heap[w.heap.size]? = some (Obj.cells #[.slice none 0 0, .slice none 0 0, .slice none 0 0, .int .i64 m] 91 (0, 0)) := by rw [hw1]; exact heap_last _ _ _ rfl
  have hg01 : w.grownBy w1 none := by rw [hw1]; exact World.grownBy_alloc _ _ _
  have hs1 : w1.heap.size = w.heap.size + 1 := by rw [hw1]; simp
  have Ho1 : Hid (w1.ownsRow base 2 1 (.slice p n c) n xs) := by rw [hw1]; exact (unhide Ho).alloc _
  have hne0 : ∀ g, Value.ownBlock (.slice p n c) = some g → g < w.heap.size := unhide Hlb
  have Hne0 := hide hne0
  have HB0 := hide hB0
  have Hg01 := hide hg01
  clear hw1 hne0 hB0 hg01
  go_loopw [5] (fun i wr => ∃ (k : Nat) (ys : List Value), k ≤ n ∧ i = .int .i64 k ∧ wr.ownsRow base 2 1 (.slice p n c) n ys ∧ ys.take k = List.replicate k (.int .i64 m) ∧ w1.grownBy wr (Value.ownBlock (.slice p n c))) (fun i _ => n - (intOf i).toNat)
  case atStart => exact ⟨0, xs, Nat.zero_le _, rfl, unhide Ho1, by simp, ⟨rfl, rfl, rfl, Nat.le_refl _, fun _ _ _ => rfl⟩⟩
  case round =>
    obtain ⟨k, ys, hk, rfl, hok, htk, hgk⟩ := hrel
    have hBk : wr.heap[w.heap.size]? = some (Obj.cells #[.slice none 0 0, .slice none 0 0, .slice none 0 0, .int .i64 m] 91 (0, 0)) := (hgk.block _ (by omega) (fun e => absurd ((unhide Hne0) _ e.symm) (Nat.lt_irrefl _))).trans (unhide HB0)
    have b0 : wr.cell? ⟨w.heap.size, 0, none⟩ = some (.slice none 0 0) := cell_of_heap hBk 0
    have b3 : wr.cell? ⟨w.heap.size, 3, none⟩ = some (.int .i64 m) := cell_of_heap hBk 3
    have HBk := hide hBk
    have Htk := hide htk
    have Hgk := hide hgk
    clear hBk htk hgk
    by_cases hlt : k < n
    · have hx : (k : Int) < (n : Int) := by omega
      obtain ⟨p', c', he', _, hpn', hps'⟩ := own_form hok
      cases he'
      cases p with
      | none => have := hpn' rfl; omega
      | some ad =>
        obtain ⟨g, rfl, hgb, hgl, hcl⟩ := hps' ad rfl
        have hyl : ys.length = n := by have := hok.1; omega
        obtain ⟨xo, cS⟩ : ∃ xo, wr.cell? ⟨g, k, none⟩ = some xo := ⟨ys[k]'(by omega), by rw [hcl k (by omega)]; simp⟩
        have fS : wr.frozen? ⟨g, k, none⟩ = false := hok.frozenAt k
        have Hst := hide (hok.stored k (.int .i64 m))
        have Hts : Hid ((ys.set k (.int .i64 m)).take (k + 1) = List.replicate (k + 1) (.int .i64 m)) := by
          unfold Hid
          rw [take_set_pat (by omega), unhide Htk]
          exact List.replicate_succ'.symm
        clear hcl hps' hpn' hok
        go_wp2
        go_roundw
        case rel => exact ⟨k + 1, ys.set k (.int .i64 m), by omega, by go_num, (unhide Hst).1, unhide Hts, (unhide Hgk).trans (unhide Hst).2⟩
        case measure => simp [intOf]; omega
    · have hx : ¬ (k : Int) < (n : Int) := by omega
      obtain ⟨w2, hw2⟩ : ∃ w2, w2 = wr := ⟨_, rfl⟩
      subst hw2
      have hyn : ys = List.replicate n (.int .i64 m) := by
        have h1 := unhide Htk
        have h2 : k = n := by omega
        rw [h2, List.take_of_length_le (by have := hok.1; omega)] at h1
        exact h1
      rw [hyn] at hok
      have Hok := hide hok
      have f0 : w2.frozen? ⟨w.heap.size, 0, none⟩ = false := frozen_of_heap (unhide HBk) 0
      have hsw : w.heap.size < w2.heap.size := heap_lt (unhide HBk)
      clear hok hyn Htk
      go_wp2_with (first
        | (at_builtin
           refine wpList_append_any _ rfl _ _ 50 rfl w.heap.size 73 i73 _ 1 24 Tryz.underlying50 hi hz0 hz1 hz2 rfl (by decide) (.slice none 0 0) 0 [] rfl (World.ownsRow_nil _ _ _ _) (some ⟨w2.heap.size, 0, none⟩) 1 1 [.slice p n c] rfl (fun e => by cases e) rfl (fun ad e => by cases e; exact cell_one_new w2 _ 73) (by simp [Value.oneCell']) (by unfold maxLen; omega) (by omega) (by simp; omega) ?_
           intro v3 w3 ho3 hg3
           rw [Nat.zero_add, List.nil_append] at ho3
           have hg23 : w2.grownBy w3 none := (World.grownBy_alloc _ _ _).trans hg3
           have hB3 : w3.heap[w.heap.size]? = some (Obj.cells #[.slice none 0 0, .slice none 0 0, .slice none 0 0, .int .i64 m] 91 (0, 0)) := (hg23.block _ hsw (by simp)).trans (unhide HBk)
           have b03 : w3.cell? ⟨w.heap.size, 0, none⟩ = some (.slice none 0 0) := cell_of_heap hB3 0
           have f03 : w3.frozen? ⟨w.heap.size, 0, none⟩ = false := frozen_of_heap hB3 0
           obtain ⟨g3, c3, rfl⟩ := own_succ ho3
           have Ho3 := hide ho3
           have Hg23 := hide hg23
           have HB3 := hide hB3
           clear ho3 hg3 hg23 hB3))
      obtain ⟨w4, hw4⟩ : ∃ w4, w4 = w3.setCell ⟨w.heap.size, 0, none⟩ (.slice (some ⟨g3, 0, none⟩) 1 c3) := ⟨_, rfl⟩
      rw [← hw4]
      have hB4 : w4.heap[w.heap.size]? = some (Obj.cells #[.slice (some ⟨g3, 0, none⟩) 1 c3, .slice none 0 0, .slice none 0 0, .int .i64 m] 91 (0, 0)) := by
        rw [hw4, heap_setCell_same w3 w.heap.size 0 _ 91 _ (unhide HB3)]; rfl
      have hg34 : w3.grownBy w4 (some w.heap.size) := by rw [hw4]; exact grownBy_setCell' w3 w.heap.size _
      have hrow3 : ∀ g, some w.heap.size = some g → ∃ cur : Array Value, w3.heap[g]? = some (Obj.cells cur 91 (0, 0)) := fun g e => by cases e; exact ⟨_, unhide HB3⟩
      have ho4 : w4.ownsRow w.heap.size 73 1 (.slice (some ⟨g3, 0, none⟩) 1 c3) 1 [.slice p n c] := own_grown (unhide Ho3) hg34 (other_type hrow3 (by decide))
      have hl3 : w3.ownsRow base 2 1 (.slice p n c) n (List.replicate n (.int .i64 m)) := own_grown (unhide Hok) (unhide Hg23) (fun g cur e => by cases e)
      have hl4 : w4.ownsRow base 2 1 (.slice p n c) n (List.replicate n (.int .i64 m)) := own_grown hl3 hg34 (other_type hrow3 (by decide))
      obtain ⟨T1, hT1⟩ : ∃ T1 : Nat → Prop, T1 = fun b => w.heap.size ≤ b ∨ Value.ownBlock (.slice p n c) = some b := ⟨_, rfl⟩
      have hTl : ∀ g, Value.ownBlock (.slice p n c) = some g → T1 g := fun g hg => by rw [hT1]; exact .inr hg
      have hmk : ∀ u ∈ [Value.slice p n c], MarkB T1 w4 2 1 (markN m) u (n + 0) := fun u hu => by
        simp at hu; subst hu
        exact MarkB.of_own hl4 (replicate_pat1 n _) hTl
      have hmid : Mid (fun b => Value.ownBlock (.slice p n c) = some b) w w4 := by
        have h1 := unhide Hg01
        have h2 := unhide Hgk
        have h3 := unhide Hg23
        refine ⟨hg34.os.trans (h3.os.trans (h2.os.trans h1.os)), hg34.tape.trans (h3.tape.trans (h2.tape.trans h1.tape)), hg34.output.trans (h3.output.trans (h2.output.trans h1.output)), Nat.le_trans h1.size (Nat.le_trans h2.size (Nat.le_trans h3.size hg34.size)), fun k hk hq => ?_⟩
        have s1 := h1.size
        have s2 := h2.size
        have s3 := h3.size
        exact (hg34.block k (by omega) (fun e => by cases e; omega)).trans ((h3.block k (by omega) (by simp)).trans ((h2.block k (by omega) (fun e => hq e.symm)).trans (h1.block k hk (by simp))))
      have HB4 := hide hB4
      have Ho4 := hide ho4
      have Hl4 : Hid (w4.ownsRow base 2 1 (.slice p n c) (n + 0) (List.replicate (n + 0) (.int .i64 m))) := hl4
      have Hmk := hide hmk
      have Hmid := hide hmid
      have HTl := hide hTl
      have HT1 := hide hT1
      clear hw4 hB4 hg34 hrow3 ho4 hl3 hl4 hmk hmid hTl hT1 HB3 Ho3 Hg23 Hok HBk b0 b3 f0 b03 f03
      go_wp2
      go_loopw [1, 6] (fun lv i wr => ∃ (k : Nat) (nv : Value) (ns : List Value), k ≤ 8 ∧ i = .int .i64 k ∧ wr.ownsRow base 2 1 lv (n + k) (List.replicate (n + k) (.int .i64 m)) ∧ (∀ g, lv.ownBlock = some g → T1 g) ∧ wr.heap[w.heap.size]? = some (Obj.cells #[nv, .slice none 0 0, .slice none 0 0, .int .i64 m] 91 (0, 0)) ∧ wr.ownsRow w.heap.size 73 1 nv (k + 1) ns ∧ (∀ u ∈ ns, MarkB T1 wr 2 1 (markN m) u (n + k)) ∧ Mid (fun b => Value.ownBlock (.slice p n c) = some b) w wr) (fun _ i _ => 8 - (intOf i).toNat)
      case atStart => exact ⟨0, _, _, by omega, rfl, unhide Hl4, unhide HTl, unhide HB4, unhide Ho4, unhide Hmk, unhide Hmid⟩
      case round =>
        obtain ⟨q, nv, ns, hq, rfl, hlq, hTq, hBq, hnq, hmq, hMq⟩ := hrel
        have b0 : wr.cell? ⟨w.heap.size, 0, none⟩ = some nv := cell_of_heap hBq 0
        have b3 : wr.cell? ⟨w.heap.size, 3, none⟩ = some (.int .i64 m) := cell_of_heap hBq 3
        have hsq : w.heap.size < wr.heap.size := heap_lt hBq
        by_cases hq8 : q < 8
        · have hx2 : (q : Int) < 8 := by omega
          obtain ⟨pl, cl, rfl, _, _, _⟩ := own_form hlq
          obtain ⟨pn, cn, rfl, _, _, _⟩ := own_form hnq
          have Hlq := hide hlq
          have HTq := hide hTq
          have HBq := hide hBq
          have Hnq := hide hnq
          have Hmq := hide hmq
          have HMq := hide hMq
          clear hlq hTq hBq hnq hmq hMq
          go_wp2_with (first
            | (at_builtin
               refine wpList_append_any _ rfl _ _ 50 rfl w.heap.size 73 i73 _ 1 24 Tryz.underlying50 hi hz0 hz1 hz2 rfl (by decide) (.slice pn (q + 1) cn) (q + 1) ns rfl ((unhide Hn5).alloc _) (some ⟨w5.heap.size, 0, none⟩) 1 1 [.slice p5 (n + q + 1) c5] rfl (fun e => by cases e) rfl (fun ad e => by cases e; exact cell_one_new w5 _ 73) (by simp [Value.oneCell']) (by unfold maxLen; omega) (by omega) (by simp; omega) ?_
               intro v6 w6 ho6 hg6
               have hgA : w5.grownBy (w5.alloc (.cells #[.slice p5 (n + q + 1) c5] 73)) none := World.grownBy_alloc _ _ _
               have hrow6 : ∀ g, Value.ownBlock (.slice pn (q + 1) cn) = some g → ∃ cur : Array Value, (w5.alloc (.cells #[.slice p5 (n + q + 1) c5] 73)).heap[g]? = some (Obj.cells cur 73 (0, 0)) := fun g e => own_type ((unhide Hn5).alloc _) e
               have hB6 : w6.heap[w.heap.size]? = some (Obj.cells #[.slice pn (q + 1) cn, .slice none 0 0, .slice none 0 0, .int .i64 m] 91 (0, 0)) := by
                 have h1 := (hgA.block _ (heap_lt (unhide HB5)) (by simp)).trans (unhide HB5)
                 exact (hg6.block _ (heap_lt h1) (fun e => other_type hrow6 (by decide) _ _ e.symm h1)).trans h1
               have hl6 : w6.ownsRow base 2 1 (.slice p5 (n + q + 1) c5) (n + q + 1) (List.replicate (n + q + 1) (.int .i64 m)) := own_grown (own_grown (unhide Hl5) hgA (fun g cur e => by cases e)) hg6 (other_type hrow6 (by decide))
               have hm6 : ∀ u ∈ ns ++ [.slice p5 (n + q + 1) c5], MarkB T1 w6 2 1 (markN m) u (n + q + 1) := fun u hu =>
                 (((unhide Hm5) u hu).grown hgA (fun g cur e => by cases e)).grown hg6 (fun g cur e _ => other_type hrow6 (by decide) g cur e)
               have hM6 : Mid (fun b => Value.ownBlock (.slice p n c) = some b) w w6 := by
                 have hg56 : w5.grownBy w6 (Value.ownBlock (.slice pn (q + 1) cn)) := ⟨hg6.os, hg6.tape, hg6.output, Nat.le_trans hgA.size hg6.size, fun k hk e => (hg6.block k (Nat.lt_of_lt_of_le hk hgA.size) e).trans (hgA.block k hk (by simp))⟩
                 have h5 := unhide HM5
                 refine ⟨hg56.os.trans h5.os, hg56.tape.trans h5.tape, hg56.output.trans h5.output, Nat.le_trans h5.size hg56.size, fun k hk hq' => (hg56.block k (Nat.lt_of_lt_of_le hk h5.size) (fun e => ?_)).trans (h5.block k hk hq')⟩
                 have := (own_block (unhide Hn5) k e.symm).1
                 omega
               have b06 : w6.cell? ⟨w.heap.size, 0, none⟩ = some (.slice pn (q + 1) cn) := cell_of_heap hB6 0
               have f06 : w6.frozen? ⟨w.heap.size, 0, none⟩ = false := frozen_of_heap hB6 0
               obtain ⟨g6, c6, rfl⟩ := own_succ ho6
               have HB6 := hide hB6
               have Hl6 := hide hl6
               have Hm6 := hide hm6
               have HM6 := hide hM6
               have Ho6 := hide ho6
               clear hgA hrow6 hB6 hl6 hm6 hM6 ho6 hg6)
            | (at_builtin
               refine wpList_append_sharp _ rfl _ _ 73 rfl base 2 i2 _ 1 8 Tryz.underlying73 ji jz0 jz1 jz2 rfl (by decide) (.slice pl (n + q) cl) (n + q) (List.replicate (n + q) (.int .i64 m)) rfl ((unhide Hlq).alloc _) ⟨wr.heap.size, 0, none⟩ 1 [.int .i64 m] rfl rfl (cell_one_new wr _ 2) (by simp [Value.oneCell']) (by unfold maxLen; omega) (by omega) (by simp; omega) ?_
               intro v5 w5 ho5 hg5 hs5
               have hgA : wr.grownBy (wr.alloc (.cells #[.int .i64 m] 2)) none := World.grownBy_alloc _ _ _
               have hrow5 : ∀ g, Value.ownBlock (.slice pl (n + q) cl) = some g → ∃ cur : Array Value, (wr.alloc (.cells #[.int .i64 m] 2)).heap[g]? = some (Obj.cells cur 2 (0, 0)) := fun g e => own_type ((unhide Hlq).alloc _) e
               have hl5 : w5.ownsRow base 2 1 v5 (n + q + 1) (List.replicate (n + q + 1) (.int .i64 m)) := by rw [List.replicate_succ']; exact ho5
               have hB5 : w5.heap[w.heap.size]? = some (Obj.cells #[.slice pn (q + 1) cn, .slice none 0 0, .slice none 0 0, .int .i64 m] 91 (0, 0)) := by
                 have h1 := (hgA.block _ (heap_lt (unhide HBq)) (by simp)).trans (unhide HBq)
                 exact (hg5.block _ (heap_lt h1) (fun e => other_type hrow5 (by decide) _ _ e.symm h1)).trans h1
               have hn5 : w5.ownsRow w.heap.size 73 1 (.slice pn (q + 1) cn) (q + 1) ns := own_grown (own_grown (unhide Hnq) hgA (fun g cur e => by cases e)) hg5 (other_type hrow5 (by decide))
               have hT5 : ∀ g, v5.ownBlock = some g → T1 g := fun g hg => by
                 rcases hs5 with h | ⟨_, h⟩
                 · rw [h] at hg; exact (unhide HTq) g hg
                 · rw [h] at hg; cases hg; rw [unhide HT1]; left; simp; omega
               have hm5 : ∀ u ∈ ns ++ [v5], MarkB T1 w5 2 1 (markN m) u (n + q + 1) := fun u hu => by
                 rcases List.mem_append.1 hu with hu | hu
                 · exact (((unhide Hmq) u hu).grown hgA (fun g cur e => by cases e)).append ((unhide Hlq).alloc _) hl5 (replicate_pat1 _ _) hg5 (hs5.imp id (·.1))
                 · simp at hu; subst hu
                   exact MarkB.of_own hl5 (replicate_pat1 _ _) hT5
               have hM5 : Mid (fun b => Value.ownBlock (.slice p n c) = some b) w w5 := by
                 have h4 := unhide HMq
                 refine ⟨hg5.os.trans h4.os, hg5.tape.trans h4.tape, hg5.output.trans h4.output, Nat.le_trans h4.size (Nat.le_trans hgA.size hg5.size), fun k hk hq' => (hg5.block k (Nat.lt_of_lt_of_le hk (Nat.le_trans h4.size hgA.size)) (fun e => ?_)).trans ((hgA.block k (Nat.lt_of_lt_of_le hk h4.size) (by simp)).trans (h4.block k hk hq'))⟩
                 have h9 := (unhide HTq) k e.symm
                 rw [unhide HT1] at h9
                 rcases h9 with h9 | h9
                 · omega
                 · exact hq' h9
               have hs5' : w.heap.size < w5.heap.size := heap_lt hB5
               have b05 : w5.cell? ⟨w.heap.size, 0, none⟩ = some (.slice pn (q + 1) cn) := cell_of_heap hB5 0
               obtain ⟨p5, c5, rfl, _, _, _⟩ := own_form hl5
               have HB5 := hide hB5
               have Hl5 := hide hl5
               have Hn5 := hide hn5
               have Hm5 := hide hm5
               have HM5 := hide hM5
               have HT5 := hide hT5
               clear hgA hrow5 hB5 hl5 hn5 hm5 hM5 hT5 ho5 hg5 hs5))
          obtain ⟨w7, hw7⟩ : ∃ w7, w7 = w6.setCell ⟨w.heap.size, 0, none⟩ (.slice (some ⟨g6, 0, none⟩) (q + 1 + 1) c6) := ⟨_, rfl⟩
          have hR7 : w7.ownsRow base 2 1 (.slice p5 (n + (q + 1)) c5) (n + (q + 1)) (List.replicate (n + (q + 1)) (.int .i64 m)) ∧ w7.heap[w.heap.size]? = some (Obj.cells #[.slice (some ⟨g6, 0, none⟩) (q + 1 + 1) c6, .slice none 0 0, .slice none 0 0, .int .i64 m] 91 (0, 0)) ∧ w7.ownsRow w.heap.size 73 1 (.slice (some ⟨g6, 0, none⟩) (q + 1 + 1) c6) (q + 1 + 1) (ns ++ [.slice p5 (n + q + 1) c5]) ∧ (∀ u ∈ ns ++ [.slice p5 (n + q + 1) c5], MarkB T1 w7 2 1 (markN m) u (n + (q + 1))) ∧ Mid (fun b => Value.ownBlock (.slice p n c) = some b) w w7 := by
            have hg67 : w6.grownBy w7 (some w.heap.size) := by rw [hw7]; exact grownBy_setCell' w6 w.heap.size _
            have hrow6 : ∀ g, some w.heap.size = some g → ∃ cur : Array Value, w6.heap[g]? = some (Obj.cells cur 91 (0, 0)) := fun g e => by cases e; exact ⟨_, unhide HB6⟩
            refine ⟨own_grown (unhide Hl6) hg67 (other_type hrow6 (by decide)), ?_, own_grown (unhide Ho6) hg67 (other_type hrow6 (by decide)), fun u hu => ((unhide Hm6) u hu).grown hg67 (fun g cur e _ => other_type hrow6 (by decide) g cur e), ?_⟩
            · rw [hw7, heap_setCell_same w6 w.heap.size 0 _ 91 _ (unhide HB6)]; rfl
            · have h6 := unhide HM6
              exact ⟨hg67.os.trans h6.os, hg67.tape.trans h6.tape, hg67.output.trans h6.output, Nat.le_trans h6.size hg67.size, fun k hk hq' => (hg67.block k (Nat.lt_of_lt_of_le hk h6.size) (fun e => by cases e; omega)).trans (h6.block k hk hq')⟩
          rw [hw7] at hR7
          have HR7 := hide hR7
          clear hR7 hw7
          go_wp2
          go_roundw
          case rel => exact ⟨q + 1, _, _, by omega, by go_num, (unhide HR7).1, unhide HT5, (unhide HR7).2.1, (unhide HR7).2.2.1, (unhide HR7).2.2.2.1, (unhide HR7).2.2.2.2⟩
          case measure => simp [intOf]; omega
        · have hx2 : ¬ (q : Int) < 8 := by omega
          have hS := unhide HS
          obtain ⟨base9, ho9⟩ := hS.own
          have hwbl : wb < w.heap.size := heap_lt hS.box
          have hbox : wr.heap[wb]? = some (Obj.cells #[pv, hv] 29 (0, 0)) := (hMq.block wb hwbl (fun e => by
            obtain ⟨cur, h⟩ := own_type (unhide Ho) e
            exact absurd (type_ne hS.box h) (by decide))).trans hS.box
          have hhv : wr.ownsRow 0 59 1 hv hs.length (ptrs hs) := by
            refine own_lower (base := base9) ?_ (Nat.zero_le _)
            refine ⟨ho9.1, ?_⟩
            rcases ho9.2 with h1 | ⟨g, cap, cur, h1, h2, h3, h4⟩
            · exact .inl h1
            · exact .inr ⟨g, cap, cur, h1, h2, (hMq.block g (heap_lt h3) (fun e => by
                obtain ⟨cur', h⟩ := own_type (unhide Ho) e
                exact absurd (type_ne h3 h) (by decide))).trans h3, h4⟩
          have bw : wr.cell? ⟨wb, 1, none⟩ = some hv := cell_of_heap hbox 1
          have hhb : ∀ g, hv.ownBlock = some g → g < w.heap.size := fun g hg => by obtain ⟨cur, h⟩ := own_type ho9 hg; exact heap_lt h
          obtain ⟨ph, ch, hve, _, _, _⟩ := own_form hhv
          subst hve
          have Hbox := hide hbox
          have Hhv := hide hhv
          have Hhb := hide hhb
          have HTq := hide hTq
          have HBq := hide hBq
          have Hnq := hide hnq
          have Hmq := hide hmq
          have HMq := hide hMq
          clear hlq hTq hBq hnq hmq hMq hbox hhv hS ho9 hhb
          go_wp2_with (first
            | (at_builtin
               refine wpList_append_sharp _ rfl _ _ 27 rfl 0 59 i59 _ 1 8 Tryz.underlying27 ki kz0 kz1 kz2 rfl (by decide) (.slice ph hs.length ch) hs.length (ptrs hs) rfl ((unhide Hhv).alloc _) ⟨wr.heap.size, 0, none⟩ 1 [.pointer (some ⟨w.heap.size, 0, none⟩)] rfl rfl (cell_one_new wr _ 59) (by simp [Value.oneCell']) (by unfold maxLen; omega) (by omega) (by simp) ?_
               intro v8 w8 ho8 hg8 hs8
               have hgA : wr.grownBy (wr.alloc (.cells #[.pointer (some ⟨w.heap.size, 0, none⟩)] 59)) none := World.grownBy_alloc _ _ _
               have hrow8 : ∀ g, Value.ownBlock (.slice ph hs.length ch) = some g → ∃ cur : Array Value, (wr.alloc (.cells #[.pointer (some ⟨w.heap.size, 0, none⟩)] 59)).heap[g]? = some (Obj.cells cur 59 (0, 0)) := fun g e => own_type ((unhide Hhv).alloc _) e
               have hbox8 : w8.heap[wb]? = some (Obj.cells #[pv, .slice ph hs.length ch] 29 (0, 0)) := by
                 have h1 := (hgA.block _ (heap_lt (unhide Hbox)) (by simp)).trans (unhide Hbox)
                 exact (hg8.block _ (heap_lt h1) (fun e => other_type hrow8 (by decide) _ _ e.symm h1)).trans h1
               have b8 : w8.cell? ⟨wb, 1, none⟩ = some (.slice ph hs.length ch) := cell_of_heap hbox8 1
               have f8 : w8.frozen? ⟨wb, 1, none⟩ = false := frozen_of_heap hbox8 1
               obtain ⟨p8, c8, rfl, _, _, _⟩ := own_form ho8
               have Hbox8 := hide hbox8
               have HgA := hide hgA
               have Hrow8 := hide hrow8
               have Ho8 := hide ho8
               have Hg8 := hide hg8
               have Hs8 := hide hs8
               clear hgA hrow8 hbox8 ho8 hg8 hs8))
          have hK : KeptBy w (w8.setCell ⟨wb, 1, none⟩ (.slice p8 (hs.length + 1) c8)) wb pv (.slice ph hs.length ch) hs (.slice p n c) (.slice p8 (hs.length + 1) c8) w.heap.size := by
            obtain ⟨w9, hw9⟩ : ∃ w9, w9 = w8.setCell ⟨wb, 1, none⟩ (.slice p8 (hs.length + 1) c8) := ⟨_, rfl⟩
            rw [← hw9]
            have hg89 : w8.grownBy w9 (some wb) := by
              rw [hw9]
              exact ⟨rfl, rfl, rfl, by simp, fun k _ hk => heap_setCell_other w8 ⟨wb, 1, none⟩ k _ (fun e => hk (by rw [e]))⟩
            have hrowb : ∀ g, some wb = some g → ∃ cur : Array Value, w8.heap[g]? = some (Obj.cells cur 29 (0, 0)) := fun g e => by cases e; exact ⟨_, unhide Hbox8⟩
            have hg8 := unhide Hg8
            have hgA := unhide HgA
            have hrow8 := unhide Hrow8
            have ho9 : w9.ownsRow 0 59 1 (.slice p8 (hs.length + 1) c8) (hs.length + 1) (ptrs hs ++ [.pointer (some ⟨w.heap.size, 0, none⟩)]) := own_grown (unhide Ho8) hg89 (other_type hrowb (by decide))
            have hbox9 : w9.heap[wb]? = some (Obj.cells #[pv, .slice p8 (hs.length + 1) c8] 29 (0, 0)) := by
              rw [hw9, heap_setCell_same w8 wb 1 _ 29 _ (unhide Hbox8)]; rfl
            have hB9 : w9.heap[w.heap.size]? = some (Obj.cells #[nv, .slice none 0 0, .slice none 0 0, .int .i64 m] 91 (0, 0)) := by
              have h1 := (hgA.block _ (heap_lt (unhide HBq)) (by simp)).trans (unhide HBq)
              have h2 := (hg8.block _ (heap_lt h1) (fun e => other_type hrow8 (by decide) _ _ e.symm h1)).trans h1
              exact (hg89.block _ (heap_lt h2) (fun e => other_type hrowb (by decide) _ _ e.symm h2)).trans h2
            have hn9 : w9.ownsRow w.heap.size 73 1 nv (q + 1) ns := own_grown (own_grown (own_grown (unhide Hnq) hgA (fun g cur e => by cases e)) hg8 (other_type hrow8 (by decide))) hg89 (other_type hrowb (by decide))
            have hm9 : ∀ u ∈ ns, MarkB T1 w9 2 1 (markN m) u (n + q) := fun u hu =>
              ((((unhide Hmq) u hu).grown hgA (fun g cur e => by cases e)).grown hg8 (fun g cur e _ => other_type hrow8 (by decide) g cur e)).grown hg89 (fun g cur e _ => other_type hrowb (by decide) g cur e)
            have hM := unhide HMq
            have hmid : Mid (fun b => b = wb ∨ Value.ownBlock (.slice ph hs.length ch) = some b ∨ Value.ownBlock (.slice p n c) = some b) w w9 := by
              refine ⟨hg89.os.trans (hg8.os.trans hM.os), hg89.tape.trans (hg8.tape.trans hM.tape), hg89.output.trans (hg8.output.trans hM.output), Nat.le_trans hM.size (Nat.le_trans hgA.size (Nat.le_trans hg8.size hg89.size)), fun k hk hq' => ?_⟩
              have s1 := Nat.lt_of_lt_of_le hk hM.size
              have s2 := Nat.lt_of_lt_of_le s1 hgA.size
              have s3 := Nat.lt_of_lt_of_le s2 hg8.size
              exact (hg89.block k s3 (fun e => hq' (.inl (by cases e; rfl)))).trans ((hg8.block k s2 (fun e => hq' (.inr (.inl e.symm)))).trans ((hgA.block k s1 (by simp)).trans (hM.block k hk (fun e => hq' (.inr (.inr e))))))
            have hTf : ∀ b cur (t : TypeId), T1 b → w9.heap[b]? = some (Obj.cells cur t (0, 0)) → t ≠ 29 → t ≠ 59 → (w.heap.size ≤ b ∨ Value.ownBlock (.slice p n c) = some b) ∧ b ≠ wb ∧ Value.ownBlock (.slice p8 (hs.length + 1) c8) ≠ some b ∧ b < w9.heap.size := fun b cur t hb hc h29 h59 => by
              rw [unhide HT1] at hb
              refine ⟨hb, fun e => ?_, fun e => ?_, heap_lt hc⟩
              · subst e; exact h29 (type_ne hc hbox9)
              · obtain ⟨cur', h⟩ := own_type ho9 e
                exact h59 (type_ne hc h)
            have hT0 : T1 w.heap.size := by rw [unhide HT1]; exact .inl (Nat.le_refl _)
            have hnl : ns.length = q + 1 := by have := hn9.1; omega
            have hmb : (-1000000000000 ≤ m ∧ m ≤ 1000000000000) := by rw [unhide Hm]; omega
            refine ⟨⟨hbox9, ⟨0, ?_⟩⟩, ⟨nv, .slice none 0 0, .slice none 0 0, m, ns, [], hB9, hTf _ _ _ hT0 hB9 (by decide) (by decide), hmb, by omega, by simp, ⟨⟨w.heap.size, by rw [hnl]; exact hn9⟩, fun g hg => ?_⟩, fun u hu => ?_, ⟨⟨0, World.ownsRow_nil _ _ _ _⟩, fun g hg => by cases hg⟩, fun u hu => by simp at hu, ⟨none, 0, 0, rfl, by omega, fun i hi => absurd hi (Nat.not_lt_zero _)⟩⟩, hmid, ?_, Nat.le_refl _⟩
            · have e1 : (hs ++ [w.heap.size]).length = hs.length + 1 := by simp
              have e2 : ptrs (hs ++ [w.heap.size]) = ptrs hs ++ [.pointer (some ⟨w.heap.size, 0, none⟩)] := by simp [ptrs]
              rw [e1, e2]; exact ho9
            · obtain ⟨cur, h⟩ := own_type hn9 hg
              refine hTf g cur 73 ?_ h (by decide) (by decide)
              rw [unhide HT1]
              exact .inl (own_block hn9 g hg).1
            · exact ((hm9 u hu).refine (fun b cur hb hc => hTf b cur 2 hb hc (by decide) (by decide))).marks (by omega)
            · rcases unhide Hs8 with h | ⟨_, h⟩
              · exact .inl h
              · refine .inr (fun g hg => ?_)
                rw [h] at hg
                cases hg
                have := hM.size
                simp; omega
          have HK := hide hK
          clear hK
          go_wp2
          go_end0
          exact ⟨rfl, _, _, unhide HK⟩

end Go.Proofs.YtgddkjhknlgbbaaGreatDoor
