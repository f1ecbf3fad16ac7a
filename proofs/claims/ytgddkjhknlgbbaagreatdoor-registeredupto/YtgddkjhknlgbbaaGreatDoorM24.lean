import Derived.BigRegion
import Derived.Deep.Cut
import Derived.Test.YtgddkjhknlgbbaaGreatDoorM22
set_option linter.unusedVariables false
set_option linter.unusedSimpArgs false

namespace Go.Proofs.YtgddkjhknlgbbaaGreatDoor
set_option linter.unusedVariables false
set_option linter.unusedSimpArgs false
open Go.RowKit Go.Maps

theorem pat3_set {ys : List Value} {n k : Nat} {a b c : Value} (hl : ys.length = n * 3) (hk : k < n) (h : Pat ys k 3 [a, b, c]) : Pat (((ys.set (k * 3) a).set (k * 3 + 1) b).set (k * 3 + 2) c) (k + 1) 3 [a, b, c] := by
  intro i j hi hj
  by_cases e : i = k
  · subst e
    have : j = 0 ∨ j = 1 ∨ j = 2 := by omega
    rcases this with rfl | rfl | rfl
    · rw [List.getElem?_set_ne (by omega), List.getElem?_set_ne (by omega), Nat.add_zero, List.getElem?_set_self (by omega)]; rfl
    · rw [List.getElem?_set_ne (by omega), List.getElem?_set_self (by simp; omega)]; rfl
    · rw [List.getElem?_set_self (by simp; omega)]; rfl
  · rw [List.getElem?_set_ne (by omega), List.getElem?_set_ne (by omega), List.getElem?_set_ne (by omega)]
    exact h i j (by omega) hj

set_option maxRecDepth 100000 in
set_option maxHeartbeats 8000000 in
/-- spoil: what was lent is written full, and held; then each of its rows. -/
theorem spoil_any (wb : Nat) (pv hv : Value) (hs : List Nat) (B lb : Nat) (ev rv : Value) (los : List Lo) (w : World) (hS : Spine w wb pv hv hs) (hhl : hs.length ≤ 10000000000) (hL : LoanRep w B lb ev rv los) (hn : los.length ≤ 10000000) (hrl : ∀ x ∈ los, x.e.row.length ≤ 10000000) (hbw : B ≤ w.heap.size) :
    Calls Tryz.prog 18 #[.pointer (some ⟨wb, 0, none⟩), .pointer (some ⟨lb, 0, none⟩)] w fun e w' => ∃ hv' hs2, e = .returned (.tuple #[]) ∧ KeptMany w w' wb pv hv hs (fun b => ev.ownBlock = some b ∨ ∃ x ∈ los, x.g = b) hv' hs2 ∧ hs2.length = los.length + 1 := by
  obtain ⟨m, hm⟩ : ∃ m : Int, m = -1000000 - hs.length := ⟨_, rfl⟩
  have Hmark := hide (mark_any wb pv hv hs w hS (by omega))
  rw [← hm] at Hmark
  have hmb : (-1000000000000 ≤ m ∧ m ≤ 1000000000000) := by rw [hm]; omega
  obtain ⟨p, c, hee, hcap, hpn, hps⟩ := own_form hL.ents
  subst hee
  obtain ⟨pr, cr, hre, _, hprn, hprs⟩ := own_form hL.rows
  subst hre
  have HS := hide hS
  have HL := hide hL
  have Hm := hide hm
  have Hrl := hide hrl
  obtain ⟨i59, ki, kz0, kz1, kz2⟩ := info_parts Tryz.info59
  have hlbl : lb < w.heap.size := heap_lt hL.box
  obtain ⟨n, hnn⟩ : ∃ n, n = los.length + 1 := ⟨_, rfl⟩
  rw [← hnn] at HL
  have Hnn := hide hnn
  have hnb9 : n ≤ 10000001 := by omega
  have hn1 : 0 < n := by omega
  clear hS hL hm hps hprs hrl hnn
  go_enter Tryz.func18, Tryz.ntmps18
  go_wp2_with fail
  refine (unhide Hmark).mono ?_
  rintro e w1 ⟨rfl, hw1⟩
  replace hw1 := hw1.symm
  subst hw1
  clear Hmark
  go_wp2
  obtain ⟨w1, hw1⟩ : ∃ w1, w1 = w.alloc (.cells #[.slice none 0 0, .slice none 0 0, .slice none 0 0, .int .i64 m] 91) := ⟨_, rfl⟩
  rw [← hw1]
  have hB0 : w1.heap[w.heap.size]? = some (Obj.cells #[.slice none 0 0, .slice none 0 0, .slice none 0 0, .int .i64 m] 91 (0, 0)) := by rw [hw1]; exact heap_last _ _ _ rfl
  have hg01 : w.grownBy w1 none := by rw [hw1]; exact World.grownBy_alloc _ _ _
  have hs1 : w1.heap.size = w.heap.size + 1 := by rw [hw1]; simp
  have he0 : w.ownsRow B 75 3 (.slice p n c) n (los.flatMap entC ++ lastC) := by have := (unhide HL).ents; rw [← unhide Hnn] at this; exact this
  have Ho1 : Hid (w1.ownsRow B 75 3 (.slice p n c) n (los.flatMap entC ++ lastC)) := by rw [hw1]; exact he0.alloc _
  have Hne0 : Hid (∀ g, Value.ownBlock (.slice p n c) = some g → g < w.heap.size) := fun g hg => by obtain ⟨cur, h⟩ := own_type he0 hg; exact heap_lt h
  have HB0 := hide hB0
  have Hg01 := hide hg01
  clear hw1 hB0 hg01 he0
  go_loopw [5] (fun i wr => ∃ (k : Nat) (ys : List Value), k ≤ n ∧ i = .int .i64 k ∧ wr.ownsRow B 75 3 (.slice p n c) n ys ∧ Pat ys k 3 (markE m) ∧ w1.grownBy wr (Value.ownBlock (.slice p n c))) (fun i _ => n - (intOf i).toNat)
  case atStart => exact ⟨0, _, Nat.zero_le _, rfl, unhide Ho1, fun i j hi _ => absurd hi (Nat.not_lt_zero _), ⟨rfl, rfl, rfl, Nat.le_refl _, fun _ _ _ => rfl⟩⟩
  case round =>
    obtain ⟨k, ys, hk, rfl, hok, hpt, hgk⟩ := hrel
    have hnb : some w.heap.size ≠ Value.ownBlock (.slice p n c) := fun e => by have := (unhide Hne0) _ e.symm; omega
    have hnl : some lb ≠ Value.ownBlock (.slice p n c) := fun e => by
      obtain ⟨cur, h⟩ := own_type (unhide HL).ents e.symm
      exact absurd (type_ne (unhide HL).box h) (by decide)
    have hBk : wr.heap[w.heap.size]? = some (Obj.cells #[.slice none 0 0, .slice none 0 0, .slice none 0 0, .int .i64 m] 91 (0, 0)) := (hgk.block _ (by omega) hnb).trans (unhide HB0)
    have hLk : wr.heap[lb]? = some (Obj.cells #[.slice p n c, .slice pr los.length cr] 52 (0, 0)) := (hgk.block _ (by omega) hnl).trans (((unhide Hg01).block _ hlbl (by simp)).trans (unhide HL).box)
    have l0 : wr.cell? ⟨lb, 0, none⟩ = some (.slice p n c) := cell_of_heap hLk 0
    have l1 : wr.cell? ⟨lb, 1, none⟩ = some (.slice pr los.length cr) := cell_of_heap hLk 1
    have b2 : wr.cell? ⟨w.heap.size, 2, none⟩ = some (.slice none 0 0) := cell_of_heap hBk 2
    have b3 : wr.cell? ⟨w.heap.size, 3, none⟩ = some (.int .i64 m) := cell_of_heap hBk 3
    have f2 : wr.frozen? ⟨w.heap.size, 2, none⟩ = false := frozen_of_heap hBk 2
    have HBk := hide hBk
    have HLk := hide hLk
    have Hpt := hide hpt
    have Hgk := hide hgk
    clear hBk hLk hpt hgk hnb hnl
    by_cases hlt : k < n
    · have hx : (k : Int) < (n : Int) := by omega
      obtain ⟨p', c', he', _, hpn', hps'⟩ := own_form hok
      cases he'
      cases p with
      | none => have := hpn' rfl; omega
      | some ad =>
        obtain ⟨g, rfl, hgb, hgl, hcl⟩ := hps' ad rfl
        have hyl : ys.length = n * 3 := hok.1
        obtain ⟨xo0, cS0⟩ : ∃ xo, wr.cell? ⟨g, k * 3, none⟩ = some xo := ⟨ys[k * 3]'(by omega), by rw [hcl _ (by omega)]; simp⟩
        obtain ⟨xo1, cS1⟩ : ∃ xo, wr.cell? ⟨g, k * 3 + 1, none⟩ = some xo := ⟨ys[k * 3 + 1]'(by omega), by rw [hcl _ (by omega)]; simp⟩
        obtain ⟨xo2, cS2⟩ : ∃ xo, wr.cell? ⟨g, k * 3 + 2, none⟩ = some xo := ⟨ys[k * 3 + 2]'(by omega), by rw [hcl _ (by omega)]; simp⟩
        have fS0 : wr.frozen? ⟨g, k * 3, none⟩ = false := hok.frozenAt _
        have fS1 : wr.frozen? ⟨g, k * 3 + 1, none⟩ = false := hok.frozenAt _
        have fS2 : wr.frozen? ⟨g, k * 3 + 2, none⟩ = false := hok.frozenAt _
        have h1 := hok.stored (k * 3) (.string ⟨#[]⟩)
        have h2 := h1.1.stored (k * 3 + 1) (.slice none 0 0)
        have h3 := h2.1.stored (k * 3 + 2) (.int .i64 m)
        have Hst := hide (And.intro h3.1 ((h1.2.trans h2.2).trans h3.2))
        have Hts : Hid (Pat (((ys.set (k * 3) (.string ⟨#[]⟩)).set (k * 3 + 1) (.slice none 0 0)).set (k * 3 + 2) (.int .i64 m)) (k + 1) 3 (markE m)) := pat3_set hyl hlt (unhide Hpt)
        clear hcl hps' hpn' hok h1 h2 h3
        go_wp2
        go_region
        go_wp2
        go_roundw
        case rel => exact ⟨k + 1, _, by omega, by go_num, (unhide Hst).1, unhide Hts, (unhide Hgk).trans ⟨(unhide Hst).2.os, (unhide Hst).2.tape, (unhide Hst).2.output, (unhide Hst).2.size, (unhide Hst).2.block⟩⟩
        case measure => simp [intOf]; omega
    · have hx : ¬ (k : Int) < (n : Int) := by omega
      obtain ⟨w2, hw2⟩ : ∃ w2, w2 = wr := ⟨_, rfl⟩
      subst hw2
      have hke : k = n := by omega
      rw [hke] at Hpt
      obtain ⟨w5, hw5⟩ : ∃ w5, w5 = w2.setCell ⟨w.heap.size, 2, none⟩ (.slice p n c) := ⟨_, rfl⟩
      have hg25 : w2.grownBy w5 (some w.heap.size) := by
        rw [hw5]
        exact ⟨rfl, rfl, rfl, by simp, fun k _ hk => heap_setCell_other w2 ⟨w.heap.size, 2, none⟩ k _ (fun e => hk (by rw [e]))⟩
      have hrow2 : ∀ g, some w.heap.size = some g → ∃ cur : Array Value, w2.heap[g]? = some (Obj.cells cur 91 (0, 0)) := fun g e => by cases e; exact ⟨_, unhide HBk⟩
      have hB5 : w5.heap[w.heap.size]? = some (Obj.cells #[.slice none 0 0, .slice none 0 0, .slice p n c, .int .i64 m] 91 (0, 0)) := by
        rw [hw5, heap_setCell_same w2 w.heap.size 2 _ 91 _ (unhide HBk)]; rfl
      have ho5 : w5.ownsRow B 75 3 (.slice p n c) n ys := own_grown hok hg25 (other_type hrow2 (by decide))
      obtain ⟨T1, hT1⟩ : ∃ T1 : Nat → Prop, T1 = fun b => w.heap.size ≤ b ∨ Value.ownBlock (.slice p n c) = some b := ⟨_, rfl⟩
      have he5 : MarkB T1 w5 75 3 (markE m) (.slice p n c) n := MarkB.of_own ho5 (unhide Hpt) (fun g hg => by rw [hT1]; exact .inr hg)
      have hMq : Mid (fun b => Value.ownBlock (.slice p n c) = some b) w w5 := by
        have h1 := unhide Hg01
        have h2 := unhide Hgk
        refine ⟨hg25.os.trans (h2.os.trans h1.os), hg25.tape.trans (h2.tape.trans h1.tape), hg25.output.trans (h2.output.trans h1.output), Nat.le_trans h1.size (Nat.le_trans h2.size hg25.size), fun k hk hq => ?_⟩
        have s1 := h1.size
        have s2 := h2.size
        exact (hg25.block k (by omega) (fun e => by cases e; omega)).trans ((h2.block k (by omega) (fun e => hq e.symm)).trans (h1.block k hk (by simp)))
      have HT1 := hide hT1
      have Hw5 := hide hw5
      clear hg25 hrow2 ho5 hT1 hok hw5 HBk HLk
      have hS := unhide HS
      obtain ⟨base9, ho9⟩ := hS.own
      have hwbl : wb < w.heap.size := heap_lt hS.box
      have hbox : w5.heap[wb]? = some (Obj.cells #[pv, hv] 29 (0, 0)) := (hMq.block wb hwbl (fun e => by
        obtain ⟨cur, h⟩ := own_type (unhide HL).ents e
        exact absurd (type_ne hS.box h) (by decide))).trans hS.box
      have hhv : w5.ownsRow 0 59 1 hv hs.length (ptrs hs) := by
        refine own_lower (base := base9) ?_ (Nat.zero_le _)
        refine ⟨ho9.1, ?_⟩
        rcases ho9.2 with h1 | ⟨g, cap, cur, h1, h2, h3, h4⟩
        · exact .inl h1
        · exact .inr ⟨g, cap, cur, h1, h2, (hMq.block g (heap_lt h3) (fun e => by
            obtain ⟨cur', h⟩ := own_type (unhide HL).ents e
            exact absurd (type_ne h3 h) (by decide))).trans h3, h4⟩
      have bw : w5.cell? ⟨wb, 1, none⟩ = some hv := cell_of_heap hbox 1
      have hhb : ∀ g, hv.ownBlock = some g → g < w.heap.size := fun g hg => by obtain ⟨cur, h⟩ := own_type ho9 hg; exact heap_lt h
      obtain ⟨ph, ch, hve, _, _, _⟩ := own_form hhv
      subst hve
      have Hbox := hide hbox
      have Hhv := hide hhv
      have Hhb := hide hhb
      have HB5 := hide hB5
      have He5 := hide he5
      have HMq := hide hMq
      clear hB5 he5 hMq hbox hhv hS ho9 hhb
      go_upto_region 6 with fail
      rw [← unhide Hw5]
      go_wp2_with (first
        | (at_builtin
           refine wpList_append_sharp _ rfl _ _ 27 rfl 0 59 i59 _ 1 8 Tryz.underlying27 ki kz0 kz1 kz2 rfl (by decide) (.slice ph hs.length ch) hs.length (ptrs hs) rfl ((unhide Hhv).alloc _) ⟨w5.heap.size, 0, none⟩ 1 [.pointer (some ⟨w.heap.size, 0, none⟩)] rfl rfl (cell_one_new w5 _ 59) (by simp [Value.oneCell']) (by unfold maxLen; omega) (by omega) (by simp) ?_
           intro v8 w8 ho8 hg8 hs8
           have hgA : w5.grownBy (w5.alloc (.cells #[.pointer (some ⟨w.heap.size, 0, none⟩)] 59)) none := World.grownBy_alloc _ _ _
           have hrow8 : ∀ g, Value.ownBlock (.slice ph hs.length ch) = some g → ∃ cur : Array Value, (w5.alloc (.cells #[.pointer (some ⟨w.heap.size, 0, none⟩)] 59)).heap[g]? = some (Obj.cells cur 59 (0, 0)) := fun g e => own_type ((unhide Hhv).alloc _) e
           have hbox8 : w8.heap[wb]? = some (Obj.cells #[pv, .slice ph hs.length ch] 29 (0, 0)) := by
             have h1 := (hgA.block _ (heap_lt (unhide Hbox)) (by simp)).trans (unhide Hbox)
             exact (hg8.block _ (heap_lt h1) (fun e => other_type hrow8 (by decide) _ _ e.symm h1)).trans h1
           have b8 : w8.cell? ⟨wb, 1, none⟩ = some (.slice ph hs.length ch) := cell_of_heap hbox8 1
           have f8 : w8.frozen? ⟨wb, 1, none⟩ = false := frozen_of_heap hbox8 1
           obtain ⟨p8, c8, rfl, _, _, _⟩ := own_form ho8
           have Hbox8 := hide hbox8
           have HgA := hide hgA
           have Hrow8 := hide hrow8
           have Ho8 := hide ho8
           have Hg8 := hide hg8
           have Hs8 := hide hs8
           clear hgA hrow8 hbox8 ho8 hg8 hs8))
      have hK : KeptBy w (w8.setCell ⟨wb, 1, none⟩ (.slice p8 (hs.length + 1) c8)) wb pv (.slice ph hs.length ch) hs (.slice p n c) (.slice p8 (hs.length + 1) c8) w.heap.size := by
        obtain ⟨w9, hw9⟩ : ∃ w9, w9 = w8.setCell ⟨wb, 1, none⟩ (.slice p8 (hs.length + 1) c8) := ⟨_, rfl⟩
        rw [← hw9]
        have hg89 : w8.grownBy w9 (some wb) := by
          rw [hw9]
          exact ⟨rfl, rfl, rfl, by simp, fun k _ hk => heap_setCell_other w8 ⟨wb, 1, none⟩ k _ (fun e => hk (by rw [e]))⟩
        have hrowb : ∀ g, some wb = some g → ∃ cur : Array Value, w8.heap[g]? = some (Obj.cells cur 29 (0, 0)) := fun g e => by cases e; exact ⟨_, unhide Hbox8⟩
        have hg8 := unhide Hg8
        have hgA := unhide HgA
        have hrow8 := unhide Hrow8
        have ho9 : w9.ownsRow 0 59 1 (.slice p8 (hs.length + 1) c8) (hs.length + 1) (ptrs hs ++ [.pointer (some ⟨w.heap.size, 0, none⟩)]) := own_grown (unhide Ho8) hg89 (other_type hrowb (by decide))
        have hbox9 : w9.heap[wb]? = some (Obj.cells #[pv, .slice p8 (hs.length + 1) c8] 29 (0, 0)) := by
          rw [hw9, heap_setCell_same w8 wb 1 _ 29 _ (unhide Hbox8)]; rfl
        have hB9 : w9.heap[w.heap.size]? = some (Obj.cells #[.slice none 0 0, .slice none 0 0, .slice p n c, .int .i64 m] 91 (0, 0)) := by
          have h1 := (hgA.block _ (heap_lt (unhide HB5)) (by simp)).trans (unhide HB5)
          have h2 := (hg8.block _ (heap_lt h1) (fun e => other_type hrow8 (by decide) _ _ e.symm h1)).trans h1
          exact (hg89.block _ (heap_lt h2) (fun e => other_type hrowb (by decide) _ _ e.symm h2)).trans h2
        have hm9 : MarkB T1 w9 75 3 (markE m) (.slice p n c) n :=
          (((unhide He5).grown hgA (fun g cur e => by cases e)).grown hg8 (fun g cur e _ => other_type hrow8 (by decide) g cur e)).grown hg89 (fun g cur e _ => other_type hrowb (by decide) g cur e)
        have hM := unhide HMq
        have hmid : Mid (fun b => b = wb ∨ Value.ownBlock (.slice ph hs.length ch) = some b ∨ Value.ownBlock (.slice p n c) = some b) w w9 := by
          refine ⟨hg89.os.trans (hg8.os.trans hM.os), hg89.tape.trans (hg8.tape.trans hM.tape), hg89.output.trans (hg8.output.trans hM.output), Nat.le_trans hM.size (Nat.le_trans hgA.size (Nat.le_trans hg8.size hg89.size)), fun k hk hq' => ?_⟩
          have s1 := Nat.lt_of_lt_of_le hk hM.size
          have s2 := Nat.lt_of_lt_of_le s1 hgA.size
          have s3 := Nat.lt_of_lt_of_le s2 hg8.size
          exact (hg89.block k s3 (fun e => hq' (.inl (by cases e; rfl)))).trans ((hg8.block k s2 (fun e => hq' (.inr (.inl e.symm)))).trans ((hgA.block k s1 (by simp)).trans (hM.block k hk (fun e => hq' (.inr (.inr e))))))
        have hTf : ∀ b cur (t : TypeId), T1 b → w9.heap[b]? = some (Obj.cells cur t (0, 0)) → t ≠ 29 → t ≠ 59 → (w.heap.size ≤ b ∨ Value.ownBlock (.slice p n c) = some b) ∧ b ≠ wb ∧ Value.ownBlock (.slice p8 (hs.length + 1) c8) ≠ some b ∧ b < w9.heap.size := fun b cur t hb hc h29 h59 => by
          rw [unhide HT1] at hb
          refine ⟨hb, fun e => ?_, fun e => ?_, heap_lt hc⟩
          · subst e; exact h29 (type_ne hc hbox9)
          · obtain ⟨cur', h⟩ := own_type ho9 e
            exact h59 (type_ne hc h)
        have hT0 : T1 w.heap.size := by rw [unhide HT1]; exact .inl (Nat.le_refl _)
        refine ⟨⟨hbox9, ⟨0, ?_⟩⟩, ⟨.slice none 0 0, .slice none 0 0, .slice p n c, m, [], [], hB9, hTf _ _ _ hT0 hB9 (by decide) (by decide), hmb, by simp, by simp, ⟨⟨0, World.ownsRow_nil _ _ _ _⟩, fun g hg => by cases hg⟩, fun u hu => by simp at hu, ⟨⟨0, World.ownsRow_nil _ _ _ _⟩, fun g hg => by cases hg⟩, fun u hu => by simp at hu, (hm9.refine (fun b cur hb hc => hTf b cur 75 hb hc (by decide) (by decide))).marks (by omega)⟩, hmid, ?_, Nat.le_refl _⟩
        · have e1 : (hs ++ [w.heap.size]).length = hs.length + 1 := by simp
          have e2 : ptrs (hs ++ [w.heap.size]) = ptrs hs ++ [.pointer (some ⟨w.heap.size, 0, none⟩)] := by simp [ptrs]
          rw [e1, e2]; exact ho9
        · rcases unhide Hs8 with h | ⟨_, h⟩
          · exact .inl h
          · refine .inr (fun g hg => ?_)
            rw [h] at hg
            cases hg
            have := hM.size
            simp; omega
      obtain ⟨w9, hw9⟩ : ∃ w9, w9 = w8.setCell ⟨wb, 1, none⟩ (.slice p8 (hs.length + 1) c8) := ⟨_, rfl⟩
      have HK0 : Hid (KeptMany w w9 wb pv (.slice ph hs.length ch) hs (fun b => Value.ownBlock (.slice p n c) = some b ∨ ∃ x ∈ los.take 0, x.g = b) (.slice p8 (hs.length + 1) c8) [w.heap.size]) := by
        have h1 := hK.many
        rw [← hw9] at h1
        have e : (fun b => Value.ownBlock (.slice p n c) = some b ∨ ∃ x ∈ los.take 0, x.g = b) = fun b => Value.ownBlock (.slice p n c) = some b := by funext b; simp
        unfold Hid
        rw [e]; exact h1
      have Hw9 := hide hw9
      clear hK hw9
      go_wp2
      rw [← unhide Hw9]
      go_loopw [6] (fun i wr => ∃ (k : Nat) (hvk : Value) (hsk : List Nat), k ≤ los.length ∧ i = .int .i64 k ∧ KeptMany w wr wb pv (.slice ph hs.length ch) hs (fun b => Value.ownBlock (.slice p n c) = some b ∨ ∃ x ∈ los.take k, x.g = b) hvk hsk ∧ hsk.length = k + 1) (fun i _ => los.length - (intOf i).toNat)
      case atStart => exact ⟨0, _, _, Nat.zero_le _, rfl, unhide HK0, rfl⟩
      case round =>
        obtain ⟨k4, hvk, hsk, hk4, rfl, hKk, hsl⟩ := hrel
        have hL := unhide HL
        have hkeep : ∀ {e : TypeId} {size : Nat} {v : Value} {N : Nat} {xs : List Value} {B' : Nat}, w.ownsRow B' e size v N xs → e ≠ 29 → e ≠ 59 → e ≠ 75 → e ≠ 2 → wr.ownsRow B' e size v N xs := by
          intro e size v N xs B' ho h29 h59 h75 h2
          refine ⟨ho.1, ?_⟩
          rcases ho.2 with h1 | ⟨g, cap, cur, h1, h2', h3, h4⟩
          · exact .inl h1
          · refine .inr ⟨g, cap, cur, h1, h2', (hKk.mid.block g (heap_lt h3) (fun hq => ?_)).trans h3, h4⟩
            rcases hq with e | e | e | ⟨x, hx, e⟩
            · subst e; exact h29 (type_ne h3 (unhide HS).box)
            · obtain ⟨_, h9⟩ := (unhide HS).own
              obtain ⟨c1, h9⟩ := own_type h9 e
              exact h59 (type_ne h3 h9)
            · obtain ⟨c1, h9⟩ := own_type hL.ents e
              exact h75 (type_ne h3 h9)
            · obtain ⟨c1, h9⟩ := own_type (hL.each.row x (List.mem_of_mem_take hx)) (g := g) (by rw [← e]; rfl)
              exact h2 (type_ne h3 h9)
        have hrk := hkeep hL.rows (by decide) (by decide) (by decide) (by decide)
        have hLk : wr.heap[lb]? = some (Obj.cells #[.slice p n c, .slice pr los.length cr] 52 (0, 0)) := (hKk.mid.block lb hlbl (fun hq => by
          rcases hq with e | e | e | ⟨x, hx, e⟩
          · subst e; exact absurd (type_ne hL.box (unhide HS).box) (by decide)
          · obtain ⟨_, h9⟩ := (unhide HS).own
            obtain ⟨c1, h9⟩ := own_type h9 e
            exact absurd (type_ne hL.box h9) (by decide)
          · obtain ⟨c1, h9⟩ := own_type hL.ents e
            exact absurd (type_ne hL.box h9) (by decide)
          · obtain ⟨c1, h9⟩ := own_type (hL.each.row x (List.mem_of_mem_take hx)) (g := lb) (by rw [← e]; rfl)
            exact absurd (type_ne hL.box h9) (by decide))).trans hL.box
        have l1' : wr.cell? ⟨lb, 1, none⟩ = some (.slice pr los.length cr) := cell_of_heap hLk 1
        by_cases hlt4 : k4 < los.length
        · have hx4 : (k4 : Int) < (los.length : Int) := by omega
          obtain ⟨r, hre⟩ : ∃ r, r = los[k4] := ⟨_, rfl⟩
          have hrm : r ∈ los := by rw [hre]; exact List.getElem_mem hlt4
          have hor := hL.each.row r hrm
          have hnotL : ∀ g, (rowC r).ownBlock = some g → ¬ (Value.ownBlock (.slice p n c) = some g ∨ ∃ x ∈ los.take k4, x.g = g) := fun g hg h => by
            cases hg
            rcases h with h | ⟨r', hr', h⟩
            · obtain ⟨c1, h1⟩ := own_type hL.ents h
              obtain ⟨c2, h2⟩ := own_type hor (g := r.g) rfl
              exact absurd (type_ne h1 h2) (by decide)
            · obtain ⟨i', hi', hri⟩ := List.getElem_of_mem hr'
              have hi2 : i' < k4 := by simp at hi'; omega
              have h9 := List.pairwise_iff_getElem.1 hL.each.apart i' k4 (by omega) hlt4 hi2
              have h8 : los[i'] = r' := by rw [← hri]; simp
              rw [h8, ← hre] at h9
              have h7 : r'.g = r.g := h
              omega
          have hgl := hL.each.lt r hrm
          have hork : wr.ownsRow B 2 1 (rowC r) (r.e.row.length + 1) (rowI r) := by
            refine ⟨hor.1, ?_⟩
            rcases hor.2 with h1 | ⟨g, cap, cur, h1, h2, h3, h4⟩
            · exact .inl h1
            · refine .inr ⟨g, cap, cur, h1, h2, (hKk.mid.block g (heap_lt h3) (fun hq => ?_)).trans h3, h4⟩
              have hgo : (rowC r).ownBlock = some g := by rw [h1]; rfl
              rcases hq with e | e | e
              · subst e; exact absurd (type_ne (unhide HS).box h3) (by decide)
              · obtain ⟨_, h9⟩ := (unhide HS).own
                obtain ⟨c1, h9⟩ := own_type h9 e
                exact absurd (type_ne h9 h3) (by decide)
              · exact hnotL g hgo e
          have hrn := (unhide Hrl) r hrm
          have Hcall := hide (keepNumbers_any wb pv hvk (hs ++ hsk) B (r.e.row.length + 1) (rowC r) (rowI r) wr hKk.spine (by simp; omega) hork (by omega) (Nat.le_trans hbw hKk.mid.size))
          obtain ⟨pm', cm', hme, _, hmn, hms⟩ := own_form hrk
          cases hme
          cases pr with
          | none => have := hmn rfl; omega
          | some adm =>
            obtain ⟨gm, rfl, _, _, hcm⟩ := hms adm rfl
            have d4 : wr.cell? ⟨gm, k4, none⟩ = some (.slice (some ⟨r.g, 0, none⟩) (r.e.row.length + 1) r.c) := by
              rw [hcm k4 (by omega), hre]
              simp [hlt4, rowC]
            have Hstep : Hid (∀ w' hv' h, KeptBy wr w' wb pv hvk (hs ++ hsk) (rowC r) hv' h → KeptMany w w' wb pv (.slice ph hs.length ch) hs (fun b => Value.ownBlock (.slice p n c) = some b ∨ ∃ x ∈ los.take (k4 + 1), x.g = b) hv' (hsk ++ [h])) := by
              intro w' hv' h hkb
              have htk : los.take (k4 + 1) = los.take k4 ++ [r] := by rw [List.take_succ_eq_append_getElem hlt4, hre]
              refine hKk.snoc hkb (fun b hb => ?_) (fun b hb => ⟨?_, hnotL b hb, by cases hb; exact hgl.2⟩)
              · rw [htk]
                exact hb.imp id (fun ⟨r', h1, h2⟩ => ⟨r', List.mem_append_left _ h1, h2⟩)
              · rw [htk]
                cases hb
                exact .inr ⟨r, by simp, rfl⟩
            unfold rowC at Hcall
            clear hcm hms hmn hork hgl hnotL hor hre hrk hKk hL hkeep hLk
            go_wp2_with fail
            refine (unhide Hcall).mono ?_
            rintro e w' ⟨hv', h, rfl, hkb⟩
            have HS' := hide ((unhide Hstep) w' hv' h hkb)
            clear hkb Hcall Hstep
            go_wp2
            go_roundw
            case rel => exact ⟨k4 + 1, hv', hsk ++ [h], by omega, by go_num, unhide HS', by simp [hsl]⟩
            case measure => simp [intOf]; omega
        · have hx4 : ¬ (k4 : Int) < (los.length : Int) := by omega
          have hke4 : los.take k4 = los := List.take_of_length_le (by omega)
          rw [hke4] at hKk
          have HKk := hide hKk
          have Hsl : Hid (hsk.length = los.length + 1) := by unfold Hid; omega
          clear hKk hsl hke4 hL hkeep hrk hLk
          go_wp2
          go_end0
          exact ⟨rfl, hvk, hsk, by rw [← unhide Hnn]; exact unhide HKk, unhide Hsl⟩

end Go.Proofs.YtgddkjhknlgbbaaGreatDoor
