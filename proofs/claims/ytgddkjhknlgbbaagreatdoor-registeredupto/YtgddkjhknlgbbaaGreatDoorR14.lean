import Derived.Test.YtgddkjhknlgbbaaGreatDoorR13
import Derived.Test.YtgddkjhknlgbbaaGreatDoorR11
import Derived.Test.YtgddkjhknlgbbaaGreatDoorR02
import Derived.Test.YtgddkjhknlgbbaaGreatDoorM14
import Derived.Deep.Cut
set_option linter.unusedVariables false
set_option linter.unusedSimpArgs false

namespace Go.Proofs.YtgddkjhknlgbbaaGreatDoor
set_option linter.unusedVariables false
set_option linter.unusedSimpArgs false
open Go.RowKit Go.Maps Go.Sort Go.Shelf

/-- The reference's table of ends, as it is laid. -/
def EndsAt (w : World) : Prop := ∀ i, i < 12 → w.cell? ⟨1, i, none⟩ = some (.string ⟨(qEnds[i]?.getD []).toArray⟩)
theorem EndsAt.below {w w' : World} (h : EndsAt w) (hb : Below w.heap.size w w') : EndsAt w' := fun i hi => (hb.cell (p := ⟨1, i, none⟩) (World.block_lt_of_cell? w _ (h i hi))).trans (h i hi)

theorem ends_len : ∀ i, i < 12 → (qEnds[i]?.getD []).length ≤ 9 := by decide
theorem bytesL_append (a : ByteArray) (l : List UInt8) : bytesL (a ++ ⟨l.toArray⟩) = bytesL a ++ l := by
  unfold bytesL
  rw [ByteArray.data_append, Array.toList_append]

set_option maxRecDepth 100000 in
set_option maxHeartbeats 4000000 in
theorem begins_any (s : ByteArray) (hs : s.size ≤ 900) (W : World) (hE : EndsAt W) :
    Calls Tryz.prog 81 #[.string s] W fun e w' => e = .returned (.bool (qRun (Sum.inl (false, false)) (bytesL s)).isSome) ∧ Below W.heap.size W w' := by
  have HE := hide hE
  clear hE
  go_enter Tryz.func81, Tryz.ntmps81
  go_wp2
  go_loopw [3] (fun i wr => ∃ k : Nat, k ≤ 12 ∧ i = .int .i64 k ∧ (∀ j, j < k → qAcc (bytesL s ++ (qEnds[j]?.getD [])) = false) ∧ Below W.heap.size W wr) (fun i _ => 12 - (intOf i).toNat)
  case atStart => exact ⟨0, Nat.zero_le _, rfl, fun j hj => absurd hj (Nat.not_lt_zero _), Below.refl _ _⟩
  case round =>
    obtain ⟨k, hk, rfl, hno, hbk⟩ := hrel
    by_cases hlt : k < 12
    · have hkz : (k : Int) < 12 := by omega
      have c0 := (unhide HE).below hbk k hlt
      obtain ⟨t, ht⟩ : ∃ t, t = qEnds[k]?.getD [] := ⟨_, rfl⟩
      have htl := ends_len k hlt
      rw [← ht] at c0 htl
      have hsz : (s ++ (⟨t.toArray⟩ : ByteArray)).size ≤ 1000 := by rw [ByteArray.size_append]; show s.size + t.length ≤ 1000; omega
      have Hw := hide (whole_any (s ++ ⟨t.toArray⟩) hsz wr)
      have hbl := bytesL_append s t
      have Hbk := hide hbk
      have Hno := hide hno
      have Hbl := hide hbl
      have Ht := hide ht
      clear hbk hno hbl hsz ht
      go_wp2_with fail
      refine (unhide Hw).mono ?_
      rintro e w2 ⟨ha, hn, hc, pa, pn, pc, ba, bn, bc, rfl, hb2, _⟩
      rw [unhide Hbl]
      have hB2 := (unhide Hbk).trans (hb2.mono (unhide Hbk).size)
      have Hb2 := hide (hB2.alloc hB2.size (.cells #[.slice ha hn hc, .slice pa pn pc, .slice ba bn bc] 105))
      clear hb2 hB2 Hw
      cases hq : qAcc (bytesL s ++ t) with
      | true =>
        have Hfin : Hid ((qRun (Sum.inl (false, false)) (bytesL s)).isSome = true) := (begins_iff (bytesL s)).1 ⟨t, by rw [unhide Ht]; simp [show k < qEnds.length from hlt], hq⟩
        clear hq
        go_wp2
        go_ret
        exact ⟨by rw [unhide Hfin]; rfl, unhide Hb2⟩
      | false =>
        have Hno2 : Hid (∀ j, j < k + 1 → qAcc (bytesL s ++ (qEnds[j]?.getD [])) = false) := fun j hj => by
          by_cases e : j = k
          · rw [e, ← unhide Ht]; exact hq
          · exact (unhide Hno) j (by omega)
        clear hq
        go_wp2
        go_roundw
        case rel => exact ⟨k + 1, by omega, by go_num, unhide Hno2, unhide Hb2⟩
        case measure => simp [intOf]; omega
    · have hkz : ¬ (k : Int) < 12 := by omega
      have ek : k = 12 := by omega
      have Hfin : Hid ((qRun (Sum.inl (false, false)) (bytesL s)).isSome = false) := by
        show _ = _
        cases e : (qRun (Sum.inl (false, false)) (bytesL s)).isSome with
        | false => rfl
        | true =>
          obtain ⟨t, ht, hq⟩ := (begins_iff (bytesL s)).2 e
          obtain ⟨i, hi, rfl⟩ := List.getElem_of_mem ht
          have hi' : i < 12 := hi
          have := hno i (by omega)
          rw [List.getElem?_eq_getElem hi] at this
          simp only [Option.getD_some] at this
          rw [hq] at this
          cases this
      have Hbk := hide hbk
      clear hno hbk ek
      go_wp2
      go_ret
      exact ⟨by rw [unhide Hfin]; rfl, unhide Hbk⟩

set_option maxRecDepth 100000 in
set_option maxHeartbeats 4000000 in
theorem wrong_any (s : ByteArray) (hs : s.size ≤ 900) (W : World) (hE : EndsAt W) :
    Calls Tryz.prog 48 #[.string s] W fun e w' => e = .returned (.int .i64 ((qFar (Sum.inl (false, false)) (bytesL s) : Nat) : Int)) ∧ Below W.heap.size W w' := by
  have HE := hide hE
  have hfl := qFar_le (Sum.inl (false, false)) (bytesL s)
  rw [bytesL_len] at hfl
  clear hE
  go_enter Tryz.func48, Tryz.ntmps48
  go_wp2
  go_loopw [3] (fun i wr => ∃ k : Nat, k ≤ s.size ∧ i = .int .i64 k ∧ k ≤ qFar (Sum.inl (false, false)) (bytesL s) ∧ Below W.heap.size W wr) (fun i _ => s.size - (intOf i).toNat)
  case atStart => exact ⟨0, Nat.zero_le _, rfl, Nat.zero_le _, Below.refl _ _⟩
  case round =>
    obtain ⟨k, hk, rfl, hfar, hbk⟩ := hrel
    by_cases hlt : k < s.size
    · have hkz : (k : Int) < (s.size : Int) := by omega
      have hsz : (s.extract 0 (k + 1)).size = k + 1 := by rw [ByteArray.size_extract]; omega
      have hbe : bytesL (s.extract 0 (k + 1)) = (bytesL s).take (k + 1) := by
        rw [bytes_extract s 0 (k + 1) (by omega) (by omega)]
        simp [seg]
      have hbg := begins_any (s.extract 0 (k + 1)) (by omega) wr ((unhide HE).below hbk)
      have hiff := qRun_take (Sum.inl (false, false)) (bytesL s) (k + 1) (by rw [bytesL_len]; omega)
      rw [hbe] at hbg
      have hsl : ∀ w, (Instr.slice 9 (.string s) none (some (.int .i64 ((k : Int) + 1))) none).run Tryz.prog w = .ok (.string (s.extract 0 (k + 1))) w := fun w => by
        have e2 : (0 : Int) ≤ (k : Int) + 1 := by omega
        have e4 : (k : Int) + 1 ≤ (s.size : Int) := by omega
        have e5 : ((k : Int) + 1).toNat = k + 1 := by omega
        simp [Instr.slice, run_underlying Tryz.underlying9, Instr.sliceBounds, run_sliceBound, e2, e4, e5]
      have Hbk := hide hbk
      clear hbk hsz hbe
      by_cases hok : k + 1 ≤ qFar (Sum.inl (false, false)) (bytesL s)
      · rw [hiff.2 hok] at hbg
        have Hbg := hide hbg
        clear hbg hiff
        go_wp2_with fail
        refine (unhide Hbg).mono ?_
        rintro e w2 ⟨rfl, hb2⟩
        have Hb2 := hide ((unhide Hbk).trans (hb2.mono (unhide Hbk).size))
        clear hb2 Hbg
        go_wp2
        go_roundw
        case rel => exact ⟨k + 1, by omega, by go_num, hok, unhide Hb2⟩
        case measure => simp [intOf]; omega
      · have hf : (qRun (Sum.inl (false, false)) ((bytesL s).take (k + 1))).isSome = false := by
          cases e : (qRun (Sum.inl (false, false)) ((bytesL s).take (k + 1))).isSome with
          | false => rfl
          | true => exact absurd (hiff.1 e) hok
        rw [hf] at hbg
        have Hbg := hide hbg
        have Hke : Hid (((qFar (Sum.inl (false, false)) (bytesL s) : Nat) : Int) = (k : Int)) := by show _ = _; omega
        clear hbg hiff hok hf
        go_wp2_with fail
        refine (unhide Hbg).mono ?_
        rintro e w2 ⟨rfl, hb2⟩
        have Hb2 := hide ((unhide Hbk).trans (hb2.mono (unhide Hbk).size))
        clear hb2 Hbg
        go_wp2
        go_ret
        exact ⟨by rw [unhide Hke]; rfl, unhide Hb2⟩
    · have hkz : ¬ (k : Int) < (s.size : Int) := by omega
      have Hke : Hid (((qFar (Sum.inl (false, false)) (bytesL s) : Nat) : Int) = (s.size : Int)) := by show _ = _; omega
      have Hbk := hide hbk
      clear hbk
      go_wp2
      go_ret
      exact ⟨by rw [unhide Hke]; rfl, unhide Hbk⟩

end Go.Proofs.YtgddkjhknlgbbaaGreatDoor

namespace Go.Proofs.YtgddkjhknlgbbaaGreatDoor
set_option linter.unusedVariables false
set_option linter.unusedSimpArgs false
open Go.RowKit Go.Maps

def bytesO (s : ByteArray) : List Nat := s.data.toList.map (·.toNat)
theorem bytesO_at {s : ByteArray} {k : Nat} (h : k < s.size) : (bytesO s)[k]?.getD 0 = s[k].toNat := by
  unfold bytesO
  have h' : k < s.data.toList.length := by simpa using h
  rw [List.getElem?_map, List.getElem?_eq_getElem h']
  rfl
theorem bytesO_len (s : ByteArray) : (bytesO s).length = s.size := by
  unfold bytesO
  rw [List.length_map]
  rfl

theorem some_bytes {o : ByteArray} (h : o ≠ ⟨#[]⟩) : o.toList.isEmpty = false := by
  rw [ByteArray.toList_eq]
  obtain ⟨⟨l⟩⟩ := o
  cases l with
  | nil => exact absurd rfl h
  | cons a l => rfl

theorem quiet_of_same {P : Program} {f : FuncId} {args : Array Value} {w : World} {v : Value} (h : Calls P f args w fun e w' => e = .returned v ∧ w' = w) : Calls P f args w fun e w' => e = .returned v ∧ Drawn w w' :=
  h.mono fun e w' ⟨h1, h2⟩ => ⟨h1, h2 ▸ Drawn.refl _⟩

set_option maxRecDepth 100000 in
set_option maxHeartbeats 2000000 in
theorem orderFits_gen (QB : Nat) (o : ByteArray) (vs : List Nat) (W : World) (hv : ∀ x ∈ vs, 65 ≤ x ∧ x ≤ 90) (hsz : o.size ≤ 1000) (hnd : vs.Nodup) (ho : o = ⟨#[]⟩ ∨ (bytesO o).Perm vs)
    (hbl : ∀ W', Below W.heap.size W W' → Calls Tryz.prog 77 #[.pointer (some ⟨QB, 0, none⟩)] W' fun e w' => e = .returned (.int .u32 (maskL vs : Nat)) ∧ Below W'.heap.size W' w') :
    Calls Tryz.prog 45 #[.pointer (some ⟨QB, 0, none⟩), .string o] W fun e w' => e = .returned (.bool true) ∧ Below W.heap.size W w' := by
  obtain ⟨W1, hW1⟩ : ∃ W1, W1 = W.alloc (.cells #[.int .u32 0] 138) := ⟨_, rfl⟩
  have hb1 : Below W.heap.size W W1 := by rw [hW1]; exact (Below.refl _ _).alloc (Nat.le_refl _) _
  have hs1 : W1.heap.size = W.heap.size + 1 := by rw [hW1]; simp
  have hB1 : W1.heap[W.heap.size]? = some (.cells #[.int .u32 0] 138 (0, 0)) := by rw [hW1]; exact heap_last _ _ _ rfl
  have Hbl := hide hbl
  have Hb1 := hide hb1
  clear hbl hb1
  have hbo : ∀ x ∈ bytesO o, 65 ≤ x ∧ x ≤ 90 := fun x hx => by
    rcases ho with rfl | h
    · simp [bytesO] at hx
    · exact hv x (h.mem_iff.1 hx)
  have hno : (bytesO o).Nodup := by
    rcases ho with rfl | h
    · simp [bytesO]
    · exact h.nodup_iff.2 hnd
  have hlen := bytesO_len o
  go_enter Tryz.func45, Tryz.ntmps45
  go_wp2_with fail
  rw [← hW1]
  clear hW1
  go_wp2
  go_loopw [9] (fun i wr => ∃ k : Nat, k ≤ o.size ∧ i = .int .i64 k ∧ wr.heap[W.heap.size]? = some (.cells #[.int .u32 (maskL ((bytesO o).take k) : Nat)] 138 (0, 0)) ∧ Below W.heap.size W wr) (fun i _ => o.size - (intOf i).toNat)
  case atStart => exact ⟨0, Nat.zero_le _, rfl, hB1, unhide Hb1⟩
  case round =>
    obtain ⟨k, hk, rfl, hBk, hbk⟩ := hrel
    by_cases hlt : k < o.size
    · have hkz : (k : Int) < (o.size : Int) := by omega
      have hat := bytesO_at hlt
      obtain ⟨x, hx⟩ : ∃ x, x = o[k].toNat := ⟨_, rfl⟩
      have hmem : x ∈ bytesO o := by rw [hx, ← hat]; simp [hlen, hlt]
      obtain ⟨x1, x2⟩ := hbo x hmem
      have hmlt : maskL ((bytesO o).take k) < 4294967296 := maskL_lt fun y hy => (hbo y (List.mem_of_mem_take hy)).2
      have hsn : maskL ((bytesO o).take (k + 1)) = maskL ((bytesO o).take k) ||| 2 ^ (x - 65) := by
        unfold maskL
        rw [List.take_succ_eq_append_getElem (by omega), maskF_snoc]
        have : (bytesO o)[k]'(by omega) = x := by rw [hx, ← hat]; simp [hlen, hlt]
        rw [this]
      have hnot : (maskL ((bytesO o).take k)).testBit (x - 65) = false := by
        rw [maskL_test (fun y hy => (hbo y (List.mem_of_mem_take hy)).1) x1, decide_eq_false_iff_not]
        intro hin
        obtain ⟨j, hj, hjx⟩ := List.mem_take_iff_getElem.1 hin
        have hxk : (bytesO o)[k]'(by omega) = x := by rw [hx, ← hat]; simp [hlen, hlt]
        exact (List.pairwise_iff_getElem.1 hno j k (by omega) (by omega) (by omega)) (hjx.trans hxk.symm)
      have c0 : wr.cell? ⟨W.heap.size, 0, none⟩ = some (.int .u32 (maskL ((bytesO o).take k) : Nat)) := cell_of_heap hBk 0
      have hvr : isVr x = true := by simp [isVr, x1, x2]
      have Hv : ∀ W', Hid (Calls Tryz.prog 74 #[.int .u8 x] W' fun e w' => e = .returned (.bool true) ∧ w' = W') := fun W' => by have := isVr_any x W'; rw [hvr] at this; exact this
      have Hh : ∀ W', Hid (Calls Tryz.prog 75 #[.int .u32 (maskL ((bytesO o).take k) : Nat), .int .u8 x] W' fun e w' => e = .returned (.bool false) ∧ w' = W') := fun W' => by have := lhas_any (maskL ((bytesO o).take k)) x W' hmlt x1 x2; rw [hnot] at this; exact this
      have hix : ((o[k].toNat : Nat) : Int) = (x : Int) := by rw [hx]
      have Hadd : ∀ W', W'.heap[W.heap.size]? = some (.cells #[.int .u32 (maskL ((bytesO o).take k) : Nat)] 138 (0, 0)) → Hid (Calls Tryz.prog 76 #[.pointer (some ⟨W.heap.size, 0, none⟩), .int .u8 x] W' fun e w' => e = .returned (.tuple #[]) ∧ w'.heap[W.heap.size]? = some (.cells #[.int .u32 (maskL ((bytesO o).take (k + 1)) : Nat)] 138 (0, 0)) ∧ w' = W'.setCell ⟨W.heap.size, 0, none⟩ (.int .u32 (maskL ((bytesO o).take (k + 1)) : Nat))) := fun W' h => by rw [hsn]; exact ladd_any W.heap.size _ x W' h hmlt x1 x2
      have HBk := hide hBk
      have Hbk := hide hbk
      clear hBk hbk hsn hnot hvr hat hmem hx
      go_wp2_with fail
      go_quiet ((first | (go_at_call 74; exact Calls.quiet_of_same (unhide (Hv _))) | (go_at_call 75; exact Calls.quiet_of_same (unhide (Hh _)))))
      go_wp2_with (first | (go_at_call 76; refine (unhide (Hadd (World.drewN wr _) (by exact unhide HBk))).mono ?_; rintro e w3 ⟨rfl, hB3, hw3⟩; have hb3 : Below W.heap.size W w3 := by { rw [hw3]; exact ((unhide Hbk).trans (belowNG _ _ _)).setCell (p := ⟨W.heap.size, 0, none⟩) (Nat.le_refl _) _ }; clear hw3))
      have HB3 := hide hB3
      have Hb3 := hide hb3
      clear hB3 hb3
      go_roundw
      case rel => exact ⟨k + 1, by omega, by go_num, unhide HB3, unhide Hb3⟩
      case measure => simp [intOf]; omega
    · have hke : k = o.size := by omega
      subst hke
      rw [← hlen, List.take_length] at hBk
      have c0 : wr.cell? ⟨W.heap.size, 0, none⟩ = some (.int .u32 (maskL (bytesO o) : Nat)) := cell_of_heap hBk 0
      have Hbk := hide hbk
      clear hBk hbk
      rcases ho with rfl | hp
      · go_wp2_with fail
        go_quiet (fail)
        go_wp2
        go_ret
        exact ⟨rfl, (unhide Hbk).trans (belowNG _ _ _)⟩
      · by_cases h0 : o = ⟨#[]⟩
        · subst h0
          go_wp2_with fail
          go_quiet (fail)
          go_wp2
          go_ret
          exact ⟨rfl, (unhide Hbk).trans (belowNG _ _ _)⟩
        · have hem := some_bytes h0
          have hoz : (o.toList == ([] : List UInt8)) = false := by rw [List.beq_nil_eq, hem]
          have hme : (maskL (bytesO o) : Int) = (maskL vs : Int) := by rw [maskL_perm hp]
          have hWl : W.heap.size < wr.heap.size := World.block_lt_of_cell? wr _ c0
          have Hc := hide ((unhide Hbl) wr.drew ((unhide Hbk).trans (belowNG _ 1 _)))
          rw [hme] at c0
          go_wp2_with fail
          go_region_with (first
            | (go_at_call 77; refine (unhide Hc).mono ?_; rintro e w5 ⟨rfl, hb5⟩; have c5 : w5.cell? ⟨W.heap.size, 0, none⟩ = some (.int .u32 (maskL vs : Nat)) := (hb5.cell (p := ⟨W.heap.size, 0, none⟩) hWl).trans c0))
          all_goals
            have HF := hide ((unhide Hbk).trans (((belowNG _ 1 wr).trans (hb5.mono (Nat.le_refl _))).mono (unhide Hbk).size))
            clear hb5
            go_wp2
            go_ret
            exact ⟨rfl, unhide HF⟩

end Go.Proofs.YtgddkjhknlgbbaaGreatDoor

namespace Go.Proofs.YtgddkjhknlgbbaaGreatDoor
set_option linter.unusedVariables false
set_option linter.unusedSimpArgs false
open Go.RowKit Go.Maps Go.Sort Go.Shelf

/-- Is the text a list of these letters, each once? -/
def isoB (vs l : List Nat) : Bool := decide (l.length = vs.length) && (l.all fun x => decide (x ∈ vs)) && decide l.Nodup
theorem isoB_iff {vs l : List Nat} : isoB vs l = true ↔ l.length = vs.length ∧ (∀ x ∈ l, x ∈ vs) ∧ l.Nodup := by
  unfold isoB
  simp [List.all_eq_true, and_assoc]

set_option maxRecDepth 100000 in
set_option maxHeartbeats 4000000 in
theorem isOrder_any (o : ByteArray) (v : Value) (vs : List Nat) (W : World) (hv : BytesAt W v vs) (hl : vs.length ≤ 1000) (ho : o.size ≤ 100000000) :
    Calls Tryz.prog 50 #[.string o, v] W fun e w' => e = .returned (.bool (isoB vs (bytesO o))) ∧ Below W.heap.size W w' := by
  have hlen := bytesO_len o
  by_cases hz : o.size = vs.length
  · have Hv := hide hv
    obtain ⟨va, vcap, rfl, _⟩ := hv
    have hz1 : ((o.size : Int) != (vs.length : Int)) = false := by simpa using (show (o.size : Int) = (vs.length : Int) by omega)
    have Hz := hide hz
    have hos : o.size ≤ 1000 := by omega
    clear hz
    go_enter Tryz.func50, Tryz.ntmps50
    go_wp2
    go_loopw [5] (fun i wr => ∃ k : Nat, k ≤ o.size ∧ i = .int .i64 k ∧ (∀ x ∈ (bytesO o).take k, x ∈ vs) ∧ ((bytesO o).take k).Nodup ∧ Below W.heap.size W wr) (fun i _ => o.size - (intOf i).toNat)
    case atStart => exact ⟨0, Nat.zero_le _, rfl, by simp, by simp, Below.refl _ _⟩
    case round =>
      obtain ⟨k, hk, rfl, hin, hnd, hbk⟩ := hrel
      by_cases hlt : k < o.size
      · have hkz : (k : Int) < (o.size : Int) := by omega
        have hat := bytesO_at hlt
        obtain ⟨x, hx⟩ : ∃ x, x = o[k].toNat := ⟨_, rfl⟩
        have hxk : (bytesO o)[k]'(by omega) = x := by rw [hx, ← hat]; simp [hlen, hlt]
        have htk : (bytesO o).take (k + 1) = (bytesO o).take k ++ [x] := by rw [List.take_succ_eq_append_getElem (by omega), hxk]
        have hmem : x ∈ bytesO o := by rw [← hxk]; exact List.getElem_mem _
        have hix : ((o[k].toNat : Nat) : Int) = (x : Int) := by rw [hx]
        have Hhas := hide (has_any (.slice va vs.length vcap) vs x wr ((unhide Hv).below hbk) (by omega))
        have Hbk := hide hbk
        have Hin := hide hin
        have Hnd := hide hnd
        have Htk := hide htk
        have Hxk := hide hxk
        clear hin hnd htk hbk hx hat hxk
        by_cases hxv : x ∈ vs
        · rw [decide_eq_true hxv] at Hhas
          have Hxv := hide hxv
          clear hxv hmem
          go_wp2_with fail
          refine (unhide Hhas).mono ?_
          rintro e w2 ⟨rfl, hw2⟩
          replace hw2 := hw2.symm
          subst hw2
          go_wp2
          go_loopw [7] (fun i w2 => ∃ j : Nat, j ≤ k ∧ i = .int .i64 j ∧ x ∉ (bytesO o).take j ∧ Below W.heap.size W w2) (fun i _ => k - (intOf i).toNat)
          case atStart => exact ⟨0, Nat.zero_le _, rfl, by simp, unhide Hbk⟩
          case round =>
            obtain ⟨j, hj, rfl, hno, hbj⟩ := hrel
            by_cases hjl : j < k
            · have hjz : (j : Int) < (k : Int) := by omega
              have hjo : j < o.size := by omega
              have hjo' : (j : Int) < (o.size : Int) := by omega
              have haj := bytesO_at hjo
              obtain ⟨y, hy⟩ : ∃ y, y = o[j].toNat := ⟨_, rfl⟩
              have hyj : (bytesO o)[j]'(by omega) = y := by rw [hy, ← haj]; simp [hlen, hjo]
              have htj : (bytesO o).take (j + 1) = (bytesO o).take j ++ [y] := by rw [List.take_succ_eq_append_getElem (by omega), hyj]
              have hiy : ((o[j].toNat : Nat) : Int) = (y : Int) := by rw [hy]
              by_cases hxy : y = x
              · have hb : ((y : Int) == (x : Int)) = true := by simpa using (show (y : Int) = (x : Int) by omega)
                have Hfin : Hid (isoB vs (bytesO o) = false) := by
                  show isoB vs (bytesO o) = false
                  cases e : isoB vs (bytesO o) with
                  | false => rfl
                  | true =>
                    obtain ⟨_, _, h3⟩ := isoB_iff.1 e
                    exact absurd (hyj.trans (hxy.trans (unhide Hxk).symm)) (List.pairwise_iff_getElem.1 h3 j k (by omega) (by omega) (by omega))
                have Hbj := hide hbj
                clear hxy hno hbj haj hy hyj htj
                go_wp2_with fail
                go_quiet (fail)
                go_wp2
                go_ret
                exact ⟨by rw [unhide Hfin]; rfl, (unhide Hbj).trans (belowNG _ _ _)⟩
              · have hb : ((y : Int) == (x : Int)) = false := by simpa using (show ¬ (y : Int) = (x : Int) by omega)
                have Hno : Hid (x ∉ (bytesO o).take (j + 1)) := by
                  show x ∉ (bytesO o).take (j + 1)
                  rw [htj]
                  intro h
                  rcases List.mem_append.1 h with h | h
                  · exact hno h
                  · exact hxy (List.mem_singleton.1 h).symm
                have Hbj := hide hbj
                clear hxy hno hbj haj hy hyj htj
                go_wp2_with fail
                go_quiet (fail)
                go_wp2
                go_roundw
                case rel => exact ⟨j + 1, by omega, by go_num, unhide Hno, (unhide Hbj).trans (belowNG _ _ _)⟩
                case measure => simp [intOf]; omega
            · have hjz : ¬ (j : Int) < (k : Int) := by omega
              have ej : j = k := by omega
              rw [ej] at hno
              have Hin2 : Hid (∀ y ∈ (bytesO o).take (k + 1), y ∈ vs) := fun y hy => by
                rw [unhide Htk] at hy
                rcases List.mem_append.1 hy with hy | hy
                · exact (unhide Hin) y hy
                · rw [List.mem_singleton.1 hy]; exact unhide Hxv
              have Hnd2 : Hid (((bytesO o).take (k + 1)).Nodup) := by
                show ((bytesO o).take (k + 1)).Nodup
                rw [unhide Htk]
                exact List.nodup_append.2 ⟨unhide Hnd, by simp, fun a ha b hb => by rw [List.mem_singleton.1 hb]; exact fun e => hno (e ▸ ha)⟩
              have Hbj := hide hbj
              clear hno hbj ej
              go_wp2
              go_roundw
              case rel => exact ⟨k + 1, by omega, by go_num, unhide Hin2, unhide Hnd2, unhide Hbj⟩
              case measure => simp [intOf]; omega
        · rw [decide_eq_false hxv] at Hhas
          have Hfin : Hid (isoB vs (bytesO o) = false) := by
            show isoB vs (bytesO o) = false
            cases e : isoB vs (bytesO o) with
            | false => rfl
            | true => exact absurd ((isoB_iff.1 e).2.1 x hmem) hxv
          clear hxv hmem
          go_wp2_with fail
          refine (unhide Hhas).mono ?_
          rintro e w2 ⟨rfl, hw2⟩
          replace hw2 := hw2.symm
          subst hw2
          go_wp2
          go_ret
          exact ⟨by rw [unhide Hfin]; rfl, unhide Hbk⟩
      · have hkz : ¬ (k : Int) < (o.size : Int) := by omega
        have ek : k = (bytesO o).length := by omega
        rw [ek, List.take_length] at hin hnd
        have Hfin : Hid (isoB vs (bytesO o) = true) := isoB_iff.2 ⟨by rw [hlen]; exact unhide Hz, hin, hnd⟩
        have Hbk := hide hbk
        clear hin hnd hbk ek
        go_wp2
        go_ret
        exact ⟨by rw [unhide Hfin]; rfl, unhide Hbk⟩
  · obtain ⟨va, vcap, rfl, _⟩ := hv
    have hz1 : ((o.size : Int) != (vs.length : Int)) = true := by simpa using (show ¬ (o.size : Int) = (vs.length : Int) by omega)
    have Hfin : Hid (isoB vs (bytesO o) = false) := by
      show isoB vs (bytesO o) = false
      cases e : isoB vs (bytesO o) with
      | false => rfl
      | true => exact absurd (by rw [← hlen]; exact (isoB_iff.1 e).1) hz
    clear hz
    go_enter Tryz.func50, Tryz.ntmps50
    go_wp2
    go_ret
    exact ⟨by rw [unhide Hfin]; rfl, Below.refl _ _⟩

end Go.Proofs.YtgddkjhknlgbbaaGreatDoor
