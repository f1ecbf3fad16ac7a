import Derived.Test.YtgddkjhknlgbbaaGreatDoorProg
import Derived.WalkKit
import Derived.WalkSpells
import Derived.Deep.QuietTactic
import Derived.BigQuiet
import Derived.Laws.ResultCell
set_option linter.unusedVariables false
set_option linter.unusedSimpArgs false

namespace Go.Proofs.YtgddkjhknlgbbaaGreatDoor
set_option linter.unusedVariables false
set_option linter.unusedSimpArgs false
open Go.RowKit

theorem ret_int {k : IntKind} {a b : Int} (h : a = b) : Ending.returned (.int k a) = .returned (.int k b) := by rw [h]

/-- The greatest and the least number of 65 bits, behind names. -/
def top : Int := 9223372036854775807
def bot : Int := -9223372036854775808

/-- 'pick', as a number. -/
def pickZ (c n : Int) : Int := (if c < 0 then -(c + 1) else c) % n

theorem pickZ_range (c n : Int) (hn : 0 < n) : 0 ≤ pickZ c n ∧ pickZ c n < n := by
  unfold pickZ
  exact ⟨Int.emod_nonneg _ (by omega), Int.emod_lt_of_pos _ hn⟩

/-- An entry of a batch, as data. -/
structure Ent where
  nm : ByteArray
  row : List Int
  wt : Int

def nmR : ByteArray := ⟨#[114]⟩
def nmS : ByteArray := ⟨#[115]⟩
def nmT : ByteArray := ⟨#[126]⟩

/-- 'entry', as data. -/

theorem bcell {W w1 : World} (hb : Below W.heap.size W w1) : (∀ b o, b < W.heap.size → w1.cell? ⟨b, o, none⟩ = W.cell? ⟨b, o, none⟩) ∧ (∀ b o, b < W.heap.size → w1.frozen? ⟨b, o, none⟩ = W.frozen? ⟨b, o, none⟩) :=
  ⟨fun b o h => hb.cell (p := ⟨b, o, none⟩) h, fun b o h => hb.frozen (p := ⟨b, o, none⟩) h⟩

/-- The value of an entry whose row lies in block b. -/
def entVal (x : Ent) (b : Nat) : Value := .agg #[.string x.nm, .slice (some ⟨b, 0, none⟩) x.row.length x.row.length, .int .i64 x.wt]

theorem heap_last (w : World) (o : Obj) (n : Nat) (h : w.heap.size = n) : (w.alloc o).heap[n]? = some o := by
  subst h
  exact heap_alloc_new w o


end Go.Proofs.YtgddkjhknlgbbaaGreatDoor

namespace Go.Proofs.YtgddkjhknlgbbaaGreatDoor
set_option linter.unusedVariables false
set_option linter.unusedSimpArgs false
open Go.RowKit

theorem hide {p : Prop} (h : p) : Hid p := h
theorem unhide {p : Prop} (h : Hid p) : p := h

/-- w' is w but for draws. -/
def Drawn (w w' : World) : Prop := ∃ n, w' = w.drewN n
theorem Drawn.refl (w : World) : Drawn w w := ⟨0, rfl⟩
theorem Drawn.ofN (w : World) (n : Nat) : Drawn w (w.drewN n) := ⟨n, rfl⟩
theorem Drawn.trans {a b c : World} (h : Drawn a b) (k : Drawn b c) : Drawn a c := by
  obtain ⟨n, rfl⟩ := h
  obtain ⟨m, rfl⟩ := k
  exact ⟨n + m, World.drewN_drewN _ _ _⟩
theorem Drawn.thenN {a b : World} (h : Drawn a b) (n : Nat) : Drawn a (b.drewN n) := h.trans (Drawn.ofN _ _)
theorem Drawn.cell {a b : World} (h : Drawn a b) (p : Addr) : b.cell? p = a.cell? p := by
  obtain ⟨n, rfl⟩ := h
  rfl
theorem Drawn.heap {a b : World} (h : Drawn a b) : b.heap = a.heap := by
  obtain ⟨n, rfl⟩ := h
  rfl
theorem Drawn.below {a b : World} (h : Drawn a b) (B : Nat) : Below B a b := by
  obtain ⟨n, rfl⟩ := h
  exact ⟨rfl, rfl, rfl, Nat.le_refl _, fun _ _ => rfl⟩
/-- A callee that only reads, in a region that draws. -/
theorem quiet_of_drawn {P : Program} {f : FuncId} {args : Array Value} {w : World} {n : Nat} {v : Value}
    (h : Calls P f args (w.drewN n) fun e w' => e = .returned v ∧ Drawn (w.drewN n) w') : Calls P f args (w.drewN n) fun e w'' => e = .returned v ∧ ∃ m, w'' = w.drewN m :=
  h.mono fun _ _ ⟨he, hm⟩ => ⟨he, (Drawn.ofN w n).trans hm⟩

/-- The slice v reads as the numbers zs. -/
def IntsAt (w : World) (v : Value) (zs : List Int) : Prop :=
  ∃ a cap, v = .slice a zs.length cap ∧ ∀ i, i < zs.length → ∃ b o, a = some ⟨b, o, none⟩ ∧ w.cell? ⟨b, o + i, none⟩ = some (.int .i64 (zs[i]?.getD 0))

theorem IntsAt.drawn {w w' : World} {v : Value} {zs : List Int} (h : IntsAt w v zs) (hd : Drawn w w') : IntsAt w' v zs := by
  obtain ⟨a, cap, rfl, hc⟩ := h
  exact ⟨a, cap, rfl, fun i hi => by obtain ⟨b, o, ha, hb⟩ := hc i hi; exact ⟨b, o, ha, by rw [hd.cell]; exact hb⟩⟩

theorem IntsAt.drewN {w : World} {v : Value} {zs : List Int} (h : IntsAt w v zs) (n : Nat) : IntsAt (w.drewN n) v zs := by
  obtain ⟨a, cap, rfl, hc⟩ := h
  exact ⟨a, cap, rfl, fun i hi => by obtain ⟨b, o, ha, hb⟩ := hc i hi; exact ⟨b, o, ha, by simpa using hb⟩⟩

def sameB (zs ys : List Int) : Bool := decide (zs = ys)

theorem sameB_at {zs ys : List Int} {k : Nat} (h : ¬ zs[k]?.getD 0 = ys[k]?.getD 0) : sameB zs ys = false := by
  unfold sameB
  rw [decide_eq_false_iff_not]
  intro e
  exact h (by rw [e])
theorem sameB_len {zs ys : List Int} (h : ¬ zs.length = ys.length) : sameB zs ys = false := by
  unfold sameB
  rw [decide_eq_false_iff_not]
  intro e
  exact h (by rw [e])
theorem sameB_all {zs ys : List Int} {k : Nat} (h : zs.take k = ys.take k) (h1 : zs.length ≤ k) (h2 : ys.length ≤ k) : sameB zs ys = true := by
  unfold sameB
  rw [decide_eq_true_iff]
  rw [List.take_of_length_le h1, List.take_of_length_le h2] at h
  exact h
theorem take_snoc2 {zs ys : List Int} {k : Nat} (h : zs.take k = ys.take k) (h1 : k < zs.length) (h2 : k < ys.length) (he : zs[k]?.getD 0 = ys[k]?.getD 0) : zs.take (k + 1) = ys.take (k + 1) := by
  rw [List.take_succ_eq_append_getElem h1, List.take_succ_eq_append_getElem h2, h]
  simp [h1, h2] at he
  rw [he]

set_option maxHeartbeats 400000 in
theorem same_any (v u : Value) (zs ys : List Int) (w : World) (hv : IntsAt w v zs) (hu : IntsAt w u ys) (hl : zs.length ≤ 1000000000) (hl2 : ys.length ≤ 1000000000) :
    Calls Tryz.prog 39 #[v, u] w fun e w' => e = .returned (.bool (sameB zs ys)) ∧ Drawn w w' := by
  obtain ⟨a, cap, rfl, hc⟩ := hv
  obtain ⟨a', cap', rfl, hc'⟩ := hu
  have Hc := hide hc
  have Hc' := hide hc'
  clear hc hc'
  by_cases hne : zs.length = ys.length
  · have hb : (((zs.length : Nat) : Int) != ((ys.length : Nat) : Int)) = false := by simp [hne]
    have g1 : zs.length ≤ ys.length := by omega
    have g2 : ys.length ≤ zs.length := by omega
    clear hne
    go_enter Tryz.func39, Tryz.ntmps39
    go_wp2
    go_loopw [5] (fun i wr => ∃ k : Nat, k ≤ zs.length ∧ i = .int .i64 k ∧ zs.take k = ys.take k ∧ Drawn w wr) (fun i _ => zs.length - (intOf i).toNat)
    case atStart => exact ⟨0, Nat.zero_le _, rfl, by simp, Drawn.refl _⟩
    case round =>
      obtain ⟨k, hk, rfl, htk, hdr⟩ := hrel
      have Hdr := hide hdr
      clear hdr
      have Htk := hide htk
      clear htk
      by_cases hlt : k < zs.length
      · obtain ⟨b, o, rfl, h1⟩ := (unhide Hc) k hlt
        obtain ⟨b', o', rfl, h2⟩ := (unhide Hc') k (by omega)
        have hlt' : k < ys.length := by omega
        obtain ⟨z, hz⟩ : ∃ z, z = zs[k]?.getD 0 := ⟨_, rfl⟩
        obtain ⟨y, hyy⟩ : ∃ y, y = ys[k]?.getD 0 := ⟨_, rfl⟩
        rw [← hz] at h1
        rw [← hyy] at h2
        rw [← (unhide Hdr).cell] at h1 h2
        have HZ := hide hz
        have HY := hide hyy
        clear hz hyy
        have hx : (k : Int) < (zs.length : Int) := by omega
        have hy : (k : Int) < (ys.length : Int) := by omega
        by_cases heq : z = y
        · have hd : (z != y) = false := by simp [heq]
          have Heq := hide heq
          clear heq
          go_wp2
          go_quiet (fail)
          go_wp2
          go_roundw
          case rel => exact ⟨k + 1, by omega, by go_num, take_snoc2 (unhide Htk) hlt hlt' (by rw [← unhide HZ, ← unhide HY]; exact unhide Heq), (unhide Hdr).thenN _⟩
          case measure => simp [intOf]; omega
        · have hd : (z != y) = true := by simp [heq]
          have hf : sameB zs ys = false := sameB_at (k := k) (by rw [← unhide HZ, ← unhide HY]; exact heq)
          clear heq
          go_wp2
          go_quiet (fail)
          go_wp2
          go_ret
          exact ⟨by simp [hf], (unhide Hdr).thenN _⟩
      · have hf : sameB zs ys = true := sameB_all (unhide Htk) (by omega) (by omega)
        go_wp2
        go_ret
        exact ⟨by simp [hf], unhide Hdr⟩
  · have hb : (((zs.length : Nat) : Int) != ((ys.length : Nat) : Int)) = true := by rw [bne_iff_ne]; omega
    have hf : sameB zs ys = false := sameB_len hne
    go_enter Tryz.func39, Tryz.ntmps39
    go_wp2
    go_ret
    exact ⟨by simp [hf], Drawn.refl _⟩

end Go.Proofs.YtgddkjhknlgbbaaGreatDoor

namespace Go.Proofs.YtgddkjhknlgbbaaGreatDoor
open Go.RowKit

/-- The slice v reads as the rows rs: numbers, and a weight. -/
def RowsAt (w : World) (v : Value) (rs : List (List Int × Int)) : Prop :=
  ∃ a cap, v = .slice a rs.length cap ∧ ∀ i, i < rs.length → ∃ b o sv, a = some ⟨b, o, none⟩ ∧ w.cell? ⟨b, o + i * 2, none⟩ = some sv ∧ IntsAt w sv ((rs[i]?.getD ([], 0)).1) ∧
    w.cell? ⟨b, o + i * 2 + 1, none⟩ = some (.int .i64 ((rs[i]?.getD ([], 0)).2))

/-- What 'weight' answers. -/
def weightZ : List (List Int × Int) → List Int → Int
  | [], _ => 0
  | r :: rs, zs => if r.1 = zs then r.2 else weightZ rs zs

def shortRows (rs : List (List Int × Int)) : Prop := ∀ r ∈ rs, r.1.length ≤ 1000000000

theorem weightZ_hit {rs : List (List Int × Int)} {zs z : List Int} {q : Int} {k : Nat} (h : weightZ rs zs = weightZ (rs.drop k) zs) (hlt : k < rs.length) (hz : z = (rs[k]?.getD ([], 0)).1) (hq : q = (rs[k]?.getD ([], 0)).2) (hB : sameB z zs = true) :
    weightZ rs zs = q := by
  rw [h, List.drop_eq_getElem_cons hlt]
  simp [hlt] at hz hq
  subst hz hq
  simp [sameB] at hB
  simp [weightZ, hB]
theorem weightZ_miss {rs : List (List Int × Int)} {zs z : List Int} {k : Nat} (h : weightZ rs zs = weightZ (rs.drop k) zs) (hlt : k < rs.length) (hz : z = (rs[k]?.getD ([], 0)).1) (hB : sameB z zs = false) :
    weightZ rs zs = weightZ (rs.drop (k + 1)) zs := by
  rw [h, List.drop_eq_getElem_cons hlt]
  simp [hlt] at hz
  subst hz
  simp [sameB] at hB
  simp [weightZ, hB]
theorem weightZ_end {rs : List (List Int × Int)} {zs : List Int} {k : Nat} (h : weightZ rs zs = weightZ (rs.drop k) zs) (hlt : rs.length ≤ k) : weightZ rs zs = 0 := by
  rw [h, List.drop_eq_nil_of_le hlt]
  rfl
theorem short_at {rs : List (List Int × Int)} {z : List Int} {k : Nat} (h : shortRows rs) (hlt : k < rs.length) (hz : z = (rs[k]?.getD ([], 0)).1) : z.length ≤ 1000000000 := by
  simp [hlt] at hz
  subst hz
  exact h _ (List.getElem_mem hlt)

theorem same_eq (v u : Value) (zs : List Int) (w : World) (hv : IntsAt w v zs) (hu : IntsAt w u zs) (hl : zs.length ≤ 1000000000) :
    Calls Tryz.prog 39 #[v, u] w fun e w' => e = .returned (.bool true) ∧ Drawn w w' := by
  refine (same_any v u zs zs w hv hu hl hl).mono ?_
  rintro e w' ⟨rfl, h⟩
  exact ⟨by simp [sameB], h⟩

def sameRowsB (rs ss : List (List Int × Int)) : Bool := decide (rs = ss)

set_option maxHeartbeats 400000 in
theorem sameRows_eq (v u : Value) (rs : List (List Int × Int)) (w : World) (hv : RowsAt w v rs) (hu : RowsAt w u rs) (hl : rs.length ≤ 1000000000) (hs : shortRows rs) :
    Calls Tryz.prog 58 #[v, u] w fun e w' => e = .returned (.bool true) ∧ Drawn w w' := by
  obtain ⟨a, cap, rfl, hc⟩ := hv
  obtain ⟨a', cap', rfl, hc'⟩ := hu
  have Hc := hide hc
  have Hc' := hide hc'
  have Hs := hide hs
  clear hc hc' hs
  go_enter Tryz.func58, Tryz.ntmps58
  go_wp2
  go_loopw [5] (fun i wr => ∃ k : Nat, k ≤ rs.length ∧ i = .int .i64 k ∧ Drawn w wr) (fun i _ => rs.length - (intOf i).toNat)
  case atStart => exact ⟨0, Nat.zero_le _, rfl, Drawn.refl _⟩
  case round =>
    obtain ⟨k, hk, rfl, hdr⟩ := hrel
    have Hdr := hide hdr
    clear hdr
    by_cases hlt : k < rs.length
    · obtain ⟨b, o, sv, rfl, h1, h2, h3⟩ := (unhide Hc) k hlt
      obtain ⟨b', o', sv', rfl, h1', h2', h3'⟩ := (unhide Hc') k hlt
      have hx : (k : Int) < (rs.length : Int) := by omega
      obtain ⟨z, hz⟩ : ∃ z, z = (rs[k]?.getD ([], 0)).1 := ⟨_, rfl⟩
      obtain ⟨q, hq⟩ : ∃ q, q = (rs[k]?.getD ([], 0)).2 := ⟨_, rfl⟩
      rw [← (unhide Hdr).cell] at h1 h3 h1' h3'
      rw [← hz] at h2 h2'
      rw [← hq] at h3 h3'
      have HZ := hide hz
      have H2 := hide h2
      have H2' := hide h2'
      have hqq : (q != q) = false := by simp
      clear hz hq h2 h2'
      have hB : sameB z z = true := by simp [sameB]
      go_wp2_with fail
      have hlz := short_at (unhide Hs) hlt (unhide HZ)
      go_quiet ((go_at_call 39; exact quiet_of_drawn (same_eq _ _ z _ (by exact ((unhide H2).drawn (unhide Hdr)).drewN _) (by exact ((unhide H2').drawn (unhide Hdr)).drewN _) hlz)))
      go_wp2_with fail
      go_quiet (fail)
      go_wp2
      exact ⟨⟨k + 1, by omega, by go_num, (unhide Hdr).thenN _⟩, by simp [intOf]; omega⟩
    · go_wp2
      go_ret
      exact ⟨by simp, unhide Hdr⟩

end Go.Proofs.YtgddkjhknlgbbaaGreatDoor
