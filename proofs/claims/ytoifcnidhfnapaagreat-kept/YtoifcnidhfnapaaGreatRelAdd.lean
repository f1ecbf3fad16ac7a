import Derived.Test.YtoifcnidhfnapaaGreatRowsFit
set_option linter.unusedVariables false
set_option linter.unusedSimpArgs false
namespace Go.Proofs.YtoifcnidhfnapaaGreat
open Go.RowKit Go.Maps
attribute [local go_sem ↓] Go.wp_at_zero Go.wp_at_succ

theorem Rep.congr {D : DataW Unit} {f g : Row → Int} (h : Rep D f) (he : ∀ r, WfRow r → f r = g r) : Rep D g :=
  ⟨fun r hr => by rw [← he r hr]; exact h.at_ r hr, fun r hr => by rw [← he r hr]; exact h.has_ r hr, h.keys⟩

theorem WMap.congr {w : World} {b n : Nat} {f g : Row → Int} (h : WMap w b n f) (he : ∀ r, WfRow r → f r = g r) : WMap w b n g := by
  obtain ⟨D, h1, h2⟩ := h
  exact ⟨D, h1, h2.congr he⟩

structure Half (h f g : Row → Int) (done : Row → Prop) : Prop where
  yes : ∀ r, WfRow r → done r → h r = f r + g r
  no : ∀ r, WfRow r → ¬ done r → h r = f r

theorem Half.step {h f g : Row → Int} {done : Row → Prop} (hh : Half h f g done) {x : Row} (hx : WfRow x) (hnd : ¬ done x) : Half (upd h x (h x + g x)) f g (fun r => done r ∨ r = x) := by
  refine ⟨fun r hw hd => ?_, fun r hw hd => ?_⟩
  · unfold upd
    by_cases e : r = x
    · subst e; rw [if_pos rfl, hh.no r hx hnd]
    · rw [if_neg e]; exact hh.yes r hw (hd.resolve_right e)
  · unfold upd
    have e : ¬ r = x := fun e => hd (Or.inr e)
    rw [if_neg e]; exact hh.no r hw (fun h => hd (Or.inl h))

theorem Half.congr {h f g : Row → Int} {d d' : Row → Prop} (hh : Half h f g d) (he : ∀ r, WfRow r → (d r ↔ d' r)) : Half h f g d' :=
  ⟨fun r hw hd => hh.yes r hw ((he r hw).2 hd), fun r hw hd => hh.no r hw (fun x => hd ((he r hw).1 x))⟩

theorem below_grown {w w' : World} (h : Below w.heap.size w w') (row : Option Nat) : w.grownBy w' row := ⟨h.os, h.tape, h.output, h.size, fun k hk _ => h.block k hk⟩

theorem add_agg (b n : Nat) (f : Row → Int) (x1 x2 x3 : Int) (x : Int) (w : World) (h : WMap w b n f) (hn : n < 1000000) (hr : WfRow (x1, x2, x3)) (h1 : -1000000 ≤ f (x1, x2, x3)) (h2 : f (x1, x2, x3) ≤ 1000000) (h3 : -1000000 ≤ x) (h4 : x ≤ 1000000) :
    Calls Tryz.prog 32 #[.map (some b), .agg #[.int .i64 x1, .int .i64 x2, .int .i64 x3], .int .i64 x] w fun e w' => e = .returned (.tuple #[]) ∧ WMap w' b (n + 1) (upd f (x1, x2, x3) (f (x1, x2, x3) + x)) ∧ w.grownBy w' (some b) :=
  add_any b n f (x1, x2, x3) x w h hn hr h1 h2 h3 h4

set_option maxRecDepth 100000 in
set_option maxHeartbeats 1000000 in
theorem relAdd_any (rb mb ar n cb m : Nat) (f g : Row → Int) (w : World) (hr : w.heap[rb]? = some (.cells #[.int .i64 ar, .map (some mb)] 77 (0, 0))) (hf : WMap w mb n f) (hg : WMap w cb m g) (hnm : n + m ≤ 100000) (hcm : cb ≠ mb)
    (hbf : ∀ r, WfRow r → -100000 ≤ f r ∧ f r ≤ 100000) (hbg : ∀ r, WfRow r → -100000 ≤ g r ∧ g r ≤ 100000) :
    Calls Tryz.prog 39 #[.pointer (some ⟨rb, 0, none⟩), .map (some cb)] w fun e w' => e = .returned (.tuple #[]) ∧ WMap w' mb (n + m) (fun r => f r + g r) ∧ w.grownBy w' (some mb) := by
  have Hf := hide hf
  obtain ⟨D, hown, hrep⟩ := hg
  have Hr := hide hr
  have Hrep := hide hrep
  have Hbf := hide hbf
  have Hbg := hide hbg
  have hrl : rb < w.heap.size := (Array.getElem?_eq_some_iff.1 hr).1
  have hml : mb < w.heap.size := hf.lt
  have hcl : cb < w.heap.size := hown.lt
  have hszg := hown.size_le
  have hrm : rb ≠ mb := fun e => by
    obtain ⟨_, ⟨_, _, h1, _⟩, _⟩ := hf
    rw [e, h1] at hr
    cases hr
  clear hr hrep hbf hbg hf
  go_enter Tryz.func39, Tryz.ntmps39
  go_wp2_with (first
    | (at_range; refine wpList_range_own _ rfl _ 75 rfl 62 2 law60 Tryz.underlying75 _ cb m D rfl hown ?_; intro w0 hrg0 hg0 hs0)
    | go_in)
  go_frame
  go_loopw [8] (fun _ wr => ∃ left cnt N h, wr.ranges Tryz.prog 62 (plainElem Tryz.prog 2) cb w.heap.size m D left cnt ∧ w.grownBy wr (some mb) ∧ WMap wr mb N h ∧ Half h f g (doneOf D left) ∧ N + cnt ≤ n + m) (fun _ wr => wr.rangeLeft cb w.heap.size)
  case atStart =>
    refine ⟨_, _, n, f, hrg0, hg0.but _, (unhide Hf).kept (hg0.block _ hml (by simp)), ⟨fun r _ h => (by have h1 := h.1; rw [h.2] at h1; cases h1), fun _ _ _ => rfl⟩, by omega⟩
  case round =>
    obtain ⟨left, cnt, N, h, hrg, hB, hW, hH, hcnt⟩ := hrel
    have HB := hide hB
    have HW := hide hW
    have HH := hide hH
    clear hB hW hH
    go_wp2_with (first
      | (at_next; refine wpList_next_ranges _ rfl _ rfl 62 law60 (plainElem Tryz.prog 2) (fun x : Row => .agg #[.int .i64 x.1, .int .i64 x.2.1, .int .i64 x.2.2]) (Value.int .i64) invRow invInt cb w.heap.size m D left cnt rfl hrg ?_ ?_)
      | go_in)
    · intro _ hl0
      go_wp2
      go_end0
      refine ⟨rfl, ((unhide HW).mono (by omega)).congr (fun r hw => ?_), unhide HB⟩
      by_cases hh : Maps.has D (rowLit r) = true
      · exact (unhide HH).yes r hw ⟨hh, hl0 _⟩
      · have h0 : g r = 0 := by
          by_cases e : g r = 0
          · exact e
          · exact absurd (((unhide Hrep).has_ r hw).2 e) hh
        rw [(unhide HH).no r hw (fun d => hh d.1), h0]; omega
    · intro x1 x2 x3 c kl y1 y2 w1 cnt1 hkey hlk hv hat hrg1 hlt hg1 hs1 hen
      obtain ⟨hwx, hkl, hc⟩ := came (unhide Hrep) (x := (x1, x2, x3)) (y := (y1, y2)) hkey hv hat
      have hhas : Maps.has D (rowLit (x1, x2, x3)) = true := by rw [← hkl]; exact has_true_of_atKey hat
      have hnd : ¬ doneOf D left (x1, x2, x3) := fun h => by have h2 := h.2; rw [hkl] at hlk; rw [hlk] at h2; cases h2
      have hH' := ((unhide HH).step hwx hnd).congr (done_step hwx hhas)
      rw [← hkl] at hH'
      have hbf := (unhide Hbf) _ hwx
      have hbg := (unhide Hbg) _ hwx
      have hhx := (unhide HH).no _ hwx hnd
      have hx1 : -1000000 ≤ h (x1, x2, x3) := by omega
      have hx2 : h (x1, x2, x3) ≤ 1000000 := by omega
      have hx3 : -1000000 ≤ c := by omega
      have hx4 : c ≤ 1000000 := by omega
      have Hc := hide hc
      clear hc hhx hbf hbg
      have hsz1 : w.heap.size ≤ w1.heap.size := Nat.le_trans (unhide HB).size hg1.size
      have hB1 : w.grownBy w1 (some mb) := (unhide HB).andThen hg1 (fun j e => by cases e; exact Or.inl (Nat.le_refl _))
      have hBW : w.grownBy (w1.alloc (.cells #[.int .i64 x1, .int .i64 x2, .int .i64 x3] 62)) (some mb) := hB1.andThen (World.grownBy_alloc _ _ none) (fun j e => by cases e)
      have hWW : WMap (w1.alloc (.cells #[.int .i64 x1, .int .i64 x2, .int .i64 x3] 62)) mb N h := ((unhide HW).kept (hg1.block _ (unhide HW).lt (by simp; omega))).kept (Below.heap_alloc _ _ _ (by omega))
      have c1 : w1.cell? ⟨rb, 1, none⟩ = some (.map (some mb)) := by rw [World.cell?_of_block (a := ⟨rb, 1, none⟩) (hB1.block rb hrl (by simpa using hrm))]; exact cell_of_heap (unhide Hr) 1
      have hne : ¬ rb = w1.heap.size := by omega
      have hne2 : rb < w1.heap.size := by omega
      have hq' : (w1.alloc (.cells #[.int .i64 x1, .int .i64 x2, .int .i64 x3] 62)).ranges Tryz.prog 62 (plainElem Tryz.prog 2) cb w.heap.size m D (fun z => left z && !z.sameKey kl) cnt1 := hrg1.alloc _
      have Hq := hide hq'
      have Hrg := hide hrg
      have HBW := hide hBW
      have HH' := hide hH'
      have HWW := hide hWW
      have Hlt := hide hlt
      clear hkey hlk hv hat hrg1 hrg hg1 hs1 hBW hkl hH' hq' hnd hWW hB1 hlt
      go_wp2
      have kE : (w1.alloc (.cells #[.int .i64 x1, .int .i64 x2, .int .i64 x3] 62)).heap[w1.heap.size]? = some (.cells #[.int .i64 x1, .int .i64 x2, .int .i64 x3] 62 (0, 0)) := heap_last w1 _ _ rfl
      have c1' : (w1.alloc (.cells #[.int .i64 x1, .int .i64 x2, .int .i64 x3] 62)).cell? ⟨rb, 1, none⟩ = some (.map (some mb)) := by rw [World.cell?_of_block (a := ⟨rb, 1, none⟩) (Below.heap_alloc _ _ _ (by omega))]; exact c1
      have hsW : w1.heap.size < (w1.alloc (.cells #[.int .i64 x1, .int .i64 x2, .int .i64 x3] 62)).heap.size := by simp
      clear hen c1
      generalize w1.alloc (.cells #[.int .i64 x1, .int .i64 x2, .int .i64 x3] 62) = W at *
      have e0 : W.cell? ⟨w1.heap.size, 0, none⟩ = some (.int .i64 x1) := cell_of_heap kE 0
      have e1 : W.cell? ⟨w1.heap.size, 1, none⟩ = some (.int .i64 x2) := cell_of_heap kE 1
      have e2 : W.cell? ⟨w1.heap.size, 2, none⟩ = some (.int .i64 x3) := cell_of_heap kE 2
      clear kE
      go_region_held3 (fun W' => W'.cell? ⟨rb, 1, none⟩ = some (.map (some mb)) ∧ W'.cell? ⟨w1.heap.size, 0, none⟩ = some (.int .i64 x1) ∧ W'.cell? ⟨w1.heap.size, 1, none⟩ = some (.int .i64 x2) ∧ W'.cell? ⟨w1.heap.size, 2, none⟩ = some (.int .i64 x3))
        (first
          | go_keep
          | (go_split_ands; refine ⟨?_, ?_, ?_, ?_⟩ <;> (rw [World.cell?_of_block (hg2.block _ (by simp; omega) (by simp; omega))]; assumption)))
        (first
          | (go_at_call 32; refine (add_agg mb N h x1 x2 x3 c _ ?_ (by omega) hwx hx1 hx2 hx3 hx4).mono ?_; exact (unhide HWW); rintro e w2 ⟨rfl, hm2, hg2⟩))
      have hg2' : W.grownBy w2 (some mb) := ⟨hg2.os, hg2.tape, hg2.output, hg2.size, hg2.block⟩
      have hR := (unhide Hq).kept hg2' (by simpa using hcm) (by simp; omega)
      have HR := hide hR
      have Hg2 := hide hg2'
      have Hm2 := hide hm2
      clear hR hg2 hg2' hm2 e0 e1 e2 c1'
      go_wp2
      refine ⟨⟨_, cnt1, N + 1, _, unhide HR, (unhide HBW).andThen (unhide Hg2) (fun j e => Or.inr e), unhide Hm2, ?_, by have := unhide Hlt; omega⟩, ?_⟩
      · rw [unhide Hc]; exact unhide HH'
      · rw [(unhide HR).left_eq, (unhide Hrg).left_eq]; exact unhide Hlt

end Go.Proofs.YtoifcnidhfnapaaGreat
