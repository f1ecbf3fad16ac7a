import Derived.Test.YtgddkjhknlgbbaaGreatDoorM05
set_option linter.unusedVariables false
set_option linter.unusedSimpArgs false

namespace Go.Proofs.YtgddkjhknlgbbaaGreatDoor
set_option linter.unusedVariables false
set_option linter.unusedSimpArgs false
open Go.RowKit Go.Maps
attribute [local go_sem ↓] Go.wp_at_zero Go.wp_at_succ

/-- With the change added, each weight is one that may be. -/
def FitsW (f g : Row → Int) : Prop := ∀ r, WfRow r → g r ≠ 0 → -1000 ≤ f r + g r ∧ f r + g r ≤ 1000

/-- With the change added, there are no more rows than may be. -/
def FitsR (f g : Row → Int) : Prop := ∃ G : List Row, G.length ≤ 16 ∧ ∀ r, WfRow r → f r + g r ≠ 0 → r ∈ G

set_option maxRecDepth 100000 in
set_option maxHeartbeats 1000000 in
/-- WeightsFit, whatever it is asked. -/
theorem fit_gen (rb mb ar n cb m : Nat) (f g : Row → Int) (w : World) (hr : w.heap[rb]? = some (.cells #[.int .i64 ar, .map (some mb)] 122 (0, 0))) (hf : WMap w mb n f) (hg : WMap w cb m g)
    (hbf : ∀ r, WfRow r → -1000000 ≤ f r ∧ f r ≤ 1000000) (hbg : ∀ r, WfRow r → -1000000 ≤ g r ∧ g r ≤ 1000000) :
    Calls Tryz.prog 67 #[.pointer (some ⟨rb, 0, none⟩), .map (some cb)] w fun e w' => ∃ b : Bool, e = .returned (.bool b) ∧ (b = true ↔ FitsW f g) ∧ Below w.heap.size w w' := by
  obtain ⟨D, hown, hrep⟩ := hg
  have Hr := hide hr
  have Hf := hide hf
  have Hrep := hide hrep
  have Hbf := hide hbf
  have Hbg := hide hbg
  have hrl : rb < w.heap.size := (Array.getElem?_eq_some_iff.1 hr).1
  have hml : mb < w.heap.size := hf.lt
  clear hr hf hrep hbf hbg
  go_enter Tryz.func67, Tryz.ntmps67
  go_wp2_with (first
    | (at_range; refine wpList_range_own _ rfl _ 81 rfl 127 3 law60 Tryz.underlying81 _ cb m D rfl hown ?_; intro w0 hrg0 hg0 hs0)
    | go_in)
  go_frame
  go_loopw [10] (fun _ wr => ∃ left cnt, wr.ranges Tryz.prog 127 (plainElem Tryz.prog 3) cb w.heap.size m D left cnt ∧ Below w.heap.size w wr ∧ ∀ r, WfRow r → Maps.has D (rowLit r) = true → left (rowLit r) = false → -1000 ≤ f r + g r ∧ f r + g r ≤ 1000) (fun _ wr => wr.rangeLeft cb w.heap.size)
  case atStart => exact ⟨_, _, hrg0, (Below.refl _ _).grown hg0 (Nat.le_refl _) (fun k e => by cases e), fun r _ h1 h2 => by rw [h1] at h2; cases h2⟩
  case round =>
    obtain ⟨left, cnt, hrg, hB, hD⟩ := hrel
    have HB := hide hB
    have HD := hide hD
    clear hB hD
    go_wp2_with (first
      | (at_next; refine wpList_next_ranges _ rfl _ rfl 127 law60 (plainElem Tryz.prog 3) (fun x : Row => .agg #[.int .i64 x.1, .int .i64 x.2.1, .int .i64 x.2.2]) (Value.int .i64) invRow invInt cb w.heap.size m D left cnt rfl hrg ?_ ?_)
      | go_in)
    · intro _ hl0
      go_wp2
      go_ret
      exact ⟨true, rfl, ⟨fun _ r hr h0 => (unhide HD) r hr (((unhide Hrep).has_ r hr).2 h0) (hl0 _), fun _ => rfl⟩, unhide HB⟩
    · intro x1 x2 x3 c kl y1 y2 w1 cnt1 hkey hlk hv hat hrg1 hlt hg1 hs1 hen
      obtain ⟨hwx, hkl, hc⟩ := came (unhide Hrep) (x := (x1, x2, x3)) (y := (y1, y2)) hkey hv hat
      have hhas : Maps.has D (rowLit (x1, x2, x3)) = true := by rw [← hkl]; exact has_true_of_atKey hat
      have hnz : g (x1, x2, x3) ≠ 0 := ((unhide Hrep).has_ _ hwx).1 hhas
      have hD1 : (-1000 ≤ f (x1, x2, x3) + g (x1, x2, x3) ∧ f (x1, x2, x3) + g (x1, x2, x3) ≤ 1000) → ∀ r, WfRow r → Maps.has D (rowLit r) = true → (left (rowLit r) && !(rowLit r).sameKey kl) = false → -1000 ≤ f r + g r ∧ f r + g r ≤ 1000 := by
        intro hx r hr h1 h2
        by_cases e : r = (x1, x2, x3)
        · subst e; exact hx
        · have hs : (rowLit r).sameKey kl = false := by rw [hkl]; exact sameKey_ne (fun e' => e (rowLit_inj hr hwx e'))
          rw [hs] at h2
          exact (unhide HD) r hr h1 (by simpa using h2)
      have hno : ¬ (-1000 ≤ f (x1, x2, x3) + g (x1, x2, x3) ∧ f (x1, x2, x3) + g (x1, x2, x3) ≤ 1000) → ¬ FitsW f g := fun h k => h (k _ hwx hnz)
      have HD1 := hide hD1
      have Hno := hide hno
      have hbf := (unhide Hbf) _ hwx
      have hbg := (unhide Hbg) _ hwx
      have hB1 : Below w.heap.size w w1 := (unhide HB).grown hg1 (unhide HB).size (fun k e => by cases e; exact Nat.le_refl _)
      have hBW : Below w.heap.size w (w1.alloc (.cells #[.int .i64 x1, .int .i64 x2, .int .i64 x3] 127)) := hB1.alloc hB1.size _
      have hfW : WMap (w1.alloc (.cells #[.int .i64 x1, .int .i64 x2, .int .i64 x3] 127)) mb n f := (unhide Hf).kept (hBW.block _ hml)
      have hrun : ∀ q, (Instr.lookup 81 (.map (some mb)) (.agg #[.int .i64 x1, .int .i64 x2, .int .i64 x3]) false).run Tryz.prog ((w1.alloc (.cells #[.int .i64 x1, .int .i64 x2, .int .i64 x3] 127)).drewN q) = .ok (.int .i64 (f (x1, x2, x3))) ((w1.alloc (.cells #[.int .i64 x1, .int .i64 x2, .int .i64 x3] 127)).drewN q) :=
        fun q => WMap.look (x := (x1, x2, x3)) (hfW.drewN q) hwx
      have c1 : w1.cell? ⟨rb, 1, none⟩ = some (.map (some mb)) := by rw [hB1.cell (p := ⟨rb, 1, none⟩) hrl]; exact cell_of_heap (unhide Hr) 1
      have hne : ¬ rb = w1.heap.size := by have := hB1.size; omega
      have hne2 : rb < w1.heap.size := by have := hB1.size; omega
      have Hrg1 := hide hrg1
      have Hrg := hide hrg
      have Hg1 := hide hg1
      have HBW := hide hBW
      generalize hfx : f (x1, x2, x3) = fx at *
      generalize hgx : g (x1, x2, x3) = gx at *
      subst hc
      have Hlt := hide hlt
      clear hkey hlk hv hat hrg1 hrg hg1 hs1 hB1 hBW hfW hfx hgx hkl hhas hnz hD1 hno hlt
      by_cases t1 : fx + c < -1000
      · go_wp2
        go_quiet (fail)
        go_wp2
        go_ret
        exact ⟨false, rfl, ⟨fun h => (by cases h), fun h => absurd h ((unhide Hno) (by omega))⟩, (unhide HBW).trans ((Drawn.ofN _ _).below _)⟩
      · by_cases t2 : 1000 < fx + c
        · go_wp2
          go_quiet (fail)
          go_wp2
          go_ret
          exact ⟨false, rfl, ⟨fun h => (by cases h), fun h => absurd h ((unhide Hno) (by omega))⟩, (unhide HBW).trans ((Drawn.ofN _ _).below _)⟩
        · go_wp2
          go_quiet (fail)
          go_wp2
          have hq := ((unhide Hrg1).alloc (.cells #[.int .i64 x1, .int .i64 x2, .int .i64 x3] 127))
          have hq' : ((w1.alloc (.cells #[.int .i64 x1, .int .i64 x2, .int .i64 x3] 127)).drewN nq).ranges Tryz.prog 127 (plainElem Tryz.prog 3) cb w.heap.size m D (fun z => left z && !z.sameKey kl) cnt1 := hq
          refine ⟨⟨_, _, hq', (unhide HBW).trans ((Drawn.ofN _ _).below _), (unhide HD1) (by omega)⟩, ?_⟩
          rw [hq'.left_eq, (unhide Hrg).left_eq]
          exact unhide Hlt

end Go.Proofs.YtgddkjhknlgbbaaGreatDoor

namespace Go.Proofs.YtgddkjhknlgbbaaGreatDoor
set_option linter.unusedVariables false
set_option linter.unusedSimpArgs false
open Go.RowKit Go.Maps
attribute [local go_sem ↓] Go.wp_at_zero Go.wp_at_succ

/-- What ends a call is a bool that tells whether P. -/
def BoolSaid (e : Ending) (P : Prop) : Prop := ∃ b : Bool, e = .returned (.bool b) ∧ (b = true ↔ P)

/-- As many rows as the map has entries, and no other has a weight. -/
theorem size_rows {D : DataW Unit} {h : Row → Int} (hT : Tidy D) (hK : Keyish D) (hr : Rep D h) : ∃ G : List Row, G.length = Maps.size D ∧ ∀ r, WfRow r → h r ≠ 0 → r ∈ G := by
  obtain ⟨es, rfl, hp⟩ := hT
  have hk := hK es rfl
  have hx : ∀ p ∈ es, ∃ r, WfRow r ∧ p.1 = rowLit r := fun p hpm => hr.keys _ (has_of_mem hpm (hk p hpm))
  have hG : ∀ es' : List (Lit × DataW Unit), (∀ p ∈ es', ∃ r, WfRow r ∧ p.1 = rowLit r) → ∃ G : List Row, G.length = es'.length ∧ ∀ p ∈ es', ∃ r ∈ G, WfRow r ∧ p.1 = rowLit r := by
    intro es'
    induction es' with
    | nil => intro _; exact ⟨[], rfl, fun p hp => by simp at hp⟩
    | cons q qs ih =>
      intro h
      obtain ⟨G, h1, h2⟩ := ih (fun p hp => h p (List.mem_cons_of_mem _ hp))
      obtain ⟨r, h3, h4⟩ := h q List.mem_cons_self
      refine ⟨r :: G, by simp [h1], fun p hp => ?_⟩
      rcases List.mem_cons.1 hp with rfl | hp
      · exact ⟨r, by simp, h3, h4⟩
      · obtain ⟨r', h5, h6⟩ := h2 p hp
        exact ⟨r', by simp [h5], h6⟩
  obtain ⟨G, h1, h2⟩ := hG es hx
  refine ⟨G, by rw [h1]; simp [size_eq], fun r hw h0 => ?_⟩
  have hh := (hr.has_ r hw).2 h0
  rw [has_eq] at hh
  obtain ⟨p, hp1, hp2⟩ := List.any_eq_true.1 hh
  obtain ⟨r', h3, h4, h5⟩ := h2 p hp1
  have e : p.1 = rowLit r := WideAt.sameKey_eq hp2
  rw [e] at h5
  rw [rowLit_inj hw h4 h5]
  exact h3

set_option maxRecDepth 100000 in
set_option maxHeartbeats 1000000 in
/-- RowsFit, whatever it is asked. -/
theorem rows_gen (rb mb ar n cb m : Nat) (f g : Row → Int) (w : World) (hr : w.heap[rb]? = some (.cells #[.int .i64 ar, .map (some mb)] 122 (0, 0))) (hf : WMap w mb n f) (hg : WMap w cb m g) (hnm : n + m ≤ 1000000000)
    (hbf : ∀ r, WfRow r → -1000000 ≤ f r ∧ f r ≤ 1000000) (hbg : ∀ r, WfRow r → -1000000 ≤ g r ∧ g r ≤ 1000000) :
    Calls Tryz.prog 68 #[.pointer (some ⟨rb, 0, none⟩), .map (some cb)] w fun e w' => BoolSaid e (FitsR f g) ∧ Below w.heap.size w w' := by
  have Hf := hide hf
  obtain ⟨Df, hownf, hrepf⟩ := hf
  obtain ⟨D, hown, hrep⟩ := hg
  have Hr := hide hr
  have Hrepf := hide hrepf
  have Hrep := hide hrep
  have Hbf := hide hbf
  have Hbg := hide hbg
  have hrl : rb < w.heap.size := (Array.getElem?_eq_some_iff.1 hr).1
  have hml : mb < w.heap.size := hownf.lt
  have d1 : w.cell? ⟨rb, 1, none⟩ = some (.map (some mb)) := cell_of_heap hr 1
  have HP := hide (Part.start (Dg := D) (g := g) (hownf.tidy law60) (own_keyish hownf) hrepf)
  have hsz := hownf.size_le
  have hszg := hown.size_le
  clear hr hrep hrepf hbf hbg
  go_enter Tryz.func68, Tryz.ntmps68
  go_wp2_with (first
    | (at_len; refine wpList_len_own _ rfl _ 81 rfl 127 3 Tryz.underlying81 _ mb n Df rfl hownf ?_)
    | (at_range; refine wpList_range_own _ rfl _ 81 rfl 127 3 law60 Tryz.underlying81 _ cb m D rfl hown ?_; intro w0 hrg0 hg0 hs0)
    | go_in)
  go_frame
  go_loopw [5] (fun t wr => ∃ left cnt Dk, wr.ranges Tryz.prog 127 (plainElem Tryz.prog 3) cb w.heap.size m D left cnt ∧ Below w.heap.size w wr ∧ Part Dk f g (doneOf D left) ∧ Maps.size Dk + cnt ≤ n + m ∧ t = .int .i64 (Maps.size Dk)) (fun _ wr => wr.rangeLeft cb w.heap.size)
  case atStart => exact ⟨_, _, Df, hrg0, (Below.refl _ _).grown hg0 (Nat.le_refl _) (fun k e => by cases e), unhide HP, by omega, rfl⟩
  case round =>
    obtain ⟨left, cnt, Dk, hrg, hB, hP, hcnt, rfl⟩ := hrel
    have HB := hide hB
    have HPk := hide hP
    clear hB hP
    obtain ⟨sz, hsk⟩ : ∃ sz, sz = Maps.size Dk := ⟨_, rfl⟩
    rw [← hsk] at hcnt ⊢
    have Hsk := hide hsk
    clear hsk
    go_wp2_with (first
      | (at_next; refine wpList_next_ranges _ rfl _ rfl 127 law60 (plainElem Tryz.prog 3) (fun x : Row => .agg #[.int .i64 x.1, .int .i64 x.2.1, .int .i64 x.2.2]) (Value.int .i64) invRow invInt cb w.heap.size m D left cnt rfl hrg ?_ ?_)
      | go_in)
    · intro _ hl0
      have hle : sz ≤ 16 ↔ FitsR f g := by
        obtain ⟨k, hk, hkv⟩ := (unhide HPk).end_ (unhide Hrep) hl0
        have hT := (unhide HPk).tidy
        have hKy := (unhide HPk).keyish
        rw [unhide Hsk]
        constructor
        · intro h16
          obtain ⟨G, hG1, hG2⟩ := size_rows hT hKy hk
          exact ⟨G, by omega, fun r hr h0 => hG2 r hr (by rw [hkv r hr]; exact h0)⟩
        · rintro ⟨G, hG1, hG2⟩
          have h := size_le hT hKy hk G (fun r hw h0 => hG2 r hw (by rw [← hkv r hw]; exact h0))
          omega
      have Hle := hide hle
      clear hle
      by_cases h16 : sz ≤ 16
      · have hi16 : (sz : Int) ≤ 16 := by omega
        have H16 := hide h16
        clear h16
        go_wp2
        go_ret
        exact ⟨⟨true, by simp [hi16], ⟨fun _ => (unhide Hle).1 (unhide H16), fun _ => rfl⟩⟩, unhide HB⟩
      · have hi16 : ¬ (sz : Int) ≤ 16 := by omega
        have H16 := hide h16
        clear h16
        go_wp2
        go_ret
        exact ⟨⟨false, by simp [hi16], ⟨fun h => (by cases h), fun h => absurd ((unhide Hle).2 h) (unhide H16)⟩⟩, unhide HB⟩
    · intro x1 x2 x3 c kl y1 y2 w1 cnt1 hkey hlk hv hat hrg1 hlt hg1 hs1 hen
      obtain ⟨hwx, hkl, hc⟩ := came (unhide Hrep) (x := (x1, x2, x3)) (y := (y1, y2)) hkey hv hat
      have hhas : Maps.has D (rowLit (x1, x2, x3)) = true := by rw [← hkl]; exact has_true_of_atKey hat
      have hnz : g (x1, x2, x3) ≠ 0 := ((unhide Hrep).has_ _ hwx).1 hhas
      have hnd : ¬ doneOf D left (x1, x2, x3) := fun h => by have h2 := h.2; rw [hkl] at hlk; rw [hlk] at h2; cases h2
      obtain ⟨D', hP', s1, s2, s3⟩ := (unhide HPk).step hwx hnd
      have hP'' := hP'.congr (done_step hwx hhas)
      rw [← hkl] at hP''
      rw [← unhide Hsk] at s1 s2 s3
      have hbf := (unhide Hbf) _ hwx
      have hbg := (unhide Hbg) _ hwx
      have hB1 : Below w.heap.size w w1 := (unhide HB).grown hg1 (unhide HB).size (fun k e => by cases e; exact Nat.le_refl _)
      have hBW : Below w.heap.size w (w1.alloc (.cells #[.int .i64 x1, .int .i64 x2, .int .i64 x3] 127)) := hB1.alloc hB1.size _
      have hfW : WMap (w1.alloc (.cells #[.int .i64 x1, .int .i64 x2, .int .i64 x3] 127)) mb n f := (unhide Hf).kept (hBW.block _ hml)
      have hrun : ∀ q, (Instr.lookup 81 (.map (some mb)) (.agg #[.int .i64 x1, .int .i64 x2, .int .i64 x3]) false).run Tryz.prog ((w1.alloc (.cells #[.int .i64 x1, .int .i64 x2, .int .i64 x3] 127)).drewN q) = .ok (.int .i64 (f (x1, x2, x3))) ((w1.alloc (.cells #[.int .i64 x1, .int .i64 x2, .int .i64 x3] 127)).drewN q) :=
        fun q => WMap.look (x := (x1, x2, x3)) (hfW.drewN q) hwx
      have c1 : w1.cell? ⟨rb, 1, none⟩ = some (.map (some mb)) := by rw [hB1.cell (p := ⟨rb, 1, none⟩) hrl]; exact cell_of_heap (unhide Hr) 1
      have hne : ¬ rb = w1.heap.size := by have := hB1.size; omega
      have hne2 : rb < w1.heap.size := by have := hB1.size; omega
      have hq' : ∀ nq, ((w1.alloc (.cells #[.int .i64 x1, .int .i64 x2, .int .i64 x3] 127)).drewN nq).ranges Tryz.prog 127 (plainElem Tryz.prog 3) cb w.heap.size m D (fun z => left z && !z.sameKey kl) cnt1 := fun _ => hrg1.alloc _
      have Hq := hide hq'
      have Hrg := hide hrg
      have HBW := hide hBW
      have HP'' := hide hP''
      generalize hfx : f (x1, x2, x3) = fx at *
      generalize hgx : g (x1, x2, x3) = gx at *
      subst hc
      clear hkey hlk hv hat hrg1 hrg hg1 hs1 hB1 hBW hfW hfx hgx hkl hP' hP'' hq' hnd
      obtain ⟨sz', hS'⟩ : ∃ sz', sz' = Maps.size D' := ⟨_, rfl⟩
      rw [← hS'] at s1 s2 s3
      have HS' := hide hS'
      clear hS'
      have Hlt := hide hlt
      by_cases h0 : fx = 0
      · have b1 : (fx == 0) = true := by simp [h0]
        have b2 : (c != 0) = true := by simpa using hnz
        have hsz' : Hid (sz' = sz + 1) := s1 (by omega) h0
        clear s1 s2 s3 h0 hnz
        go_wp2
        go_quiet (fail)
        go_wp2
        refine ⟨⟨_, cnt1, D', (unhide Hq) _, (unhide HBW).trans ((Drawn.ofN _ _).below _), unhide HP'', by rw [← unhide HS']; have := unhide hsz'; omega, ?_⟩, ?_⟩
        · rw [← unhide HS']; exact congrArg (Value.int .i64) (by have := unhide hsz'; omega)
        · rw [((unhide Hq) _).left_eq, (unhide Hrg).left_eq]
          exact unhide Hlt
      · by_cases h1 : fx + c = 0
        · have b1 : (fx == 0) = false := by simp [h0]
          have b2 : (fx != 0) = true := by simp [h0]
          have b3 : (fx + c == 0) = true := by simp [h1]
          have hsz' : Hid (sz' + 1 = sz) := s3 h1 h0
          clear s1 s2 s3 h0 h1 hnz
          go_wp2
          go_quiet (fail)
          go_wp2
          refine ⟨⟨_, cnt1, D', (unhide Hq) _, (unhide HBW).trans ((Drawn.ofN _ _).below _), unhide HP'', by rw [← unhide HS']; have := unhide hsz'; omega, ?_⟩, ?_⟩
          · rw [← unhide HS']; exact congrArg (Value.int .i64) (by have := unhide hsz'; omega)
          · rw [((unhide Hq) _).left_eq, (unhide Hrg).left_eq]
            exact unhide Hlt
        · have b1 : (fx == 0) = false := by simp [h0]
          have b2 : (fx != 0) = true := by simp [h0]
          have b3 : (fx + c == 0) = false := by simp [h1]
          have hsz' : Hid (sz' = sz) := s2 h1 h0
          clear s1 s2 s3 h0 h1 hnz
          go_wp2
          go_quiet (fail)
          go_wp2
          refine ⟨⟨_, cnt1, D', (unhide Hq) _, (unhide HBW).trans ((Drawn.ofN _ _).below _), unhide HP'', by rw [← unhide HS']; have := unhide hsz'; omega, ?_⟩, ?_⟩
          · rw [← unhide HS']; exact congrArg (Value.int .i64) (by have := unhide hsz'; omega)
          · rw [((unhide Hq) _).left_eq, (unhide Hrg).left_eq]
            exact unhide Hlt

end Go.Proofs.YtgddkjhknlgbbaaGreatDoor

namespace Go.Proofs.YtgddkjhknlgbbaaGreatDoor
set_option linter.unusedVariables false
set_option linter.unusedSimpArgs false
open Go.RowKit Go.Maps
attribute [local go_sem ↓] Go.wp_at_zero Go.wp_at_succ

theorem keyOf_str_inv {v : Value} {l : Lit} (h : keyOf Tryz.prog 9 v = some l) : ∃ s, v = .string s ∧ l = strLit s ∧ s.size ≤ maxLen := by
  simp only [keyOf, Tryz.underlying9] at h
  cases v <;> simp [mapKey, Tryz.underlying9] at h
  obtain ⟨h1, rfl⟩ := h
  exact ⟨_, rfl, rfl, h1⟩

theorem invStr : ∀ key kl, keyOf Tryz.prog 9 key = some kl → ∃ s, key = Value.string s := by
  intro key kl h
  obtain ⟨s, hs, _⟩ := keyOf_str_inv h
  exact ⟨s, hs⟩
theorem invMap : ∀ v y, mapElem v = some y → ∃ o : Option Nat, v = Value.map o := by
  intro v y h
  unfold mapElem at h
  split at h
  · exact ⟨_, rfl⟩
  · exact ⟨_, rfl⟩
  · cases h

/-- What a batch's changes are beside the relations, whether they fit or not. -/
def ChBase (st : St) (ch : Ch) (n : Nat) : Prop := ∀ nm p, ch nm = some p → nm.size ≤ maxLen ∧ ∃ R, st nm = some R ∧ R.n + n ≤ 1000000000 ∧
  (∀ r, WfRow r → -1000 ≤ R.f r ∧ R.f r ≤ 1000) ∧ (∀ r, WfRow r → -100000 ≤ p.2 r ∧ p.2 r ≤ 100000)
def AllW (st : St) (ch : Ch) : Prop := ∀ nm p R, ch nm = some p → st nm = some R → FitsW R.f p.2
def AllR (st : St) (ch : Ch) : Prop := ∀ nm p R, ch nm = some p → st nm = some R → FitsR R.f p.2

theorem cameCh {w : World} {D : DataW Unit} {ch : Ch} (hhas : ∀ nm, nm.size ≤ maxLen → Maps.has D (strLit nm) = (ch nm).isSome) (hat0 : ∀ nm p, nm.size ≤ maxLen → ch nm = some p → ∀ zd, D.atKey (strLit nm) zd = .lit (.int .i64 p.1))
    {s : ByteArray} {o : Option Nat} {kl : Lit} {y : DataW Unit × List MemPlace} (hkey : keyOf Tryz.prog 9 (.string s) = some kl) (hv : mapElem (.map o) = some y) (hat : ∀ zd, D.atKey kl zd = y.1) :
    s.size ≤ maxLen ∧ kl = strLit s ∧ ∃ p, ch s = some p ∧ o = some p.1 := by
  obtain ⟨s', e, rfl, hs⟩ := keyOf_str_inv hkey
  cases e
  have h1 := hhas s hs
  rw [has_true_of_atKey hat] at h1
  cases hc : ch s with
  | none => rw [hc] at h1; cases h1
  | some p =>
    have h2 := hat0 s p hs hc .nil
    rw [hat] at h2
    have h3 : mapElem (.map o) = some (.lit (.int .i64 p.1), y.2) := by rw [hv, ← h2]
    have h4 := mapElem_inv h3
    cases h4
    exact ⟨hs, rfl, p, rfl, rfl⟩

set_option maxRecDepth 100000 in
set_option maxHeartbeats 1000000 in
theorem chg_gen (w : World) {eb db nD S E cb B n : Nat} {st : St} {ch : Ch} (hE : EngRep w eb db nD S E st) (hC : ChgRep w cb B n ch) (hbase : ChBase st ch n) :
    Calls Tryz.prog 34 #[.pointer (some ⟨eb, 0, none⟩), .map (some cb)] w fun e w' => ∃ c : Int, e = .returned (.int .i64 c) ∧ (c = 9 ∧ ¬ AllW st ch ∨ c = 10 ∧ AllW st ch ∧ ¬ AllR st ch ∨ c = 0 ∧ AllW st ch ∧ AllR st ch) ∧ Below w.heap.size w w' := by
  obtain ⟨D, hown, hhas, hat0⟩ := hC.dir
  have HE := hide hE
  have HC := hide hC
  have Hbase := hide hbase
  have Hhas := hide hhas
  have Hat := hide hat0
  have c0 : w.cell? ⟨eb, 0, none⟩ = some (.map (some db)) := hE.c0
  have hel : eb < w.heap.size := by have := hE.inn; have := hE.top; omega
  clear hE hC hbase hhas hat0
  go_enter Tryz.func34, Tryz.ntmps34
  go_wp2_with (first
    | (at_range; refine wpList_range_own _ rfl _ 77 rfl 9 81 law9 Tryz.underlying77 _ cb n D rfl hown ?_; intro w0 hrg0 hg0 hs0)
    | go_in)
  go_frame
  go_loopw [11] (fun _ wr => ∃ left cnt, wr.ranges Tryz.prog 9 mapElem cb w.heap.size n D left cnt ∧ Below w.heap.size w wr ∧ ∀ nm p R, ch nm = some p → st nm = some R → left (strLit nm) = false → FitsW R.f p.2) (fun _ wr => wr.rangeLeft cb w.heap.size)
  case atStart => exact ⟨_, _, hrg0, (Below.refl _ _).grown hg0 (Nat.le_refl _) (fun k e => by cases e), fun nm p R hp hR hl => by rw [(unhide Hhas) nm ((unhide Hbase) nm p hp).1, hp] at hl; cases hl⟩
  case round =>
    obtain ⟨left, cnt, hrg, hB, hF⟩ := hrel
    have HB := hide hB
    have HF := hide hF
    clear hB hF
    go_wp2_with (first
      | (at_next; refine wpList_next_ranges _ rfl _ rfl 9 law9 mapElem Value.string Value.map invStr invMap cb w.heap.size n D left cnt rfl hrg ?_ ?_)
      | go_in)
    · intro _ hl0
      obtain ⟨wo, hwo⟩ : ∃ wo, wo = wr := ⟨_, rfl⟩
      subst hwo
      have HW : Hid (AllW st ch) := fun nm p R hp hR => (unhide HF) nm p R hp hR (hl0 _)
      have hownB : wo.ownsMap Tryz.prog 9 mapElem cb n D := hrg.owns
      have HhB := hide hownB.lt
      have hBs := (unhide HB).size
      have c0r : wo.cell? ⟨eb, 0, none⟩ = some (.map (some db)) := by rw [(unhide HB).cell (p := ⟨eb, 0, none⟩) hel]; exact c0
      clear hrg hrg0 hg0 hs0 HF
      go_wp2_with (first
        | (at_range; refine wpList_range_own _ rfl _ 77 rfl 9 81 law9 Tryz.underlying77 _ cb n D rfl hownB ?_; intro w0' hrg0' hg0' hs0')
        | go_in)
      go_frame
      go_loopw [27] (fun _ wq => ∃ left cnt, wq.ranges Tryz.prog 9 mapElem cb wo.heap.size n D left cnt ∧ Below wo.heap.size wo wq ∧ ∀ nm p R, ch nm = some p → st nm = some R → left (strLit nm) = false → FitsR R.f p.2) (fun _ wq => wq.rangeLeft cb wo.heap.size)
      case atStart => exact ⟨_, _, hrg0', (Below.refl _ _).grown hg0' (Nat.le_refl _) (fun k e => by cases e), fun nm p R hp hR hl => by rw [(unhide Hhas) nm ((unhide Hbase) nm p hp).1, hp] at hl; cases hl⟩
      case round =>
        obtain ⟨left', cnt', hrg, hB, hF⟩ := hrel
        have HB' := hide hB
        have HF' := hide hF
        clear hB hF
        go_wp2_with (first
          | (at_next; refine wpList_next_ranges _ rfl _ rfl 9 law9 mapElem Value.string Value.map invStr invMap cb wo.heap.size n D left' cnt' rfl hrg ?_ ?_)
          | go_in)
        · intro _ hl1
          go_wp2
          go_ret
          exact ⟨0, rfl, .inr (.inr ⟨rfl, unhide HW, fun nm p R hp hR => (unhide HF') nm p R hp hR (hl1 _)⟩), (unhide HB).trans ((unhide HB').mono hBs)⟩
        · intro s o kl y1 y2 w1 cnt1 hkey hlk hv hat hrg1 hlt hg1 hs1 hen
          obtain ⟨hs, hkl, p, hp, ho⟩ := cameCh (w := w) (unhide Hhas) (unhide Hat) (y := (y1, y2)) hkey hv hat
          subst ho
          obtain ⟨_, R, hR, hn, hf2, hf3⟩ := (unhide Hbase) s p hp
          have hB1' : Below wo.heap.size wo w1 := (unhide HB').grown hg1 (unhide HB').size (fun k e => by cases e; exact Nat.le_refl _)
          have hB1 : Below w.heap.size w w1 := (unhide HB).trans (hB1'.mono hBs)
          have hE1 := (unhide HE).below hB1
          have hrun := hE1.get hs hR
          have c1 : w1.cell? ⟨eb, 0, none⟩ = some (.map (some db)) := by rw [hB1.cell (p := ⟨eb, 0, none⟩) hel]; exact c0
          have hnext : FitsR R.f p.2 → ∀ nm q Q, ch nm = some q → st nm = some Q → (left' (strLit nm) && !(strLit nm).sameKey kl) = false → FitsR Q.f q.2 := by
            intro hf nm q Q hq hQ hl
            by_cases e : nm = s
            · subst e; rw [hp] at hq; rw [hR] at hQ; cases hq; cases hQ; exact hf
            · rw [hkl, sameKey_ne (fun e' => e (strLit_inj e'))] at hl
              exact (unhide HF') nm q Q hq hQ (by simpa using hl)
          have Hnext := hide hnext
          have Hbad : Hid (¬ FitsR R.f p.2 → ¬ AllR st ch) := fun h k => h (k s p R hp hR)
          have Hrel := hide (hE1.rel s R hR)
          have Hp := hide (((unhide HC).below hB1).each s p hp).1
          have Hrg1 := hide hrg1
          have Hrg := hide hrg
          have HB1 := hide hB1'
          have Hlt := hide hlt
          have Hf2 := hide hf2
          have Hf3 := hide hf3
          clear hkey hlk hv hat hrg1 hrg hg1 hs1 hkl hlt hE1 hR hB1 hB1' hf2 hf3 hp hnext
          go_wp2_with fail
          refine (rows_gen R.rb R.mb R.ar R.n p.1 n R.f p.2 _ (unhide Hrel).1 (unhide Hrel).2 (unhide Hp) hn (fun r hr => by have := (unhide Hf2) r hr; omega) (fun r hr => by have := (unhide Hf3) r hr; omega)).mono ?_
          rintro e w2 ⟨⟨b, rfl, hbi⟩, hb2⟩
          have Hbi := hide hbi
          have Hb2 := hide hb2
          clear hbi hb2
          cases b with
          | false =>
            go_wp2
            go_ret
            exact ⟨10, rfl, .inr (.inl ⟨rfl, unhide HW, (unhide Hbad) (fun h => by have := (unhide Hbi).2 h; cases this)⟩), (unhide HB).trans (((unhide HB1).trans ((unhide Hb2).mono (unhide HB1).size)).mono hBs)⟩
          | true =>
            go_wp2
            have hR2 := (unhide Hrg1).kept (below_grown (unhide Hb2) none) (by simp) (by simp)
            refine ⟨⟨_, cnt1, hR2, (unhide HB1).trans ((unhide Hb2).mono (unhide HB1).size), (unhide Hnext) ((unhide Hbi).1 (by simp))⟩, ?_⟩
            rw [hR2.left_eq, (unhide Hrg).left_eq]
            exact unhide Hlt
    · intro s o kl y1 y2 w1 cnt1 hkey hlk hv hat hrg1 hlt hg1 hs1 hen
      obtain ⟨hs, hkl, p, hp, ho⟩ := cameCh (w := w) (unhide Hhas) (unhide Hat) (y := (y1, y2)) hkey hv hat
      subst ho
      obtain ⟨_, R, hR, hn, hf2, hf3⟩ := (unhide Hbase) s p hp
      have hB1 : Below w.heap.size w w1 := (unhide HB).grown hg1 (unhide HB).size (fun k e => by cases e; exact Nat.le_refl _)
      have hE1 := (unhide HE).below hB1
      have hrun := hE1.get hs hR
      have c1 : w1.cell? ⟨eb, 0, none⟩ = some (.map (some db)) := by rw [hB1.cell (p := ⟨eb, 0, none⟩) hel]; exact c0
      have hnext : FitsW R.f p.2 → ∀ nm q Q, ch nm = some q → st nm = some Q → (left (strLit nm) && !(strLit nm).sameKey kl) = false → FitsW Q.f q.2 := by
        intro hf nm q Q hq hQ hl
        by_cases e : nm = s
        · subst e; rw [hp] at hq; rw [hR] at hQ; cases hq; cases hQ; exact hf
        · rw [hkl, sameKey_ne (fun e' => e (strLit_inj e'))] at hl
          exact (unhide HF) nm q Q hq hQ (by simpa using hl)
      have Hnext := hide hnext
      have Hbad : Hid (¬ FitsW R.f p.2 → ¬ AllW st ch) := fun h k => h (k s p R hp hR)
      have Hrel := hide (hE1.rel s R hR)
      have Hp := hide (((unhide HC).below hB1).each s p hp).1
      have Hrg1 := hide hrg1
      have Hrg := hide hrg
      have HB1 := hide hB1
      have Hlt := hide hlt
      have Hf2 := hide hf2
      have Hf3 := hide hf3
      clear hkey hlk hv hat hrg1 hrg hg1 hs1 hkl hlt hE1 hR hB1 hf2 hf3 hp hnext
      go_wp2_with fail
      refine (fit_gen R.rb R.mb R.ar R.n p.1 n R.f p.2 _ (unhide Hrel).1 (unhide Hrel).2 (unhide Hp) (fun r hr => by have := (unhide Hf2) r hr; omega) (fun r hr => by have := (unhide Hf3) r hr; omega)).mono ?_
      rintro e w2 ⟨b, rfl, hbi, hb2⟩
      have Hbi := hide hbi
      have Hb2 := hide hb2
      clear hbi hb2
      cases b with
      | false =>
        go_wp2
        go_ret
        exact ⟨9, rfl, .inl ⟨rfl, (unhide Hbad) (fun h => by have := (unhide Hbi).2 h; cases this)⟩, (unhide HB1).trans ((unhide Hb2).mono (unhide HB1).size)⟩
      | true =>
        go_wp2
        have hR2 := (unhide Hrg1).kept (below_grown (unhide Hb2) none) (by simp) (by simp)
        refine ⟨⟨_, cnt1, hR2, (unhide HB1).trans ((unhide Hb2).mono (unhide HB1).size), (unhide Hnext) ((unhide Hbi).1 (by simp))⟩, ?_⟩
        rw [hR2.left_eq, (unhide Hrg).left_eq]
        exact unhide Hlt

end Go.Proofs.YtgddkjhknlgbbaaGreatDoor

namespace Go.Proofs.YtgddkjhknlgbbaaGreatDoor
open Go.RowKit Go.Maps
attribute [local go_sem ↓] Go.wp_at_zero Go.wp_at_succ

/-- What checkEntry answers to an entry. -/
def Chk (st : St) (x : Ent) (c : Int) : Prop := ∀ (W : World) (v : Value) (eb db nD S E : Nat), EngRep W eb db nD S E st → IntsAt W v x.row →
  Calls Tryz.prog 32 #[.pointer (some ⟨eb, 0, none⟩), entV x v] W fun e w' => e = .returned (.int .i64 c) ∧ Below W.heap.size W w'

theorem chk_ok {st : St} {x : Ent} {R : Rel} (hn : x.nm.size ≤ maxLen) (hR : st x.nm = some R) (hl : x.row.length ≤ 1000000000) (ha : x.row.length = R.ar) (hw : -1000 ≤ x.wt ∧ x.wt ≤ 1000) : Chk st x 0 := by
  intro W v eb db nD S E hE hv
  obtain ⟨a, cap, rfl, _⟩ := hv
  exact check_ok x a cap W hE hn hR hl ha hw
theorem chk_miss {st : St} {x : Ent} (hn : x.nm.size ≤ maxLen) (hR : st x.nm = none) : Chk st x 6 := by
  intro W v eb db nD S E hE hv
  exact check_miss x v W hE hn hR
theorem chk_arity {st : St} {x : Ent} {R : Rel} (hn : x.nm.size ≤ maxLen) (hR : st x.nm = some R) (hl : x.row.length ≤ 1000000000) (ha : x.row.length ≠ R.ar) (hra : R.ar ≤ 1000000) : Chk st x 2 := by
  intro W v eb db nD S E hE hv
  obtain ⟨a, cap, rfl, _⟩ := hv
  exact check_arity x a cap W hE hn hR hl ha hra
theorem chk_weight {st : St} {x : Ent} {R : Rel} (hn : x.nm.size ≤ maxLen) (hR : st x.nm = some R) (hl : x.row.length ≤ 1000000000) (ha : x.row.length = R.ar) (hw : x.wt < -1000 ∨ 1000 < x.wt) : Chk st x 9 := by
  intro W v eb db nD S E hE hv
  obtain ⟨a, cap, rfl, _⟩ := hv
  rcases hw with hw | hw
  · exact check_light x a cap W hE hn hR hl ha hw
  · exact check_heavy x a cap W hE hn hR hl ha hw

set_option maxRecDepth 100000 in
set_option maxHeartbeats 1000000 in
/-- A batch of which entry k is the first that is wrong. -/
theorem apply_bad (v : Value) (es : List Ent) (k : Nat) (c : Int) (w : World) {eb db nD S E : Nat} {st : St} (hE : EngRep w eb db nD S E st) (hv : EntsAt w v es) (hl : es.length ≤ 64) (hk : k < es.length)
    (hok : ∀ i, i < k → Chk st (es[i]?.getD zeroEnt) 0) (hbad : Chk st (es[k]?.getD zeroEnt) c) (hc : c ≠ 0) :
    Calls Tryz.prog 15 #[.pointer (some ⟨eb, 0, none⟩), v] w fun e w' => e = .returned (.tuple #[.int .i64 c, .int .i64 k]) ∧ Below w.heap.size w w' := by
  obtain ⟨a, cap, rfl, hcs⟩ := hv
  have Hc := hide hcs
  have HE := hide hE
  have Hok := hide hok
  have Hbad := hide hbad
  have hcb : (c != 0) = true := by simpa using hc
  clear hcs hE hok hbad hc
  go_enter Tryz.func15, Tryz.ntmps15
  go_wp2
  go_loopw [18] (fun i wr => ∃ j : Nat, j ≤ k ∧ i = .int .i64 j ∧ Below w.heap.size w wr) (fun i _ => es.length - (intOf i).toNat)
  case atStart => exact ⟨0, Nat.zero_le _, rfl, Below.refl _ _⟩
  case round =>
    obtain ⟨j, hj, rfl, hB⟩ := hrel
    have hlt : j < es.length := by omega
    obtain ⟨b, o, sv, rfl, h1, h2, h3, h4⟩ := (unhide Hc) j hlt
    have hx : (j : Int) < (es.length : Int) := by omega
    have hbl : b < w.heap.size := World.block_lt_of_cell? w _ h1
    have h3c := h3
    obtain ⟨a2, cap2, rfl, _⟩ := h3c
    by_cases hjk : j = k
    · have hch := unhide Hbad
      rw [← hjk] at hch
      obtain ⟨x, hxe⟩ : ∃ x, x = es[j]?.getD zeroEnt := ⟨_, rfl⟩
      rw [← hxe] at h1 h2 h3 h4 hch
      rw [← hB.cell (p := ⟨b, _, none⟩) hbl] at h1 h2 h4
      obtain ⟨nm, row, wt⟩ := x
      dsimp only at h1 h2 h3 h4
      have hBW : Below w.heap.size w (wr.alloc (.cells #[.string nm, .slice a2 row.length cap2, .int .i64 wt] 75)) := hB.alloc hB.size _
      have H3 := hide (h3.below hBW)
      have HEW := hide ((unhide HE).below hBW)
      have HBW := hide hBW
      have Hch := hide hch
      have Hjk := hide hjk
      clear hxe hB hBW h3 hch hjk
      go_wp2_with (first
        | (go_at_call 32; refine ((unhide Hch) _ _ eb db nD S E (unhide HEW) (unhide H3)).mono ?_; rintro e w2 ⟨rfl, hb2⟩))
      go_ret2
      refine ⟨?_, (unhide HBW).trans (hb2.mono (unhide HBW).size)⟩
      rw [← unhide Hjk]
      rfl
    · have hch := (unhide Hok) j (by omega)
      obtain ⟨x, hxe⟩ : ∃ x, x = es[j]?.getD zeroEnt := ⟨_, rfl⟩
      rw [← hxe] at h1 h2 h3 h4 hch
      rw [← hB.cell (p := ⟨b, _, none⟩) hbl] at h1 h2 h4
      obtain ⟨nm, row, wt⟩ := x
      dsimp only at h1 h2 h3 h4
      have hBW : Below w.heap.size w (wr.alloc (.cells #[.string nm, .slice a2 row.length cap2, .int .i64 wt] 75)) := hB.alloc hB.size _
      have H3 := hide (h3.below hBW)
      have HEW := hide ((unhide HE).below hBW)
      have HBW := hide hBW
      have Hch := hide hch
      have hjk' : j < k := by omega
      clear hxe hB hBW h3 hch hjk
      go_wp2_with (first
        | (go_at_call 32; refine ((unhide Hch) _ _ eb db nD S E (unhide HEW) (unhide H3)).mono ?_; rintro e w2 ⟨rfl, hb2⟩))
      have Hb2 := hide hb2
      clear hb2
      go_roundw
      case rel => exact ⟨j + 1, by omega, by go_num, (unhide HBW).trans ((unhide Hb2).mono (unhide HBW).size)⟩
      case measure => simp [intOf]; omega

/-! ### a batch that is right -/

/-- Blocks outside the engine's stay as they were. -/
structure Mid (Q : Nat → Prop) (w w' : World) : Prop where
  os : w'.os = w.os
  tape : w'.tape = w.tape
  output : w'.output = w.output
  size : w.heap.size ≤ w'.heap.size
  block : ∀ k, k < w.heap.size → ¬ Q k → w'.heap[k]? = w.heap[k]?

theorem Mid.refl (Q : Nat → Prop) (w : World) : Mid Q w w := ⟨rfl, rfl, rfl, Nat.le_refl _, fun _ _ _ => rfl⟩
theorem Mid.trans {Q : Nat → Prop} {a b c : World} (h : Mid Q a b) (k : Mid Q b c) : Mid Q a c :=
  ⟨k.os.trans h.os, k.tape.trans h.tape, k.output.trans h.output, Nat.le_trans h.size k.size, fun i hi hq => (k.block i (Nat.lt_of_lt_of_le hi h.size) hq).trans (h.block i hi hq)⟩
theorem Mid.of_below {Q : Nat → Prop} {a b : World} (h : Below a.heap.size a b) : Mid Q a b := ⟨h.os, h.tape, h.output, h.size, fun k hk _ => h.block k hk⟩
theorem Mid.of_grown {Q : Nat → Prop} {a b : World} {m : Nat} (h : a.grownBy b (some m)) (hm : Q m) : Mid Q a b :=
  ⟨h.os, h.tape, h.output, h.size, fun k hk hq => h.block k hk (fun e => by cases e; exact hq hm)⟩
theorem Mid.imp {Q Q' : Nat → Prop} {a b : World} (h : Mid Q a b) (hq : ∀ k, Q k → Q' k) : Mid Q' a b := ⟨h.os, h.tape, h.output, h.size, fun k hk h' => h.block k hk (fun x => h' (hq k x))⟩
theorem Mid.cell {Q : Nat → Prop} {a b : World} (h : Mid Q a b) {p : Addr} (hp : p.block < a.heap.size) (ho : ¬ Q p.block) : b.cell? p = a.cell? p := World.cell?_of_block (w := a) (h.block p.block hp ho)

def stSet (st : St) (nm : ByteArray) (R : Rel) : St := fun m => if m = nm then some R else st m

theorem EngRep.added {w w' : World} {eb db nD S E : Nat} {st : St} (h : EngRep w eb db nD S E st) {nm : ByteArray} {R : Rel} {n' : Nat} {g : Row → Int} (hR : st nm = some R) (hg : w.grownBy w' (some R.mb)) (hW : WMap w' R.mb n' g) :
    EngRep w' eb db nD S E (stSet st nm { R with n := n', f := g }) := by
  have hi := h.inr nm R hR
  have hWm := (h.rel nm R hR).2
  obtain ⟨D0, ⟨es0, cl0, hmb, _⟩, _⟩ := hWm
  obtain ⟨e, ⟨D, ⟨es, clock, h1, h2⟩, hsz0, hhas, hat⟩, r, ap, inn, inr, top⟩ := h
  have hlt : ∀ k, k < E → k < w.heap.size := fun k hk => Nat.lt_of_lt_of_le hk top
  obtain ⟨xe, e, e0⟩ := e
  have heb : eb ≠ R.mb := fun x => by rw [x, hmb] at e; cases e
  refine ⟨⟨xe, (hg.block eb (hlt _ inn.2.1) (fun x => heb (by injection x))).trans e, e0⟩, ⟨D, ⟨es, clock, (hg.block db (hlt _ inn.2.2.2) (fun x => hi.2.2.2.2 (by injection x with x; exact x.symm))).trans h1, h2⟩, hsz0, fun m hm => ?_, fun m Q hm hQ => ?_⟩, fun m Q hQ => ?_, fun m m' Q Q' hQ hQ' hne => ?_, inn, fun m Q hQ => ?_, Nat.le_trans top hg.size⟩
  · rw [hhas m hm]; unfold stSet; by_cases e : m = nm <;> simp [e, hR]
  · unfold stSet at hQ
    by_cases e : m = nm
    · subst e; simp at hQ; subst hQ; exact hat _ R hm hR
    · simp [e] at hQ; exact hat m Q hm hQ
  · unfold stSet at hQ
    by_cases e : m = nm
    · subst e; simp at hQ; subst hQ
      refine ⟨?_, hW⟩
      have hrb : R.rb ≠ R.mb := fun x => by have := (r m R hR).1; rw [x, hmb] at this; cases this
      exact (hg.block _ (hlt _ hi.2.1) (fun x => hrb (by injection x))).trans (r m R hR).1
    · simp [e] at hQ
      have hq := inr m Q hQ
      have hrb : Q.rb ≠ R.mb := fun x => by have := (r m Q hQ).1; rw [x, hmb] at this; cases this
      exact ⟨(hg.block _ (hlt _ hq.2.1) (fun x => hrb (by injection x))).trans (r m Q hQ).1, (r m Q hQ).2.kept (hg.block _ (hlt _ hq.2.2.2.1) (fun x => ap m nm Q R hQ hR e (by injection x)))⟩
  · unfold stSet at hQ hQ'
    by_cases e : m = nm
    · subst e
      have e' : ¬ m' = m := fun x => hne x.symm
      simp at hQ; simp [e'] at hQ'; subst hQ
      exact ap m m' R Q' hR hQ' hne
    · simp [e] at hQ
      by_cases e' : m' = nm
      · subst e'; simp at hQ'; subst hQ'; exact ap m m' Q R hQ hR hne
      · simp [e'] at hQ'; exact ap m m' Q Q' hQ hQ' hne
  · unfold stSet at hQ
    by_cases e : m = nm
    · subst e; simp at hQ; subst hQ; exact inr m R hR
    · simp [e] at hQ; exact inr m Q hQ

end Go.Proofs.YtgddkjhknlgbbaaGreatDoor

namespace Go.Proofs.YtgddkjhknlgbbaaGreatDoor
set_option linter.unusedVariables false
set_option linter.unusedSimpArgs false
open Go.RowKit Go.Maps
attribute [local go_sem ↓] Go.wp_at_zero Go.wp_at_succ

/-- The state with the changes of the names in 'done' added. -/
def stAdd (st : St) (ch : Ch) (N : Nat) (done : ByteArray → Bool) : St := fun nm =>
  match st nm, ch nm with
  | some R, some p => if done nm = true then some { R with n := R.n + N, f := fun r => R.f r + p.2 r } else some R
  | o, _ => o

/-- The state with a batch added. -/
def stSum (st : St) (es : List Ent) : St := fun nm => (st nm).map fun R => { R with n := R.n + 2 * es.length, f := fun r => R.f r + sumE es nm r }

theorem stAdd_start (st : St) (ch : Ch) (N : Nat) (D : DataW Unit) : stAdd st ch N (fun nm => Maps.has D (strLit nm) && !Maps.has D (strLit nm)) = st := by
  funext nm
  unfold stAdd
  cases h1 : st nm with
  | none => rfl
  | some R => cases h2 : ch nm <;> simp

theorem EngRep.congr {w : World} {eb db nD S E : Nat} {st st' : St} (h : EngRep w eb db nD S E st)
    (he : ∀ nm, (st nm = none ∧ st' nm = none) ∨ ∃ R R', st nm = some R ∧ st' nm = some R' ∧ R'.rb = R.rb ∧ R'.mb = R.mb ∧ R'.ar = R.ar ∧ R.n ≤ R'.n ∧ ∀ r, WfRow r → R.f r = R'.f r) : EngRep w eb db nD S E st' := by
  have back : ∀ nm R', st' nm = some R' → ∃ R, st nm = some R ∧ R'.rb = R.rb ∧ R'.mb = R.mb ∧ R'.ar = R.ar ∧ R.n ≤ R'.n ∧ ∀ r, WfRow r → R.f r = R'.f r := by
    intro nm R' hR'
    rcases he nm with ⟨_, h2⟩ | ⟨R, Q, h1, h2, h3⟩
    · rw [h2] at hR'; cases hR'
    · rw [h2] at hR'; cases hR'; exact ⟨R, h1, h3⟩
  obtain ⟨e, ⟨D, h1, hsz0, hhas, hat⟩, r, ap, inn, inr, top⟩ := h
  refine ⟨e, ⟨D, h1, hsz0, fun m hm => ?_, fun m Q hm hQ => ?_⟩, fun m Q hQ => ?_, fun m m' Q Q' hQ hQ' hne => ?_, inn, fun m Q hQ => ?_, top⟩
  · rw [hhas m hm]
    rcases he m with ⟨h1, h2⟩ | ⟨R, Q, h1, h2, _⟩ <;> simp [h1, h2]
  · obtain ⟨R, hR, h3, _⟩ := back m Q hQ
    rw [h3]; exact hat m R hm hR
  · obtain ⟨R, hR, h3, h4, h5, h6, h7⟩ := back m Q hQ
    have hr := r m R hR
    rw [h3, h4, h5]
    exact ⟨hr.1, (hr.2.mono h6).congr h7⟩
  · obtain ⟨R, hR, _, h4, _⟩ := back m Q hQ
    obtain ⟨R', hR', _, h4', _⟩ := back m' Q' hQ'
    rw [h4, h4']; exact ap m m' R R' hR hR' hne
  · obtain ⟨R, hR, h3, h4, _⟩ := back m Q hQ
    rw [h3, h4]; exact inr m R hR

theorem stAdd_step {st : St} {ch : Ch} {N : Nat} {D : DataW Unit} {left : Lit → Bool} {s : ByteArray} {R : Rel} {p : Nat × (Row → Int)} (hR : st s = some R) (hp : ch s = some p) (hh : Maps.has D (strLit s) = true) :
    stSet (stAdd st ch N (fun nm => Maps.has D (strLit nm) && !left (strLit nm))) s { R with n := R.n + N, f := fun r => R.f r + p.2 r } =
      stAdd st ch N (fun nm => Maps.has D (strLit nm) && !(left (strLit nm) && !(strLit nm).sameKey (strLit s))) := by
  funext m
  unfold stSet
  by_cases e : m = s
  · subst e
    rw [if_pos rfl]
    unfold stAdd
    rw [hR, hp]
    simp [hh, WideAt.sameKey_self (strLit_isKey m)]
  · rw [if_neg e]
    have : (strLit m).sameKey (strLit s) = false := sameKey_ne (fun e' => e (strLit_inj e'))
    unfold stAdd
    simp [this]

theorem sumE_none {es : List Ent} {nm : ByteArray} (h : ∀ x ∈ es, x.nm ≠ nm) (r : Row) : sumE es nm r = 0 := by
  induction es with
  | nil => rfl
  | cons y ys ih =>
    simp only [sumE]
    rw [ih (fun z hz => h z (List.mem_cons_of_mem _ hz))]
    simp [h y (List.mem_cons_self)]

/-- The rows fit, of a relation that the batch names. -/
def FitsR' (es : List Ent) (nm : ByteArray) (f : Row → Int) : Prop := (∃ x ∈ es, x.nm = nm) → FitsR f (sumE es nm)

theorem sumW {st : St} {es : List Ent} {ch : Ch} (hS : SumRel es ch) : AllW st ch ↔ ∀ nm R, st nm = some R → FitsW R.f (sumE es nm) := by
  constructor
  · intro h nm R hR
    cases hc : ch nm with
    | none => intro r _ h0; exact absurd (sumE_none ((hS nm).1 hc) r) h0
    | some p => have := h nm p R hc hR; rw [((hS nm).2 p hc).2] at this; exact this
  · intro h nm p R hp hR
    rw [((hS nm).2 p hp).2]; exact h nm R hR

theorem sumR {st : St} {es : List Ent} {ch : Ch} (hS : SumRel es ch) : AllR st ch ↔ ∀ nm R, st nm = some R → FitsR' es nm R.f := by
  constructor
  · intro h nm R hR hx
    cases hc : ch nm with
    | none => obtain ⟨x, hx1, hx2⟩ := hx; exact absurd hx2 ((hS nm).1 hc x hx1)
    | some p => have := h nm p R hc hR; rw [((hS nm).2 p hc).2] at this; exact this
  · intro h nm p R hp hR
    rw [((hS nm).2 p hp).2]; exact h nm R hR ((hS nm).2 p hp).1

set_option maxRecDepth 100000 in
set_option maxHeartbeats 1000000 in
/-- A batch whose entries are all right by themselves. -/
theorem apply_gen (v : Value) (es : List Ent) (w : World) {eb db nD S E : Nat} {st : St} (hE : EngRep w eb db nD S E st) (hv : EntsAt w v es) (hl : es.length ≤ 64) (hg : ∀ x ∈ es, GoodEnt x)
    (hok : ∀ i, i < es.length → Chk st (es[i]?.getD zeroEnt) 0) (hkn : ∀ x ∈ es, st x.nm ≠ none)
    (hfit : ∀ nm R, st nm = some R → R.n + 2 * es.length ≤ 1000000000 ∧ (∀ r, WfRow r → -1000 ≤ R.f r ∧ R.f r ≤ 1000)) :
    Calls Tryz.prog 15 #[.pointer (some ⟨eb, 0, none⟩), v] w fun e w' => ∃ c : Int, e = .returned (.tuple #[.int .i64 c, .int .i64 0]) ∧ Mid (fun k => ∃ nm R, st nm = some R ∧ R.mb = k) w w' ∧
      (c = 9 ∧ ¬ (∀ nm R, st nm = some R → FitsW R.f (sumE es nm)) ∧ Below w.heap.size w w' ∨
        c = 10 ∧ (∀ nm R, st nm = some R → FitsW R.f (sumE es nm)) ∧ ¬ (∀ nm R, st nm = some R → FitsR' es nm R.f) ∧ Below w.heap.size w w' ∨
        c = 0 ∧ (∀ nm R, st nm = some R → FitsW R.f (sumE es nm)) ∧ (∀ nm R, st nm = some R → FitsR' es nm R.f) ∧ EngRep w' eb db nD S E (stSum st es)) := by
  have Hv := hide hv
  have hv2 := hv
  obtain ⟨a, cap, rfl, hcs⟩ := hv
  have Hc := hide hcs
  have HE := hide hE
  have Hok := hide hok
  have Hg := hide hg
  have Hkn := hide hkn
  have Hfit := hide hfit
  have hel : eb < w.heap.size := by have := hE.inn; have := hE.top; omega
  clear hcs hE hok hg hkn hfit hv2
  go_enter Tryz.func15, Tryz.ntmps15
  go_wp2
  go_loopw [18] (fun i wr => ∃ j : Nat, j ≤ es.length ∧ i = .int .i64 j ∧ Below w.heap.size w wr) (fun i _ => es.length - (intOf i).toNat)
  case atStart => exact ⟨0, Nat.zero_le _, rfl, Below.refl _ _⟩
  case round =>
    obtain ⟨j, hj, rfl, hB⟩ := hrel
    by_cases hlt : j < es.length
    · obtain ⟨b, o, sv, rfl, h1, h2, h3, h4⟩ := (unhide Hc) j hlt
      have hx : (j : Int) < (es.length : Int) := by omega
      have hbl : b < w.heap.size := World.block_lt_of_cell? w _ h1
      have h3c := h3
      obtain ⟨a2, cap2, rfl, _⟩ := h3c
      have hch := (unhide Hok) j (by omega)
      obtain ⟨x, hxe⟩ : ∃ x, x = es[j]?.getD zeroEnt := ⟨_, rfl⟩
      rw [← hxe] at h1 h2 h3 h4 hch
      rw [← hB.cell (p := ⟨b, _, none⟩) hbl] at h1 h2 h4
      obtain ⟨nm, row, wt⟩ := x
      dsimp only at h1 h2 h3 h4
      have hBW : Below w.heap.size w (wr.alloc (.cells #[.string nm, .slice a2 row.length cap2, .int .i64 wt] 75)) := hB.alloc hB.size _
      have H3 := hide (h3.below hBW)
      have HEW := hide ((unhide HE).below hBW)
      have HBW := hide hBW
      have Hch := hide hch
      clear hxe hB hBW h3 hch
      go_wp2_with (first
        | (go_at_call 32; refine ((unhide Hch) _ _ eb db nD S E (unhide HEW) (unhide H3)).mono ?_; rintro e w2 ⟨rfl, hb2⟩))
      have Hb2 := hide hb2
      clear hb2
      go_roundw
      case rel => exact ⟨j + 1, by omega, by go_num, (unhide HBW).trans ((unhide Hb2).mono (unhide HBW).size)⟩
      case measure => simp [intOf]; omega
    · obtain ⟨wo, hwo⟩ : ∃ wo, wo = wr := ⟨_, rfl⟩
      subst hwo
      have HvW := hide ((unhide Hv).below hB)
      have HEo := hide ((unhide HE).below hB)
      have HB := hide hB
      have hBs := hB.size
      clear hB
      go_wp2_with fail
      refine (sum_any _ es _ (unhide HvW) (unhide Hg) hl).mono ?_
      rintro e w1 ⟨ch, rfl, hC, hS, hb1⟩
      have hE1 := (unhide HEo).below hb1
      have hbase : ChBase st ch (2 * es.length) := by
        intro nm p hp
        obtain ⟨⟨x, hx, hxn⟩, hpf⟩ := (hS nm).2 p hp
        have hst := (unhide Hkn) x hx
        rw [hxn] at hst
        refine ⟨by rw [← hxn]; exact Nat.le_trans ((unhide Hg) x hx).1 (by unfold maxLen; omega), ?_⟩
        cases hR : st nm with
        | none => exact absurd hR hst
        | some R =>
          obtain ⟨f1, f3⟩ := (unhide Hfit) nm R hR
          refine ⟨R, rfl, f1, f3, ?_⟩
          intro r hr; rw [hpf]
          have := sumE_bd es (unhide Hg) nm r
          omega
      have hWi := sumW (st := st) hS
      have hRi := sumR (st := st) hS
      go_wp2_with fail
      refine (chg_gen w1 hE1 hC hbase).mono ?_
      rintro e w2 ⟨c, rfl, hcs2, hb2⟩
      rw [hWi, hRi] at hcs2
      have HBw := hide (((unhide HB).trans (hb1.mono hBs)).trans (hb2.mono (Nat.le_trans hBs hb1.size)))
      rcases hcs2 with ⟨rfl, hw⟩ | ⟨rfl, hw, hr⟩ | ⟨rfl, hw, hr⟩
      · have Hw := hide hw
        clear hw hC hS hb1 hE1 hbase hb2 hWi hRi
        go_wp2
        go_ret2
        exact ⟨9, rfl, Mid.of_below (unhide HBw), .inl ⟨rfl, unhide Hw, unhide HBw⟩⟩
      · have Hw := hide hw
        have Hr := hide hr
        clear hw hr hC hS hb1 hE1 hbase hb2 hWi hRi
        go_wp2
        go_ret2
        exact ⟨10, rfl, Mid.of_below (unhide HBw), .inr (.inl ⟨rfl, unhide Hw, unhide Hr, unhide HBw⟩)⟩
      have Hw := hide hw
      have Hr := hide hr
      clear hw hr hWi hRi
      have hC2 := hC.below hb2
      have hE2 := hE1.below hb2
      have hBB : Below w.heap.size w w2 := ((unhide HB).trans (hb1.mono hBs)).trans (hb2.mono (Nat.le_trans hBs hb1.size))
      obtain ⟨D, hown, hhas, hat0⟩ := hC2.dir
      have HC2 := hide hC2
      have HE2 := hide hE2
      have HBB := hide hBB
      have HS := hide hS
      have HfO := hide hbase
      have Hhas := hide hhas
      have Hat := hide hat0
      have hEB : E ≤ wo.heap.size := (unhide HEo).top
      clear hC hS hb1 hE1 hbase hb2 hC2 hE2 hBB hhas hat0
      go_wp2_with (first
        | (at_range; refine wpList_range_own _ rfl _ 77 rfl 9 81 law9 Tryz.underlying77 _ wo.heap.size (2 * es.length) D rfl hown ?_; intro w3 hrg3 hg3 hs3)
        | go_in)
      go_frame
      go_loopw [41] (fun _ wr => ∃ left cnt, wr.ranges Tryz.prog 9 mapElem wo.heap.size w2.heap.size (2 * es.length) D left cnt ∧
          EngRep wr eb db nD S E (stAdd st ch (2 * es.length) (fun nm => Maps.has D (strLit nm) && !left (strLit nm))) ∧ Mid (fun k => ∃ nm R, st nm = some R ∧ R.mb = k) w2 wr) (fun _ wr => wr.rangeLeft wo.heap.size w2.heap.size)
      case atStart =>
        refine ⟨_, _, hrg3, ?_, ?_⟩
        · rw [stAdd_start]
          exact (unhide HE2).kept hg3.size (fun k _ hk => hg3.block k (Nat.lt_of_lt_of_le hk (unhide HE2).top) (by simp))
        · exact ⟨hg3.os, hg3.tape, hg3.output, hg3.size, fun k hk _ => hg3.block k hk (by simp)⟩
      case round =>
        obtain ⟨left, cnt, hrg, hEr, hM⟩ := hrel
        have HEr := hide hEr
        have HM := hide hM
        clear hEr hM
        go_wp2_with (first
          | (at_next; refine wpList_next_ranges _ rfl _ rfl 9 law9 mapElem Value.string Value.map invStr invMap wo.heap.size w2.heap.size (2 * es.length) D left cnt rfl hrg ?_ ?_)
          | go_in)
        · intro _ hl1
          go_wp2
          go_ret2
          refine ⟨0, rfl, ?_, .inr (.inr ⟨rfl, unhide Hw, unhide Hr, (unhide HEr).congr (fun nm => ?_)⟩)⟩
          · exact (Mid.of_below (unhide HBB)).trans (unhide HM)
          · unfold stAdd stSum
            cases hR : st nm with
            | none => exact Or.inl ⟨rfl, rfl⟩
            | some R =>
              refine Or.inr ?_
              cases hp : ch nm with
              | none =>
                refine ⟨R, _, rfl, rfl, rfl, rfl, rfl, Nat.le_add_right _ _, fun r _ => ?_⟩
                have h0 := sumE_none ((unhide HS) nm |>.1 hp) r
                dsimp only
                rw [h0]; omega
              | some p =>
                obtain ⟨⟨x, hx, hxn⟩, hpf⟩ := ((unhide HS) nm).2 p hp
                have hsz : nm.size ≤ maxLen := by
                  rw [← hxn]; exact Nat.le_trans ((unhide Hg) x hx).1 (by unfold maxLen; omega)
                have hh := (unhide Hhas) nm hsz
                rw [hp] at hh
                refine ⟨{ R with n := R.n + 2 * es.length, f := fun r => R.f r + p.2 r }, _, ?_, rfl, rfl, rfl, rfl, Nat.le_refl _, fun r _ => ?_⟩
                · simp [hh, hl1]
                · dsimp only; rw [hpf]
        · intro s o kl y1 y2 w4 cnt1 hkey hlk hv hat hrg1 hlt hg1 hs1 hen
          have hhas' := has_true_of_atKey hat
          obtain ⟨hs, hkl, p, hp, ho⟩ := cameCh (w := w2) (unhide Hhas) (unhide Hat) (y := (y1, y2)) hkey hv hat
          subst ho
          obtain ⟨_, R, hR, hn, hf2, hf3⟩ := (unhide HfO) s p hp
          rw [hkl] at hlk hhas' hrg1
          have hw2E : E ≤ w2.heap.size := (unhide HE2).top
          have hwr : w2.heap.size ≤ wr.heap.size := (unhide HM).size
          have hM4 : Mid (fun k => ∃ nm R, st nm = some R ∧ R.mb = k) w2 w4 := ⟨hg1.os.trans (unhide HM).os, hg1.tape.trans (unhide HM).tape, hg1.output.trans (unhide HM).output, Nat.le_trans hwr hg1.size, fun k hk ho => (hg1.block k (by omega) (fun e => by cases e; omega)).trans ((unhide HM).block k hk ho)⟩
          have hE4 := (unhide HEr).kept hg1.size (fun k _ hk => hg1.block k (by omega) (fun e => by cases e; omega))
          have hcur : stAdd st ch (2 * es.length) (fun nm => Maps.has D (strLit nm) && !left (strLit nm)) s = some R := by
            unfold stAdd; rw [hR, hp]; simp [hlk]
          have hC4 := (unhide HC2).kept (w' := w4) (fun k hk hk2 => hM4.block k hk2 (fun ⟨nm, Q, h1, h2⟩ => by have := (unhide HE2).inr nm Q h1; omega))
          have hpe := hC4.each s p hp
          have hin := hE4.inr s R hcur
          have hrun := hE4.get hs hcur
          have c1 : w4.cell? ⟨eb, 0, none⟩ = some (.map (some db)) := hE4.c0
          have Hrel := hide (hE4.rel s R hcur)
          have Hpe := hide hpe
          have Hrg1 := hide hrg1
          have Hrg := hide hrg
          have HM4 := hide hM4
          have HE4 := hide hE4
          have Hcur := hide hcur
          have HR := hide hR
          have Hlt := hide hlt
          have Hf2 := hide hf2
          have Hf3 := hide hf3
          have Hst := hide (stAdd_step (N := 2 * es.length) (left := left) hR hp hhas')
          have hne1 : p.1 ≠ R.mb := by have := hpe.2.1; omega
          have hne2 : wo.heap.size ≠ R.mb := by omega
          have hne3 : w2.heap.size ≠ R.mb := by omega
          have hm1 := hin.2.2.1
          have hm2 := hin.2.2.2.1
          clear hkey hlk hv hat hrg1 hrg hg1 hs1 hlt hE4 hcur hC4 hpe hM4 hf2 hf3 hp hR hin hhas'
          go_wp2_with (first
            | (go_at_call 35; refine (relAdd_any R.rb R.mb R.ar R.n p.1 (2 * es.length) R.f p.2 _ (unhide Hrel).1 (unhide Hrel).2 (unhide Hpe).1 hn hne1 (fun r hr => by have := (unhide Hf2) r hr; omega) (unhide Hf3)).mono ?_; rintro e w5 ⟨rfl, hW5, hg5⟩))
          have hR5 := (unhide Hrg1).kept hg5 (by simpa using hne2) (by simpa using hne3)
          have hE5 := (unhide HE4).added (unhide Hcur) hg5 hW5
          rw [unhide Hst] at hE5
          rw [hkl] at *
          refine ⟨⟨_, cnt1, hR5, hE5, (unhide HM4).trans (Mid.of_grown hg5 ⟨s, R, unhide HR, rfl⟩)⟩, ?_⟩
          rw [hR5.left_eq, (unhide Hrg).left_eq]
          exact unhide Hlt

end Go.Proofs.YtgddkjhknlgbbaaGreatDoor
