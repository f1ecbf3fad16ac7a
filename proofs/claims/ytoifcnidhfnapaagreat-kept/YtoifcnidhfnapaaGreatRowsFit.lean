import Derived.Test.YtoifcnidhfnapaaGreatCnt
set_option linter.unusedVariables false
set_option linter.unusedSimpArgs false
namespace Go.Proofs.YtoifcnidhfnapaaGreat
open Go.RowKit Go.Maps
attribute [local go_sem ↓] Go.wp_at_zero Go.wp_at_succ

theorem Part.congr {D : DataW Unit} {f g : Row → Int} {d d' : Row → Prop} (h : Part D f g d) (he : ∀ r, WfRow r → (d r ↔ d' r)) : Part D f g d' := by
  obtain ⟨hT, hK, k, hr, h1, h2⟩ := h
  exact ⟨hT, hK, k, hr, fun r hw hd => h1 r hw ((he r hw).2 hd), fun r hw hd => h2 r hw (fun x => hd ((he r hw).1 x))⟩

def doneOf (Dg : DataW Unit) (left : Lit → Bool) (r : Row) : Prop := Maps.has Dg (rowLit r) = true ∧ left (rowLit r) = false

theorem done_step {Dg : DataW Unit} {left : Lit → Bool} {x : Row} (hx : WfRow x) (hh : Maps.has Dg (rowLit x) = true) : ∀ r, WfRow r → ((doneOf Dg left r ∨ r = x) ↔ doneOf Dg (fun z => left z && !z.sameKey (rowLit x)) r) := by
  intro r hr
  unfold doneOf
  by_cases e : r = x
  · subst e
    simp [hh, WideAt.sameKey_self (rowLit_isKey r)]
  · have : (rowLit r).sameKey (rowLit x) = false := sameKey_ne (fun e' => e (rowLit_inj hr hx e'))
    simp [this, e]

theorem Part.start {D Dg : DataW Unit} {f g : Row → Int} (hT : Tidy D) (hK : Keyish D) (hr : Rep D f) : Part D f g (doneOf Dg (Maps.has Dg)) :=
  ⟨hT, hK, f, hr, fun r _ h => (by have h1 := h.1; rw [h.2] at h1; cases h1), fun _ _ _ => rfl⟩

/-- When nothing is left the relation is the sum. -/
theorem Part.end_ {D Dg : DataW Unit} {f g : Row → Int} {left : Lit → Bool} (h : Part D f g (doneOf Dg left)) (hg : Rep Dg g) (hl : ∀ kl, left kl = false) : ∃ k, Rep D k ∧ ∀ r, WfRow r → k r = f r + g r := by
  obtain ⟨_, _, k, hr, h1, h2⟩ := h
  refine ⟨k, hr, fun r hw => ?_⟩
  by_cases hh : Maps.has Dg (rowLit r) = true
  · exact h1 r hw ⟨hh, hl _⟩
  · have h0 : g r = 0 := by
      by_cases e : g r = 0
      · exact e
      · exact absurd ((hg.has_ r hw).2 e) hh
    rw [h2 r hw (fun d => hh d.1), h0]; omega

set_option maxRecDepth 100000 in
set_option maxHeartbeats 1000000 in
theorem rows_any (rb mb ar n cb m : Nat) (f g : Row → Int) (G : List Row) (w : World) (hr : w.heap[rb]? = some (.cells #[.int .i64 ar, .map (some mb)] 77 (0, 0))) (hf : WMap w mb n f) (hg : WMap w cb m g) (hnm : n + m ≤ 1000000)
    (hG : ∀ r, WfRow r → f r + g r ≠ 0 → r ∈ G) (hGl : G.length ≤ 16) (hbf : ∀ r, WfRow r → -1000000 ≤ f r ∧ f r ≤ 1000000) (hbg : ∀ r, WfRow r → -1000000 ≤ g r ∧ g r ≤ 1000000) :
    Calls Tryz.prog 35 #[.pointer (some ⟨rb, 0, none⟩), .map (some cb)] w fun e w' => e = .returned (.bool true) ∧ Below w.heap.size w w' := by
  have Hf := hide hf
  obtain ⟨Df, hownf, hrepf⟩ := hf
  obtain ⟨D, hown, hrep⟩ := hg
  have Hr := hide hr
  have Hrepf := hide hrepf
  have Hrep := hide hrep
  have HG := hide hG
  have Hbf := hide hbf
  have Hbg := hide hbg
  have hrl : rb < w.heap.size := (Array.getElem?_eq_some_iff.1 hr).1
  have hml : mb < w.heap.size := hownf.lt
  have d1 : w.cell? ⟨rb, 1, none⟩ = some (.map (some mb)) := cell_of_heap hr 1
  have HP := hide (Part.start (Dg := D) (g := g) (hownf.tidy law60) (own_keyish hownf) hrepf)
  have hsz := hownf.size_le
  have hszg := hown.size_le
  clear hr hrep hrepf hG hbf hbg
  go_enter Tryz.func35, Tryz.ntmps35
  go_wp2_with (first
    | (at_len; refine wpList_len_own _ rfl _ 75 rfl 62 2 Tryz.underlying75 _ mb n Df rfl hownf ?_)
    | (at_range; refine wpList_range_own _ rfl _ 75 rfl 62 2 law60 Tryz.underlying75 _ cb m D rfl hown ?_; intro w0 hrg0 hg0 hs0)
    | go_in)
  go_frame
  go_loopw [5] (fun t wr => ∃ left cnt Dk, wr.ranges Tryz.prog 62 (plainElem Tryz.prog 2) cb w.heap.size m D left cnt ∧ Below w.heap.size w wr ∧ Part Dk f g (doneOf D left) ∧ Maps.size Dk + cnt ≤ n + m ∧ t = .int .i64 (Maps.size Dk)) (fun _ wr => wr.rangeLeft cb w.heap.size)
  case atStart => exact ⟨_, _, Df, hrg0, (Below.refl _ _).grown hg0 (Nat.le_refl _) (fun k e => by cases e), unhide HP, by omega, rfl⟩
  case round =>
    obtain ⟨left, cnt, Dk, hrg, hB, hP, hcnt, rfl⟩ := hrel
    have HB := hide hB
    have HPk := hide hP
    clear hB hP
    obtain ⟨sz, hsk⟩ : ∃ sz, sz = Maps.size Dk := ⟨_, rfl⟩
    rw [← hsk] at hcnt ⊢
    have Hsk := hide hsk
    clear hsk
    go_wp2_with (first
      | (at_next; refine wpList_next_ranges _ rfl _ rfl 62 law60 (plainElem Tryz.prog 2) (fun x : Row => .agg #[.int .i64 x.1, .int .i64 x.2.1, .int .i64 x.2.2]) (Value.int .i64) invRow invInt cb w.heap.size m D left cnt rfl hrg ?_ ?_)
      | go_in)
    · intro _ hl0
      have hle : sz ≤ 16 := by
        obtain ⟨k, hk, hkv⟩ := (unhide HPk).end_ (unhide Hrep) hl0
        have h := size_le (unhide HPk).tidy (unhide HPk).keyish hk G (fun r hw h0 => (unhide HG) r hw (by rw [← hkv r hw]; exact h0))
        rw [unhide Hsk]
        omega
      go_wp2
      go_ret
      exact ⟨by simp; omega, unhide HB⟩
    · intro x1 x2 x3 c kl y1 y2 w1 cnt1 hkey hlk hv hat hrg1 hlt hg1 hs1 hen
      obtain ⟨hwx, hkl, hc⟩ := came (unhide Hrep) (x := (x1, x2, x3)) (y := (y1, y2)) hkey hv hat
      have hhas : Maps.has D (rowLit (x1, x2, x3)) = true := by rw [← hkl]; exact has_true_of_atKey hat
      have hnz : g (x1, x2, x3) ≠ 0 := ((unhide Hrep).has_ _ hwx).1 hhas
      have hnd : ¬ doneOf D left (x1, x2, x3) := fun h => by have h2 := h.2; rw [hkl] at hlk; rw [hlk] at h2; cases h2
      obtain ⟨D', hP', s1, s2, s3⟩ := (unhide HPk).step hwx hnd
      have hP'' := hP'.congr (done_step hwx hhas)
      rw [← hkl] at hP''
      rw [← unhide Hsk] at s1 s2 s3
      have hbf := (unhide Hbf) _ hwx
      have hbg := (unhide Hbg) _ hwx
      have hB1 : Below w.heap.size w w1 := (unhide HB).grown hg1 (unhide HB).size (fun k e => by cases e; exact Nat.le_refl _)
      have hBW : Below w.heap.size w (w1.alloc (.cells #[.int .i64 x1, .int .i64 x2, .int .i64 x3] 62)) := hB1.alloc hB1.size _
      have hfW : WMap (w1.alloc (.cells #[.int .i64 x1, .int .i64 x2, .int .i64 x3] 62)) mb n f := (unhide Hf).kept (hBW.block _ hml)
      have hrun : ∀ q, (Instr.lookup 75 (.map (some mb)) (.agg #[.int .i64 x1, .int .i64 x2, .int .i64 x3]) false).run Tryz.prog ((w1.alloc (.cells #[.int .i64 x1, .int .i64 x2, .int .i64 x3] 62)).drewN q) = .ok (.int .i64 (f (x1, x2, x3))) ((w1.alloc (.cells #[.int .i64 x1, .int .i64 x2, .int .i64 x3] 62)).drewN q) :=
        fun q => WMap.look (x := (x1, x2, x3)) (hfW.drewN q) hwx
      have c1 : w1.cell? ⟨rb, 1, none⟩ = some (.map (some mb)) := by rw [hB1.cell (p := ⟨rb, 1, none⟩) hrl]; exact cell_of_heap (unhide Hr) 1
      have hne : ¬ rb = w1.heap.size := by have := hB1.size; omega
      have hne2 : rb < w1.heap.size := by have := hB1.size; omega
      have hq' : ∀ nq, ((w1.alloc (.cells #[.int .i64 x1, .int .i64 x2, .int .i64 x3] 62)).drewN nq).ranges Tryz.prog 62 (plainElem Tryz.prog 2) cb w.heap.size m D (fun z => left z && !z.sameKey kl) cnt1 := fun _ => hrg1.alloc _
      have Hq := hide hq'
      have Hrg := hide hrg
      have HBW := hide hBW
      have HP'' := hide hP''
      generalize hfx : f (x1, x2, x3) = fx at *
      generalize hgx : g (x1, x2, x3) = gx at *
      subst hc
      clear hkey hlk hv hat hrg1 hrg hg1 hs1 hB1 hBW hfW hfx hgx hkl hP' hP'' hq' hnd
      obtain ⟨sz', hS'⟩ : ∃ sz', sz' = Maps.size D' := ⟨_, rfl⟩
      rw [← hS'] at s1 s2 s3
      have HS' := hide hS'
      clear hS'
      have Hlt := hide hlt
      by_cases h0 : fx = 0
      · have b1 : (fx == 0) = true := by simp [h0]
        have b2 : (c != 0) = true := by simpa using hnz
        have hsz' : Hid (sz' = sz + 1) := s1 (by omega) h0
        clear s1 s2 s3 h0 hnz
        go_wp2
        go_quiet (fail)
        go_wp2
        refine ⟨⟨_, cnt1, D', (unhide Hq) _, (unhide HBW).trans ((Drawn.ofN _ _).below _), unhide HP'', by rw [← unhide HS']; have := unhide hsz'; omega, ?_⟩, ?_⟩
        · rw [← unhide HS']; exact congrArg (Value.int .i64) (by have := unhide hsz'; omega)
        · rw [((unhide Hq) _).left_eq, (unhide Hrg).left_eq]
          exact unhide Hlt
      · by_cases h1 : fx + c = 0
        · have b1 : (fx == 0) = false := by simp [h0]
          have b2 : (fx != 0) = true := by simp [h0]
          have b3 : (fx + c == 0) = true := by simp [h1]
          have hsz' : Hid (sz' + 1 = sz) := s3 h1 h0
          clear s1 s2 s3 h0 h1 hnz
          go_wp2
          go_quiet (fail)
          go_wp2
          refine ⟨⟨_, cnt1, D', (unhide Hq) _, (unhide HBW).trans ((Drawn.ofN _ _).below _), unhide HP'', by rw [← unhide HS']; have := unhide hsz'; omega, ?_⟩, ?_⟩
          · rw [← unhide HS']; exact congrArg (Value.int .i64) (by have := unhide hsz'; omega)
          · rw [((unhide Hq) _).left_eq, (unhide Hrg).left_eq]
            exact unhide Hlt
        · have b1 : (fx == 0) = false := by simp [h0]
          have b2 : (fx != 0) = true := by simp [h0]
          have b3 : (fx + c == 0) = false := by simp [h1]
          have hsz' : Hid (sz' = sz) := s2 h1 h0
          clear s1 s2 s3 h0 h1 hnz
          go_wp2
          go_quiet (fail)
          go_wp2
          refine ⟨⟨_, cnt1, D', (unhide Hq) _, (unhide HBW).trans ((Drawn.ofN _ _).below _), unhide HP'', by rw [← unhide HS']; have := unhide hsz'; omega, ?_⟩, ?_⟩
          · rw [← unhide HS']; exact congrArg (Value.int .i64) (by have := unhide hsz'; omega)
          · rw [((unhide Hq) _).left_eq, (unhide Hrg).left_eq]
            exact unhide Hlt

end Go.Proofs.YtoifcnidhfnapaaGreat
