import Derived.Test.YtoifcnidhfnapaaGreatRelAdd
namespace Go.Proofs.YtoifcnidhfnapaaGreat
set_option linter.unusedVariables false
set_option linter.unusedSimpArgs false
open Go.RowKit Go.Maps
attribute [local go_sem ↓] Go.wp_at_zero Go.wp_at_succ

theorem keyOf_str_inv {v : Value} {l : Lit} (h : keyOf Tryz.prog 9 v = some l) : ∃ s, v = .string s ∧ l = strLit s ∧ s.size ≤ maxLen := by
  simp only [keyOf, Tryz.underlying9] at h
  cases v <;> simp [mapKey, Tryz.underlying9] at h
  obtain ⟨h1, rfl⟩ := h
  exact ⟨_, rfl, rfl, h1⟩

theorem invStr : ∀ key kl, keyOf Tryz.prog 9 key = some kl → ∃ s, key = Value.string s := by
  intro key kl h
  obtain ⟨s, hs, _⟩ := keyOf_str_inv h
  exact ⟨s, hs⟩
theorem invMap : ∀ v y, mapElem v = some y → ∃ o : Option Nat, v = Value.map o := by
  intro v y h
  unfold mapElem at h
  split at h
  · exact ⟨_, rfl⟩
  · exact ⟨_, rfl⟩
  · cases h

/-- What may be added: each change has its relation, its weights fit, its rows fit. -/
def FitOK (st : St) (ch : Ch) (n : Nat) : Prop := ∀ nm p, ch nm = some p → ∃ R, st nm = some R ∧ R.n + n ≤ 100000 ∧
  (∀ r, WfRow r → -1000 ≤ R.f r + p.2 r ∧ R.f r + p.2 r ≤ 1000) ∧ (∀ r, WfRow r → -1000 ≤ R.f r ∧ R.f r ≤ 1000) ∧ (∀ r, WfRow r → -100000 ≤ p.2 r ∧ p.2 r ≤ 100000) ∧
  ∃ G : List Row, G.length ≤ 16 ∧ ∀ r, WfRow r → R.f r + p.2 r ≠ 0 → r ∈ G

theorem cameCh {w : World} {D : DataW Unit} {ch : Ch} (hhas : ∀ nm, nm.size ≤ maxLen → Maps.has D (strLit nm) = (ch nm).isSome) (hat0 : ∀ nm p, nm.size ≤ maxLen → ch nm = some p → ∀ zd, D.atKey (strLit nm) zd = .lit (.int .i64 p.1))
    {s : ByteArray} {o : Option Nat} {kl : Lit} {y : DataW Unit × List MemPlace} (hkey : keyOf Tryz.prog 9 (.string s) = some kl) (hv : mapElem (.map o) = some y) (hat : ∀ zd, D.atKey kl zd = y.1) :
    s.size ≤ maxLen ∧ kl = strLit s ∧ ∃ p, ch s = some p ∧ o = some p.1 := by
  obtain ⟨s', e, rfl, hs⟩ := keyOf_str_inv hkey
  cases e
  have h1 := hhas s hs
  rw [has_true_of_atKey hat] at h1
  cases hc : ch s with
  | none => rw [hc] at h1; cases h1
  | some p =>
    have h2 := hat0 s p hs hc .nil
    rw [hat] at h2
    have h3 : mapElem (.map o) = some (.lit (.int .i64 p.1), y.2) := by rw [hv, ← h2]
    have h4 := mapElem_inv h3
    cases h4
    exact ⟨hs, rfl, p, rfl, rfl⟩

set_option maxRecDepth 100000 in
set_option maxHeartbeats 1000000 in
theorem chg_any (w : World) {eb db nD S E cb B n : Nat} {st : St} {ch : Ch} (hE : EngRep w eb db nD S E st) (hC : ChgRep w cb B n ch) (hfit : FitOK st ch n) :
    Calls Tryz.prog 26 #[.pointer (some ⟨eb, 0, none⟩), .map (some cb)] w fun e w' => e = .returned (.int .i64 0) ∧ Below w.heap.size w w' := by
  obtain ⟨D, hown, hhas, hat0⟩ := hC.dir
  have HE := hide hE
  have HC := hide hC
  have Hfit := hide hfit
  have Hhas := hide hhas
  have Hat := hide hat0
  have c0 : w.cell? ⟨eb, 0, none⟩ = some (.map (some db)) := hE.c0
  have hel : eb < w.heap.size := by have := hE.inn; have := hE.top; omega
  clear hE hC hfit hhas hat0
  go_enter Tryz.func26, Tryz.ntmps26
  go_wp2_with (first
    | (at_range; refine wpList_range_own _ rfl _ 67 rfl 9 75 law9 Tryz.underlying67 _ cb n D rfl hown ?_; intro w0 hrg0 hg0 hs0)
    | go_in)
  go_frame
  go_loopw [11] (fun _ wr => ∃ left cnt, wr.ranges Tryz.prog 9 mapElem cb w.heap.size n D left cnt ∧ Below w.heap.size w wr) (fun _ wr => wr.rangeLeft cb w.heap.size)
  case atStart => exact ⟨_, _, hrg0, (Below.refl _ _).grown hg0 (Nat.le_refl _) (fun k e => by cases e)⟩
  case round =>
    obtain ⟨left, cnt, hrg, hB⟩ := hrel
    have HB := hide hB
    clear hB
    go_wp2_with (first
      | (at_next; refine wpList_next_ranges _ rfl _ rfl 9 law9 mapElem Value.string Value.map invStr invMap cb w.heap.size n D left cnt rfl hrg ?_ ?_)
      | go_in)
    · intro _ hl0
      obtain ⟨wo, hwo⟩ : ∃ wo, wo = wr := ⟨_, rfl⟩
      subst hwo
      have hownB : wo.ownsMap Tryz.prog 9 mapElem cb n D := hrg.owns
      have HhB := hide hownB.lt
      have hBs := (unhide HB).size
      have c0r : wo.cell? ⟨eb, 0, none⟩ = some (.map (some db)) := by rw [(unhide HB).cell (p := ⟨eb, 0, none⟩) hel]; exact c0
      clear hrg hrg0 hg0 hs0
      go_wp2_with (first
        | (at_range; refine wpList_range_own _ rfl _ 67 rfl 9 75 law9 Tryz.underlying67 _ cb n D rfl hownB ?_; intro w0' hrg0' hg0' hs0')
        | go_in)
      go_frame
      go_loopw [27] (fun _ wq => ∃ left cnt, wq.ranges Tryz.prog 9 mapElem cb wo.heap.size n D left cnt ∧ Below wo.heap.size wo wq) (fun _ wq => wq.rangeLeft cb wo.heap.size)
      case atStart => exact ⟨_, _, hrg0', (Below.refl _ _).grown hg0' (Nat.le_refl _) (fun k e => by cases e)⟩
      case round =>
        obtain ⟨left', cnt', hrg, hB⟩ := hrel
        have HB' := hide hB
        clear hB
        go_wp2_with (first
          | (at_next; refine wpList_next_ranges _ rfl _ rfl 9 law9 mapElem Value.string Value.map invStr invMap cb wo.heap.size n D left' cnt' rfl hrg ?_ ?_)
          | go_in)
        · intro _ hl1
          go_wp2
          go_ret
          exact ⟨rfl, (unhide HB).trans ((unhide HB').mono hBs)⟩
        · intro s o kl y1 y2 w1 cnt1 hkey hlk hv hat hrg1 hlt hg1 hs1 hen
          obtain ⟨hs, hkl, p, hp, ho⟩ := cameCh (w := w) (unhide Hhas) (unhide Hat) (y := (y1, y2)) hkey hv hat
          subst ho
          obtain ⟨R, hR, hn, hf1, hf2, hf3, G, hG1, hG2⟩ := (unhide Hfit) s p hp
          have hB1' : Below wo.heap.size wo w1 := (unhide HB').grown hg1 (unhide HB').size (fun k e => by cases e; exact Nat.le_refl _)
          have hB1 : Below w.heap.size w w1 := (unhide HB).trans (hB1'.mono hBs)
          have hE1 := (unhide HE).below hB1
          have hrun := hE1.get hs hR
          have c1 : w1.cell? ⟨eb, 0, none⟩ = some (.map (some db)) := by rw [hB1.cell (p := ⟨eb, 0, none⟩) hel]; exact c0
          have Hrel := hide (hE1.rel s R hR)
          have Hp := hide (((unhide HC).below hB1).each s p hp).1
          have Hrg1 := hide hrg1
          have Hrg := hide hrg
          have HB1 := hide hB1'
          have Hlt := hide hlt
          have Hf2 := hide hf2
          have Hf3 := hide hf3
          have HG2 := hide hG2
          clear hkey hlk hv hat hrg1 hrg hg1 hs1 hkl hlt hE1 hR hB1 hB1' hf1 hf2 hf3 hG2 hp
          go_wp2_with (first
            | (go_at_call 35; refine (rows_any R.rb R.mb R.ar R.n p.1 n R.f p.2 G _ (unhide Hrel).1 (unhide Hrel).2 (unhide Hp) (by omega) (unhide HG2) hG1 (fun r hr => by have := (unhide Hf2) r hr; omega) (fun r hr => by have := (unhide Hf3) r hr; omega)).mono ?_; rintro e w2 ⟨rfl, hb2⟩))
          have hR2 := (unhide Hrg1).kept (below_grown hb2 none) (by simp) (by simp)
          refine ⟨⟨_, cnt1, hR2, (unhide HB1).trans (hb2.mono (unhide HB1).size)⟩, ?_⟩
          rw [hR2.left_eq, (unhide Hrg).left_eq]
          exact unhide Hlt
    · intro s o kl y1 y2 w1 cnt1 hkey hlk hv hat hrg1 hlt hg1 hs1 hen
      obtain ⟨hs, hkl, p, hp, ho⟩ := cameCh (w := w) (unhide Hhas) (unhide Hat) (y := (y1, y2)) hkey hv hat
      subst ho
      obtain ⟨R, hR, hn, hf1, hf2, hf3, G, hG⟩ := (unhide Hfit) s p hp
      have hB1 : Below w.heap.size w w1 := (unhide HB).grown hg1 (unhide HB).size (fun k e => by cases e; exact Nat.le_refl _)
      have hE1 := (unhide HE).below hB1
      have hrun := hE1.get hs hR
      have c1 : w1.cell? ⟨eb, 0, none⟩ = some (.map (some db)) := by rw [hB1.cell (p := ⟨eb, 0, none⟩) hel]; exact c0
      have Hrel := hide (hE1.rel s R hR)
      have Hp := hide (((unhide HC).below hB1).each s p hp).1
      have Hrg1 := hide hrg1
      have Hrg := hide hrg
      have HB1 := hide hB1
      have Hlt := hide hlt
      have Hf1 := hide hf1
      have Hf2 := hide hf2
      have Hf3 := hide hf3
      clear hkey hlk hv hat hrg1 hrg hg1 hs1 hkl hlt hE1 hR hB1 hf1 hf2 hf3 hG hp
      go_wp2_with (first
        | (go_at_call 34; refine (fit_any R.rb R.mb R.ar R.n p.1 n R.f p.2 _ (unhide Hrel).1 (unhide Hrel).2 (unhide Hp) (unhide Hf1) (fun r hr => by have := (unhide Hf2) r hr; omega) (fun r hr => by have := (unhide Hf3) r hr; omega)).mono ?_; rintro e w2 ⟨rfl, hb2⟩))
      have hR2 := (unhide Hrg1).kept (below_grown hb2 none) (by simp) (by simp)
      refine ⟨⟨_, cnt1, hR2, (unhide HB1).trans (hb2.mono (unhide HB1).size)⟩, ?_⟩
      rw [hR2.left_eq, (unhide Hrg).left_eq]
      exact unhide Hlt

end Go.Proofs.YtoifcnidhfnapaaGreat
