import Derived.Test.YtoifcnidhfnapaaGreatWts
set_option linter.unusedVariables false
set_option linter.unusedSimpArgs false
namespace Go.Proofs.YtoifcnidhfnapaaGreat
open Go.RowKit Go.Maps

def upd (f : Row → Int) (r : Row) (x : Int) : Row → Int := fun s => if s = r then x else f s

/-- The datum D of a map of weights reads as f. -/
structure Rep (D : DataW Unit) (f : Row → Int) : Prop where
  at_ : ∀ r, WfRow r → D.atKey (rowLit r) (.lit (.int .i64 0)) = .lit (.int .i64 (f r))
  has_ : ∀ r, WfRow r → (Maps.has D (rowLit r) = true ↔ f r ≠ 0)
  keys : ∀ l, Maps.has D l = true → ∃ r, WfRow r ∧ l = rowLit r

def WMap (w : World) (b n : Nat) (f : Row → Int) : Prop := ∃ D : DataW Unit, w.ownsMap Tryz.prog 62 (plainElem Tryz.prog 2) b n D ∧ Rep D f

theorem rowLit_isKey (r : Row) : WideAt.IsKeyLit (rowLit r) := trivial

theorem Rep.put {D : DataW Unit} {f : Row → Int} (h : Rep D f) (hD : IsMap D) {r : Row} (hr : WfRow r) {x : Int} (hx : x ≠ 0) : Rep (D.put (rowLit r) (.lit (.int .i64 x))) (upd f r x) := by
  refine ⟨fun s hs => ?_, fun s hs => ?_, fun l hl => ?_⟩
  · unfold upd
    by_cases e : s = r
    · subst e; rw [atKey_put_same hD (rowLit_isKey _), if_pos rfl]
    · rw [atKey_put_other (fun e' => e (rowLit_inj hs hr e')), if_neg e]; exact h.at_ s hs
  · unfold upd
    by_cases e : s = r
    · subst e; rw [has_put_same hD (rowLit_isKey _), if_pos rfl]; simp [hx]
    · rw [has_put_other (fun e' => e (rowLit_inj hs hr e')), if_neg e]; exact h.has_ s hs
  · by_cases e : l = rowLit r
    · exact ⟨r, hr, e⟩
    · rw [has_put_other e] at hl; exact h.keys l hl

theorem Rep.del {D : DataW Unit} {f : Row → Int} (h : Rep D f) {r : Row} (hr : WfRow r) : Rep (D.del (rowLit r)) (upd f r 0) := by
  refine ⟨fun s hs => ?_, fun s hs => ?_, fun l hl => ?_⟩
  · unfold upd
    by_cases e : s = r
    · subst e; rw [atKey_del_same, if_pos rfl]
    · rw [atKey_del_other (fun e' => e (rowLit_inj hs hr e')), if_neg e]; exact h.at_ s hs
  · unfold upd
    by_cases e : s = r
    · subst e; rw [has_del_same, if_pos rfl]; simp
    · rw [has_del_other (fun e' => e (rowLit_inj hs hr e')), if_neg e]; exact h.has_ s hs
  · by_cases e : l = rowLit r
    · subst e; rw [has_del_same] at hl; simp at hl
    · rw [has_del_other e] at hl; exact h.keys l hl

theorem zero3 (w : World) : (zeroValue 2).run Tryz.prog w = .ok (.int .i64 0) w := by kernel_rfl

theorem lit_int_inj {a b : Int} (h : (DataW.lit (.int .i64 a) : DataW Unit) = .lit (.int .i64 b)) : a = b := by
  injection h with h; injection h

set_option maxHeartbeats 400000 in
theorem add_any (b n : Nat) (f : Row → Int) (r : Row) (x : Int) (w : World) (h : WMap w b n f) (hn : n < 1000000) (hr : WfRow r) (h1 : -1000000 ≤ f r) (h2 : f r ≤ 1000000) (h3 : -1000000 ≤ x) (h4 : x ≤ 1000000) :
    Calls Tryz.prog 32 #[.map (some b), rowVal r, .int .i64 x] w fun e w' => e = .returned (.tuple #[]) ∧ WMap w' b (n + 1) (upd f r (f r + x)) ∧ w.grownBy w' (some b) := by
  obtain ⟨D, hown, hrep⟩ := h
  have hkey := keyOf_row hr
  have hat0 := hrep.at_ r hr
  obtain ⟨a, a2, a3⟩ := r
  obtain ⟨q, hq⟩ : ∃ q, q = f (a, a2, a3) := ⟨_, rfl⟩
  rw [← hq] at hat0 h1 h2
  have Hq := hide hq
  have Hrep := hide hrep
  have Hat := hide hat0
  clear hq hrep hat0
  have hown' := hown.alloc (.cells #[.int .i64 a, .int .i64 a2, .int .i64 a3] 62)
  unfold rowVal at hkey ⊢
  have hwf : (Lit.int .i64 (q + x)).wf = true := WalkArith.wf_i64 (by omega)
  by_cases hz : q + x = 0
  · have hzb : (q + x == 0) = true := by simp [hz]
    clear hz
    go_enter Tryz.func32, Tryz.ntmps32
    go_wp2_with (first
      | (at_lookup; refine wpList_lookup_own_int _ rfl _ _ 75 rfl 62 2 .i64 law60 Tryz.underlying75 Tryz.underlying2 (zero3 _) b n D rfl hown' _ _ rfl hkey ?_; intro c hat hwc; obtain rfl := lit_int_inj (hat.symm.trans (unhide Hat)); clear hat)
      | (at_delete; refine wpList_delete_own _ rfl _ _ 75 62 rfl 2 law60 Tryz.underlying75 _ b n D rfl hown' _ _ rfl hkey ?_; intro w1 hown1 hturn1)
      | go_in)
    refine bodyPost_ret (v := .tuple #[]) (by simp [results, Tryz.results32, go_sem]) rfl ?_
    refine ⟨rfl, ⟨_, hown1.mono (Nat.le_succ _), ?_⟩, ((World.grownBy_alloc _ _ _)).trans hturn1.grown⟩
    rw [← unhide Hq, show c + x = 0 from by simpa using hzb]
    exact (unhide Hrep).del hr
  · have hzb : (q + x == 0) = false := by simp [hz]
    have Hz := hide hz
    clear hz
    go_enter Tryz.func32, Tryz.ntmps32
    go_wp2_with (first
      | (at_lookup; refine wpList_lookup_own_int _ rfl _ _ 75 rfl 62 2 .i64 law60 Tryz.underlying75 Tryz.underlying2 (zero3 _) b n D rfl hown' _ _ rfl hkey ?_; intro c hat hwc; obtain rfl := lit_int_inj (hat.symm.trans (unhide Hat)); clear hat)
      | (at_mapUpdate; refine wpList_mapUpdate_own _ rfl _ _ _ 75 rfl 62 2 law60 Tryz.underlying75 _ b n D rfl hown' (by unfold maxLen; omega) _ _ _ rfl rfl hkey _ [] (plainElem_int Tryz.underlying2 hwf) ?_; intro w1 hown1 hgrow1)
      | go_in)
    go_end0
    refine ⟨rfl, ⟨_, hown1, ?_⟩, ((World.grownBy_alloc _ _ _)).trans hgrow1⟩
    rw [← unhide Hq]
    exact (unhide Hrep).put hown.isMap hr (unhide Hz)

end Go.Proofs.YtoifcnidhfnapaaGreat
