import Derived.Test.YtoifcnidhfnapaaGreatFit
set_option linter.unusedVariables false
set_option linter.unusedSimpArgs false
namespace Go.Proofs.YtoifcnidhfnapaaGreat
open Go.RowKit Go.Maps
attribute [local go_sem ↓] Go.wp_at_zero Go.wp_at_succ

theorem length_le_of_apart {α : Type} : ∀ (l m : List α), l.Pairwise (· ≠ ·) → (∀ x ∈ l, x ∈ m) → l.length ≤ m.length
  | [], _, _, _ => Nat.zero_le _
  | a :: l, m, hp, hs => by
    obtain ⟨m1, m2, rfl⟩ := List.append_of_mem (hs a (List.mem_cons_self))
    have hp' := List.pairwise_cons.1 hp
    have ih := length_le_of_apart l (m1 ++ m2) hp'.2 (fun x hx => by
      have h1 := hs x (List.mem_cons_of_mem _ hx)
      have h2 : x ≠ a := fun e => hp'.1 x hx e.symm
      simp only [List.mem_append, List.mem_cons] at h1 ⊢
      rcases h1 with h | h | h
      · exact Or.inl h
      · exact absurd h h2
      · exact Or.inr h)
    simp only [List.length_append, List.length_cons] at ih ⊢
    omega

theorem has_of_mem {es : List (Lit × DataW Unit)} {p : Lit × DataW Unit} (hp : p ∈ es) (hk : WideAt.IsKeyLit p.1) : Maps.has (.map es) p.1 = true := by
  rw [has_eq]
  exact List.any_eq_true.2 ⟨p, hp, WideAt.sameKey_self hk⟩

/-- A map of weights has no more entries than there are rows that may be. -/
theorem size_le {D : DataW Unit} {h : Row → Int} (hT : Tidy D) (hK : ∀ es, D = .map es → ∀ p ∈ es, WideAt.IsKeyLit p.1) (hr : Rep D h) (G : List Row) (hG : ∀ r, WfRow r → h r ≠ 0 → r ∈ G) : Maps.size D ≤ G.length := by
  obtain ⟨es, rfl, hp⟩ := hT
  have hk := hK es rfl
  have h1 : (es.map (·.1)).length ≤ (G.map rowLit).length := by
    refine length_le_of_apart _ _ (List.pairwise_map.2 hp) (fun x hx => ?_)
    obtain ⟨p, hpm, rfl⟩ := List.mem_map.1 hx
    have hh := has_of_mem hpm (hk p hpm)
    obtain ⟨r, hw, e⟩ := hr.keys _ hh
    rw [e] at hh ⊢
    exact List.mem_map.2 ⟨r, hG r hw ((hr.has_ r hw).1 hh), rfl⟩
  simpa [size_eq] using h1

/-- Keys that are keys, kept by 'put' and 'del'. -/
def Keyish (D : DataW Unit) : Prop := ∀ es, D = .map es → ∀ p ∈ es, WideAt.IsKeyLit p.1

theorem insert_mem {x p : Lit × DataW Unit} : ∀ {l : List (Lit × DataW Unit)}, p ∈ DataW.insert x l → p = x ∨ p ∈ l
  | [], h => by simp [DataW.insert] at h; exact Or.inl h
  | y :: l, h => by
    unfold DataW.insert at h
    split at h
    · simp at h ⊢; exact h
    · simp at h ⊢
      rcases h with h | h
      · exact Or.inr (Or.inl h)
      · rcases insert_mem h with h | h
        · exact Or.inl h
        · exact Or.inr (Or.inr h)

theorem Keyish.put {D : DataW Unit} (h : Keyish D) (hD : IsMap D) (r : Row) (d : DataW Unit) : Keyish (D.put (rowLit r) d) := by
  obtain ⟨es, rfl⟩ := hD
  intro es' he p hp
  simp only [DataW.put, DataW.map.injEq] at he
  subst he
  rcases insert_mem hp with rfl | hp
  · exact rowLit_isKey r
  · exact h es rfl p (List.mem_filter.1 hp).1

theorem Keyish.del {D : DataW Unit} (h : Keyish D) (hD : IsMap D) (k : Lit) : Keyish (D.del k) := by
  obtain ⟨es, rfl⟩ := hD
  intro es' he p hp
  simp only [DataW.del, DataW.map.injEq] at he
  subst he
  exact h es rfl p (List.mem_filter.1 hp).1

theorem own_keyish {w : World} {b n : Nat} {D : DataW Unit} (h : w.ownsMap Tryz.prog 62 (plainElem Tryz.prog 2) b n D) : Keyish D := by
  intro es he
  obtain ⟨es', e1, _, e3⟩ := h.entries law60
  rw [he] at e1
  cases e1
  exact e3

/-- The relation with some of the changes added. -/
structure Part (D : DataW Unit) (f g : Row → Int) (done : Row → Prop) : Prop where
  tidy : Tidy D
  keyish : Keyish D
  rep : ∃ h, Rep D h ∧ (∀ r, WfRow r → done r → h r = f r + g r) ∧ ∀ r, WfRow r → ¬ done r → h r = f r

theorem Part.step {D : DataW Unit} {f g : Row → Int} {done : Row → Prop} (hp : Part D f g done) {x : Row} (hx : WfRow x) (hnd : ¬ done x) :
    ∃ D', Part D' f g (fun r => done r ∨ r = x) ∧
      (f x + g x ≠ 0 → f x = 0 → Maps.size D' = Maps.size D + 1) ∧ (f x + g x ≠ 0 → f x ≠ 0 → Maps.size D' = Maps.size D) ∧ (f x + g x = 0 → f x ≠ 0 → Maps.size D' + 1 = Maps.size D) := by
  obtain ⟨hT, hK, h, hr, hd, hn⟩ := hp
  have hfx := hn x hx hnd
  have hh := hr.has_ x hx
  rw [hfx] at hh
  by_cases hz : f x + g x = 0
  · refine ⟨D.del (rowLit x), ⟨hT.del _, hK.del hT.isMap _, _, hr.del hx, fun r hw hdr => ?_, fun r hw hdr => ?_⟩, fun h => absurd hz h, fun h => absurd hz h, fun _ h0 => ?_⟩
    · unfold upd
      by_cases e : r = x
      · subst e; rw [if_pos rfl, hz]
      · rw [if_neg e]; exact hd r hw (hdr.resolve_right e)
    · unfold upd
      have e : ¬ r = x := fun e => hdr (Or.inr e)
      rw [if_neg e]; exact hn r hw (fun h => hdr (Or.inl h))
    · have := size_del (k := rowLit x) hT
      rw [hh.2 h0] at this
      simpa using this
  · refine ⟨D.put (rowLit x) (.lit (.int .i64 (f x + g x))), ⟨hT.put (rowLit_isKey x) _, hK.put hT.isMap _ _, _, hr.put hT.isMap hx hz, fun r hw hdr => ?_, fun r hw hdr => ?_⟩, fun _ h0 => ?_, fun _ h0 => ?_, fun h => absurd h hz⟩
    · unfold upd
      by_cases e : r = x
      · subst e; rw [if_pos rfl]
      · rw [if_neg e]; exact hd r hw (hdr.resolve_right e)
    · unfold upd
      have e : ¬ r = x := fun e => hdr (Or.inr e)
      rw [if_neg e]; exact hn r hw (fun h => hdr (Or.inl h))
    · have hf : Maps.has D (rowLit x) = false := by
        by_cases e : Maps.has D (rowLit x) = true
        · exact absurd h0 (hh.1 e)
        · simpa using e
      rw [size_put hT, hf]; rfl
    · rw [size_put hT, hh.2 h0]; rfl

end Go.Proofs.YtoifcnidhfnapaaGreat
