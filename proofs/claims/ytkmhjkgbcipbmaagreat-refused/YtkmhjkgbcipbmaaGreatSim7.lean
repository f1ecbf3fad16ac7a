import Derived.Test.YtkmhjkgbcipbmaaGreatSim6
set_option linter.unusedVariables false
set_option linter.unusedSimpArgs false
namespace Go.Proofs.YtkmhjkgbcipbmaaGreat.Sim
open Go

variable {P : Program} {tn : Tn} {V1 V2 : Value}

theorem step_run {g : FuncId} (hP : Fine P tn V1 V2 g) {fr fr' : Frame} {frs frs' cs : List Frame} {w : World} {m1 : Machine} {T : List Nat} (hF : FR P tn V1 V2 fr fr' T) (hS : SR P tn V1 V2 frs frs') (hm : fr.mode = .run)
    (hs : step P (lone fr (frs ++ [Last]) w) = .next m1) : Follows P tn V1 V2 cs (lone fr' (frs' ++ cs) w) m1 := by
  have hm' := hF.mode.trans hm
  have hr := hF.rnd
  have hr' := hF.rnd'
  have key : ∀ k', (∀ x ∈ k', itemOK tn T x = true) →
      (stepG P true { frame := fr, callers := frs ++ [Last], status := .running, dying := none } w).bare = .go { frame := { fr with todo := k' }, callers := frs ++ [Last], status := .running, dying := none } w →
      (stepG P true { frame := fr', callers := frs' ++ cs, status := .running, dying := none } w).bare = .go { frame := { fr' with todo := k' }, callers := frs' ++ cs, status := .running, dying := none } w →
      Follows P tn V1 V2 cs (lone fr' (frs' ++ cs) w) m1 := fun k' hk h1 h2 => follows_go hs h1 h2 (todo_rel hF k' hk) hS
  have keyR : (stepG P true { frame := fr, callers := frs ++ [Last], status := .running, dying := none } w).bare = .go { frame := { fr with mode := .returning }, callers := frs ++ [Last], status := .running, dying := none } w →
      (stepG P true { frame := fr', callers := frs' ++ cs, status := .running, dying := none } w).bare = .go { frame := { fr' with mode := .returning }, callers := frs' ++ cs, status := .running, dying := none } w →
      Follows P tn V1 V2 cs (lone fr' (frs' ++ cs) w) m1 := fun h1 h2 => follows_go hs h1 h2 (ret_rel hF) hS
  cases ht : fr.todo with
  | nil =>
    have ht' := hF.todo.trans ht
    exact keyR (by simp [stepG, stepG.exec, hm, ht, hr]) (by simp [stepG, stepG.exec, hm', ht', hr'])
  | cons x k =>
    have ht' := hF.todo.trans ht
    have hx : itemOK tn T x = true := hF.ok x (by rw [ht]; exact List.mem_cons_self ..)
    have hk : ∀ y ∈ k, itemOK tn T y = true := fun y hy => hF.ok y (by rw [ht]; exact List.mem_cons_of_mem _ hy)
    cases x with
    | inBlock id => exact key k hk (by simp [stepG, stepG.exec, hm, ht]) (by simp [stepG, stepG.exec, hm', ht'])
    | inLoop b =>
      refine key (.code b :: .inLoop b :: k) (fun y hy => ?_) (by simp [stepG, stepG.exec, hm, ht]) (by simp [stepG, stepG.exec, hm', ht'])
      rcases List.mem_cons.1 hy with rfl | hy
      · simpa [itemOK] using hx
      · rcases List.mem_cons.1 hy with rfl | hy
        · exact hx
        · exact hk y hy
    | inRegion ops l =>
      cases l with
      | nil => exact key k hk (by simp [stepG, stepG.exec, hm, ht]) (by simp [stepG, stepG.exec, hm', ht'])
      | cons i rest => exact step_op hP hF hS hm ht hs
    | code c =>
      cases c with
      | skip => exact key k hk (by simp [stepG, stepG.exec, hm, ht]) (by simp [stepG, stepG.exec, hm', ht'])
      | label l => exact key k hk (by simp [stepG, stepG.exec, hm, ht]) (by simp [stepG, stepG.exec, hm', ht'])
      | ret => exact keyR (by simp [stepG, stepG.exec, hm, ht, hr]) (by simp [stepG, stepG.exec, hm', ht', hr'])
      | seq a b =>
        simp only [itemOK, codeOK, Bool.and_eq_true] at hx
        refine key (.code a :: .code b :: k) (fun y hy => ?_) (by simp [stepG, stepG.exec, hm, ht]) (by simp [stepG, stepG.exec, hm', ht'])
        rcases List.mem_cons.1 hy with rfl | hy
        · exact hx.1
        · rcases List.mem_cons.1 hy with rfl | hy
          · exact hx.2
          · exact hk y hy
      | block id b =>
        refine key (.code b :: .inBlock id :: k) (fun y hy => ?_) (by simp [stepG, stepG.exec, hm, ht]) (by simp [stepG, stepG.exec, hm', ht'])
        rcases List.mem_cons.1 hy with rfl | hy
        · simpa [itemOK, codeOK] using hx
        · rcases List.mem_cons.1 hy with rfl | hy
          · rfl
          · exact hk y hy
      | loop b =>
        refine key (.code b :: .inLoop b :: k) (fun y hy => ?_) (by simp [stepG, stepG.exec, hm, ht]) (by simp [stepG, stepG.exec, hm', ht'])
        rcases List.mem_cons.1 hy with rfl | hy
        · simpa [itemOK, codeOK] using hx
        · rcases List.mem_cons.1 hy with rfl | hy
          · simpa [itemOK, codeOK] using hx
          · exact hk y hy
      | cond c a b =>
        simp only [itemOK, codeOK, Bool.and_eq_true] at hx
        have he := eval_clean hF hx.1.1
        cases hb : fr.eval c with
        | bool v =>
          rw [hb] at he
          refine key (.code (if v then a else b) :: k) (fun y hy => ?_) (by simp [stepG, stepG.exec, hm, ht, hb]) (by simp [stepG, stepG.exec, hm', ht', he])
          rcases List.mem_cons.1 hy with rfl | hy
          · cases v
            · exact hx.2
            · exact hx.1.2
          · exact hk y hy
        | _ => exact (step_end hs _ _ (by simp [stepG, stepG.exec, hm, ht, hb]; try exact ⟨rfl, rfl⟩)).elim
      | exit id =>
        cases hx2 : exitTo id k with
        | none => exact (step_end hs _ _ (by simp [stepG, stepG.exec, hm, ht, hx2, hr]; try exact ⟨rfl, rfl⟩)).elim
        | some k' => exact key k' (fun y hy => hk y (exitTo_mem hx2 y hy)) (by simp [stepG, stepG.exec, hm, ht, hx2]) (by simp [stepG, stepG.exec, hm', ht', hx2])
      | region id ops draw =>
        have hops : ∀ l, itemOK tn T (.inRegion ops l) = true := fun l => by simpa [itemOK, codeOK] using hx
        cases draw with
        | false =>
          refine key (.inRegion ops (List.range ops.size) :: k) (fun y hy => ?_) (by simp [stepG, stepG.exec, hm, ht]) (by simp [stepG, stepG.exec, hm', ht'])
          rcases List.mem_cons.1 hy with rfl | hy
          · exact hops _
          · exact hk y hy
        | true =>
          refine follows_go (fr1 := { fr with todo := .inRegion ops (Region.schedule (P.follows .mixedOrders) ops (w.tape w.drawn (.order fr.fn id))) :: k }) (fr1' := { fr' with todo := .inRegion ops (Region.schedule (P.follows .mixedOrders) ops (w.tape w.drawn (.order fr.fn id))) :: k }) (frs1 := frs) (frs1' := frs')
            (w1 := { w with drawn := w.drawn + 1 }) (T1 := T) hs ?_ ?_ (todo_rel hF _ (fun y hy => ?_)) hS
          · simp [stepG, stepG.exec, hm, ht, choose, Sem.run, Question.forced, Question.cut]
          · simp [stepG, stepG.exec, hm', ht', choose, Sem.run, Question.forced, Question.cut, hF.fn]
          · rcases List.mem_cons.1 hy with rfl | hy
            · exact hops _
            · exact hk y hy
      | _ => simp [itemOK, codeOK] at hx
    | _ => simp [itemOK] at hx

theorem step_all {g : FuncId} (hP : Fine P tn V1 V2 g) {fr fr' : Frame} {frs frs' cs : List Frame} {w : World} {m1 : Machine} {T : List Nat} (hF : FR P tn V1 V2 fr fr' T) (hS : SR P tn V1 V2 frs frs')
    (hs : step P (lone fr (frs ++ [Last]) w) = .next m1) : Follows P tn V1 V2 cs (lone fr' (frs' ++ cs) w) m1 := by
  cases hm : fr.mode with
  | run => exact step_run hP hF hS hm hs
  | returning => exact step_ret hP hF hS hm hs
  | panicking chain => exact step_pan hP hF hS hm hs

theorem runs_same {g : FuncId} (hP : Fine P tn V1 V2 g) (cs : List Frame) (n : Nat) : ∀ {fr fr' : Frame} {frs frs' : List Frame} {w w2 : World} {T : List Nat} {fe : Frame}, FR P tn V1 V2 fr fr' T → SR P tn V1 V2 frs frs' →
    runN P n (lone fr (frs ++ [Last]) w) = .next (lone fe [Last] w2) → ∃ fe' T', Steps P (lone fr' (frs' ++ cs) w) (lone fe' cs w2) ∧ FR P tn V1 V2 fe fe' T' := by
  induction n with
  | zero =>
    intro fr fr' frs frs' w w2 T fe hF hS h
    simp [runN, lone] at h
    obtain ⟨rfl, rfl, h⟩ := h
    rcases SR.inv hS with ⟨rfl, rfl⟩ | ⟨c, c', T', l, l', rfl, rfl, hc, hw, hl⟩
    · exact ⟨fr', T, Steps.refl _ _, hF⟩
    · simp at h
  | succ n ih =>
    intro fr fr' frs frs' w w2 T fe hF hS h
    simp only [runN] at h
    cases hx : step P (lone fr (frs ++ [Last]) w) with
    | ended o w1 => rw [hx] at h; simp at h
    | next m1 =>
      rw [hx] at h
      dsimp only at h
      rcases step_all (cs := cs) hP hF hS hx with ⟨fr1, frs1, fr1', frs1', w1, T1, rfl, hst, hF1, hS1⟩ | hg | hd
      · obtain ⟨fe', T', hsteps, hFe⟩ := ih hF1 hS1 h
        exact ⟨fe', T', .head hst hsteps, hFe⟩
      · exfalso
        cases n with
        | zero =>
          simp [runN] at h
          obtain ⟨fr3, w3, chain, he, _⟩ := hg
          rw [h] at he
          simp [lone] at he
        | succ n =>
          simp only [runN] at h
          cases hy : step P m1 with
          | next m2 => exact gone_step hg hy
          | ended o w1 => rw [hy] at h; simp at h
      · exact absurd rfl (dead_not_lone (dead_runN hd h) fe [Last] w2)

/-- THE TURN: what a function does with the one value it does with the other. -/
theorem calls_turn {g : FuncId} (hP : Fine P tn V1 V2 g) {f : FuncId} {T : List Nat} (hf : tn.lookup f = some T) {args args' : Array Value} (ha : TRel V1 V2 T args args') {w : World} {R : Ending → World → Prop}
    (hR : ∀ e w', R e w' → ∃ v, e = .returned v) (h : Calls P f args w R) : Calls P f args' w R := by
  intro cs
  obtain ⟨e, w', fr, hr, hc, hfn, hl⟩ := h [Last]
  obtain ⟨v, rfl⟩ := hR e w' hr
  obtain ⟨n, hn⟩ : Steps P (lone (Frame.enter P f args .normal) [Last] w) (lone fr [Last] w') := hc
  obtain ⟨fe', T', hst, hF⟩ := runs_same hP cs n (frs := []) (frs' := []) (enter_rel hP hf ha) .nil hn
  refine ⟨.returned v, w', fe', hr, hst, hF.fn.trans hfn, ?_⟩
  obtain ⟨hm, hd, hk, fn, hfu, hres⟩ := hl
  refine ⟨hF.mode.trans hm, hF.d', hF.kind', fn, by rw [hF.fn]; exact hfu, ?_⟩
  have hfo := hP.fns _ _ hF.look
  unfold fnOK at hfo
  dsimp only at hfo
  rw [hfu] at hfo
  dsimp only at hfo
  simp only [Bool.and_eq_true] at hfo
  rw [← hres]
  congr 1
  unfold results
  congr 1
  refine mapM_same _ _ _ (fun x hx => ?_)
  have hx := Array.all_eq_true_iff_forall_mem.1 hfo.1.2 x hx
  cases x with
  | tmp t => simp [resOK] at hx; dsimp only; rw [hF.tm.clean hx]
  | cell t ty => simp [resOK] at hx; dsimp only; rw [hF.tm.clean hx]

end Go.Proofs.YtkmhjkgbcipbmaaGreat.Sim
