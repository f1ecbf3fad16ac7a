import Derived.Test.YtoifcnidhfnapaaGreatSim5
set_option linter.unusedVariables false
set_option linter.unusedSimpArgs false
namespace Go.Proofs.YtoifcnidhfnapaaGreat.Sim
open Go

variable {P : Program} {tn : Tn} {V1 V2 : Value}

theorem calls_in {g : FuncId} (hP : Fine P tn V1 V2 g) {f : FuncId} {T : List Nat} (h : tn.lookup f = some T) (args : Array Value) (w : World) : (callFunc f args).run P w = .ok (.enter f args) w := by
  have hfn := hP.fns _ _ h
  unfold fnOK at hfn
  dsimp only at hfn
  cases hf : P.funcs[f]? with
  | none => rw [hf] at hfn; simp at hfn
  | some fn =>
    rw [hf] at hfn
    dsimp only at hfn
    cases hb : fn.body with
    | none => rw [hb] at hfn; simp at hfn
    | some c =>
      rw [hb] at hfn
      simp only [Bool.and_eq_true] at hfn
      exact enters_of hf (by simpa using hfn.1.1) hb args w

theorem enter_rel {g : FuncId} (hP : Fine P tn V1 V2 g) {f : FuncId} {T : List Nat} (h : tn.lookup f = some T) {args args' : Array Value} (ha : TRel V1 V2 T args args') : FR P tn V1 V2 (Frame.enter P f args .normal) (Frame.enter P f args' .normal) T := by
  have hfn := hP.fns _ _ h
  unfold fnOK at hfn
  dsimp only at hfn
  cases hf : P.funcs[f]? with
  | none => rw [hf] at hfn; simp at hfn
  | some fn =>
    rw [hf] at hfn
    dsimp only at hfn
    cases hb : fn.body with
    | none => rw [hb] at hfn; simp at hfn
    | some c =>
      rw [hb] at hfn
      simp only [Bool.and_eq_true] at hfn
      refine ⟨rfl, h, ?_, rfl, ?_, rfl, rfl, rfl, rfl, rfl, rfl, rfl⟩
      · simp only [Frame.enter]
        rw [← ha.size]
        refine ⟨by simp [ha.size], fun i => ?_⟩
        have he := ha.each i
        have hsz := ha.size
        simp only [Array.getD_eq_getD_getElem?] at he ⊢
        by_cases hi : i < args.size
        · rw [Array.getElem?_append_left hi, Array.getElem?_append_left (by omega)]; exact he
        · rw [Array.getElem?_append_right (by omega), Array.getElem?_append_right (by omega), ← hsz]
          have : ∀ n k : Nat, ((Array.replicate n undef)[k]?).getD undef = undef := by
            intro n k
            rw [Array.getElem?_replicate]
            split <;> rfl
          rw [this]
          exact VR.refl_undef _ _ _ _
      · intro x hx
        simp [Frame.enter, hf, hb] at hx
        subst hx
        exact hfn.2

/-- A call to a function that is known. -/
theorem step_call {g : FuncId} (hP : Fine P tn V1 V2 g) {fr fr' : Frame} {frs frs' cs : List Frame} {w w1 : World} {m1 : Machine} {T T2 : List Nat} {s s' : Sem Next} {f : FuncId} {args args' : Array Value} (hF : FR P tn V1 V2 fr fr' T) (hS : SR P tn V1 V2 frs frs') (hW : Waits fr T)
    (e1 : stepG P true { frame := fr, callers := frs ++ [Last], status := .running, dying := none } w = stepG.apply P true fr (frs ++ [Last]) none s w)
    (e2 : stepG P true { frame := fr', callers := frs' ++ cs, status := .running, dying := none } w = stepG.apply P true fr' (frs' ++ cs) none s' w)
    (h1 : s.run P w = .ok (.enter f args) w1) (h2 : s'.run P w = .ok (.enter f args') w1) (hl : tn.lookup f = some T2) (ha : TRel V1 V2 T2 args args')
    (hs : step P (lone fr (frs ++ [Last]) w) = .next m1) : Follows P tn V1 V2 cs (lone fr' (frs' ++ cs) w) m1 := by
  obtain ⟨hm, ops, i, rest, k, ht, _⟩ := id hW
  have ht' := hF.todo.trans ht
  refine follows_go (fr1 := Frame.enter P f args .normal) (fr1' := Frame.enter P f args' .normal) (frs1 := fr :: frs) (frs1' := fr' :: frs') (w1 := w1) (T1 := T2) hs ?_ ?_ (enter_rel hP hl ha) (.cons hF hW hS)
  · rw [e1]; simp [stepG.apply, h1, ht]
  · rw [e2]; simp [stepG.apply, h2, ht']

/-- An operation that gives a value. -/
theorem step_val {fr fr' : Frame} {frs frs' cs : List Frame} {w w1 : World} {m1 : Machine} {T : List Nat} {s s' : Sem Next} {v v' : Value} (hF : FR P tn V1 V2 fr fr' T) (hS : SR P tn V1 V2 frs frs')
    (e1 : stepG P true { frame := fr, callers := frs ++ [Last], status := .running, dying := none } w = stepG.apply P true fr (frs ++ [Last]) none s w)
    (e2 : stepG P true { frame := fr', callers := frs' ++ cs, status := .running, dying := none } w = stepG.apply P true fr' (frs' ++ cs) none s' w)
    (h : (s.run P w = .ok (.value v) w1 ∧ s'.run P w = .ok (.value v') w1) ∨ (s.run P w = .ok .skip w1 ∧ s'.run P w = .ok .skip w1 ∧ v = undef ∧ v' = undef))
    (hv : ∀ ops i rest k d, fr.todo = .inRegion ops (i :: rest) :: k → (ops[i]?).bind (·.dst) = some d → VR V1 V2 T d v v')
    (hs : step P (lone fr (frs ++ [Last]) w) = .next m1) : Follows P tn V1 V2 cs (lone fr' (frs' ++ cs) w) m1 := by
  refine follows_go (fr1 := fr.finish v) (fr1' := fr'.finish v') (frs1 := frs) (frs1' := frs') (w1 := w1) (T1 := T) hs ?_ ?_ (finish_rel hF hv) hS
  · rw [e1]; rcases h with ⟨h1, _⟩ | ⟨h1, _, rfl, rfl⟩ <;> simp [stepG.apply, h1]
  · rw [e2]; rcases h with ⟨_, h2⟩ | ⟨_, h2, rfl, rfl⟩ <;> simp [stepG.apply, h2]

theorem step_op {g : FuncId} (hP : Fine P tn V1 V2 g) {fr fr' : Frame} {frs frs' cs : List Frame} {w : World} {m1 : Machine} {T : List Nat} {ops : Array Oper} {i : Nat} {rest : List Nat} {k : List Item} (hF : FR P tn V1 V2 fr fr' T) (hS : SR P tn V1 V2 frs frs') (hm : fr.mode = .run)
    (ht : fr.todo = .inRegion ops (i :: rest) :: k) (hs : step P (lone fr (frs ++ [Last]) w) = .next m1) : Follows P tn V1 V2 cs (lone fr' (frs' ++ cs) w) m1 := by
  have hm' := hF.mode.trans hm
  have ht' := hF.todo.trans ht
  have hops : ops.all (opOK tn T) = true := by
    have := hF.ok (.inRegion ops (i :: rest)) (by rw [ht]; exact List.mem_cons_self ..)
    simpa [itemOK] using this
  have hy := hF.tm.yielded hP.n1 hP.n2 ops
  cases hw : ((ops[i]?).map (Region.wanted · (yielded ops fr.tmps))).getD false with
  | false =>
    have hw' : ((ops[i]?).map (Region.wanted · (yielded ops fr'.tmps))).getD false = false := by rw [← hy]; exact hw
    refine follows_go (fr1 := fr.finish undef) (fr1' := fr'.finish undef) (frs1 := frs) (frs1' := frs') (w1 := w) (T1 := T) hs ?_ ?_ (finish_rel hF (fun _ _ _ _ _ _ _ => VR.refl_undef _ _ _ _)) hS
    · simp [stepG, stepG.exec, hm, ht, hw]
    · simp [stepG, stepG.exec, hm', ht', hw']
  | true =>
    have hw' : ((ops[i]?).map (Region.wanted · (yielded ops fr'.tmps))).getD false = true := by rw [← hy]; exact hw
    cases ho : ops[i]? with
    | none => rw [ho] at hw; simp at hw
    | some o =>
      have hok : opOK tn T o = true := Array.all_eq_true_iff_forall_mem.1 hops o (Array.mem_of_getElem? ho)
      have e1 : stepG P true { frame := fr, callers := frs ++ [Last], status := .running, dying := none } w = stepG.apply P true fr (frs ++ [Last]) none (execOp fr.eval o) w := by
        rw [ho] at hw
        simp [stepG, stepG.exec, stepG.oper, Frame.oper?, hm, ht, ho, hF.rnd]
        simp at hw
        simp [hw]
      have e2 : stepG P true { frame := fr', callers := frs' ++ cs, status := .running, dying := none } w = stepG.apply P true fr' (frs' ++ cs) none (execOp fr'.eval o) w := by
        rw [ho] at hw'
        simp [stepG, stepG.exec, stepG.oper, Frame.oper?, hm', ht', ho, hF.rnd']
        simp at hw'
        simp [hw']
      have hdst : ∀ v, dstClean T o = true → ∀ ops2 i2 rest2 k2 d, fr.todo = .inRegion ops2 (i2 :: rest2) :: k2 → (ops2[i2]?).bind (·.dst) = some d → VR V1 V2 T d v v := by
        intro v hd ops2 i2 rest2 k2 d h1 h2
        rw [ht] at h1
        cases h1
        rw [ho] at h2
        simp at h2
        simp [dstClean, h2] at hd
        exact VR.of_clean hd
      by_cases hcall : ∃ c, o.op = .call c
      · obtain ⟨c, hc⟩ := hcall
        have hok2 := hok
        unfold opOK at hok2
        rw [hc] at hok2
        simp only [Bool.and_eq_true] at hok2
        obtain ⟨hd, hcal⟩ := hok2
        have hW : Waits fr T := by
          refine ⟨hm, ops, i, rest, k, ht, fun d hdd => ?_⟩
          rw [ho] at hdd
          simp at hdd
          simpa [dstClean, hdd] using hd
        have hex : ∀ ρ : Operand → Value, execOp ρ o = (do let d ← resolve ρ c o.type; invoke d.target d.args) := fun ρ => by simp only [execOp, hc]
        have hargs : ∀ x ∈ c.args, opdClean T x = true → fr'.eval x = fr.eval x := fun x _ hx => eval_clean hF hx
        cases hcl : c.callee with
        | invoke recv name => rw [hcl] at hcal; simp at hcal
        | builtin bi =>
          have hbl : bi = .len ∧ c.args.all (opdClean T) = true := by
            rw [hcl] at hcal
            cases bi <;> simp at hcal ⊢
            exact hcal
          obtain ⟨rfl, hal⟩ := hbl
          have hmap : c.args.map fr'.eval = c.args.map fr.eval := map_congr _ (fun x hx => eval_clean hF (Array.all_eq_true_iff_forall_mem.1 hal x hx))
          have hsame : execOp fr'.eval o = execOp fr.eval o := by rw [hex, hex]; simp only [resolve, hcl, hmap]
          rw [hsame] at e2
          cases hr : (execOp fr.eval o).run P w with
          | halt x w1 => exact step_halt hP hF hS e1 e2 hr hr hs
          | ok nx w1 =>
            have hnx : ∃ v, nx = .value v := by
              rw [hex] at hr
              simp only [resolve, hcl] at hr
              simp only [pure_bind, invoke, builtin] at hr
              rw [Sem.run_bind] at hr
              revert hr
              generalize (Sem.run P _ w : Result Value) = q
              intro hr
              cases q with
              | ok x w2 => simp at hr; exact ⟨x, hr.1.symm⟩
              | halt x w2 => simp [Result.andThen] at hr
            obtain ⟨v, rfl⟩ := hnx
            exact step_val hF hS e1 e2 (.inl ⟨hr, hr⟩) (hdst v hd) hs
        | value x =>
          cases x with
          | const v => rw [hcl] at hcal; simp at hcal
          | global j => rw [hcl] at hcal; simp at hcal
          | func f =>
            rw [hcl] at hcal
            dsimp only at hcal
            cases hl : tn.lookup f with
            | none => rw [hl] at hcal; simp at hcal
            | some T2 =>
              rw [hl] at hcal
              dsimp only at hcal
              have hrun : ∀ fx : Frame, (execOp fx.eval o).run P w = .ok (.enter f (c.args.map fx.eval)) w := by
                intro fx
                rw [hex]
                simp only [resolve, hcl, Frame.eval, Deferred.ofValue, pure_bind, invoke, Array.append_empty, Array.empty_append]
                exact calls_in hP hl _ w
              refine step_call hP hF hS hW e1 e2 (hrun fr) (hrun fr') hl ⟨by simp, fun j => ?_⟩ hs
              have hj := hcal
              unfold argsOK at hj
              rw [List.all_eq_true] at hj
              simp only [Array.getD_eq_getD_getElem?, Array.getElem?_map]
              cases hx : c.args[j]? with
              | none => exact VR.refl_undef _ _ _ _
              | some x =>
                have hjs : j < c.args.size := (Array.getElem?_eq_some_iff.1 hx).1
                have h3 := hj j (List.mem_range.2 hjs)
                rw [hx] at h3
                simp only [Option.map_some, Option.getD_some]
                dsimp only at h3
                by_cases hjt : j ∈ T2
                · have hcx : opdClean T x = false := by
                    have : T2.contains j = true := by simpa using hjt
                    rw [this] at h3
                    simpa using h3
                  cases x with
                  | tmp t =>
                    have htT : t ∈ T := by simpa [opdClean] using hcx
                    exact ⟨fun h => absurd hjt h, fun _ => (hF.tm.each t).2 htT⟩
                  | const v => simp [opdClean] at hcx
                  | global i => simp [opdClean] at hcx
                  | func f => simp [opdClean] at hcx
                · have hcx : opdClean T x = true := by
                    have : T2.contains j = false := by simpa using hjt
                    rw [this] at h3
                    simpa using h3
                  rw [eval_clean hF hcx]
                  exact VR.of_clean hjt
          | tmp t =>
            rw [hcl] at hcal
            simp only [Bool.and_eq_true] at hcal
            obtain ⟨⟨htT, hal⟩, hsz⟩ := hcal
            have htT : t ∈ T := by simpa using htT
            have hsz : c.args.size = 2 := by simpa using hsz
            have hmap : c.args.map fr'.eval = c.args.map fr.eval := map_congr _ (fun x hx => eval_clean hF (Array.all_eq_true_iff_forall_mem.1 hal x hx))
            have hrun : ∀ fx : Frame, execOp fx.eval o = (do let d ← Deferred.ofValue (fx.tmps.getD t undef) (c.args.map fx.eval); invoke d.target d.args) := by
              intro fx
              rw [hex]
              simp only [resolve, hcl, Frame.eval]
            obtain ⟨x, y, hxy⟩ : ∃ x y, c.args.map fr.eval = #[x, y] := by
              have h2 : (c.args.map fr.eval).size = 2 := by simpa using hsz
              generalize c.args.map fr.eval = z at h2
              obtain ⟨z⟩ := z
              match z, h2 with
              | [x, y], _ => exact ⟨x, y, rfl⟩
            rcases (hF.tm.each t).2 htT with ⟨u1, u2⟩ | ⟨u1, u2⟩
            · have q1 : (execOp fr.eval o).run P w = .halt (.stuck "call: function value expected") w := by rw [hrun, u1]; rfl
              have q2 : (execOp fr'.eval o).run P w = .halt (.stuck "call: function value expected") w := by rw [hrun, u2]; rfl
              exact step_halt hP hF hS e1 e2 q1 q2 hs
            · have q1 : (execOp fr.eval o).run P w = .ok (.enter g #[x, y]) w := by rw [hrun, u1, hxy]; exact hP.one x y w
              have q2 : (execOp fr'.eval o).run P w = .ok (.enter g #[x, y]) w := by rw [hrun, u2, hmap, hxy]; exact hP.two x y w
              exact step_call hP hF hS hW e1 e2 q1 q2 hP.cmp ⟨rfl, fun j => VR.of_clean (by simp)⟩ hs
      · have hnc : ∀ c, o.op ≠ .call c := fun c e => hcall ⟨c, e⟩
        by_cases hclean : o.op.operands.all (opdClean T) = true ∧ dstClean T o = true
        · have hsame : execOp fr'.eval o = execOp fr.eval o := execOp_congr tn T o hok (fun x hx => eval_clean hF (Array.all_eq_true_iff_forall_mem.1 hclean.1 x hx)) hnc
          rw [hsame] at e2
          cases hr : (execOp fr.eval o).run P w with
          | halt x w1 => exact step_halt hP hF hS e1 e2 hr hr hs
          | ok nx w1 =>
            rcases execOp_next tn T P w w1 o nx hok hnc hr with ⟨v, rfl⟩ | rfl
            · exact step_val hF hS e1 e2 (.inl ⟨hr, hr⟩) (hdst v hclean.2) hs
            · exact step_val (v := undef) (v' := undef) hF hS e1 e2 (.inr ⟨hr, hr, rfl, rfl⟩) (hdst undef hclean.2) hs
        ·
          have key : ∀ x, o.op.operands = #[x] → (if opdClean T x then dstClean T o else !(dstClean T o)) = true → (∀ ρ : Operand → Value, (execOp ρ o).run P w = .ok (.value (ρ x)) w) → Follows P tn V1 V2 cs (lone fr' (frs' ++ cs) w) m1 := by
            intro x hx hif hrun
            cases hcx : opdClean T x with
            | true => exact absurd ⟨by rw [hx]; simp [hcx], by rw [hcx] at hif; simpa using hif⟩ hclean
            | false =>
              rw [hcx] at hif
              have hd : dstClean T o = false := by simpa using hif
              cases x with
              | tmp t =>
                have htT : t ∈ T := by simpa [opdClean] using hcx
                refine step_val hF hS e1 e2 (.inl ⟨hrun _, hrun _⟩) ?_ hs
                intro ops2 i2 rest2 k2 d h1 h2
                rw [ht] at h1
                cases h1
                rw [ho] at h2
                simp at h2
                have hdT : d ∈ T := by simpa [dstClean, h2] using hd
                exact ⟨fun h => absurd hdT h, fun _ => (hF.tm.each t).2 htT⟩
              | const v => simp [opdClean] at hcx
              | global i => simp [opdClean] at hcx
              | func f => simp [opdClean] at hcx
          have hok2 := hok
          unfold opOK at hok2
          cases hop : o.op with
          | move x => rw [hop] at hok2; exact key x (by rw [hop]; rfl) hok2 (fun ρ => by simp [execOp, hop])
          | assign x => rw [hop] at hok2; exact key x (by rw [hop]; rfl) hok2 (fun ρ => by simp [execOp, hop])
          | call c => exact absurd hop (hnc c)
          | _ =>
            exfalso
            rw [hop] at hok2
            first
              | (simp at hok2; done)
              | (simp only [Bool.and_eq_true] at hok2; exact hclean ⟨by rw [hop]; exact hok2.2, hok2.1⟩)

end Go.Proofs.YtoifcnidhfnapaaGreat.Sim
