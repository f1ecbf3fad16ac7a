import Derived.Test.YtoifcnidhfnapabGreatDoorB06
import Derived.Test.YtoifcnidhfnapabGreatDoorProg
import Derived.KernelRfl
import Derived.WalkKit
set_option linter.unusedVariables false
set_option linter.unusedSimpArgs false
set_option maxRecDepth 100000
set_option maxHeartbeats 16000000
namespace Go.Proofs.YtoifcnidhfnapabGreatDoor.Sim
open Go
variable {P:Program} {tn:Tn} {V1 V2:Value}
theorem zfr {fr fr':Frame} {T:List Nat} (h:FR P tn V1 V2 fr fr' T) {x:Operand} (hx:zbm T x=true):fr'.eval x=fr.eval x:=by
 cases x with
 | tmp t=>simp [zbm] at hx;simp only [Frame.eval];exact (h.tm.clean hx).symm
 | const v=>rfl
 | global i=>rfl
 | func f=>rfl
theorem zga {fr fr':Frame} {frs frs' cs:List Frame} {w w1:World} {m1:Machine} {g:Goroutine} (hs:step P (lone fr (frs ++ [zhd]) w)=.next m1)
  (h1:(stepG P true { frame:=fr,callers:=frs ++ [zhd],status:=.running,dying:=none } w).bare=.go g w1)
  (hg:(g.status=.blocked∨g.status=.waiting)∨∃ d f,g.status=.running∧g.dying=some d∧d.calling=false∧d.fatal=some f):zer P tn V1 V2 cs (lone fr' (frs' ++ cs) w) m1:=by
 have:=yj9 (s:=.go g w1) hs h1 g w1 rfl
 exact .inr (.inr ⟨g,w1,this,hg⟩)
theorem zpr {g:FuncId} (hP:Fine P tn V1 V2 g) {fr fr':Frame} {frs frs' cs:List Frame} {w w1:World} {m1:Machine} {T:List Nat} {s s':Sem Next} {x:Halt} (hF:FR P tn V1 V2 fr fr' T) (hS:SR P tn V1 V2 frs frs')
  (e1:stepG P true { frame:=fr,callers:=frs ++ [zhd],status:=.running,dying:=none } w=stepG.apply P true fr (frs ++ [zhd]) none s w)
  (e2:stepG P true { frame:=fr',callers:=frs' ++ cs,status:=.running,dying:=none } w=stepG.apply P true fr' (frs' ++ cs) none s' w)
  (h1:s.run P w=.halt x w1) (h2:s'.run P w=.halt x w1)
  (hs:step P (lone fr (frs ++ [zhd]) w)=.next m1):zer P tn V1 V2 cs (lone fr' (frs' ++ cs) w) m1:=by
 cases x with
 | panic v=>exact zc7 hs (by rw [e1];simp [stepG.apply,h1];try exact ⟨rfl,rfl⟩) (by rw [e2];simp [stepG.apply,h2];try exact ⟨rfl,rfl⟩) (zpj hF _) hS
 | goexit=>exact zc7 hs (by rw [e1];simp [stepG.apply,h1];try exact ⟨rfl,rfl⟩) (by rw [e2];simp [stepG.apply,h2];try exact ⟨rfl,rfl⟩) (zpj hF _) hS
 | blocked=>exact zga hs (by rw [e1];simp [stepG.apply,h1];try exact ⟨rfl,rfl⟩) (.inl (.inl rfl))
 | waiting=>exact zga hs (by rw [e1];simp [stepG.apply,h1];try exact ⟨rfl,rfl⟩) (.inl (.inr rfl))
 | exit c=>exact (zfq hs _ _ (by rw [e1];simp [stepG.apply,h1];try exact ⟨rfl,rfl⟩)).elim
 | throw m=>exact zga hs (by rw [e1];simp [stepG.apply,h1,endThrow,dieOf];try exact ⟨rfl,rfl⟩) (.inr ⟨_,_,rfl,rfl,rfl,rfl⟩)
 | stuck m=>exact (zfq hs _ _ (by rw [e1];simp [stepG.apply,h1];try exact ⟨rfl,rfl⟩)).elim
 | unsupported u =>
  cases u with
  | initOrder i=>exact (zfq hs _ _ (by rw [e1];simp [stepG.apply,h1,early,hP.follows,hP.steps];try exact ⟨rfl,rfl⟩)).elim
  | _=>exact (zfq hs _ _ (by rw [e1];simp [stepG.apply,h1];try exact ⟨rfl,rfl⟩)).elim
 | fatal m =>
  have hb:(stepG P true { frame:=fr,callers:=frs ++ [zhd],status:=.running,dying:=none } w).bare=(endFatal P fr (frs ++ [zhd]) none m w1).bare:=by rw [e1];simp [stepG.apply,h1]
  unfold endFatal at hb
  dsimp only at hb
  split at hb
  ·exact zga hs (hb.trans (by simp [dieOf];try exact ⟨rfl,rfl⟩)) (.inr ⟨_,_,rfl,rfl,rfl,rfl⟩)
  ·exact (zfq hs _ _ hb).elim
  ·exact (zfq hs _ _ hb).elim
end Go.Proofs.YtoifcnidhfnapabGreatDoor.Sim
namespace Go.Proofs.YtoifcnidhfnapabGreatDoor.Sim
open Go
variable {P:Program} {tn:Tn} {V1 V2:Value}
theorem ygc {g:FuncId} (hP:Fine P tn V1 V2 g) {f:FuncId} {T:List Nat} (h:tn.lookup f=some T) (args:Array Value) (w:World):(callFunc f args).run P w=.ok (.enter f args) w:=by
 have hfn:=hP.fns _ _ h
 unfold fnOK at hfn
 dsimp only at hfn
 cases hf:P.funcs[f]? with
 | none=>rw [hf] at hfn;simp at hfn
 | some fn =>
  rw [hf] at hfn
  dsimp only at hfn
  cases hb:fn.body with
  | none=>rw [hb] at hfn;simp at hfn
  | some c =>
   rw [hb] at hfn
   simp only [Bool.and_eq_true] at hfn
   exact enters_of hf (by simpa using hfn.1.1) hb args w
theorem zul {g:FuncId} (hP:Fine P tn V1 V2 g) {f:FuncId} {T:List Nat} (h:tn.lookup f=some T) {args args':Array Value} (ha:TRel V1 V2 T args args'):FR P tn V1 V2 (Frame.enter P f args .normal) (Frame.enter P f args' .normal) T:=by
 have hfn:=hP.fns _ _ h
 unfold fnOK at hfn
 dsimp only at hfn
 cases hf:P.funcs[f]? with
 | none=>rw [hf] at hfn;simp at hfn
 | some fn =>
  rw [hf] at hfn
  dsimp only at hfn
  cases hb:fn.body with
  | none=>rw [hb] at hfn;simp at hfn
  | some c =>
   rw [hb] at hfn
   simp only [Bool.and_eq_true] at hfn
   refine ⟨rfl,h,?_,rfl,?_,rfl,rfl,rfl,rfl,rfl,rfl,rfl⟩
   ·simp only [Frame.enter]
    rw [← ha.size]
    refine ⟨by simp [ha.size],fun i=>?_⟩
    have he:=ha.each i
    have hsz:=ha.size
    simp only [Array.getD_eq_getD_getElem?] at he ⊢
    by_cases hi:i<args.size
    ·rw [Array.getElem?_append_left hi,Array.getElem?_append_left (by omega)];exact he
    ·rw [Array.getElem?_append_right (by omega),Array.getElem?_append_right (by omega),← hsz]
     have:∀ n k:Nat,((Array.replicate n undef)[k]?).getD undef=undef:=by
      intro n k
      rw [Array.getElem?_replicate]
      split <;> rfl
     rw [this]
     exact VR.refl_undef _ _ _ _
   ·intro x hx
    simp [Frame.enter,hf,hb] at hx
    subst hx
    exact hfn.2
theorem zvt {g:FuncId} (hP:Fine P tn V1 V2 g) {fr fr':Frame} {frs frs' cs:List Frame} {w w1:World} {m1:Machine} {T T2:List Nat} {s s':Sem Next} {f:FuncId} {args args':Array Value} (hF:FR P tn V1 V2 fr fr' T) (hS:SR P tn V1 V2 frs frs') (hW:yck fr T)
  (e1:stepG P true { frame:=fr,callers:=frs ++ [zhd],status:=.running,dying:=none } w=stepG.apply P true fr (frs ++ [zhd]) none s w)
  (e2:stepG P true { frame:=fr',callers:=frs' ++ cs,status:=.running,dying:=none } w=stepG.apply P true fr' (frs' ++ cs) none s' w)
  (h1:s.run P w=.ok (.enter f args) w1) (h2:s'.run P w=.ok (.enter f args') w1) (hl:tn.lookup f=some T2) (ha:TRel V1 V2 T2 args args')
  (hs:step P (lone fr (frs ++ [zhd]) w)=.next m1):zer P tn V1 V2 cs (lone fr' (frs' ++ cs) w) m1:=by
 obtain ⟨hm,ops,i,rest,k,ht,_⟩:=id hW
 have ht':=hF.todo.trans ht
 refine zc7 (fr1:=Frame.enter P f args .normal) (fr1':=Frame.enter P f args' .normal) (frs1:=fr :: frs) (frs1':=fr' :: frs') (w1:=w1) (T1:=T2) hs ?_ ?_ (zul hP hl ha) (.cons hF hW hS)
 ·rw [e1];simp [stepG.apply,h1,ht]
 ·rw [e2];simp [stepG.apply,h2,ht']
theorem zn3 {fr fr':Frame} {frs frs' cs:List Frame} {w w1:World} {m1:Machine} {T:List Nat} {s s':Sem Next} {v v':Value} (hF:FR P tn V1 V2 fr fr' T) (hS:SR P tn V1 V2 frs frs')
  (e1:stepG P true { frame:=fr,callers:=frs ++ [zhd],status:=.running,dying:=none } w=stepG.apply P true fr (frs ++ [zhd]) none s w)
  (e2:stepG P true { frame:=fr',callers:=frs' ++ cs,status:=.running,dying:=none } w=stepG.apply P true fr' (frs' ++ cs) none s' w)
  (h:(s.run P w=.ok (.value v) w1∧s'.run P w=.ok (.value v') w1)∨(s.run P w=.ok .skip w1∧s'.run P w=.ok .skip w1∧v=undef∧v'=undef))
  (hv:∀ ops i rest k d,fr.todo=.inRegion ops (i :: rest) :: k→(ops[i]?).bind (·.dst)=some d→VR V1 V2 T d v v')
  (hs:step P (lone fr (frs ++ [zhd]) w)=.next m1):zer P tn V1 V2 cs (lone fr' (frs' ++ cs) w) m1:=by
 refine zc7 (fr1:=fr.finish v) (fr1':=fr'.finish v') (frs1:=frs) (frs1':=frs') (w1:=w1) (T1:=T) hs ?_ ?_ (zmc hF hv) hS
 ·rw [e1];rcases h with ⟨h1,_⟩|⟨h1,_,rfl,rfl⟩ <;> simp [stepG.apply,h1]
 ·rw [e2];rcases h with ⟨_,h2⟩|⟨_,h2,rfl,rfl⟩ <;> simp [stepG.apply,h2]
theorem yka {g:FuncId} (hP:Fine P tn V1 V2 g) {fr fr':Frame} {frs frs' cs:List Frame} {w:World} {m1:Machine} {T:List Nat} {ops:Array Oper} {i:Nat} {rest:List Nat} {k:List Item} (hF:FR P tn V1 V2 fr fr' T) (hS:SR P tn V1 V2 frs frs') (hm:fr.mode=.run)
  (ht:fr.todo=.inRegion ops (i :: rest) :: k) (hs:step P (lone fr (frs ++ [zhd]) w)=.next m1):zer P tn V1 V2 cs (lone fr' (frs' ++ cs) w) m1:=by
 have hm':=hF.mode.trans hm
 have ht':=hF.todo.trans ht
 have hops:ops.all (yf0 tn T)=true:=by
  have:=hF.ok (.inRegion ops (i :: rest)) (by rw [ht];exact List.mem_cons_self ..)
  simpa [zep] using this
 have hy:=hF.tm.yielded hP.n1 hP.n2 ops
 cases hw:((ops[i]?).map (Region.wanted · (yielded ops fr.tmps))).getD false with
 | false =>
  have hw':((ops[i]?).map (Region.wanted · (yielded ops fr'.tmps))).getD false=false:=by rw [← hy];exact hw
  refine zc7 (fr1:=fr.finish undef) (fr1':=fr'.finish undef) (frs1:=frs) (frs1':=frs') (w1:=w) (T1:=T) hs ?_ ?_ (zmc hF (fun _ _ _ _ _ _ _=>VR.refl_undef _ _ _ _)) hS
  ·simp [stepG,stepG.exec,hm,ht,hw]
  ·simp [stepG,stepG.exec,hm',ht',hw']
 | true =>
  have hw':((ops[i]?).map (Region.wanted · (yielded ops fr'.tmps))).getD false=true:=by rw [← hy];exact hw
  cases ho:ops[i]? with
  | none=>rw [ho] at hw;simp at hw
  | some o =>
   have hok:yf0 tn T o=true:=Array.all_eq_true_iff_forall_mem.1 hops o (Array.mem_of_getElem? ho)
   have e1:stepG P true { frame:=fr,callers:=frs ++ [zhd],status:=.running,dying:=none } w=stepG.apply P true fr (frs ++ [zhd]) none (execOp fr.eval o) w:=by
    rw [ho] at hw
    simp [stepG,stepG.exec,stepG.oper,Frame.oper?,hm,ht,ho,hF.rnd]
    simp at hw
    simp [hw]
   have e2:stepG P true { frame:=fr',callers:=frs' ++ cs,status:=.running,dying:=none } w=stepG.apply P true fr' (frs' ++ cs) none (execOp fr'.eval o) w:=by
    rw [ho] at hw'
    simp [stepG,stepG.exec,stepG.oper,Frame.oper?,hm',ht',ho,hF.rnd']
    simp at hw'
    simp [hw']
   have hdst:∀ v,zdw T o=true→∀ ops2 i2 rest2 k2 d,fr.todo=.inRegion ops2 (i2 :: rest2) :: k2→(ops2[i2]?).bind (·.dst)=some d→VR V1 V2 T d v v:=by
    intro v hd ops2 i2 rest2 k2 d h1 h2
    rw [ht] at h1
    cases h1
    rw [ho] at h2
    simp at h2
    simp [zdw,h2] at hd
    exact VR.of_clean hd
   by_cases hcall:∃ c,o.op=.call c
   ·obtain ⟨c,hc⟩:=hcall
    have hok2:=hok
    unfold yf0 at hok2
    rw [hc] at hok2
    simp only [Bool.and_eq_true] at hok2
    obtain ⟨hd,hcal⟩:=hok2
    have hW:yck fr T:=by
     refine ⟨hm,ops,i,rest,k,ht,fun d hdd=>?_⟩
     rw [ho] at hdd
     simp at hdd
     simpa [zdw,hdd] using hd
    have hex:∀ ρ:Operand→Value,execOp ρ o=(do let d ← resolve ρ c o.type;invoke d.target d.args):=fun ρ=>by simp only [execOp,hc]
    have hargs:∀ x∈c.args,zbm T x=true→fr'.eval x=fr.eval x:=fun x _ hx=>zfr hF hx
    cases hcl:c.callee with
    | invoke recv name=>rw [hcl] at hcal;simp at hcal
    | builtin bi =>
     have hbl:bi=.len∧c.args.all (zbm T)=true:=by
      rw [hcl] at hcal
      cases bi <;> simp at hcal ⊢
      exact hcal
     obtain ⟨rfl,hal⟩:=hbl
     have hmap:c.args.map fr'.eval=c.args.map fr.eval:=zu2 _ (fun x hx=>zfr hF (Array.all_eq_true_iff_forall_mem.1 hal x hx))
     have hsame:execOp fr'.eval o=execOp fr.eval o:=by rw [hex,hex];simp only [resolve,hcl,hmap]
     rw [hsame] at e2
     cases hr:(execOp fr.eval o).run P w with
     | halt x w1=>exact zpr hP hF hS e1 e2 hr hr hs
     | ok nx w1 =>
      have hnx:∃ v,nx=.value v:=by
       rw [hex] at hr
       simp only [resolve,hcl] at hr
       simp only [pure_bind,invoke,builtin] at hr
       rw [Sem.run_bind] at hr
       revert hr
       generalize (Sem.run P _ w:Result Value)=q
       intro hr
       cases q with
       | ok x w2=>simp at hr;exact ⟨x,hr.1.symm⟩
       | halt x w2=>simp [Result.andThen] at hr
      obtain ⟨v,rfl⟩:=hnx
      exact zn3 hF hS e1 e2 (.inl ⟨hr,hr⟩) (hdst v hd) hs
    | value x =>
     cases x with
     | const v=>rw [hcl] at hcal;simp at hcal
     | global j=>rw [hcl] at hcal;simp at hcal
     | func f =>
      rw [hcl] at hcal
      dsimp only at hcal
      cases hl:tn.lookup f with
      | none=>rw [hl] at hcal;simp at hcal
      | some T2 =>
       rw [hl] at hcal
       dsimp only at hcal
       have hrun:∀ fx:Frame,(execOp fx.eval o).run P w=.ok (.enter f (c.args.map fx.eval)) w:=by
        intro fx
        rw [hex]
        simp only [resolve,hcl,Frame.eval,Deferred.ofValue,pure_bind,invoke,Array.append_empty,Array.empty_append]
        exact ygc hP hl _ w
       refine zvt hP hF hS hW e1 e2 (hrun fr) (hrun fr') hl ⟨by simp,fun j=>?_⟩ hs
       have hj:=hcal
       unfold yiq at hj
       rw [List.all_eq_true] at hj
       simp only [Array.getD_eq_getD_getElem?,Array.getElem?_map]
       cases hx:c.args[j]? with
       | none=>exact VR.refl_undef _ _ _ _
       | some x =>
        have hjs:j<c.args.size:=(Array.getElem?_eq_some_iff.1 hx).1
        have h3:=hj j (List.mem_range.2 hjs)
        rw [hx] at h3
        simp only [Option.map_some,Option.getD_some]
        dsimp only at h3
        by_cases hjt:j∈T2
        ·have hcx:zbm T x=false:=by
          have:T2.contains j=true:=by simpa using hjt
          rw [this] at h3
          simpa using h3
         cases x with
         | tmp t =>
          have htT:t∈T:=by simpa [zbm] using hcx
          exact ⟨fun h=>absurd hjt h,fun _=>(hF.tm.each t).2 htT⟩
         | const v=>simp [zbm] at hcx
         | global i=>simp [zbm] at hcx
         | func f=>simp [zbm] at hcx
        ·have hcx:zbm T x=true:=by
          have:T2.contains j=false:=by simpa using hjt
          rw [this] at h3
          simpa using h3
         rw [zfr hF hcx]
         exact VR.of_clean hjt
     | tmp t =>
      rw [hcl] at hcal
      simp only [Bool.and_eq_true] at hcal
      obtain ⟨⟨htT,hal⟩,hsz⟩:=hcal
      have htT:t∈T:=by simpa using htT
      have hsz:c.args.size=2:=by simpa using hsz
      have hmap:c.args.map fr'.eval=c.args.map fr.eval:=zu2 _ (fun x hx=>zfr hF (Array.all_eq_true_iff_forall_mem.1 hal x hx))
      have hrun:∀ fx:Frame,execOp fx.eval o=(do let d ← Deferred.ofValue (fx.tmps.getD t undef) (c.args.map fx.eval);invoke d.target d.args):=by
       intro fx
       rw [hex]
       simp only [resolve,hcl,Frame.eval]
      obtain ⟨x,y,hxy⟩:∃ x y,c.args.map fr.eval=#[x,y]:=by
       have h2:(c.args.map fr.eval).size=2:=by simpa using hsz
       generalize c.args.map fr.eval=z at h2
       obtain ⟨z⟩:=z
       match z,h2 with
       | [x,y],_=>exact ⟨x,y,rfl⟩
      rcases (hF.tm.each t).2 htT with ⟨u1,u2⟩|⟨u1,u2⟩
      ·have q1:(execOp fr.eval o).run P w=.halt (.stuck "call: function value expected") w:=by rw [hrun,u1];rfl
       have q2:(execOp fr'.eval o).run P w=.halt (.stuck "call: function value expected") w:=by rw [hrun,u2];rfl
       exact zpr hP hF hS e1 e2 q1 q2 hs
      ·have q1:(execOp fr.eval o).run P w=.ok (.enter g #[x,y]) w:=by rw [hrun,u1,hxy];exact hP.one x y w
       have q2:(execOp fr'.eval o).run P w=.ok (.enter g #[x,y]) w:=by rw [hrun,u2,hmap,hxy];exact hP.two x y w
       exact zvt hP hF hS hW e1 e2 q1 q2 hP.cmp ⟨rfl,fun j=>VR.of_clean (by simp)⟩ hs
   ·have hnc:∀ c,o.op≠.call c:=fun c e=>hcall ⟨c,e⟩
    by_cases hclean:o.op.operands.all (zbm T)=true∧zdw T o=true
    ·have hsame:execOp fr'.eval o=execOp fr.eval o:=zun tn T o hok (fun x hx=>zfr hF (Array.all_eq_true_iff_forall_mem.1 hclean.1 x hx)) hnc
     rw [hsame] at e2
     cases hr:(execOp fr.eval o).run P w with
     | halt x w1=>exact zpr hP hF hS e1 e2 hr hr hs
     | ok nx w1 =>
      rcases zwu tn T P w w1 o nx hok hnc hr with ⟨v,rfl⟩|rfl
      ·exact zn3 hF hS e1 e2 (.inl ⟨hr,hr⟩) (hdst v hclean.2) hs
      ·exact zn3 (v:=undef) (v':=undef) hF hS e1 e2 (.inr ⟨hr,hr,rfl,rfl⟩) (hdst undef hclean.2) hs
    ·
     have key:∀ x,o.op.operands=#[x]→(if zbm T x then zdw T o else !(zdw T o))=true→(∀ ρ:Operand→Value,(execOp ρ o).run P w=.ok (.value (ρ x)) w)→zer P tn V1 V2 cs (lone fr' (frs' ++ cs) w) m1:=by
      intro x hx hif hrun
      cases hcx:zbm T x with
      | true=>exact absurd ⟨by rw [hx];simp [hcx],by rw [hcx] at hif;simpa using hif⟩ hclean
      | false =>
       rw [hcx] at hif
       have hd:zdw T o=false:=by simpa using hif
       cases x with
       | tmp t =>
        have htT:t∈T:=by simpa [zbm] using hcx
        refine zn3 hF hS e1 e2 (.inl ⟨hrun _,hrun _⟩) ?_ hs
        intro ops2 i2 rest2 k2 d h1 h2
        rw [ht] at h1
        cases h1
        rw [ho] at h2
        simp at h2
        have hdT:d∈T:=by simpa [zdw,h2] using hd
        exact ⟨fun h=>absurd hdT h,fun _=>(hF.tm.each t).2 htT⟩
       | const v=>simp [zbm] at hcx
       | global i=>simp [zbm] at hcx
       | func f=>simp [zbm] at hcx
     have hok2:=hok
     unfold yf0 at hok2
     cases hop:o.op with
     | move x=>rw [hop] at hok2;exact key x (by rw [hop];rfl) hok2 (fun ρ=>by simp [execOp,hop])
     | assign x=>rw [hop] at hok2;exact key x (by rw [hop];rfl) hok2 (fun ρ=>by simp [execOp,hop])
     | call c=>exact absurd hop (hnc c)
     | _ =>
      exfalso
      rw [hop] at hok2
      first
       | (simp at hok2;done)
       | (simp only [Bool.and_eq_true] at hok2;exact hclean ⟨by rw [hop];exact hok2.2,hok2.1⟩)
end Go.Proofs.YtoifcnidhfnapabGreatDoor.Sim
namespace Go.Proofs.YtoifcnidhfnapabGreatDoor.Sim
open Go
variable {P:Program} {tn:Tn} {V1 V2:Value}
theorem yia {g:FuncId} (hP:Fine P tn V1 V2 g) {fr fr':Frame} {frs frs' cs:List Frame} {w:World} {m1:Machine} {T:List Nat} (hF:FR P tn V1 V2 fr fr' T) (hS:SR P tn V1 V2 frs frs') (hm:fr.mode=.run)
  (hs:step P (lone fr (frs ++ [zhd]) w)=.next m1):zer P tn V1 V2 cs (lone fr' (frs' ++ cs) w) m1:=by
 have hm':=hF.mode.trans hm
 have hr:=hF.rnd
 have hr':=hF.rnd'
 have key:∀ k',(∀ x∈k',zep tn T x=true) →
   (stepG P true { frame:=fr,callers:=frs ++ [zhd],status:=.running,dying:=none } w).bare=.go { frame:={ fr with todo:=k' },callers:=frs ++ [zhd],status:=.running,dying:=none } w →
   (stepG P true { frame:=fr',callers:=frs' ++ cs,status:=.running,dying:=none } w).bare=.go { frame:={ fr' with todo:=k' },callers:=frs' ++ cs,status:=.running,dying:=none } w →
   zer P tn V1 V2 cs (lone fr' (frs' ++ cs) w) m1:=fun k' hk h1 h2=>zc7 hs h1 h2 (zzh hF k' hk) hS
 have keyR:(stepG P true { frame:=fr,callers:=frs ++ [zhd],status:=.running,dying:=none } w).bare=.go { frame:={ fr with mode:=.returning },callers:=frs ++ [zhd],status:=.running,dying:=none } w →
   (stepG P true { frame:=fr',callers:=frs' ++ cs,status:=.running,dying:=none } w).bare=.go { frame:={ fr' with mode:=.returning },callers:=frs' ++ cs,status:=.running,dying:=none } w →
   zer P tn V1 V2 cs (lone fr' (frs' ++ cs) w) m1:=fun h1 h2=>zc7 hs h1 h2 (yj2 hF) hS
 cases ht:fr.todo with
 | nil =>
  have ht':=hF.todo.trans ht
  exact keyR (by simp [stepG,stepG.exec,hm,ht,hr]) (by simp [stepG,stepG.exec,hm',ht',hr'])
 | cons x k =>
  have ht':=hF.todo.trans ht
  have hx:zep tn T x=true:=hF.ok x (by rw [ht];exact List.mem_cons_self ..)
  have hk:∀ y∈k,zep tn T y=true:=fun y hy=>hF.ok y (by rw [ht];exact List.mem_cons_of_mem _ hy)
  cases x with
  | inBlock id=>exact key k hk (by simp [stepG,stepG.exec,hm,ht]) (by simp [stepG,stepG.exec,hm',ht'])
  | inLoop b =>
   refine key (.code b :: .inLoop b :: k) (fun y hy=>?_) (by simp [stepG,stepG.exec,hm,ht]) (by simp [stepG,stepG.exec,hm',ht'])
   rcases List.mem_cons.1 hy with rfl|hy
   ·simpa [zep] using hx
   ·rcases List.mem_cons.1 hy with rfl|hy
    ·exact hx
    ·exact hk y hy
  | inRegion ops l =>
   cases l with
   | nil=>exact key k hk (by simp [stepG,stepG.exec,hm,ht]) (by simp [stepG,stepG.exec,hm',ht'])
   | cons i rest=>exact yka hP hF hS hm ht hs
  | code c =>
   cases c with
   | skip=>exact key k hk (by simp [stepG,stepG.exec,hm,ht]) (by simp [stepG,stepG.exec,hm',ht'])
   | label l=>exact key k hk (by simp [stepG,stepG.exec,hm,ht]) (by simp [stepG,stepG.exec,hm',ht'])
   | ret=>exact keyR (by simp [stepG,stepG.exec,hm,ht,hr]) (by simp [stepG,stepG.exec,hm',ht',hr'])
   | seq a b =>
    simp only [zep,zfh,Bool.and_eq_true] at hx
    refine key (.code a :: .code b :: k) (fun y hy=>?_) (by simp [stepG,stepG.exec,hm,ht]) (by simp [stepG,stepG.exec,hm',ht'])
    rcases List.mem_cons.1 hy with rfl|hy
    ·exact hx.1
    ·rcases List.mem_cons.1 hy with rfl|hy
     ·exact hx.2
     ·exact hk y hy
   | block id b =>
    refine key (.code b :: .inBlock id :: k) (fun y hy=>?_) (by simp [stepG,stepG.exec,hm,ht]) (by simp [stepG,stepG.exec,hm',ht'])
    rcases List.mem_cons.1 hy with rfl|hy
    ·simpa [zep,zfh] using hx
    ·rcases List.mem_cons.1 hy with rfl|hy
     ·rfl
     ·exact hk y hy
   | loop b =>
    refine key (.code b :: .inLoop b :: k) (fun y hy=>?_) (by simp [stepG,stepG.exec,hm,ht]) (by simp [stepG,stepG.exec,hm',ht'])
    rcases List.mem_cons.1 hy with rfl|hy
    ·simpa [zep,zfh] using hx
    ·rcases List.mem_cons.1 hy with rfl|hy
     ·simpa [zep,zfh] using hx
     ·exact hk y hy
   | cond c a b =>
    simp only [zep,zfh,Bool.and_eq_true] at hx
    have he:=zfr hF hx.1.1
    cases hb:fr.eval c with
    | bool v =>
     rw [hb] at he
     refine key (.code (if v then a else b) :: k) (fun y hy=>?_) (by simp [stepG,stepG.exec,hm,ht,hb]) (by simp [stepG,stepG.exec,hm',ht',he])
     rcases List.mem_cons.1 hy with rfl|hy
     ·cases v
      ·exact hx.2
      ·exact hx.1.2
     ·exact hk y hy
    | _=>exact (zfq hs _ _ (by simp [stepG,stepG.exec,hm,ht,hb];try exact ⟨rfl,rfl⟩)).elim
   | exit id =>
    cases hx2:exitTo id k with
    | none=>exact (zfq hs _ _ (by simp [stepG,stepG.exec,hm,ht,hx2,hr];try exact ⟨rfl,rfl⟩)).elim
    | some k'=>exact key k' (fun y hy=>hk y (zz5 hx2 y hy)) (by simp [stepG,stepG.exec,hm,ht,hx2]) (by simp [stepG,stepG.exec,hm',ht',hx2])
   | region id ops draw =>
    have hops:∀ l,zep tn T (.inRegion ops l)=true:=fun l=>by simpa [zep,zfh] using hx
    cases draw with
    | false =>
     refine key (.inRegion ops (List.range ops.size) :: k) (fun y hy=>?_) (by simp [stepG,stepG.exec,hm,ht]) (by simp [stepG,stepG.exec,hm',ht'])
     rcases List.mem_cons.1 hy with rfl|hy
     ·exact hops _
     ·exact hk y hy
    | true =>
     refine zc7 (fr1:={ fr with todo:=.inRegion ops (Region.schedule (P.follows .mixedOrders) ops (w.tape w.drawn (.order fr.fn id))) :: k }) (fr1':={ fr' with todo:=.inRegion ops (Region.schedule (P.follows .mixedOrders) ops (w.tape w.drawn (.order fr.fn id))) :: k }) (frs1:=frs) (frs1':=frs')
      (w1:={ w with drawn:=w.drawn+1 }) (T1:=T) hs ?_ ?_ (zzh hF _ (fun y hy=>?_)) hS
     ·simp [stepG,stepG.exec,hm,ht,choose,Sem.run,Question.forced,Question.cut]
     ·simp [stepG,stepG.exec,hm',ht',choose,Sem.run,Question.forced,Question.cut,hF.fn]
     ·rcases List.mem_cons.1 hy with rfl|hy
      ·exact hops _
      ·exact hk y hy
   | _=>simp [zep,zfh] at hx
  | _=>simp [zep] at hx
theorem yh7 {g:FuncId} (hP:Fine P tn V1 V2 g) {fr fr':Frame} {frs frs' cs:List Frame} {w:World} {m1:Machine} {T:List Nat} (hF:FR P tn V1 V2 fr fr' T) (hS:SR P tn V1 V2 frs frs')
  (hs:step P (lone fr (frs ++ [zhd]) w)=.next m1):zer P tn V1 V2 cs (lone fr' (frs' ++ cs) w) m1:=by
 cases hm:fr.mode with
 | run=>exact yia hP hF hS hm hs
 | returning=>exact yh9 hP hF hS hm hs
 | panicking chain=>exact yh8 hP hF hS hm hs
theorem yez {g:FuncId} (hP:Fine P tn V1 V2 g) (cs:List Frame) (n:Nat):∀ {fr fr':Frame} {frs frs':List Frame} {w w2:World} {T:List Nat} {fe:Frame},FR P tn V1 V2 fr fr' T→SR P tn V1 V2 frs frs' →
  runN P n (lone fr (frs ++ [zhd]) w)=.next (lone fe [zhd] w2)→∃ fe' T',Steps P (lone fr' (frs' ++ cs) w) (lone fe' cs w2)∧FR P tn V1 V2 fe fe' T':=by
 induction n with
 | zero =>
  intro fr fr' frs frs' w w2 T fe hF hS h
  simp [runN,lone] at h
  obtain ⟨rfl,rfl,h⟩:=h
  rcases SR.inv hS with ⟨rfl,rfl⟩|⟨c,c',T',l,l',rfl,rfl,hc,hw,hl⟩
  ·exact ⟨fr',T,Steps.refl _ _,hF⟩
  ·simp at h
 | succ n ih =>
  intro fr fr' frs frs' w w2 T fe hF hS h
  simp only [runN] at h
  cases hx:step P (lone fr (frs ++ [zhd]) w) with
  | ended o w1=>rw [hx] at h;simp at h
  | next m1 =>
   rw [hx] at h
   dsimp only at h
   rcases yh7 (cs:=cs) hP hF hS hx with ⟨fr1,frs1,fr1',frs1',w1,T1,rfl,hst,hF1,hS1⟩|hg|hd
   ·obtain ⟨fe',T',hsteps,hFe⟩:=ih hF1 hS1 h
    exact ⟨fe',T',.head hst hsteps,hFe⟩
   ·exfalso
    cases n with
    | zero =>
     simp [runN] at h
     obtain ⟨fr3,w3,chain,he,_⟩:=hg
     rw [h] at he
     simp [lone] at he
    | succ n =>
     simp only [runN] at h
     cases hy:step P m1 with
     | next m2=>exact ydp hg hy
     | ended o w1=>rw [hy] at h;simp at h
   ·exact absurd rfl (zr9 (yda hd h) fe [zhd] w2)
theorem calls_turn {g:FuncId} (hP:Fine P tn V1 V2 g) {f:FuncId} {T:List Nat} (hf:tn.lookup f=some T) {args args':Array Value} (ha:TRel V1 V2 T args args') {w:World} {R:Ending→World→Prop}
  (hR:∀ e w',R e w'→∃ v,e=.returned v) (h:Calls P f args w R):Calls P f args' w R:=by
 intro cs
 obtain ⟨e,w',fr,hr,hc,hfn,hl⟩:=h [zhd]
 obtain ⟨v,rfl⟩:=hR e w' hr
 obtain ⟨n,hn⟩:Steps P (lone (Frame.enter P f args .normal) [zhd] w) (lone fr [zhd] w'):=hc
 obtain ⟨fe',T',hst,hF⟩:=yez hP cs n (frs:=[]) (frs':=[]) (zul hP hf ha) .nil hn
 refine ⟨.returned v,w',fe',hr,hst,hF.fn.trans hfn,?_⟩
 obtain ⟨hm,hd,hk,fn,hfu,hres⟩:=hl
 refine ⟨hF.mode.trans hm,hF.d',hF.kind',fn,by rw [hF.fn];exact hfu,?_⟩
 have hfo:=hP.fns _ _ hF.look
 unfold fnOK at hfo
 dsimp only at hfo
 rw [hfu] at hfo
 dsimp only at hfo
 simp only [Bool.and_eq_true] at hfo
 rw [← hres]
 congr 1
 unfold results
 congr 1
 refine zu1 _ _ _ (fun x hx=>?_)
 have hx:=Array.all_eq_true_iff_forall_mem.1 hfo.1.2 x hx
 cases x with
 | tmp t=>simp [yev] at hx;dsimp only;rw [hF.tm.clean hx]
 | cell t ty=>simp [yev] at hx;dsimp only;rw [hF.tm.clean hx]
end Go.Proofs.YtoifcnidhfnapabGreatDoor.Sim
namespace Go.Proofs.YtoifcnidhfnapabGreatDoor
open Go
def tnR:Sim.Tn:=[(181,[1,12]),(206,[4,29,36,43,51,60,79,84,102,110,133,145]),(137,[]),(172,[]),(218,[3,22]),(219,[3,28,58]),(220,[3]),(221,[3,39,43,47,53]),(222,[3]),(223,[3,23,72,112]),(224,[4,35,54]),(225,[4,36,54,109,127]),(169,[]),(170,[]),(200,[]),(232,[4,24,43]),(188,[]),(189,[]),(233,[3,16]),(234,[5,18,27,36]),(211,[]),(237,[4,12]),(227,[])]
def ydk:Value:=.func (.func 172) #[] #[]
def zsr:Value:=.func (.methodOf 150 "Compare") #[] #[]
theorem zx8:(tnR.all fun x=>Sim.fnOK Tryz.prog tnR x)=true:=by kernel_rfl
theorem zrd {l:Sim.Tn} {f:Nat} {T:List Nat} (h:l.lookup f=some T):(f,T)∈l:=by
 induction l with
 | nil=>simp at h
 | cons x l ih =>
  obtain ⟨a,b⟩:=x
  simp only [List.lookup] at h
  split at h
  ·rename_i e
   have:f=a:=by simpa using e
   subst this
   cases h
   exact List.mem_cons_self ..
  ·exact List.mem_cons_of_mem _ (ih h)
theorem yjy:(Tryz.prog.funcs.all fun f=>((f.body.map readies).getD []).isEmpty)=true:=by kernel_rfl
theorem zpq (i:Nat):Tryz.prog.stepOf i=none:=by
 unfold Program.stepOf
 rw [Array.findIdx?_eq_none_iff]
 intro f hf
 have h:=Array.all_eq_true_iff_forall_mem.1 yjy f hf
 cases hb:f.body with
 | none=>simp
 | some c=>simp [hb] at h;simp [h]
theorem yjt (n:Nat) (x:Value) (w:World):(method (n+1) 150 x "Compare").run Tryz.prog w=.ok (172,x) w:=by kernel_rfl
theorem yjg:Sim.Fine Tryz.prog tnR ydk zsr 172 where
 fns f T h:=(List.all_eq_true.1 zx8) (f,T) (zrd h)
 steps:=zpq
 follows:=by kernel_rfl
 cmp:=by rfl
 n1 b:=by simp [ydk]
 n2 b:=by simp [zsr]
 one x y w:=by
  simp only [ydk,Deferred.ofValue,pure_bind,invoke,Array.append_empty,Array.empty_append]
  exact enters_of Tryz.func172 (by kernel_rfl) rfl #[x,y] w
 two x y w:=by
  simp [zsr,Deferred.ofValue,invoke,callMethod]
  rw [show 376+Made.depth=(376+Made.depth - 1)+1 from rfl,yjt]
  exact enters_of Tryz.func172 (by kernel_rfl) rfl #[x,y] w
end Go.Proofs.YtoifcnidhfnapabGreatDoor
