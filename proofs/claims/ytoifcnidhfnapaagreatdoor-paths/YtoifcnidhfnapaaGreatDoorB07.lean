import Derived.Test.YtoifcnidhfnapaaGreatDoorB06
import Derived.DyingRun
import Derived.Laws.Sem
set_option linter.unusedVariables false
set_option linter.unusedSimpArgs false
set_option maxRecDepth 100000
set_option maxHeartbeats 16000000
namespace Go.Proofs.YtoifcnidhfnapaaGreatDoor.Sim
open Go
variable {P:Program} {tn:Tn} {V1 V2:Value}
structure FR (P:Program) (tn:Tn) (V1 V2:Value) (fr fr':Frame) (T:List Nat):Prop where
 fn:fr'.fn=fr.fn
 look:tn.lookup fr.fn=some T
 tm:TRel V1 V2 T fr.tmps fr'.tmps
 todo:fr'.todo=fr.todo
 ok:∀ x∈fr.todo,zet tn T x=true
 d:fr.defers=[]
 d':fr'.defers=[]
 mode:fr'.mode=fr.mode
 kind:fr.kind=.normal
 kind':fr'.kind=.normal
 rnd:fr.roundOf=none
 rnd':fr'.roundOf=none
def yie (fr:Frame) (T:List Nat):Prop:=fr.mode=.run∧∃ ops i rest k,fr.todo=.inRegion ops (i :: rest) :: k∧∀ d,(ops[i]?).bind (·.dst)=some d→d ∉ T
def SR (P:Program) (tn:Tn) (V1 V2:Value):List Frame→List Frame→Prop
 | [],[]=>True
 | fr :: l,fr' :: l'=>(∃ T,FR P tn V1 V2 fr fr' T∧yie fr T)∧SR P tn V1 V2 l l'
 | [],_ :: _=>False
 | _ :: _,[]=>False
theorem SR.nil {P:Program} {tn:Tn} {V1 V2:Value}:SR P tn V1 V2 [] []:=trivial
theorem SR.cons {P:Program} {tn:Tn} {V1 V2:Value} {fr fr':Frame} {T:List Nat} {l l':List Frame} (h1:FR P tn V1 V2 fr fr' T) (h2:yie fr T) (h3:SR P tn V1 V2 l l'):SR P tn V1 V2 (fr :: l) (fr' :: l'):=⟨⟨T,h1,h2⟩,h3⟩
theorem SR.inv {P:Program} {tn:Tn} {V1 V2:Value} {fs fs':List Frame} (h:SR P tn V1 V2 fs fs'):(fs=[]∧fs'=[])∨∃ fr fr' T l l',fs=fr :: l∧fs'=fr' :: l'∧FR P tn V1 V2 fr fr' T∧yie fr T∧SR P tn V1 V2 l l':=by
 cases fs with
 | nil =>
  cases fs' with
  | nil=>exact .inl ⟨rfl,rfl⟩
  | cons _ _=>exact h.elim
 | cons fr l =>
  cases fs' with
  | nil=>exact h.elim
  | cons fr' l' =>
   obtain ⟨⟨T,h1,h2⟩,h3⟩:=h
   exact .inr ⟨fr,fr',T,l,l',rfl,rfl,h1,h2,h3⟩
def zhq:Frame:={ fn:=0,tmps:=#[],todo:=[],defers:=[{ target:=.nil,args:=#[] }],mode:=.panicking [],kind:=.normal,roundOf:=none }
def Gone (m:Machine):Prop:=∃ fr w chain,m=lone fr [] w∧fr.mode=.panicking chain∧fr.defers=[{ target:=.nil,args:=#[] }]
theorem ydb {m m':Machine} (h:Gone m):step P m≠.next m':=by
 obtain ⟨fr,w,chain,rfl,hm,hd⟩:=h
 intro hs
 have:∃ o,step P (lone fr [] w)=.ended o w:=by
  exact ⟨.unsupported (.noEntry "machine/Return: a deferred call of a nil function value, made while the frame is unwinding") (({ fr with defers:=[] }:Frame).pos P),step_lone_ended (by simp [stepG,hm,unwind,hd,callDeferred])⟩
 obtain ⟨o,ho⟩:=this
 rw [ho] at hs
 cases hs
def yjs (m:Machine):Prop:=∃ g w,m={ world:=w,gs:=#[g],rest:={ timers:=#[],alone:=none,slice:=none } } ∧
 ((g.status=.blocked∨g.status=.waiting)∨∃ d f,g.status=.running∧g.dying=some d∧d.calling=false∧d.fatal=some f)
theorem zrx {m:Machine} (h:yjs m) (fr:Frame) (cs:List Frame) (w:World):m≠lone fr cs w:=by
 obtain ⟨g,w2,rfl,h⟩:=h
 intro e
 simp [lone] at e
 obtain ⟨_,rfl⟩:=e
 rcases h with (h|h)|⟨d,f,_,h,_⟩ <;> simp at h
theorem zl4 {fr fr':Frame} {T:List Nat} (h:FR P tn V1 V2 fr fr' T) {v v':Value} (hv:∀ ops i rest k d,fr.todo=.inRegion ops (i :: rest) :: k→(ops[i]?).bind (·.dst)=some d→VR V1 V2 T d v v') :
  FR P tn V1 V2 (fr.finish v) (fr'.finish v') T:=by
 obtain ⟨f,tm,todo,df,md,kd,rd⟩:=fr
 obtain ⟨f',tm',todo',df',md',kd',rd'⟩:=fr'
 obtain ⟨h1,h2,h3,h4,h5,h6,h7,h8,h9,h10,h11,h12⟩:=h
 dsimp only at *
 subst h4
 cases todo' with
 | nil=>exact ⟨h1,h2,h3,rfl,h5,h6,h7,h8,h9,h10,h11,h12⟩
 | cons x k =>
  cases x with
  | inRegion ops l =>
   cases l with
   | nil=>exact ⟨h1,h2,h3,rfl,h5,h6,h7,h8,h9,h10,h11,h12⟩
   | cons i rest =>
    simp only [Frame.finish]
    refine ⟨h1,h2,?_,rfl,?_,h6,h7,h8,h9,h10,h11,h12⟩
    ·dsimp only
     cases hd:(ops[i]?).bind (·.dst) with
     | none=>exact h3
     | some d=>exact h3.set (hv ops i rest k d rfl hd)
    ·intro x hx
     dsimp only at hx
     rcases List.mem_cons.1 hx with rfl|hx
     ·have:=h5 _ (List.mem_cons_self ..)
      simpa [zet] using this
     ·exact h5 _ (List.mem_cons_of_mem _ hx)
  | _=>first
   | exact ⟨h1,h2,h3,rfl,h5,h6,h7,h8,h9,h10,h11,h12⟩
   | (have:=h5 _ (List.mem_cons_self ..);simp [zet] at this)
theorem zo4 {fr fr':Frame} {T:List Nat} (h:FR P tn V1 V2 fr fr' T) (vs:List PanicEntry):FR P tn V1 V2 (fr.raise vs) (fr'.raise vs) T:=by
 obtain ⟨f,tm,todo,df,md,kd,rd⟩:=fr
 obtain ⟨f',tm',todo',df',md',kd',rd'⟩:=fr'
 obtain ⟨h1,h2,h3,h4,h5,h6,h7,h8,h9,h10,h11,h12⟩:=h
 dsimp only at *
 subst h8
 unfold Frame.raise
 cases md' <;> exact ⟨h1,h2,h3,h4,h5,h6,h7,rfl,h9,h10,h11,h12⟩
theorem zzn {fr fr':Frame} {T:List Nat} (h:FR P tn V1 V2 fr fr' T) (k:List Item) (hk:∀ x∈k,zet tn T x=true):FR P tn V1 V2 { fr with todo:=k } { fr' with todo:=k } T:=
 ⟨h.fn,h.look,h.tm,rfl,hk,h.d,h.d',h.mode,h.kind,h.kind',h.rnd,h.rnd'⟩
theorem yja {fr fr':Frame} {T:List Nat} (h:FR P tn V1 V2 fr fr' T):FR P tn V1 V2 { fr with mode:=.returning } { fr' with mode:=.returning } T:=
 ⟨h.fn,h.look,h.tm,h.todo,h.ok,h.d,h.d',rfl,h.kind,h.kind',h.rnd,h.rnd'⟩
theorem zz7 {id:Nat} {k k':List Item} (h:exitTo id k=some k'):∀ x∈k',x∈k:=by
 induction k with
 | nil=>simp [exitTo] at h
 | cons y k ih =>
  cases y with
  | inBlock id' =>
   simp only [exitTo] at h
   split at h
   ·cases h;exact fun x hx=>List.mem_cons_of_mem _ hx
   ·exact fun x hx=>List.mem_cons_of_mem _ (ih h x hx)
  | _=>exact fun x hx=>List.mem_cons_of_mem _ (ih (by simpa [exitTo] using h) x hx)
def zev (P:Program) (tn:Tn) (V1 V2:Value) (cs:List Frame) (m':Machine) (m1:Machine):Prop:=
 (∃ fr frs fr' frs' w T,m1=lone fr (frs ++ [zhq]) w∧step P m'=.next (lone fr' (frs' ++ cs) w)∧FR P tn V1 V2 fr fr' T∧SR P tn V1 V2 frs frs')∨Gone m1∨yjs m1
end Go.Proofs.YtoifcnidhfnapaaGreatDoor.Sim
namespace Go.Proofs.YtoifcnidhfnapaaGreatDoor.Sim
open Go
variable {P:Program} {tn:Tn} {V1 V2:Value}
theorem zv3 (fr:Frame) (d:Dying) (f:Fatal) (w:World) (hc:d.calling=false) (g:Goroutine) (w':World)
  (h:(writeOn P fr d f w).bare=.go g w'):g.status=.blocked∨∃ d f,g.status=.running∧g.dying=some d∧d.calling=false∧d.fatal=some f:=by
 unfold writeOn at h
 cases hp:f.pieces with
 | nil=>simp [hp] at h
 | cons piece rest =>
  simp only [hp] at h
  split at h
  ·simp at h;obtain ⟨rfl,_⟩:=h;exact .inr ⟨_,_,rfl,rfl,hc,rfl⟩
  ·simp at h;obtain ⟨rfl,_⟩:=h;exact .inl rfl
  ·simp at h
  ·simp at h
theorem ycy {m m':Machine} (h:yjs m) (hs:step P m=.next m'):yjs m':=by
 obtain ⟨⟨fr,cs,st,dy,off⟩,w,rfl,h⟩:=h
 dsimp only at h
 rcases h with (rfl|rfl)|⟨d,f,rfl,rfl,hc,hf⟩
 ·exfalso
  simp [step,stepT,move,ask,askOn,runnable_eq,due,ahead,Goroutine.canRun,List.range_succ,choose,pure,Sem.run,Question.forced] at hs
  generalize endWith w 2 _ _=q at hs
  cases q <;> simp at hs
 ·simp [step,stepT,move,ask,askOn,runnable_eq,due,ahead,Goroutine.canRun,List.range_succ,choose,pure,Sem.run,Question.forced] at hs
  exact ⟨⟨fr,cs,.waiting,dy,off⟩,w,hs.symm,.inl (.inr rfl)⟩
 ·have hG:stepG P true { frame:=fr,callers:=cs,status:=.running,dying:=some d,offers:=off } w=writeOn P fr d f w:=by
   obtain ⟨todo,texts,calling,pending,re,hand,fatal⟩:=d
   dsimp only at hc hf
   subst hc hf
   simp [stepG,die]
  rw [show ({ world:=w,gs:=#[{ frame:=fr,callers:=cs,status:=.running,dying:=some d,offers:=off }],rest:={ timers:=#[],alone:=none,slice:=none } }:Machine)=loneD fr cs d off w from rfl] at hs
  rw [step,stepT,move_loneD] at hs
  generalize hx:writeOn P fr d f w=s at hG
  have hb:=zv3 (P:=P) fr d f w hc
  rw [hx] at hb
  cases s with
  | go g w2 es =>
   simp [runT,loneD,Array.swapAt!,hG] at hs
   refine ⟨g,w2,hs.symm,?_⟩
   rcases hb g w2 rfl with h|h
   ·exact .inl (.inl h)
   ·exact .inr h
  | ended o w2 es=>simp [runT,loneD,Array.swapAt!,hG] at hs
  | _ =>
   exfalso
   have:(writeOn P fr d f w).bare=_:=congrArg GStep.bare hx
   unfold writeOn at this
   cases hp:f.pieces with
   | nil=>simp [hp] at this
   | cons piece rest=>simp only [hp] at this;split at this <;> simp at this
theorem ycx {n:Nat} {m m':Machine} (h:yjs m) (hs:runN P n m=.next m'):yjs m':=by
 induction n generalizing m with
 | zero=>simp [runN] at hs;exact hs ▸ h
 | succ n ih =>
  simp only [runN] at hs
  cases hx:step P m with
  | next m2=>rw [hx] at hs;exact ih (ycy h hx) hs
  | ended o w=>rw [hx] at hs;simp at hs
end Go.Proofs.YtoifcnidhfnapaaGreatDoor.Sim
namespace Go.Proofs.YtoifcnidhfnapaaGreatDoor.Sim
open Go
variable {P:Program} {tn:Tn} {V1 V2:Value}
structure Fine (P:Program) (tn:Tn) (V1 V2:Value) (g:FuncId):Prop where
 fns:∀ f T,tn.lookup f=some T→fnOK P tn (f,T)=true
 steps:∀ i,P.stepOf i=none
 follows:P.follows .staticDataAhead=true
 cmp:tn.lookup g=some []
 n1:ztk V1
 n2:ztk V2
 one:∀ (x y:Value) (w:World),((do let d ← Deferred.ofValue V1 #[x,y];invoke d.target d.args):Sem Next).run P w=.ok (.enter g #[x,y]) w
 two:∀ (x y:Value) (w:World),((do let d ← Deferred.ofValue V2 #[x,y];invoke d.target d.args):Sem Next).run P w=.ok (.enter g #[x,y]) w
theorem zus {α β:Type} (l:Array α) (f g:α→Sem β) (h:∀ x∈l,f x=g x):l.mapM f=l.mapM g:=by
 rw [Array.mapM_eq_mapM_toList,Array.mapM_eq_mapM_toList]
 congr 1
 have h':∀ x∈l.toList,f x=g x:=fun x hx=>h x (by simpa using hx)
 generalize l.toList=k at h'
 induction k with
 | nil=>rfl
 | cons y k ih=>simp only [List.mapM_cons];rw [h' y (by simp),ih (fun x hx=>h' x (by simp [hx]))]
theorem yji {fr:Frame} {cs:List Frame} {w:World} {m1:Machine} {s:GStep} (hs:step P (lone fr cs w)=.next m1)
  (hb:(stepG P true { frame:=fr,callers:=cs,status:=.running,dying:=none } w).bare=s.bare) (g:Goroutine) (w1:World) (hg:s.bare=.go g w1) :
  m1={ world:=w1,gs:=#[g],rest:={ timers:=#[],alone:=none,slice:=none } }:=by
 rw [hg] at hb
 generalize hx:stepG P true { frame:=fr,callers:=cs,status:=.running,dying:=none } w=q at hb
 cases q <;> simp at hb
 obtain ⟨rfl,rfl⟩:=hb
 rw [step,stepT,move_lone] at hs
 simp [runT,lone,Array.swapAt!,hx] at hs
 exact hs.symm
theorem zfz {fr:Frame} {cs:List Frame} {w:World} {m1:Machine} (hs:step P (lone fr cs w)=.next m1) (o:Outcome) (w1:World)
  (hb:(stepG P true { frame:=fr,callers:=cs,status:=.running,dying:=none } w).bare=.ended o w1):False:=by
 rw [step_lone_ended hb] at hs
 cases hs
theorem zda {fr fr' fr1 fr1':Frame} {frs frs' frs1 frs1' cs:List Frame} {w w1:World} {m1:Machine} {T1:List Nat} (hs:step P (lone fr (frs ++ [zhq]) w)=.next m1)
  (h1:(stepG P true { frame:=fr,callers:=frs ++ [zhq],status:=.running,dying:=none } w).bare=.go { frame:=fr1,callers:=frs1 ++ [zhq],status:=.running,dying:=none } w1)
  (h2:(stepG P true { frame:=fr',callers:=frs' ++ cs,status:=.running,dying:=none } w).bare=.go { frame:=fr1',callers:=frs1' ++ cs,status:=.running,dying:=none } w1)
  (hF:FR P tn V1 V2 fr1 fr1' T1) (hS:SR P tn V1 V2 frs1 frs1'):zev P tn V1 V2 cs (lone fr' (frs' ++ cs) w) m1:=by
 have e1:=step_lone_go h1
 rw [e1] at hs
 cases hs
 exact .inl ⟨fr1,frs1,fr1',frs1',w1,T1,rfl,step_lone_go h2,hF,hS⟩
theorem yhk {g:FuncId} (hP:Fine P tn V1 V2 g) {fr fr':Frame} {frs frs' cs:List Frame} {w:World} {m1:Machine} {T:List Nat} (hF:FR P tn V1 V2 fr fr' T) (hS:SR P tn V1 V2 frs frs') (hm:fr.mode=.returning)
  (hs:step P (lone fr (frs ++ [zhq]) w)=.next m1):zev P tn V1 V2 cs (lone fr' (frs' ++ cs) w) m1:=by
 have hfn:=hP.fns _ _ hF.look
 unfold fnOK at hfn
 dsimp only at hfn
 cases hf:P.funcs[fr.fn]? with
 | none=>rw [hf] at hfn;simp at hfn
 | some fn =>
  rw [hf] at hfn
  simp only [Bool.and_eq_true] at hfn
  have hres:results fn fr'.tmps=results fn fr.tmps:=by
   unfold results
   congr 1
   refine zus _ _ _ (fun x hx=>?_)
   have hx:=Array.all_eq_true_iff_forall_mem.1 hfn.1.2 x hx
   cases x with
   | tmp t=>simp [yeg] at hx;dsimp only;rw [hF.tm.clean hx]
   | cell t ty=>simp [yeg] at hx;dsimp only;rw [hF.tm.clean hx]
  have hm':fr'.mode=.returning:=hF.mode.trans hm
  have hf':P.funcs[fr'.fn]? = some fn:=by rw [hF.fn];exact hf
  cases hr:(results fn fr.tmps).run P w with
  | halt x w1 =>
   exfalso
   cases x <;> exact zfz hs _ w1 (by simp [stepG,hm,unwind,hF.d,hf,hr];rfl)
  | ok v w1 =>
   rcases SR.inv hS with ⟨rfl,rfl⟩|⟨c,c',T',l,l',rfl,rfl,hc,hw,hl⟩
   ·skip
    have e1:step P (lone fr ([] ++ [zhq]) w)=.next (lone (zhq.finish v) [] w1):=step_lone_go (by simp [stepG,hm,unwind,hF.d,hf,hr,doReturn,hF.kind])
    rw [e1] at hs
    cases hs
    exact .inr (.inl ⟨_,_,[],rfl,rfl,rfl⟩)
   ·skip
    refine zda (fr1:=c.finish v) (fr1':=c'.finish v) (frs1:=l) (frs1':=l') (w1:=w1) (T1:=T') hs ?_ ?_ ?_ hl
    ·simp [stepG,hm,unwind,hF.d,hf,hr,doReturn,hF.kind]
    ·simp [stepG,hm',unwind,hF.d',hf',hres,hr,doReturn,hF.kind']
    ·refine zl4 hc (fun ops i rest k d ht hd=>?_)
     obtain ⟨_,ops2,i2,rest2,k2,ht2,hd2⟩:=hw
     rw [ht] at ht2
     cases ht2
     exact VR.of_clean (hd2 d hd)
theorem yhj {g:FuncId} (hP:Fine P tn V1 V2 g) {fr fr':Frame} {frs frs' cs:List Frame} {w:World} {m1:Machine} {T:List Nat} {chain:List PanicEntry} (hF:FR P tn V1 V2 fr fr' T) (hS:SR P tn V1 V2 frs frs') (hm:fr.mode=.panicking chain)
  (hs:step P (lone fr (frs ++ [zhq]) w)=.next m1):zev P tn V1 V2 cs (lone fr' (frs' ++ cs) w) m1:=by
 have hfn:=hP.fns _ _ hF.look
 unfold fnOK at hfn
 dsimp only at hfn
 cases hf:P.funcs[fr.fn]? with
 | none=>rw [hf] at hfn;simp at hfn
 | some fn =>
  have hm':fr'.mode=.panicking chain:=hF.mode.trans hm
  have hf':P.funcs[fr'.fn]? = some fn:=by rw [hF.fn];exact hf
  rcases SR.inv hS with ⟨rfl,rfl⟩|⟨c,c',T',l,l',rfl,rfl,hc,hw,hl⟩
  ·skip
   have e1:step P (lone fr ([] ++ [zhq]) w)=.next (lone (zhq.raise chain) [] w):=step_lone_go (by simp [stepG,hm,unwind,hF.d,hf,Frame.catches])
   rw [e1] at hs
   cases hs
   exact .inr (.inl ⟨_,_,chain ++ [],rfl,rfl,rfl⟩)
  ·skip
   refine zda (fr1:=c.raise chain) (fr1':=c'.raise chain) (frs1:=l) (frs1':=l') (w1:=w) (T1:=T') hs ?_ ?_ (zo4 hc chain) hl
   ·simp [stepG,hm,unwind,hF.d,hf,Frame.catches]
   ·simp [stepG,hm',unwind,hF.d',hf',Frame.catches]
end Go.Proofs.YtoifcnidhfnapaaGreatDoor.Sim
namespace Go.Proofs.YtoifcnidhfnapaaGreatDoor.Sim
open Go
variable {P:Program} {tn:Tn} {V1 V2:Value}
theorem zf2 {fr fr':Frame} {T:List Nat} (h:FR P tn V1 V2 fr fr' T) {x:Operand} (hx:zbp T x=true):fr'.eval x=fr.eval x:=by
 cases x with
 | tmp t=>simp [zbp] at hx;simp only [Frame.eval];exact (h.tm.clean hx).symm
 | const v=>rfl
 | global i=>rfl
 | func f=>rfl
theorem zgn {fr fr':Frame} {frs frs' cs:List Frame} {w w1:World} {m1:Machine} {g:Goroutine} (hs:step P (lone fr (frs ++ [zhq]) w)=.next m1)
  (h1:(stepG P true { frame:=fr,callers:=frs ++ [zhq],status:=.running,dying:=none } w).bare=.go g w1)
  (hg:(g.status=.blocked∨g.status=.waiting)∨∃ d f,g.status=.running∧g.dying=some d∧d.calling=false∧d.fatal=some f):zev P tn V1 V2 cs (lone fr' (frs' ++ cs) w) m1:=by
 have:=yji (s:=.go g w1) hs h1 g w1 rfl
 exact .inr (.inr ⟨g,w1,this,hg⟩)
theorem zpb {g:FuncId} (hP:Fine P tn V1 V2 g) {fr fr':Frame} {frs frs' cs:List Frame} {w w1:World} {m1:Machine} {T:List Nat} {s s':Sem Next} {x:Halt} (hF:FR P tn V1 V2 fr fr' T) (hS:SR P tn V1 V2 frs frs')
  (e1:stepG P true { frame:=fr,callers:=frs ++ [zhq],status:=.running,dying:=none } w=stepG.apply P true fr (frs ++ [zhq]) none s w)
  (e2:stepG P true { frame:=fr',callers:=frs' ++ cs,status:=.running,dying:=none } w=stepG.apply P true fr' (frs' ++ cs) none s' w)
  (h1:s.run P w=.halt x w1) (h2:s'.run P w=.halt x w1)
  (hs:step P (lone fr (frs ++ [zhq]) w)=.next m1):zev P tn V1 V2 cs (lone fr' (frs' ++ cs) w) m1:=by
 cases x with
 | panic v=>exact zda hs (by rw [e1];simp [stepG.apply,h1];try exact ⟨rfl,rfl⟩) (by rw [e2];simp [stepG.apply,h2];try exact ⟨rfl,rfl⟩) (zo4 hF _) hS
 | goexit=>exact zda hs (by rw [e1];simp [stepG.apply,h1];try exact ⟨rfl,rfl⟩) (by rw [e2];simp [stepG.apply,h2];try exact ⟨rfl,rfl⟩) (zo4 hF _) hS
 | blocked=>exact zgn hs (by rw [e1];simp [stepG.apply,h1];try exact ⟨rfl,rfl⟩) (.inl (.inl rfl))
 | waiting=>exact zgn hs (by rw [e1];simp [stepG.apply,h1];try exact ⟨rfl,rfl⟩) (.inl (.inr rfl))
 | exit c=>exact (zfz hs _ _ (by rw [e1];simp [stepG.apply,h1];try exact ⟨rfl,rfl⟩)).elim
 | throw m=>exact zgn hs (by rw [e1];simp [stepG.apply,h1,endThrow,dieOf];try exact ⟨rfl,rfl⟩) (.inr ⟨_,_,rfl,rfl,rfl,rfl⟩)
 | stuck m=>exact (zfz hs _ _ (by rw [e1];simp [stepG.apply,h1];try exact ⟨rfl,rfl⟩)).elim
 | unsupported u =>
  cases u with
  | initOrder i=>exact (zfz hs _ _ (by rw [e1];simp [stepG.apply,h1,early,hP.follows,hP.steps];try exact ⟨rfl,rfl⟩)).elim
  | _=>exact (zfz hs _ _ (by rw [e1];simp [stepG.apply,h1];try exact ⟨rfl,rfl⟩)).elim
 | fatal m =>
  have hb:(stepG P true { frame:=fr,callers:=frs ++ [zhq],status:=.running,dying:=none } w).bare=(endFatal P fr (frs ++ [zhq]) none m w1).bare:=by rw [e1];simp [stepG.apply,h1]
  unfold endFatal at hb
  dsimp only at hb
  split at hb
  ·exact zgn hs (hb.trans (by simp [dieOf];try exact ⟨rfl,rfl⟩)) (.inr ⟨_,_,rfl,rfl,rfl,rfl⟩)
  ·exact (zfz hs _ _ hb).elim
  ·exact (zfz hs _ _ hb).elim
end Go.Proofs.YtoifcnidhfnapaaGreatDoor.Sim
namespace Go.Proofs.YtoifcnidhfnapaaGreatDoor.Sim
open Go
variable {P:Program} {tn:Tn} {V1 V2:Value}
theorem yf0 {g:FuncId} (hP:Fine P tn V1 V2 g) {f:FuncId} {T:List Nat} (h:tn.lookup f=some T) (args:Array Value) (w:World):(callFunc f args).run P w=.ok (.enter f args) w:=by
 have hfn:=hP.fns _ _ h
 unfold fnOK at hfn
 dsimp only at hfn
 cases hf:P.funcs[f]? with
 | none=>rw [hf] at hfn;simp at hfn
 | some fn =>
  rw [hf] at hfn
  dsimp only at hfn
  cases hb:fn.body with
  | none=>rw [hb] at hfn;simp at hfn
  | some c =>
   rw [hb] at hfn
   simp only [Bool.and_eq_true] at hfn
   exact enters_of hf (by simpa using hfn.1.1) hb args w
theorem zua {g:FuncId} (hP:Fine P tn V1 V2 g) {f:FuncId} {T:List Nat} (h:tn.lookup f=some T) {args args':Array Value} (ha:TRel V1 V2 T args args'):FR P tn V1 V2 (Frame.enter P f args .normal) (Frame.enter P f args' .normal) T:=by
 have hfn:=hP.fns _ _ h
 unfold fnOK at hfn
 dsimp only at hfn
 cases hf:P.funcs[f]? with
 | none=>rw [hf] at hfn;simp at hfn
 | some fn =>
  rw [hf] at hfn
  dsimp only at hfn
  cases hb:fn.body with
  | none=>rw [hb] at hfn;simp at hfn
  | some c =>
   rw [hb] at hfn
   simp only [Bool.and_eq_true] at hfn
   refine ⟨rfl,h,?_,rfl,?_,rfl,rfl,rfl,rfl,rfl,rfl,rfl⟩
   ·simp only [Frame.enter]
    rw [← ha.size]
    refine ⟨by simp [ha.size],fun i=>?_⟩
    have he:=ha.each i
    have hsz:=ha.size
    simp only [Array.getD_eq_getD_getElem?] at he ⊢
    by_cases hi:i<args.size
    ·rw [Array.getElem?_append_left hi,Array.getElem?_append_left (by omega)];exact he
    ·rw [Array.getElem?_append_right (by omega),Array.getElem?_append_right (by omega),← hsz]
     have:∀ n k:Nat,((Array.replicate n undef)[k]?).getD undef=undef:=by
      intro n k
      rw [Array.getElem?_replicate]
      split <;> rfl
     rw [this]
     exact VR.refl_undef _ _ _ _
   ·intro x hx
    simp [Frame.enter,hf,hb] at hx
    subst hx
    exact hfn.2
theorem zvl {g:FuncId} (hP:Fine P tn V1 V2 g) {fr fr':Frame} {frs frs' cs:List Frame} {w w1:World} {m1:Machine} {T T2:List Nat} {s s':Sem Next} {f:FuncId} {args args':Array Value} (hF:FR P tn V1 V2 fr fr' T) (hS:SR P tn V1 V2 frs frs') (hW:yie fr T)
  (e1:stepG P true { frame:=fr,callers:=frs ++ [zhq],status:=.running,dying:=none } w=stepG.apply P true fr (frs ++ [zhq]) none s w)
  (e2:stepG P true { frame:=fr',callers:=frs' ++ cs,status:=.running,dying:=none } w=stepG.apply P true fr' (frs' ++ cs) none s' w)
  (h1:s.run P w=.ok (.enter f args) w1) (h2:s'.run P w=.ok (.enter f args') w1) (hl:tn.lookup f=some T2) (ha:TRel V1 V2 T2 args args')
  (hs:step P (lone fr (frs ++ [zhq]) w)=.next m1):zev P tn V1 V2 cs (lone fr' (frs' ++ cs) w) m1:=by
 obtain ⟨hm,ops,i,rest,k,ht,_⟩:=id hW
 have ht':=hF.todo.trans ht
 refine zda (fr1:=Frame.enter P f args .normal) (fr1':=Frame.enter P f args' .normal) (frs1:=fr :: frs) (frs1':=fr' :: frs') (w1:=w1) (T1:=T2) hs ?_ ?_ (zua hP hl ha) (.cons hF hW hS)
 ·rw [e1];simp [stepG.apply,h1,ht]
 ·rw [e2];simp [stepG.apply,h2,ht']
theorem znt {fr fr':Frame} {frs frs' cs:List Frame} {w w1:World} {m1:Machine} {T:List Nat} {s s':Sem Next} {v v':Value} (hF:FR P tn V1 V2 fr fr' T) (hS:SR P tn V1 V2 frs frs')
  (e1:stepG P true { frame:=fr,callers:=frs ++ [zhq],status:=.running,dying:=none } w=stepG.apply P true fr (frs ++ [zhq]) none s w)
  (e2:stepG P true { frame:=fr',callers:=frs' ++ cs,status:=.running,dying:=none } w=stepG.apply P true fr' (frs' ++ cs) none s' w)
  (h:(s.run P w=.ok (.value v) w1∧s'.run P w=.ok (.value v') w1)∨(s.run P w=.ok .skip w1∧s'.run P w=.ok .skip w1∧v=undef∧v'=undef))
  (hv:∀ ops i rest k d,fr.todo=.inRegion ops (i :: rest) :: k→(ops[i]?).bind (·.dst)=some d→VR V1 V2 T d v v')
  (hs:step P (lone fr (frs ++ [zhq]) w)=.next m1):zev P tn V1 V2 cs (lone fr' (frs' ++ cs) w) m1:=by
 refine zda (fr1:=fr.finish v) (fr1':=fr'.finish v') (frs1:=frs) (frs1':=frs') (w1:=w1) (T1:=T) hs ?_ ?_ (zl4 hF hv) hS
 ·rw [e1];rcases h with ⟨h1,_⟩|⟨h1,_,rfl,rfl⟩ <;> simp [stepG.apply,h1]
 ·rw [e2];rcases h with ⟨_,h2⟩|⟨_,h2,rfl,rfl⟩ <;> simp [stepG.apply,h2]
theorem yjj {g:FuncId} (hP:Fine P tn V1 V2 g) {fr fr':Frame} {frs frs' cs:List Frame} {w:World} {m1:Machine} {T:List Nat} {ops:Array Oper} {i:Nat} {rest:List Nat} {k:List Item} (hF:FR P tn V1 V2 fr fr' T) (hS:SR P tn V1 V2 frs frs') (hm:fr.mode=.run)
  (ht:fr.todo=.inRegion ops (i :: rest) :: k) (hs:step P (lone fr (frs ++ [zhq]) w)=.next m1):zev P tn V1 V2 cs (lone fr' (frs' ++ cs) w) m1:=by
 have hm':=hF.mode.trans hm
 have ht':=hF.todo.trans ht
 have hops:ops.all (yfn tn T)=true:=by
  have:=hF.ok (.inRegion ops (i :: rest)) (by rw [ht];exact List.mem_cons_self ..)
  simpa [zet] using this
 have hy:=hF.tm.yielded hP.n1 hP.n2 ops
 cases hw:((ops[i]?).map (Region.wanted · (yielded ops fr.tmps))).getD false with
 | false =>
  have hw':((ops[i]?).map (Region.wanted · (yielded ops fr'.tmps))).getD false=false:=by rw [← hy];exact hw
  refine zda (fr1:=fr.finish undef) (fr1':=fr'.finish undef) (frs1:=frs) (frs1':=frs') (w1:=w) (T1:=T) hs ?_ ?_ (zl4 hF (fun _ _ _ _ _ _ _=>VR.refl_undef _ _ _ _)) hS
  ·simp [stepG,stepG.exec,hm,ht,hw]
  ·simp [stepG,stepG.exec,hm',ht',hw']
 | true =>
  have hw':((ops[i]?).map (Region.wanted · (yielded ops fr'.tmps))).getD false=true:=by rw [← hy];exact hw
  cases ho:ops[i]? with
  | none=>rw [ho] at hw;simp at hw
  | some o =>
   have hok:yfn tn T o=true:=Array.all_eq_true_iff_forall_mem.1 hops o (Array.mem_of_getElem? ho)
   have e1:stepG P true { frame:=fr,callers:=frs ++ [zhq],status:=.running,dying:=none } w=stepG.apply P true fr (frs ++ [zhq]) none (execOp fr.eval o) w:=by
    rw [ho] at hw
    simp [stepG,stepG.exec,stepG.oper,Frame.oper?,hm,ht,ho,hF.rnd]
    simp at hw
    simp [hw]
   have e2:stepG P true { frame:=fr',callers:=frs' ++ cs,status:=.running,dying:=none } w=stepG.apply P true fr' (frs' ++ cs) none (execOp fr'.eval o) w:=by
    rw [ho] at hw'
    simp [stepG,stepG.exec,stepG.oper,Frame.oper?,hm',ht',ho,hF.rnd']
    simp at hw'
    simp [hw']
   have hdst:∀ v,zdt T o=true→∀ ops2 i2 rest2 k2 d,fr.todo=.inRegion ops2 (i2 :: rest2) :: k2→(ops2[i2]?).bind (·.dst)=some d→VR V1 V2 T d v v:=by
    intro v hd ops2 i2 rest2 k2 d h1 h2
    rw [ht] at h1
    cases h1
    rw [ho] at h2
    simp at h2
    simp [zdt,h2] at hd
    exact VR.of_clean hd
   by_cases hcall:∃ c,o.op=.call c
   ·obtain ⟨c,hc⟩:=hcall
    have hok2:=hok
    unfold yfn at hok2
    rw [hc] at hok2
    simp only [Bool.and_eq_true] at hok2
    obtain ⟨hd,hcal⟩:=hok2
    have hW:yie fr T:=by
     refine ⟨hm,ops,i,rest,k,ht,fun d hdd=>?_⟩
     rw [ho] at hdd
     simp at hdd
     simpa [zdt,hdd] using hd
    have hex:∀ ρ:Operand→Value,execOp ρ o=(do let d ← resolve ρ c o.type;invoke d.target d.args):=fun ρ=>by simp only [execOp,hc]
    have hargs:∀ x∈c.args,zbp T x=true→fr'.eval x=fr.eval x:=fun x _ hx=>zf2 hF hx
    cases hcl:c.callee with
    | invoke recv name=>rw [hcl] at hcal;simp at hcal
    | builtin bi =>
     have hbl:bi=.len∧c.args.all (zbp T)=true:=by
      rw [hcl] at hcal
      cases bi <;> simp at hcal ⊢
      exact hcal
     obtain ⟨rfl,hal⟩:=hbl
     have hmap:c.args.map fr'.eval=c.args.map fr.eval:=zut _ (fun x hx=>zf2 hF (Array.all_eq_true_iff_forall_mem.1 hal x hx))
     have hsame:execOp fr'.eval o=execOp fr.eval o:=by rw [hex,hex];simp only [resolve,hcl,hmap]
     rw [hsame] at e2
     cases hr:(execOp fr.eval o).run P w with
     | halt x w1=>exact zpb hP hF hS e1 e2 hr hr hs
     | ok nx w1 =>
      have hnx:∃ v,nx=.value v:=by
       rw [hex] at hr
       simp only [resolve,hcl] at hr
       simp only [pure_bind,invoke,builtin] at hr
       rw [Sem.run_bind] at hr
       revert hr
       generalize (Sem.run P _ w:Result Value)=q
       intro hr
       cases q with
       | ok x w2=>simp at hr;exact ⟨x,hr.1.symm⟩
       | halt x w2=>simp [Result.andThen] at hr
      obtain ⟨v,rfl⟩:=hnx
      exact znt hF hS e1 e2 (.inl ⟨hr,hr⟩) (hdst v hd) hs
    | value x =>
     cases x with
     | const v=>rw [hcl] at hcal;simp at hcal
     | global j=>rw [hcl] at hcal;simp at hcal
     | func f =>
      rw [hcl] at hcal
      dsimp only at hcal
      cases hl:tn.lookup f with
      | none=>rw [hl] at hcal;simp at hcal
      | some T2 =>
       rw [hl] at hcal
       dsimp only at hcal
       have hrun:∀ fx:Frame,(execOp fx.eval o).run P w=.ok (.enter f (c.args.map fx.eval)) w:=by
        intro fx
        rw [hex]
        simp only [resolve,hcl,Frame.eval,Deferred.ofValue,pure_bind,invoke,Array.append_empty,Array.empty_append]
        exact yf0 hP hl _ w
       refine zvl hP hF hS hW e1 e2 (hrun fr) (hrun fr') hl ⟨by simp,fun j=>?_⟩ hs
       have hj:=hcal
       unfold yh1 at hj
       rw [List.all_eq_true] at hj
       simp only [Array.getD_eq_getD_getElem?,Array.getElem?_map]
       cases hx:c.args[j]? with
       | none=>exact VR.refl_undef _ _ _ _
       | some x =>
        have hjs:j<c.args.size:=(Array.getElem?_eq_some_iff.1 hx).1
        have h3:=hj j (List.mem_range.2 hjs)
        rw [hx] at h3
        simp only [Option.map_some,Option.getD_some]
        dsimp only at h3
        by_cases hjt:j∈T2
        ·have hcx:zbp T x=false:=by
          have:T2.contains j=true:=by simpa using hjt
          rw [this] at h3
          simpa using h3
         cases x with
         | tmp t =>
          have htT:t∈T:=by simpa [zbp] using hcx
          exact ⟨fun h=>absurd hjt h,fun _=>(hF.tm.each t).2 htT⟩
         | const v=>simp [zbp] at hcx
         | global i=>simp [zbp] at hcx
         | func f=>simp [zbp] at hcx
        ·have hcx:zbp T x=true:=by
          have:T2.contains j=false:=by simpa using hjt
          rw [this] at h3
          simpa using h3
         rw [zf2 hF hcx]
         exact VR.of_clean hjt
     | tmp t =>
      rw [hcl] at hcal
      simp only [Bool.and_eq_true] at hcal
      obtain ⟨⟨htT,hal⟩,hsz⟩:=hcal
      have htT:t∈T:=by simpa using htT
      have hsz:c.args.size=2:=by simpa using hsz
      have hmap:c.args.map fr'.eval=c.args.map fr.eval:=zut _ (fun x hx=>zf2 hF (Array.all_eq_true_iff_forall_mem.1 hal x hx))
      have hrun:∀ fx:Frame,execOp fx.eval o=(do let d ← Deferred.ofValue (fx.tmps.getD t undef) (c.args.map fx.eval);invoke d.target d.args):=by
       intro fx
       rw [hex]
       simp only [resolve,hcl,Frame.eval]
      obtain ⟨x,y,hxy⟩:∃ x y,c.args.map fr.eval=#[x,y]:=by
       have h2:(c.args.map fr.eval).size=2:=by simpa using hsz
       generalize c.args.map fr.eval=z at h2
       obtain ⟨z⟩:=z
       match z,h2 with
       | [x,y],_=>exact ⟨x,y,rfl⟩
      rcases (hF.tm.each t).2 htT with ⟨u1,u2⟩|⟨u1,u2⟩
      ·have q1:(execOp fr.eval o).run P w=.halt (.stuck "call: function value expected") w:=by rw [hrun,u1];rfl
       have q2:(execOp fr'.eval o).run P w=.halt (.stuck "call: function value expected") w:=by rw [hrun,u2];rfl
       exact zpb hP hF hS e1 e2 q1 q2 hs
      ·have q1:(execOp fr.eval o).run P w=.ok (.enter g #[x,y]) w:=by rw [hrun,u1,hxy];exact hP.one x y w
       have q2:(execOp fr'.eval o).run P w=.ok (.enter g #[x,y]) w:=by rw [hrun,u2,hmap,hxy];exact hP.two x y w
       exact zvl hP hF hS hW e1 e2 q1 q2 hP.cmp ⟨rfl,fun j=>VR.of_clean (by simp)⟩ hs
   ·have hnc:∀ c,o.op≠.call c:=fun c e=>hcall ⟨c,e⟩
    by_cases hclean:o.op.operands.all (zbp T)=true∧zdt T o=true
    ·have hsame:execOp fr'.eval o=execOp fr.eval o:=zuc tn T o hok (fun x hx=>zf2 hF (Array.all_eq_true_iff_forall_mem.1 hclean.1 x hx)) hnc
     rw [hsame] at e2
     cases hr:(execOp fr.eval o).run P w with
     | halt x w1=>exact zpb hP hF hS e1 e2 hr hr hs
     | ok nx w1 =>
      rcases zws tn T P w w1 o nx hok hnc hr with ⟨v,rfl⟩|rfl
      ·exact znt hF hS e1 e2 (.inl ⟨hr,hr⟩) (hdst v hclean.2) hs
      ·exact znt (v:=undef) (v':=undef) hF hS e1 e2 (.inr ⟨hr,hr,rfl,rfl⟩) (hdst undef hclean.2) hs
    ·
     have key:∀ x,o.op.operands=#[x]→(if zbp T x then zdt T o else !(zdt T o))=true→(∀ ρ:Operand→Value,(execOp ρ o).run P w=.ok (.value (ρ x)) w)→zev P tn V1 V2 cs (lone fr' (frs' ++ cs) w) m1:=by
      intro x hx hif hrun
      cases hcx:zbp T x with
      | true=>exact absurd ⟨by rw [hx];simp [hcx],by rw [hcx] at hif;simpa using hif⟩ hclean
      | false =>
       rw [hcx] at hif
       have hd:zdt T o=false:=by simpa using hif
       cases x with
       | tmp t =>
        have htT:t∈T:=by simpa [zbp] using hcx
        refine znt hF hS e1 e2 (.inl ⟨hrun _,hrun _⟩) ?_ hs
        intro ops2 i2 rest2 k2 d h1 h2
        rw [ht] at h1
        cases h1
        rw [ho] at h2
        simp at h2
        have hdT:d∈T:=by simpa [zdt,h2] using hd
        exact ⟨fun h=>absurd hdT h,fun _=>(hF.tm.each t).2 htT⟩
       | const v=>simp [zbp] at hcx
       | global i=>simp [zbp] at hcx
       | func f=>simp [zbp] at hcx
     have hok2:=hok
     unfold yfn at hok2
     cases hop:o.op with
     | move x=>rw [hop] at hok2;exact key x (by rw [hop];rfl) hok2 (fun ρ=>by simp [execOp,hop])
     | assign x=>rw [hop] at hok2;exact key x (by rw [hop];rfl) hok2 (fun ρ=>by simp [execOp,hop])
     | call c=>exact absurd hop (hnc c)
     | _ =>
      exfalso
      rw [hop] at hok2
      first
       | (simp at hok2;done)
       | (simp only [Bool.and_eq_true] at hok2;exact hclean ⟨by rw [hop];exact hok2.2,hok2.1⟩)
end Go.Proofs.YtoifcnidhfnapaaGreatDoor.Sim
