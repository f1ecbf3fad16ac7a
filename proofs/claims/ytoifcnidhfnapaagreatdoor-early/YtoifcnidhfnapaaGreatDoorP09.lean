import Derived.Test.YtoifcnidhfnapaaGreatDoorP08
import Derived.Test.YtoifcnidhfnapaaGreatDoorProg
import Derived.KernelRfl
import Derived.WalkKit
import Derived.Test.YtoifcnidhfnapaaGreatDoorP07
import Derived.Test.YtoifcnidhfnapaaGreatDoorP05
import Derived.Stop.RegionWithIn
set_option linter.unusedVariables false
set_option linter.unusedSimpArgs false
namespace Go.Proofs.YtoifcnidhfnapaaGreatDoor.Sim
open Go
variable {P:Program} {tn:Tn} {V1 V2:Value}
theorem step_run {g:FuncId} (hP:Fine P tn V1 V2 g) {fr fr':Frame} {frs frs' cs:List Frame} {w:World} {m1:Machine} {T:List Nat} (hF:FR P tn V1 V2 fr fr' T) (hS:SR P tn V1 V2 frs frs') (hm:fr.mode=.run)
  (hs:step P (lone fr (frs ++ [Last]) w)=.next m1):zed P tn V1 V2 cs (lone fr' (frs' ++ cs) w) m1:=by
 have hm':=hF.mode.trans hm
 have hr:=hF.rnd
 have hr':=hF.rnd'
 have key:∀ k',(∀ x∈k',zd8 tn T x=true) →
   (stepG P true { frame:=fr,callers:=frs ++ [Last],status:=.running,dying:=none } w).bare=.go { frame:={ fr with todo:=k' },callers:=frs ++ [Last],status:=.running,dying:=none } w →
   (stepG P true { frame:=fr',callers:=frs' ++ cs,status:=.running,dying:=none } w).bare=.go { frame:={ fr' with todo:=k' },callers:=frs' ++ cs,status:=.running,dying:=none } w →
   zed P tn V1 V2 cs (lone fr' (frs' ++ cs) w) m1:=fun k' hk h1 h2=>zcv hs h1 h2 (zvh hF k' hk) hS
 have keyR:(stepG P true { frame:=fr,callers:=frs ++ [Last],status:=.running,dying:=none } w).bare=.go { frame:={ fr with mode:=.returning },callers:=frs ++ [Last],status:=.running,dying:=none } w →
   (stepG P true { frame:=fr',callers:=frs' ++ cs,status:=.running,dying:=none } w).bare=.go { frame:={ fr' with mode:=.returning },callers:=frs' ++ cs,status:=.running,dying:=none } w →
   zed P tn V1 V2 cs (lone fr' (frs' ++ cs) w) m1:=fun h1 h2=>zcv hs h1 h2 (ret_rel hF) hS
 cases ht:fr.todo with
 | nil =>
  have ht':=hF.todo.trans ht
  exact keyR (by simp [stepG,stepG.exec,hm,ht,hr]) (by simp [stepG,stepG.exec,hm',ht',hr'])
 | cons x k =>
  have ht':=hF.todo.trans ht
  have hx:zd8 tn T x=true:=hF.ok x (by rw [ht];exact List.mem_cons_self ..)
  have hk:∀ y∈k,zd8 tn T y=true:=fun y hy=>hF.ok y (by rw [ht];exact List.mem_cons_of_mem _ hy)
  cases x with
  | inBlock id=>exact key k hk (by simp [stepG,stepG.exec,hm,ht]) (by simp [stepG,stepG.exec,hm',ht'])
  | inLoop b =>
   refine key (.code b :: .inLoop b :: k) (fun y hy=>?_) (by simp [stepG,stepG.exec,hm,ht]) (by simp [stepG,stepG.exec,hm',ht'])
   rcases List.mem_cons.1 hy with rfl|hy
   ·simpa [zd8] using hx
   ·rcases List.mem_cons.1 hy with rfl|hy
    ·exact hx
    ·exact hk y hy
  | inRegion ops l =>
   cases l with
   | nil=>exact key k hk (by simp [stepG,stepG.exec,hm,ht]) (by simp [stepG,stepG.exec,hm',ht'])
   | cons i rest=>exact step_op hP hF hS hm ht hs
  | code c =>
   cases c with
   | skip=>exact key k hk (by simp [stepG,stepG.exec,hm,ht]) (by simp [stepG,stepG.exec,hm',ht'])
   | label l=>exact key k hk (by simp [stepG,stepG.exec,hm,ht]) (by simp [stepG,stepG.exec,hm',ht'])
   | ret=>exact keyR (by simp [stepG,stepG.exec,hm,ht,hr]) (by simp [stepG,stepG.exec,hm',ht',hr'])
   | seq a b =>
    simp only [zd8,zev,Bool.and_eq_true] at hx
    refine key (.code a :: .code b :: k) (fun y hy=>?_) (by simp [stepG,stepG.exec,hm,ht]) (by simp [stepG,stepG.exec,hm',ht'])
    rcases List.mem_cons.1 hy with rfl|hy
    ·exact hx.1
    ·rcases List.mem_cons.1 hy with rfl|hy
     ·exact hx.2
     ·exact hk y hy
   | block id b =>
    refine key (.code b :: .inBlock id :: k) (fun y hy=>?_) (by simp [stepG,stepG.exec,hm,ht]) (by simp [stepG,stepG.exec,hm',ht'])
    rcases List.mem_cons.1 hy with rfl|hy
    ·simpa [zd8,zev] using hx
    ·rcases List.mem_cons.1 hy with rfl|hy
     ·rfl
     ·exact hk y hy
   | loop b =>
    refine key (.code b :: .inLoop b :: k) (fun y hy=>?_) (by simp [stepG,stepG.exec,hm,ht]) (by simp [stepG,stepG.exec,hm',ht'])
    rcases List.mem_cons.1 hy with rfl|hy
    ·simpa [zd8,zev] using hx
    ·rcases List.mem_cons.1 hy with rfl|hy
     ·simpa [zd8,zev] using hx
     ·exact hk y hy
   | cond c a b =>
    simp only [zd8,zev,Bool.and_eq_true] at hx
    have he:=ze8 hF hx.1.1
    cases hb:fr.eval c with
    | bool v =>
     rw [hb] at he
     refine key (.code (if v then a else b) :: k) (fun y hy=>?_) (by simp [stepG,stepG.exec,hm,ht,hb]) (by simp [stepG,stepG.exec,hm',ht',he])
     rcases List.mem_cons.1 hy with rfl|hy
     ·cases v
      ·exact hx.2
      ·exact hx.1.2
     ·exact hk y hy
    | _=>exact (zex hs _ _ (by simp [stepG,stepG.exec,hm,ht,hb];try exact ⟨rfl,rfl⟩)).elim
   | exit id =>
    cases hx2:exitTo id k with
    | none=>exact (zex hs _ _ (by simp [stepG,stepG.exec,hm,ht,hx2,hr];try exact ⟨rfl,rfl⟩)).elim
    | some k'=>exact key k' (fun y hy=>hk y (zxp hx2 y hy)) (by simp [stepG,stepG.exec,hm,ht,hx2]) (by simp [stepG,stepG.exec,hm',ht',hx2])
   | region id ops draw =>
    have hops:∀ l,zd8 tn T (.inRegion ops l)=true:=fun l=>by simpa [zd8,zev] using hx
    cases draw with
    | false =>
     refine key (.inRegion ops (List.range ops.size) :: k) (fun y hy=>?_) (by simp [stepG,stepG.exec,hm,ht]) (by simp [stepG,stepG.exec,hm',ht'])
     rcases List.mem_cons.1 hy with rfl|hy
     ·exact hops _
     ·exact hk y hy
    | true =>
     refine zcv (fr1:={ fr with todo:=.inRegion ops (Region.schedule (P.follows .mixedOrders) ops (w.tape w.drawn (.order fr.fn id))) :: k }) (fr1':={ fr' with todo:=.inRegion ops (Region.schedule (P.follows .mixedOrders) ops (w.tape w.drawn (.order fr.fn id))) :: k }) (frs1:=frs) (frs1':=frs')
      (w1:={ w with drawn:=w.drawn+1 }) (T1:=T) hs ?_ ?_ (zvh hF _ (fun y hy=>?_)) hS
     ·simp [stepG,stepG.exec,hm,ht,choose,Sem.run,Question.forced,Question.cut]
     ·simp [stepG,stepG.exec,hm',ht',choose,Sem.run,Question.forced,Question.cut,hF.fn]
     ·rcases List.mem_cons.1 hy with rfl|hy
      ·exact hops _
      ·exact hk y hy
   | _=>simp [zd8,zev] at hx
  | _=>simp [zd8] at hx
theorem step_all {g:FuncId} (hP:Fine P tn V1 V2 g) {fr fr':Frame} {frs frs' cs:List Frame} {w:World} {m1:Machine} {T:List Nat} (hF:FR P tn V1 V2 fr fr' T) (hS:SR P tn V1 V2 frs frs')
  (hs:step P (lone fr (frs ++ [Last]) w)=.next m1):zed P tn V1 V2 cs (lone fr' (frs' ++ cs) w) m1:=by
 cases hm:fr.mode with
 | run=>exact step_run hP hF hS hm hs
 | returning=>exact step_ret hP hF hS hm hs
 | panicking chain=>exact step_pan hP hF hS hm hs
theorem yap {g:FuncId} (hP:Fine P tn V1 V2 g) (cs:List Frame) (n:Nat):∀ {fr fr':Frame} {frs frs':List Frame} {w w2:World} {T:List Nat} {fe:Frame},FR P tn V1 V2 fr fr' T→SR P tn V1 V2 frs frs' →
  runN P n (lone fr (frs ++ [Last]) w)=.next (lone fe [Last] w2)→∃ fe' T',Steps P (lone fr' (frs' ++ cs) w) (lone fe' cs w2)∧FR P tn V1 V2 fe fe' T':=by
 induction n with
 | zero =>
  intro fr fr' frs frs' w w2 T fe hF hS h
  simp [runN,lone] at h
  obtain ⟨rfl,rfl,h⟩:=h
  cases hS with
  | nil=>exact ⟨fr',T,Steps.refl _ _,hF⟩
  | cons _ _ _=>simp at h
 | succ n ih =>
  intro fr fr' frs frs' w w2 T fe hF hS h
  simp only [runN] at h
  cases hx:step P (lone fr (frs ++ [Last]) w) with
  | ended o w1=>rw [hx] at h;simp at h
  | next m1 =>
   rw [hx] at h
   dsimp only at h
   rcases step_all (cs:=cs) hP hF hS hx with ⟨fr1,frs1,fr1',frs1',w1,T1,rfl,hst,hF1,hS1⟩|hg|hd
   ·obtain ⟨fe',T',hsteps,hFe⟩:=ih hF1 hS1 h
    exact ⟨fe',T',.head hst hsteps,hFe⟩
   ·exfalso
    cases n with
    | zero =>
     simp [runN] at h
     obtain ⟨fr3,w3,chain,he,_⟩:=hg
     rw [h] at he
     simp [lone] at he
    | succ n =>
     simp only [runN] at h
     cases hy:step P m1 with
     | next m2=>exact ybd hg hy
     | ended o w1=>rw [hy] at h;simp at h
   ·exact absurd rfl (zoz (zym hd h) fe [Last] w2)
theorem calls_turn {g:FuncId} (hP:Fine P tn V1 V2 g) {f:FuncId} {T:List Nat} (hf:tn.lookup f=some T) {args args':Array Value} (ha:TRel V1 V2 T args args') {w:World} {R:Ending→World→Prop}
  (hR:∀ e w',R e w'→∃ v,e=.returned v) (h:Calls P f args w R):Calls P f args' w R:=by
 intro cs
 obtain ⟨e,w',fr,hr,hc,hfn,hl⟩:=h [Last]
 obtain ⟨v,rfl⟩:=hR e w' hr
 obtain ⟨n,hn⟩:Steps P (lone (Frame.enter P f args .normal) [Last] w) (lone fr [Last] w'):=hc
 obtain ⟨fe',T',hst,hF⟩:=yap hP cs n (frs:=[]) (frs':=[]) (zrn hP hf ha) .nil hn
 refine ⟨.returned v,w',fe',hr,hst,hF.fn.trans hfn,?_⟩
 obtain ⟨hm,hd,hk,fn,hfu,hres⟩:=hl
 refine ⟨hF.mode.trans hm,hF.d',hF.kind',fn,by rw [hF.fn];exact hfu,?_⟩
 have hfo:=hP.fns _ _ hF.look
 unfold fnOK at hfo
 dsimp only at hfo
 rw [hfu] at hfo
 dsimp only at hfo
 simp only [Bool.and_eq_true] at hfo
 rw [← hres]
 congr 1
 unfold results
 congr 1
 refine zrb _ _ _ (fun x hx=>?_)
 have hx:=Array.all_eq_true_iff_forall_mem.1 hfo.1.2 x hx
 cases x with
 | tmp t=>simp [zzc] at hx;dsimp only;rw [hF.tm.clean hx]
 | cell t ty=>simp [zzc] at hx;dsimp only;rw [hF.tm.clean hx]
end Go.Proofs.YtoifcnidhfnapaaGreatDoor.Sim
namespace Go.Proofs.YtoifcnidhfnapaaGreatDoor
open Go
def tnR:Sim.Tn:=[(161,[1,12]),(206,[4,29,36,43,51,60,79,84,102,110,133,145]),(207,[]),(170,[]),(230,[3,22]),(231,[3,28,58]),(232,[3]),(233,[3,39,43,47,53]),(234,[3]),(235,[3,23,72,112]),(236,[4,35,54]),(237,[4,36,54,109,127]),(238,[]),(239,[]),(215,[]),(261,[4,24,43]),(262,[]),(263,[]),(264,[3,16]),(265,[5,18,27,36]),(249,[]),(282,[4,12]),(277,[])]
def fnOf:Value:=.func (.func 170) #[] #[]
def meOf:Value:=.func (.methodOf 77 "Compare") #[] #[]
set_option maxRecDepth 100000 in
theorem zt3:(tnR.all fun x=>Sim.fnOK Tryz.prog tnR x)=true:=by kernel_rfl
theorem zor {l:Sim.Tn} {f:Nat} {T:List Nat} (h:l.lookup f=some T):(f,T)∈l:=by
 induction l with
 | nil=>simp at h
 | cons x l ih =>
  obtain ⟨a,b⟩:=x
  simp only [List.lookup] at h
  split at h
  ·rename_i e
   have:f=a:=by simpa using e
   subst this
   cases h
   exact List.mem_cons_self ..
  ·exact List.mem_cons_of_mem _ (ih h)
set_option maxRecDepth 100000 in
theorem noSteps:(Tryz.prog.funcs.all fun f=>((f.body.map readies).getD []).isEmpty)=true:=by kernel_rfl
theorem zmp (i:Nat):Tryz.prog.stepOf i=none:=by
 unfold Program.stepOf
 rw [Array.findIdx?_eq_none_iff]
 intro f hf
 have h:=Array.all_eq_true_iff_forall_mem.1 noSteps f hf
 cases hb:f.body with
 | none=>simp
 | some c=>simp [hb] at h;simp [h]
set_option maxRecDepth 100000 in
theorem methR (n:Nat) (x:Value) (w:World):(method (n+1) 77 x "Compare").run Tryz.prog w=.ok (170,x) w:=by kernel_rfl
set_option maxRecDepth 100000 in
set_option maxHeartbeats 1000000 in
theorem fineR:Sim.Fine Tryz.prog tnR fnOf meOf 170 where
 fns f T h:=(List.all_eq_true.1 zt3) (f,T) (zor h)
 steps:=zmp
 follows:=by kernel_rfl
 cmp:=by rfl
 n1 b:=by simp [fnOf]
 n2 b:=by simp [meOf]
 one x y w:=by
  simp only [fnOf,Deferred.ofValue,pure_bind,invoke,Array.append_empty,Array.empty_append]
  exact enters_of Tryz.func170 (by kernel_rfl) rfl #[x,y] w
 two x y w:=by
  simp [meOf,Deferred.ofValue,invoke,callMethod]
  rw [show 446+Made.depth=(446+Made.depth - 1)+1 from rfl,methR]
  exact enters_of Tryz.func170 (by kernel_rfl) rfl #[x,y] w
end Go.Proofs.YtoifcnidhfnapaaGreatDoor
namespace Go.Proofs.YtoifcnidhfnapaaGreatDoor
open Go.RowKit Go.Maps Go.Sort Go.Shelf
set_option maxRecDepth 100000 in
set_option maxHeartbeats 2000000 in
theorem ins0 (p:Option Addr) (cap:Nat) (fv:Value) (w:World):Calls Tryz.prog 230 #[.slice p 0 cap,.int .i64 0,.int .i64 0,fv] w fun e w'=>e=.returned (.tuple #[])∧w'=w:=by
 go_enter Tryz.func230,Tryz.ntmps230
 go_wp2
 refine wp_loop_rounds 1 ?_
 rw [rounds_succ]
 go_wp2
 go_end0
 exact ⟨rfl,rfl⟩
set_option maxRecDepth 100000 in
set_option maxHeartbeats 2000000 in
theorem pdq0 (p:Option Addr) (cap:Nat) (lim:Int) (fv:Value) (w:World):Calls Tryz.prog 206 #[.slice p 0 cap,.int .i64 0,.int .i64 0,.int .i64 lim,fv] w fun e w'=>e=.returned (.tuple #[])∧w'=w:=by
 go_enter Tryz.func206,Tryz.ntmps206
 go_wp2
 refine wp_loop_rounds 1 ?_
 rw [rounds_succ]
 go_wp2_with (go_at_call 230;refine (ins0 _ _ _ _).mono ?_;rintro e w' ⟨rfl,rfl⟩)
 (try simp only [Exit.inBlock,Exit.then])
 refine bodyPost_ret (results_none rfl _ _ _) rfl ?_
 exact ⟨rfl,rfl⟩
theorem zp4 (w:World):Calls Tryz.prog 207 #[.int .u64 0] w fun e w'=>e=.returned (.int .i64 (Lib.bitLen 0:Nat))∧w'=w:=
 Any.bits_Len (SlLaysF0.n15.bits (P:=Tryz.prog) (ρ:=Tryz.sortRow_ren) { Tryz.sortRow with }) 0 w (by omega) (by omega)
set_option maxHeartbeats 2000000 in
theorem zjh (p:Option Addr) (cap:Nat) (fv:Value) (w:World):Calls Tryz.prog 161 #[.slice p 0 cap,fv] w fun e w'=>e=.returned (.tuple #[])∧w'=w:=by
 go_enter Tryz.func161,Tryz.ntmps161
 go_wp2_with (first|(go_at_call 207;refine (zp4 _).mono ?_;rintro e w' ⟨rfl,rfl⟩)|(go_at_call 206;refine (pdq0 _ _ _ _ _).mono ?_;rintro e w' ⟨rfl,rfl⟩))
 go_end0
 exact ⟨rfl,rfl⟩
theorem zjw (blk cap:Nat) (d:Array Row) (w:World) (hH:HoldsK encR 3 w blk 0 d) (hblk:blk<w.heap.size) (hsz:d.size<4611686018427387904) :
  Calls Tryz.prog 161 #[.slice (some ⟨blk,0,none⟩) d.size cap,.func (.func 170) #[] #[]] w fun e w'=>e=.returned (.tuple #[])∧∃ d' n os,PermIn 0 d.size d d'∧SortedIn (ltOf cmpR) 0 d.size d'∧w'=sortWorldK encR 3 w blk 0 n d' os:=by
 have eg:∀ args w,(callFunc 170 args).run Tryz.prog w=.ok (.enter 170 args) w:=enters_of Tryz.func170 (by kernel_rfl) rfl
 exact AnyQ.slices_SortFunc Tryz.sortRow 3 Tryz.isAgg77 Tryz.sizeOf77 encR (fun _=>rfl) (fun x v hv=>by simp [encR] at hv;rcases hv with rfl|rfl|rfl <;> rfl) cmpR swoR 170 #[] blk 0 cap d w eg (ybg blk 0 d.size w) hH hblk hsz
theorem yba:tnR.lookup 161=some [1,12]:=by rfl
theorem zi2 (blk cap:Nat) (d:Array Row) (w:World) (hH:HoldsK encR 3 w blk 0 d) (hblk:blk<w.heap.size) (hsz:d.size<4611686018427387904) :
  Calls Tryz.prog 161 #[.slice (some ⟨blk,0,none⟩) d.size cap,meOf] w fun e w'=>e=.returned (.tuple #[])∧∃ d' n os,PermIn 0 d.size d d'∧SortedIn (ltOf cmpR) 0 d.size d'∧w'=sortWorldK encR 3 w blk 0 n d' os:=by
 have hT:Sim.TRel fnOf meOf [1,12] #[.slice (some ⟨blk,0,none⟩) d.size cap,fnOf] #[.slice (some ⟨blk,0,none⟩) d.size cap,meOf]:=by
  refine ⟨rfl,fun i=>?_⟩
  match i with
  | 0=>exact Sim.VR.of_clean (by decide)
  | 1=>exact ⟨fun h=>absurd (by decide) h,fun _=>.inr ⟨rfl,rfl⟩⟩
  | i+2=>exact Sim.VR.refl_undef _ _ _ _
 have h1:=zjw blk cap d w hH hblk hsz
 exact Sim.calls_turn fineR yba hT (fun e w' h=>⟨_,h.1⟩) h1
structure zcz (D:DataW Unit) (ys:List Row):Prop where
 rising:zjt ys
 wf:∀ y∈ys,zav y
 mem:∀ r,zav r→(r∈ys↔Maps.has D (zaz r)=true)
theorem zb6 {D:DataW Unit} (hT:Tidy D) {xs:List Row} (hwf:∀ x∈xs,zav x) (hap:xs.Pairwise (·≠·)) (hm:∀ x∈xs,Maps.has D (zaz x)=true):xs.length≤Maps.size D:=by
 obtain ⟨es,rfl,hp⟩:=hT
 have h1:(xs.map zaz).length≤(es.map (·.1)).length:=by
  refine zb4 _ _ ?_ (fun l hl=>?_)
  ·rw [List.pairwise_map]
   exact hap.imp_of_mem (fun {a b} ha hb hne e=>hne (zdp (hwf a ha) (hwf b hb) e))
  ·obtain ⟨x,hx,rfl⟩:=List.mem_map.1 hl
   have h:=hm x hx
   rw [has_eq] at h
   obtain ⟨p,hp1,hp2⟩:=List.any_eq_true.1 h
   exact List.mem_map.2 ⟨p,hp1,WideAt.sameKey_eq hp2⟩
 simpa [size_eq] using h1
set_option maxHeartbeats 2000000 in
theorem zfs (Bm b nn:Nat) (D:DataW Unit) (g:Row→Int) (hrep:Rep D g) (w:World) (hm:w.cell? ⟨Bm,0,none⟩=some (.map (some b))) (hown:w.ownsMap Tryz.prog 77 (plainElem Tryz.prog 2) b nn D) (hnn:nn≤1000000000) :
  Calls Tryz.prog 112 #[.func (.func 162) #[] #[.pointer (some ⟨Bm,0,none⟩)],meOf] w fun e w'=>∃ v ys,e=.returned v∧zcz D ys∧zgn w' v ys∧RowKit.Below w.heap.size w w'∧ys.length≤nn∧∀ gb ln cap,v=.slice (some ⟨gb,0,none⟩) ln cap→w.heap.size≤gb:=by
 have H:=hide (zgi Bm b nn D g hrep w hm hown hnn)
 have hszD:=hown.size_le
 have hT:=hown.tidy ze5
 have HT:=hide hT
 have HK:=hide (zj8 hown)
 have Hrep:=hide hrep
 clear hrep hm hown hT
 go_enter Tryz.func112,Tryz.ntmps112
 go_wp2_with fail
 refine (zaa H).mono ?_
 rintro e w1 ⟨v,xs,rfl,hK,ho,hb⟩
 have hmem:∀ r,zav r→(r∈xs↔Maps.has D (zaz r)=true):=fun r hr=>by rw [hK.mem r hr];simp
 have hxl:xs.length≤nn:=Nat.le_trans (zb6 (zaa HT) hK.wf hK.apart (fun x hx=>(hmem x (hK.wf x hx)).1 hx)) hszD
 rcases ho.2 with ⟨rfl,h0⟩|⟨gb,cap,cur,rfl,hbg,hgh,_⟩
 ·have hx0:xs=[]:=List.eq_nil_of_length_eq_zero h0
  subst hx0
  have HR:Hid (zcz D []):=⟨List.Pairwise.nil,fun y hy=>by simp at hy,hmem⟩
  have Hb:=hide hb
  clear H hK hmem ho hb
  go_wp2_with (first|(go_at_call 161;refine (zjh _ _ _ _).mono ?_;rintro e w' ⟨rfl,rfl⟩))
  go_ret
  exact ⟨_,[],rfl,zaa HR,⟨none,0,rfl,fun i hi=>by simp at hi⟩,zaa Hb,by simp,fun gb ln cap e=>by simp at e⟩
 ·have hH:=zfm ho
  have hgl:gb<w1.heap.size:=(Array.getElem?_eq_some_iff.1 hgh).1
  have Hs:=hide (zi2 gb cap xs.toArray w1 hH hgl (by simp;omega))
  have HH:=hide hH
  have Hb:=hide hb
  have Hmem:=hide hmem
  have HKo:=hide hK
  clear H hK hmem ho hb hgh hH
  go_wp2_with fail
  refine (zaa Hs).mono ?_
  rintro e w2 ⟨rfl,d',n,os,hp,hsrt,rfl⟩
  have hsz:d'.size=xs.length:=by have:=hp.1;simpa using this
  have hperm:d'.toList.Perm xs:=by
   have h:=hp.2.2
   have e1:(d'.extract 0 xs.toArray.size)=d':=by rw [Array.extract_eq_self_of_le (by simp;omega)]
   have e2:(xs.toArray.extract 0 xs.toArray.size)=xs.toArray:=Array.extract_eq_self_of_le (by simp)
   rw [e1,e2] at h
   simpa using h
  have hHd:HoldsK encR 3 (sortWorldK encR 3 w1 gb 0 n d' os) gb 0 d':=holdsK_sortWorldK_c encR 3 w1 gb 0 xs.toArray d' n os (zaa HH) hgl (by simpa using hsz)
  have hR:zcz D d'.toList:=by
   refine ⟨zdc ?_ ?_,fun y hy=>(zaa HKo).wf y (hperm.mem_iff.1 hy),fun r hr=>by rw [hperm.mem_iff];exact (zaa Hmem) r hr⟩
   ·rw [hsz];simpa using hsrt
   ·exact (hperm.pairwise_iff (fun {a b} (h:a≠b)=>h.symm)).2 (zaa HKo).apart
  have hTr:=zej (cap:=cap) hHd
  have hBe:RowKit.Below w.heap.size w (sortWorldK encR 3 w1 gb 0 n d' os):=(zaa Hb).grown (zhn w1 gb n d' os) (zaa Hb).size (fun k e=>by cases e;exact hbg)
  rw [hsz] at hTr
  have HF:=hide (And.intro hR (And.intro hTr hBe))
  clear hR hTr hBe hHd hperm hp hsrt Hs
  generalize sortWorldK encR 3 w1 gb 0 n d' os=w3 at *
  go_wp2
  go_ret
  exact ⟨_,_,rfl,(zaa HF).1,(zaa HF).2.1,(zaa HF).2.2,by simp [hsz];omega,fun g' ln cap' e=>by simp at e;omega⟩
structure zan (X:Nat→Prop) (W W':World):Prop where
  size:W.heap.size≤W'.heap.size
  same:∀ k o,W.heap[k]? = some o→(o.isCells=true∨o.isWalk=true)→¬ X k→W'.heap[k]? = some o
theorem zan.refl (X:Nat→Prop) (W:World):zan X W W:=⟨Nat.le_refl _,fun _ _ h _ _=>h⟩
theorem zan.trans {X:Nat→Prop} {A B C:World} (h:zan X A B) (k:zan X B C):zan X A C:=
  ⟨Nat.le_trans h.size k.size,fun i o hi ho hx=>k.same i o (h.same i o hi ho hx) ho hx⟩
theorem zan.of_grown {X:Nat→Prop} {A B:World} {row:Option Nat} (h:A.grownBy B row) (hr:∀ j,row=some j→X j):zan X A B:=
  ⟨h.size,fun k o hk _ hx=>(h.block k (Array.getElem?_eq_some_iff.1 hk).1 (fun e=>hx (hr k e.symm))).trans hk⟩
theorem zan.put {X:Nat→Prop} (W:World) (l:Nat) (o o':Obj) (h:W.heap[l]? = some o) (h1:o.isCells=false) (h2:o.isWalk=false):zan X W (W.putObj l o'):=by
  refine ⟨by simp,fun k p hk hp _=>?_⟩
  have hne:k≠l:=fun e=>by
    subst e
    rw [h] at hk
    cases hk
    rcases hp with hp|hp
    · rw [h1] at hp;cases hp
    · rw [h2] at hp;cases hp
  rw [World.putObj_heap_other hne];exact hk
theorem zan.cellOf {X:Nat→Prop} {W W':World} (h:zan X W W') {b o:Nat} {v:Value} (hc:W.cell? ⟨b,o,none⟩=some v) (hx:¬ X b):W'.cell? ⟨b,o,none⟩=some v:=by
  have hlt:=World.block_lt_of_cell? W _ hc
  cases hb:W.heap[b]? with
  | none=>rw [Array.getElem?_eq_none_iff] at hb;simp at hlt;omega
  | some ob =>
    cases ob with
    | cells cs t fr =>
      have h2:=h.same b _ hb (Or.inl rfl) hx
      rw [zab hb] at hc
      rw [zab h2];exact hc
    | _=>simp [World.cell?,hb] at hc
theorem zan.wmap {X:Nat→Prop} {W W':World} (h:zan X W W') {b n:Nat} {f:Row→Int} (hm:WMap W b n f) (hx:¬ X b):WMap W' b n f:=by
  obtain ⟨D,⟨es,cl,hb,h2⟩,hr⟩:=hm
  exact ⟨D,⟨es,cl,h.same b _ hb (Or.inr rfl) hx,h2⟩,hr⟩
def za3 (g:Row→Int) (ys:List Row):List (Row×Int):=ys.map fun y=>(y,g y)
theorem ze9 (W:World):W.grownBy W.drew none:=⟨rfl,rfl,rfl,Nat.le_refl _,fun _ _ _=>rfl⟩
set_option maxRecDepth 100000 in
set_option maxHeartbeats 4000000 in
theorem zt8 (n:Nat) (hn:1≤n) (l Bn mb nn:Nat) (g:Row→Int) (X:Nat→Prop) (J Jx:List (Row×Int)→World→Prop) (N:Nat)
    (hY:∀ pre x W,J pre W→pre.length<N→YieldAt Fence.wide (n - 1) Tryz.prog l #[.agg #[.int .i64 x.1.1,.int .i64 x.1.2.1,.int .i64 x.1.2.2],.int .i64 x.2] W fun e W' =>
      (e=.returned (.bool true)∧J (pre ++ [x]) W'∧zan X W W')∨(e=.returned (.bool false)∧Jx (pre ++ [x]) W'))
    (W:World) (hJ:AbidesFrom W.heap.size J) (hX:∀ k,X k→k<W.heap.size) (hBn:W.cell? ⟨Bn,0,none⟩=some (.map (some mb))) (hBX:¬ X Bn)
    (hmX:¬ X mb) (D:DataW Unit) (hown:W.ownsMap Tryz.prog 77 (plainElem Tryz.prog 2) mb nn D) (hrep:Rep D g) (hnn:nn≤1000000000) (hN:∀ ys,zcz D ys→ys.length≤N) (h0:J [] W) :
    CallsIn Fence.wide n Tryz.prog 111 #[.func (.yield l) #[] #[],.pointer (some ⟨Bn,0,none⟩)] W fun e W'=>(∃ v,e=.returned v) ∧
      ((∃ xs,(∃ ys,zcz D ys∧xs=za3 g ys)∧J xs W')∨(∃ pre,True∧Jx pre W')):=by
  have hBl:=World.block_lt_of_cell? W _ hBn
  have hml:=hown.lt
  dsimp only at hBl
  have hkeys:(w:World)→(hw:w=W.alloc (.cells #[.map (some mb)] 127))→Calls Tryz.prog 112 #[.func (.func 162) #[] #[.pointer (some ⟨W.heap.size,0,none⟩)],meOf] w fun e w'=>∃ v ys,e=.returned v∧zcz D ys∧zgn w' v ys∧RowKit.Below w.heap.size w w'∧ys.length≤nn∧∀ gb ln cap,v=.slice (some ⟨gb,0,none⟩) ln cap→w.heap.size≤gb:=
    fun w hw=>zfs W.heap.size mb nn D g hrep w (by rw [hw];exact zab (zad _ _ _ rfl) 0) (by rw [hw];exact hown.alloc _) hnn
  have Hkeys:=hide (hkeys _ rfl)
  clear hkeys
  refine callsIn_of_wp Tryz.func111 rfl trivial ?_ rfl
  simp only [Tryz.ntmps111,List.size_toArray,List.length_cons,List.length_nil,Nat.reduceAdd,Nat.reduceSub,Array.replicate_succ,Array.replicate_zero,List.push_toArray,List.append_toArray,List.nil_append,List.cons_append]
  gi_wp2_with (first
    | (refine ⟨trivial,?_⟩;gi_at_call 113;refine (callsIn_wide.2 (zfn _ _)).mono ?_;rintro e w' ⟨rfl,rfl⟩)
    | (refine ⟨trivial,?_⟩;gi_at_call 112;refine (callsIn_wide.2 (zaa Hkeys)).mono ?_;rintro e w1 ⟨v,ys,rfl,hR,hT,hb,hyl,hgb⟩;obtain ⟨a,cap,rfl,hcs⟩:=hT))
  have hg1:W.grownBy w1 none:=(World.grownBy_alloc W (.cells #[.map (some mb)] 127) none).trans (zcl hb none)
  have hJ1:J [] w1:=hJ [] W w1 none h0 hg1 (fun r e=>by cases e)
  have hk1:zan X W w1:=zan.of_grown hg1 (fun j e=>by cases e)
  have hB1:=hk1.cellOf hBn hBX
  have hm1:WMap w1 mb nn g:=hk1.wmap ⟨D,hown,hrep⟩ hmX
  have hys:=hN ys hR
  have hwf:=hR.wf
  have hfr:∀ gb ln cap',Value.slice a ys.length cap=.slice (some ⟨gb,0,none⟩) ln cap'→¬ X gb:=fun gb ln cap' e hx=>by
    have h1:=hgb gb ln cap' e
    have h2:=hX gb hx
    simp at h1
    omega
  have Hcs:=hide hcs
  have HR:=hide hR
  have HJ1:=hide hJ1
  clear hcs hR hJ1 Hkeys hN hgb hown hrep h0
  try go_frame
  gi_loopw [10] (fun i wr=>∃ k:Nat,k≤ys.length∧i=.int .i64 k∧J (za3 g (ys.take k)) wr∧zan X w1 wr∧W.heap.size≤wr.heap.size) (fun i _=>ys.length - (intOf i).toNat)
  case atStart=>exact ⟨0,Nat.zero_le _,rfl,zaa HJ1,zan.refl _ _,hg1.size⟩
  case round =>
    obtain ⟨k,hk,rfl,hJk,hkk,hsk⟩:=hrel
    by_cases hlt:k<ys.length
    · obtain ⟨gb,rfl,d0,d1,d2⟩:=(zaa Hcs) k hlt
      have hx:(k:Int)<(ys.length:Int):=by omega
      have hgX:¬ X gb:=hfr gb _ _ rfl
      replace d0:=hkk.cellOf d0 hgX
      replace d1:=hkk.cellOf d1 hgX
      replace d2:=hkk.cellOf d2 hgX
      obtain ⟨y,hy⟩:∃ y,y=ys[k]?.getD (0,0,0):=⟨_,rfl⟩
      have hye:y=ys[k]:=by rw [hy];simp [hlt]
      have hwy:zav y:=by rw [hye];exact hwf _ (List.getElem_mem hlt)
      have htk:ys.take (k+1)=ys.take k ++ [y]:=by rw [List.take_succ_eq_append_getElem hlt,hye]
      rw [← hy] at d0 d1 d2
      obtain ⟨y1,y2,y3⟩:=y
      dsimp only at d0 d1 d2
      have hBr:=hkk.cellOf hB1 hBX
      have hmr:=hkk.wmap hm1 hmX
      have Htk:=hide htk
      have HJk:=hide hJk
      have Hkk:=hide hkk
      have Hmr:=hide hmr
      clear hy hye htk hJk hkk hmr
      gi_wp2_with fail
      have hJa:J (za3 g (ys.take k)) (wr.alloc (.cells #[.int .i64 y1,.int .i64 y2,.int .i64 y3] 77)).drew:=
        hJ _ wr _ none (zaa HJk) ((World.grownBy_alloc _ _ none).trans (ze9 _)) (fun r e=>by cases e)
      have hka:zan X wr (wr.alloc (.cells #[.int .i64 y1,.int .i64 y2,.int .i64 y3] 77)).drew:=zan.of_grown ((World.grownBy_alloc _ _ none).trans (ze9 _)) (fun j e=>by cases e)
      have hsa:wr.heap.size<(wr.alloc (.cells #[.int .i64 y1,.int .i64 y2,.int .i64 y3] 77)).drew.heap.size:=by
        show wr.heap.size<(wr.alloc _).heap.size
        simp
      obtain ⟨fn,tmps,assign,body,hy,hR⟩:=hY _ ((y1,y2,y3),g (y1,y2,y3)) _ hJa (by simp [za3];omega)
      have hR':=hR.mono (R':=fun e W'=>∃ r:Bool,e=.returned (.bool r)∧((r=true∧J (za3 g (ys.take k) ++ [((y1,y2,y3),g (y1,y2,y3))]) W'∧zan X (wr.alloc (.cells #[.int .i64 y1,.int .i64 y2,.int .i64 y3] 77)).drew W')∨(r=false∧Jx (za3 g (ys.take k) ++ [((y1,y2,y3),g (y1,y2,y3))]) W'))) (by
        rintro e W3 (⟨rfl,h1,h2⟩|⟨rfl,h1⟩)
        · exact ⟨true,rfl,.inl ⟨rfl,h1,h2⟩⟩
        · exact ⟨false,rfl,.inr ⟨rfl,h1⟩⟩)
      have hlk:(Instr.lookup 127 (.map (some mb)) (.agg #[.int .i64 y1,.int .i64 y2,.int .i64 y3]) false).run Tryz.prog (wr.alloc (.cells #[.int .i64 y1,.int .i64 y2,.int .i64 y3] 77)).drew=.ok (.int .i64 (g (y1,y2,y3))) (wr.alloc (.cells #[.int .i64 y1,.int .i64 y2,.int .i64 y3] 77)).drew:=(hka.wmap (zaa Hmr) hmX).look hwy
      have f0:(wr.alloc (.cells #[.int .i64 y1,.int .i64 y2,.int .i64 y3] 77)).drew.cell? ⟨wr.heap.size,0,none⟩=some (.int .i64 y1):=zab (zad _ _ _ rfl) 0
      have f1:(wr.alloc (.cells #[.int .i64 y1,.int .i64 y2,.int .i64 y3] 77)).drew.cell? ⟨wr.heap.size,1,none⟩=some (.int .i64 y2):=zab (zad _ _ _ rfl) 1
      have f2:(wr.alloc (.cells #[.int .i64 y1,.int .i64 y2,.int .i64 y3] 77)).drew.cell? ⟨wr.heap.size,2,none⟩=some (.int .i64 y3):=zab (zad _ _ _ rfl) 2
      have fB:=hka.cellOf hBr hBX
      dsimp only at hy
      have HR':=hide hR'
      have Hka:=hide hka
      have HJa:=hide hJa
      clear hR hR' hka hJa hBr d0 d1 d2 hB1 hm1 hBn hJ hY
      gi_region_with (refine (zaa HR').mono ?_;rintro e W3 ⟨r,rfl,hor⟩)
      all_goals (rcases hor with ⟨rfl,hJ3,hk3⟩|⟨rfl,hx3⟩)
      all_goals first
        | (gi_wp2
           go_roundw
           case rel=>exact ⟨k+1,by omega,by simp,by rw [zaa Htk];simpa [za3] using hJ3,((zaa Hkk).trans (zaa Hka)).trans hk3,by have:=hk3.size;omega⟩
           case measure=>simp [intOf];omega)
        | (gi_wp2
           refine bodyPost_ret (results_none rfl _ _ _) rfl ?_
           exact ⟨⟨_,rfl⟩,.inr ⟨_,trivial,hx3⟩⟩)
    · have hke:k=ys.length:=by omega
      subst hke
      rw [List.take_length] at hJk
      gi_wp2
      go_end0
      exact ⟨⟨_,rfl⟩,.inl ⟨_,⟨ys,zaa HR,rfl⟩,hJk⟩⟩
end Go.Proofs.YtoifcnidhfnapaaGreatDoor
