import Derived.Test.YtoifcnidhfnapaaGreatDoorB07
import Derived.Test.YtoifcnidhfnapaaGreatDoorProg
import Derived.KernelRfl
import Derived.WalkKit
import Derived.Test.YtoifcnidhfnapaaGreatDoorB06
import Derived.Test.YtoifcnidhfnapaaGreatDoorB01
import Derived.Test.YtoifcnidhfnapaaGreatDoorB02
import Derived.Shelf.SlSorted.Search
import Derived.Deep.RegionWith
set_option linter.unusedVariables false
set_option linter.unusedSimpArgs false
set_option maxRecDepth 100000
set_option maxHeartbeats 16000000
namespace Go.Proofs.YtoifcnidhfnapaaGreatDoor.Sim
open Go
variable {P:Program} {tn:Tn} {V1 V2:Value}
theorem yhl {g:FuncId} (hP:Fine P tn V1 V2 g) {fr fr':Frame} {frs frs' cs:List Frame} {w:World} {m1:Machine} {T:List Nat} (hF:FR P tn V1 V2 fr fr' T) (hS:SR P tn V1 V2 frs frs') (hm:fr.mode=.run)
  (hs:step P (lone fr (frs ++ [zhq]) w)=.next m1):zev P tn V1 V2 cs (lone fr' (frs' ++ cs) w) m1:=by
 have hm':=hF.mode.trans hm
 have hr:=hF.rnd
 have hr':=hF.rnd'
 have key:∀ k',(∀ x∈k',zet tn T x=true) →
   (stepG P true { frame:=fr,callers:=frs ++ [zhq],status:=.running,dying:=none } w).bare=.go { frame:={ fr with todo:=k' },callers:=frs ++ [zhq],status:=.running,dying:=none } w →
   (stepG P true { frame:=fr',callers:=frs' ++ cs,status:=.running,dying:=none } w).bare=.go { frame:={ fr' with todo:=k' },callers:=frs' ++ cs,status:=.running,dying:=none } w →
   zev P tn V1 V2 cs (lone fr' (frs' ++ cs) w) m1:=fun k' hk h1 h2=>zda hs h1 h2 (zzn hF k' hk) hS
 have keyR:(stepG P true { frame:=fr,callers:=frs ++ [zhq],status:=.running,dying:=none } w).bare=.go { frame:={ fr with mode:=.returning },callers:=frs ++ [zhq],status:=.running,dying:=none } w →
   (stepG P true { frame:=fr',callers:=frs' ++ cs,status:=.running,dying:=none } w).bare=.go { frame:={ fr' with mode:=.returning },callers:=frs' ++ cs,status:=.running,dying:=none } w →
   zev P tn V1 V2 cs (lone fr' (frs' ++ cs) w) m1:=fun h1 h2=>zda hs h1 h2 (yja hF) hS
 cases ht:fr.todo with
 | nil =>
  have ht':=hF.todo.trans ht
  exact keyR (by simp [stepG,stepG.exec,hm,ht,hr]) (by simp [stepG,stepG.exec,hm',ht',hr'])
 | cons x k =>
  have ht':=hF.todo.trans ht
  have hx:zet tn T x=true:=hF.ok x (by rw [ht];exact List.mem_cons_self ..)
  have hk:∀ y∈k,zet tn T y=true:=fun y hy=>hF.ok y (by rw [ht];exact List.mem_cons_of_mem _ hy)
  cases x with
  | inBlock id=>exact key k hk (by simp [stepG,stepG.exec,hm,ht]) (by simp [stepG,stepG.exec,hm',ht'])
  | inLoop b =>
   refine key (.code b :: .inLoop b :: k) (fun y hy=>?_) (by simp [stepG,stepG.exec,hm,ht]) (by simp [stepG,stepG.exec,hm',ht'])
   rcases List.mem_cons.1 hy with rfl|hy
   ·simpa [zet] using hx
   ·rcases List.mem_cons.1 hy with rfl|hy
    ·exact hx
    ·exact hk y hy
  | inRegion ops l =>
   cases l with
   | nil=>exact key k hk (by simp [stepG,stepG.exec,hm,ht]) (by simp [stepG,stepG.exec,hm',ht'])
   | cons i rest=>exact yjj hP hF hS hm ht hs
  | code c =>
   cases c with
   | skip=>exact key k hk (by simp [stepG,stepG.exec,hm,ht]) (by simp [stepG,stepG.exec,hm',ht'])
   | label l=>exact key k hk (by simp [stepG,stepG.exec,hm,ht]) (by simp [stepG,stepG.exec,hm',ht'])
   | ret=>exact keyR (by simp [stepG,stepG.exec,hm,ht,hr]) (by simp [stepG,stepG.exec,hm',ht',hr'])
   | seq a b =>
    simp only [zet,zfp,Bool.and_eq_true] at hx
    refine key (.code a :: .code b :: k) (fun y hy=>?_) (by simp [stepG,stepG.exec,hm,ht]) (by simp [stepG,stepG.exec,hm',ht'])
    rcases List.mem_cons.1 hy with rfl|hy
    ·exact hx.1
    ·rcases List.mem_cons.1 hy with rfl|hy
     ·exact hx.2
     ·exact hk y hy
   | block id b =>
    refine key (.code b :: .inBlock id :: k) (fun y hy=>?_) (by simp [stepG,stepG.exec,hm,ht]) (by simp [stepG,stepG.exec,hm',ht'])
    rcases List.mem_cons.1 hy with rfl|hy
    ·simpa [zet,zfp] using hx
    ·rcases List.mem_cons.1 hy with rfl|hy
     ·rfl
     ·exact hk y hy
   | loop b =>
    refine key (.code b :: .inLoop b :: k) (fun y hy=>?_) (by simp [stepG,stepG.exec,hm,ht]) (by simp [stepG,stepG.exec,hm',ht'])
    rcases List.mem_cons.1 hy with rfl|hy
    ·simpa [zet,zfp] using hx
    ·rcases List.mem_cons.1 hy with rfl|hy
     ·simpa [zet,zfp] using hx
     ·exact hk y hy
   | cond c a b =>
    simp only [zet,zfp,Bool.and_eq_true] at hx
    have he:=zf2 hF hx.1.1
    cases hb:fr.eval c with
    | bool v =>
     rw [hb] at he
     refine key (.code (if v then a else b) :: k) (fun y hy=>?_) (by simp [stepG,stepG.exec,hm,ht,hb]) (by simp [stepG,stepG.exec,hm',ht',he])
     rcases List.mem_cons.1 hy with rfl|hy
     ·cases v
      ·exact hx.2
      ·exact hx.1.2
     ·exact hk y hy
    | _=>exact (zfz hs _ _ (by simp [stepG,stepG.exec,hm,ht,hb];try exact ⟨rfl,rfl⟩)).elim
   | exit id =>
    cases hx2:exitTo id k with
    | none=>exact (zfz hs _ _ (by simp [stepG,stepG.exec,hm,ht,hx2,hr];try exact ⟨rfl,rfl⟩)).elim
    | some k'=>exact key k' (fun y hy=>hk y (zz7 hx2 y hy)) (by simp [stepG,stepG.exec,hm,ht,hx2]) (by simp [stepG,stepG.exec,hm',ht',hx2])
   | region id ops draw =>
    have hops:∀ l,zet tn T (.inRegion ops l)=true:=fun l=>by simpa [zet,zfp] using hx
    cases draw with
    | false =>
     refine key (.inRegion ops (List.range ops.size) :: k) (fun y hy=>?_) (by simp [stepG,stepG.exec,hm,ht]) (by simp [stepG,stepG.exec,hm',ht'])
     rcases List.mem_cons.1 hy with rfl|hy
     ·exact hops _
     ·exact hk y hy
    | true =>
     refine zda (fr1:={ fr with todo:=.inRegion ops (Region.schedule (P.follows .mixedOrders) ops (w.tape w.drawn (.order fr.fn id))) :: k }) (fr1':={ fr' with todo:=.inRegion ops (Region.schedule (P.follows .mixedOrders) ops (w.tape w.drawn (.order fr.fn id))) :: k }) (frs1:=frs) (frs1':=frs')
      (w1:={ w with drawn:=w.drawn+1 }) (T1:=T) hs ?_ ?_ (zzn hF _ (fun y hy=>?_)) hS
     ·simp [stepG,stepG.exec,hm,ht,choose,Sem.run,Question.forced,Question.cut]
     ·simp [stepG,stepG.exec,hm',ht',choose,Sem.run,Question.forced,Question.cut,hF.fn]
     ·rcases List.mem_cons.1 hy with rfl|hy
      ·exact hops _
      ·exact hk y hy
   | _=>simp [zet,zfp] at hx
  | _=>simp [zet] at hx
theorem yhi {g:FuncId} (hP:Fine P tn V1 V2 g) {fr fr':Frame} {frs frs' cs:List Frame} {w:World} {m1:Machine} {T:List Nat} (hF:FR P tn V1 V2 fr fr' T) (hS:SR P tn V1 V2 frs frs')
  (hs:step P (lone fr (frs ++ [zhq]) w)=.next m1):zev P tn V1 V2 cs (lone fr' (frs' ++ cs) w) m1:=by
 cases hm:fr.mode with
 | run=>exact yhl hP hF hS hm hs
 | returning=>exact yhk hP hF hS hm hs
 | panicking chain=>exact yhj hP hF hS hm hs
theorem yej {g:FuncId} (hP:Fine P tn V1 V2 g) (cs:List Frame) (n:Nat):∀ {fr fr':Frame} {frs frs':List Frame} {w w2:World} {T:List Nat} {fe:Frame},FR P tn V1 V2 fr fr' T→SR P tn V1 V2 frs frs' →
  runN P n (lone fr (frs ++ [zhq]) w)=.next (lone fe [zhq] w2)→∃ fe' T',Steps P (lone fr' (frs' ++ cs) w) (lone fe' cs w2)∧FR P tn V1 V2 fe fe' T':=by
 induction n with
 | zero =>
  intro fr fr' frs frs' w w2 T fe hF hS h
  simp [runN,lone] at h
  obtain ⟨rfl,rfl,h⟩:=h
  rcases SR.inv hS with ⟨rfl,rfl⟩|⟨c,c',T',l,l',rfl,rfl,hc,hw,hl⟩
  ·exact ⟨fr',T,Steps.refl _ _,hF⟩
  ·simp at h
 | succ n ih =>
  intro fr fr' frs frs' w w2 T fe hF hS h
  simp only [runN] at h
  cases hx:step P (lone fr (frs ++ [zhq]) w) with
  | ended o w1=>rw [hx] at h;simp at h
  | next m1 =>
   rw [hx] at h
   dsimp only at h
   rcases yhi (cs:=cs) hP hF hS hx with ⟨fr1,frs1,fr1',frs1',w1,T1,rfl,hst,hF1,hS1⟩|hg|hd
   ·obtain ⟨fe',T',hsteps,hFe⟩:=ih hF1 hS1 h
    exact ⟨fe',T',.head hst hsteps,hFe⟩
   ·exfalso
    cases n with
    | zero =>
     simp [runN] at h
     obtain ⟨fr3,w3,chain,he,_⟩:=hg
     rw [h] at he
     simp [lone] at he
    | succ n =>
     simp only [runN] at h
     cases hy:step P m1 with
     | next m2=>exact ydb hg hy
     | ended o w1=>rw [hy] at h;simp at h
   ·exact absurd rfl (zrx (ycx hd h) fe [zhq] w2)
theorem calls_turn {g:FuncId} (hP:Fine P tn V1 V2 g) {f:FuncId} {T:List Nat} (hf:tn.lookup f=some T) {args args':Array Value} (ha:TRel V1 V2 T args args') {w:World} {R:Ending→World→Prop}
  (hR:∀ e w',R e w'→∃ v,e=.returned v) (h:Calls P f args w R):Calls P f args' w R:=by
 intro cs
 obtain ⟨e,w',fr,hr,hc,hfn,hl⟩:=h [zhq]
 obtain ⟨v,rfl⟩:=hR e w' hr
 obtain ⟨n,hn⟩:Steps P (lone (Frame.enter P f args .normal) [zhq] w) (lone fr [zhq] w'):=hc
 obtain ⟨fe',T',hst,hF⟩:=yej hP cs n (frs:=[]) (frs':=[]) (zua hP hf ha) .nil hn
 refine ⟨.returned v,w',fe',hr,hst,hF.fn.trans hfn,?_⟩
 obtain ⟨hm,hd,hk,fn,hfu,hres⟩:=hl
 refine ⟨hF.mode.trans hm,hF.d',hF.kind',fn,by rw [hF.fn];exact hfu,?_⟩
 have hfo:=hP.fns _ _ hF.look
 unfold fnOK at hfo
 dsimp only at hfo
 rw [hfu] at hfo
 dsimp only at hfo
 simp only [Bool.and_eq_true] at hfo
 rw [← hres]
 congr 1
 unfold results
 congr 1
 refine zus _ _ _ (fun x hx=>?_)
 have hx:=Array.all_eq_true_iff_forall_mem.1 hfo.1.2 x hx
 cases x with
 | tmp t=>simp [yeg] at hx;dsimp only;rw [hF.tm.clean hx]
 | cell t ty=>simp [yeg] at hx;dsimp only;rw [hF.tm.clean hx]
end Go.Proofs.YtoifcnidhfnapaaGreatDoor.Sim
namespace Go.Proofs.YtoifcnidhfnapaaGreatDoor
open Go
def tnR:Sim.Tn:=[(161,[1,12]),(206,[4,29,36,43,51,60,79,84,102,110,133,145]),(207,[]),(170,[]),(230,[3,22]),(231,[3,28,58]),(232,[3]),(233,[3,39,43,47,53]),(234,[3]),(235,[3,23,72,112]),(236,[4,35,54]),(237,[4,36,54,109,127]),(238,[]),(239,[]),(215,[]),(261,[4,24,43]),(262,[]),(263,[]),(264,[3,16]),(265,[5,18,27,36]),(249,[]),(282,[4,12]),(277,[])]
def yc8:Value:=.func (.func 170) #[] #[]
def zse:Value:=.func (.methodOf 77 "Compare") #[] #[]
theorem zx9:(tnR.all fun x=>Sim.fnOK Tryz.prog tnR x)=true:=by kernel_rfl
theorem zqv {l:Sim.Tn} {f:Nat} {T:List Nat} (h:l.lookup f=some T):(f,T)∈l:=by
 induction l with
 | nil=>simp at h
 | cons x l ih =>
  obtain ⟨a,b⟩:=x
  simp only [List.lookup] at h
  split at h
  ·rename_i e
   have:f=a:=by simpa using e
   subst this
   cases h
   exact List.mem_cons_self ..
  ·exact List.mem_cons_of_mem _ (ih h)
theorem yi6:(Tryz.prog.funcs.all fun f=>((f.body.map readies).getD []).isEmpty)=true:=by kernel_rfl
theorem zpa (i:Nat):Tryz.prog.stepOf i=none:=by
 unfold Program.stepOf
 rw [Array.findIdx?_eq_none_iff]
 intro f hf
 have h:=Array.all_eq_true_iff_forall_mem.1 yi6 f hf
 cases hb:f.body with
 | none=>simp
 | some c=>simp [hb] at h;simp [h]
theorem yi0 (n:Nat) (x:Value) (w:World):(method (n+1) 77 x "Compare").run Tryz.prog w=.ok (170,x) w:=by kernel_rfl
theorem yiq:Sim.Fine Tryz.prog tnR yc8 zse 170 where
 fns f T h:=(List.all_eq_true.1 zx9) (f,T) (zqv h)
 steps:=zpa
 follows:=by kernel_rfl
 cmp:=by rfl
 n1 b:=by simp [yc8]
 n2 b:=by simp [zse]
 one x y w:=by
  simp only [yc8,Deferred.ofValue,pure_bind,invoke,Array.append_empty,Array.empty_append]
  exact enters_of Tryz.func170 (by kernel_rfl) rfl #[x,y] w
 two x y w:=by
  simp [zse,Deferred.ofValue,invoke,callMethod]
  rw [show 446+Made.depth=(446+Made.depth - 1)+1 from rfl,yi0]
  exact enters_of Tryz.func170 (by kernel_rfl) rfl #[x,y] w
end Go.Proofs.YtoifcnidhfnapaaGreatDoor
namespace Go.Proofs.YtoifcnidhfnapaaGreatDoor
open Go.RowKit Go.Maps Go.Sort Go.Shelf
theorem ylq (p:Option Addr) (cap:Nat) (fv:Value) (w:World):Calls Tryz.prog 230 #[.slice p 0 cap,.int .i64 0,.int .i64 0,fv] w fun e w'=>e=.returned (.tuple #[])∧w'=w:=by
 go_enter Tryz.func230,Tryz.ntmps230
 go_wp2
 refine wp_loop_rounds 1 ?_
 rw [rounds_succ]
 go_wp2
 go_end0
 exact ⟨rfl,rfl⟩
theorem ylv (p:Option Addr) (cap:Nat) (lim:Int) (fv:Value) (w:World):Calls Tryz.prog 206 #[.slice p 0 cap,.int .i64 0,.int .i64 0,.int .i64 lim,fv] w fun e w'=>e=.returned (.tuple #[])∧w'=w:=by
 go_enter Tryz.func206,Tryz.ntmps206
 go_wp2
 refine wp_loop_rounds 1 ?_
 rw [rounds_succ]
 go_wp2_with (go_at_call 230;refine (ylq _ _ _ _).mono ?_;rintro e w' ⟨rfl,rfl⟩)
 (try simp only [Exit.inBlock,Exit.then])
 refine bodyPost_ret (results_none rfl _ _ _) rfl ?_
 exact ⟨rfl,rfl⟩
theorem zru (w:World):Calls Tryz.prog 207 #[.int .u64 0] w fun e w'=>e=.returned (.int .i64 (Lib.bitLen 0:Nat))∧w'=w:=
 Any.bits_Len (SlLaysF0.n15.bits (P:=Tryz.prog) (ρ:=Tryz.sortRow_ren) { Tryz.sortRow with }) 0 w (by omega) (by omega)
theorem zld (p:Option Addr) (cap:Nat) (fv:Value) (w:World):Calls Tryz.prog 161 #[.slice p 0 cap,fv] w fun e w'=>e=.returned (.tuple #[])∧w'=w:=by
 go_enter Tryz.func161,Tryz.ntmps161
 go_wp2_with (first|(go_at_call 207;refine (zru _).mono ?_;rintro e w' ⟨rfl,rfl⟩)|(go_at_call 206;refine (ylv _ _ _ _ _).mono ?_;rintro e w' ⟨rfl,rfl⟩))
 go_end0
 exact ⟨rfl,rfl⟩
theorem zml (blk cap:Nat) (d:Array Row) (w:World) (hH:HoldsK ze0 3 w blk 0 d) (hblk:blk<w.heap.size) (hsz:d.size<4611686018427387904) :
  Calls Tryz.prog 161 #[.slice (some ⟨blk,0,none⟩) d.size cap,.func (.func 170) #[] #[]] w fun e w'=>e=.returned (.tuple #[])∧∃ d' n os,PermIn 0 d.size d d'∧SortedIn (ltOf zi4) 0 d.size d'∧w'=sortWorldK ze0 3 w blk 0 n d' os:=by
 have eg:∀ args w,(callFunc 170 args).run Tryz.prog w=.ok (.enter 170 args) w:=enters_of Tryz.func170 (by kernel_rfl) rfl
 exact AnyQ.slices_SortFunc Tryz.sortRow 3 Tryz.isAgg77 Tryz.sizeOf77 ze0 (fun _=>rfl) (fun x v hv=>by simp [ze0] at hv;rcases hv with rfl|rfl|rfl <;> rfl) zi4 yj2 170 #[] blk 0 cap d w eg (ycs blk 0 d.size w) hH hblk hsz
theorem ydp:tnR.lookup 161=some [1,12]:=by rfl
theorem zle (blk cap:Nat) (d:Array Row) (w:World) (hH:HoldsK ze0 3 w blk 0 d) (hblk:blk<w.heap.size) (hsz:d.size<4611686018427387904) :
  Calls Tryz.prog 161 #[.slice (some ⟨blk,0,none⟩) d.size cap,zse] w fun e w'=>e=.returned (.tuple #[])∧∃ d' n os,PermIn 0 d.size d d'∧SortedIn (ltOf zi4) 0 d.size d'∧w'=sortWorldK ze0 3 w blk 0 n d' os:=by
 have hT:Sim.TRel yc8 zse [1,12] #[.slice (some ⟨blk,0,none⟩) d.size cap,yc8] #[.slice (some ⟨blk,0,none⟩) d.size cap,zse]:=by
  refine ⟨rfl,fun i=>?_⟩
  match i with
  | 0=>exact Sim.VR.of_clean (by decide)
  | 1=>exact ⟨fun h=>absurd (by decide) h,fun _=>.inr ⟨rfl,rfl⟩⟩
  | i+2=>exact Sim.VR.refl_undef _ _ _ _
 have h1:=zml blk cap d w hH hblk hsz
 exact Sim.calls_turn yiq ydp hT (fun e w' h=>⟨_,h.1⟩) h1
structure zdg (D:DataW Unit) (ys:List Row):Prop where
 rising:ze9 ys
 wf:∀ y∈ys,zaw y
 mem:∀ r,zaw r→(r∈ys↔Maps.has D (za2 r)=true)
theorem zco {D:DataW Unit} (hT:Tidy D) {xs:List Row} (hwf:∀ x∈xs,zaw x) (hap:xs.Pairwise (·≠·)) (hm:∀ x∈xs,Maps.has D (za2 x)=true):xs.length≤Maps.size D:=by
 obtain ⟨es,rfl,hp⟩:=hT
 have h1:(xs.map za2).length≤(es.map (·.1)).length:=by
  refine zck _ _ ?_ (fun l hl=>?_)
  ·rw [List.pairwise_map]
   exact hap.imp_of_mem (fun {a b} ha hb hne e=>hne (zd6 (hwf a ha) (hwf b hb) e))
  ·obtain ⟨x,hx,rfl⟩:=List.mem_map.1 hl
   have h:=hm x hx
   rw [has_eq] at h
   obtain ⟨p,hp1,hp2⟩:=List.any_eq_true.1 h
   exact List.mem_map.2 ⟨p,hp1,WideAt.sameKey_eq hp2⟩
 simpa [size_eq] using h1
theorem zg0 (Bm b nn:Nat) (D:DataW Unit) (g:Row→Int) (hrep:Rep D g) (w:World) (hm:w.cell? ⟨Bm,0,none⟩=some (.map (some b))) (hown:w.ownsMap Tryz.prog 77 (plainElem Tryz.prog 2) b nn D) (hnn:nn≤1000000000) :
  Calls Tryz.prog 112 #[.func (.func 162) #[] #[.pointer (some ⟨Bm,0,none⟩)],zse] w fun e w'=>∃ v ys,e=.returned v∧zdg D ys∧zhs w' v ys∧RowKit.Below w.heap.size w w'∧ys.length≤nn∧∀ gb ln cap,v=.slice (some ⟨gb,0,none⟩) ln cap→w.heap.size≤gb:=by
 have H:=zac (zhv Bm b nn D g hrep w hm hown hnn)
 have hszD:=hown.size_le
 have hT:=hown.tidy zft
 have HT:=zac hT
 have HK:=zac (zmh hown)
 have Hrep:=zac hrep
 clear hrep hm hown hT
 go_enter Tryz.func112,Tryz.ntmps112
 go_wp2_with fail
 refine (zaa H).mono ?_
 rintro e w1 ⟨v,xs,rfl,hK,ho,hb⟩
 have hmem:∀ r,zaw r→(r∈xs↔Maps.has D (za2 r)=true):=fun r hr=>by rw [hK.mem r hr];simp
 have hxl:xs.length≤nn:=Nat.le_trans (zco (zaa HT) hK.wf hK.apart (fun x hx=>(hmem x (hK.wf x hx)).1 hx)) hszD
 rcases ho.2 with ⟨rfl,h0⟩|⟨gb,cap,cur,rfl,hbg,hgh,_⟩
 ·have hx0:xs=[]:=List.eq_nil_of_length_eq_zero h0
  subst hx0
  have HR:Hid (zdg D []):=⟨List.Pairwise.nil,fun y hy=>by simp at hy,hmem⟩
  have Hb:=zac hb
  clear H hK hmem ho hb
  go_wp2_with (first|(go_at_call 161;refine (zld _ _ _ _).mono ?_;rintro e w' ⟨rfl,rfl⟩))
  go_ret
  exact ⟨_,[],rfl,zaa HR,⟨none,0,rfl,fun i hi=>by simp at hi⟩,zaa Hb,by simp,fun gb ln cap e=>by simp at e⟩
 ·have hH:=zgo ho
  have hgl:gb<w1.heap.size:=(Array.getElem?_eq_some_iff.1 hgh).1
  have Hs:=zac (zle gb cap xs.toArray w1 hH hgl (by simp;omega))
  have HH:=zac hH
  have Hb:=zac hb
  have Hmem:=zac hmem
  have HKo:=zac hK
  clear H hK hmem ho hb hgh hH
  go_wp2_with fail
  refine (zaa Hs).mono ?_
  rintro e w2 ⟨rfl,d',n,os,hp,hsrt,rfl⟩
  have hsz:d'.size=xs.length:=by have:=hp.1;simpa using this
  have hperm:d'.toList.Perm xs:=by
   have h:=hp.2.2
   have e1:(d'.extract 0 xs.toArray.size)=d':=by rw [Array.extract_eq_self_of_le (by simp;omega)]
   have e2:(xs.toArray.extract 0 xs.toArray.size)=xs.toArray:=Array.extract_eq_self_of_le (by simp)
   rw [e1,e2] at h
   simpa using h
  have hHd:HoldsK ze0 3 (sortWorldK ze0 3 w1 gb 0 n d' os) gb 0 d':=holdsK_sortWorldK_c ze0 3 w1 gb 0 xs.toArray d' n os (zaa HH) hgl (by simpa using hsz)
  have hR:zdg D d'.toList:=by
   refine ⟨zdv ?_ ?_,fun y hy=>(zaa HKo).wf y (hperm.mem_iff.1 hy),fun r hr=>by rw [hperm.mem_iff];exact (zaa Hmem) r hr⟩
   ·rw [hsz];simpa using hsrt
   ·exact (hperm.pairwise_iff (fun {a b} (h:a≠b)=>h.symm)).2 (zaa HKo).apart
  have hTr:=ze7 (cap:=cap) hHd
  have hBe:RowKit.Below w.heap.size w (sortWorldK ze0 3 w1 gb 0 n d' os):=(zaa Hb).grown (zi7 w1 gb n d' os) (zaa Hb).size (fun k e=>by cases e;exact hbg)
  rw [hsz] at hTr
  have HF:=zac (And.intro hR (And.intro hTr hBe))
  clear hR hTr hBe hHd hperm hp hsrt Hs
  generalize sortWorldK ze0 3 w1 gb 0 n d' os=w3 at *
  go_wp2
  go_ret
  exact ⟨_,_,rfl,(zaa HF).1,(zaa HF).2.1,(zaa HF).2.2,by simp [hsz];omega,fun g' ln cap' e=>by simp at e;omega⟩
end Go.Proofs.YtoifcnidhfnapaaGreatDoor
namespace Go.Proofs
open Go.Shelf
def Tryz.search_ren:Go.Shelf.Ren:=⟨fun|16=>257|n=>n,fun|3=>3|4=>4|35=>355|38=>342|n=>n,fun|n=>n⟩
theorem Tryz.searchL:Go.Proofs.SlLaysO.n16 Tryz.prog Tryz.search_ren:={
 mixed:=by kernel_rfl
 f16:=Tryz.func257.trans (congrArg some (by kernel_rfl))
 t3:=Tryz.underlying3
 a3:=Tryz.isAgg3
 z3:=Tryz.sizeOf3
 v3:=Tryz.zeroValue3
 t4:=Tryz.underlying4
 a4:=Tryz.isAgg4
 z4:=Tryz.sizeOf4
 v4:=Tryz.zeroValue4
 t35:=Tryz.underlying355
 a35:=Tryz.isAgg355
 z35:=Tryz.sizeOf355
 v35:=Tryz.zeroValue355
 t38:=Tryz.underlying342
 a38:=Tryz.isAgg342
 z38:=Tryz.sizeOf342
 v38:=Tryz.zeroValue342 }
end Go.Proofs
namespace Go.Proofs.YtoifcnidhfnapaaGreatDoor
open Go.RowKit Go.Maps Go.Sort Go.Shelf
def zal (y:Row) (c:Nat):Int:=match c with|0=>y.1|1=>y.2.1|_=>y.2.2
abbrev zaj:=Row×Int
def zcy:zaj:=((0,0,0),0)
def zct (w:World) (b:Nat):Prop:=∃ cs,w.heap[b]? = some (.cells cs 221 (0,0))
def zb1 (w:World) (v:Value) (es:List zaj):Prop:=
 ∃ a cap,v=.slice a es.length cap∧es.length≤cap∧∀ i,i<es.length→∃ b o,a=some ⟨b,o,none⟩∧w.cell? ⟨b,o+i*4,none⟩=some (.int .i64 (es[i]?.getD zcy).1.1) ∧
  w.cell? ⟨b,o+i*4+1,none⟩=some (.int .i64 (es[i]?.getD zcy).1.2.1)∧w.cell? ⟨b,o+i*4+2,none⟩=some (.int .i64 (es[i]?.getD zcy).1.2.2)∧w.cell? ⟨b,o+i*4+3,none⟩=some (.int .i64 (es[i]?.getD zcy).2)∧zct w b
theorem zb1.below {w w':World} {v:Value} {es:List zaj} (h:zb1 w v es) (hb:Below w.heap.size w w'):zb1 w' v es:=by
 obtain ⟨a,cap,rfl,hc,hx⟩:=h
 refine ⟨a,cap,rfl,hc,fun i hi=>?_⟩
 obtain ⟨b,o,rfl,h0,h1,h2,h3⟩:=hx i hi
 have hl:=World.block_lt_of_cell? w _ h0
 have hl':b<w.heap.size:=hl
 have key:∀ q,w'.cell? ⟨b,q,none⟩=w.cell? ⟨b,q,none⟩:=fun q=>hb.cell (p:=⟨b,q,none⟩) hl'
 obtain ⟨h3,cs,h4⟩:=h3
 exact ⟨b,o,rfl,(key _).trans h0,(key _).trans h1,(key _).trans h2,(key _).trans h3,cs,(hb.block b hl').trans h4⟩
theorem zb1.col {w:World} {a:Option Addr} {n cap:Nat} {es:List zaj} (h:zb1 w (.slice a n cap) es) {i:Nat} (hi:i<es.length) {c:Nat} (hc:c<3) :
  ∃ b o,a=some ⟨b,o,none⟩∧w.cell? ⟨b,o+i*4+c,none⟩=some (.int .i64 (zal (es[i]?.getD zcy).1 c)):=by
 obtain ⟨a',cap',e,_,hx⟩:=h
 injection e with e1 e2 e3
 subst e1
 obtain ⟨b,o,rfl,h0,h1,h2,h3⟩:=hx i hi
 refine ⟨b,o,rfl,?_⟩
 match c,hc with
 | 0,_=>exact h0
 | 1,_=>exact h1
 | 2,_=>exact h2
theorem yc9 (es:List zaj) (a:Option Addr) (cap c i B1 B2 B3:Nat) (z:Int) (W:World) (hr:zb1 W (.slice a es.length cap) es) (hc:c<3) (hi:i<es.length)
  (h1:W.cell? ⟨B1,0,none⟩=some (.slice a es.length cap)) (h2:W.cell? ⟨B2,0,none⟩=some (.int .i64 c)) (h3:W.cell? ⟨B3,0,none⟩=some (.int .i64 z)) :
  Calls Tryz.prog 258 #[.int .i64 i,.pointer (some ⟨B1,0,none⟩),.pointer (some ⟨B2,0,none⟩),.pointer (some ⟨B3,0,none⟩)] W fun e w'=>e=.returned (.bool (decide (z≤zal (es[i]?.getD zcy).1 c)))∧zbd W w':=by
 obtain ⟨b,o,rfl,d⟩:=hr.col hi hc
 generalize zal (es[i]?.getD zcy).1 c=q at d
 clear hr
 have hx:(i:Int)<(es.length:Int):=by omega
 have hc3:(c:Int)<3:=by omega
 go_enter Tryz.func258,Tryz.ntmps258
 go_wp2
 go_quiet (fail)
 go_wp2
 go_ret
 exact ⟨rfl,(zbd.refl _).thenN _⟩
def zfn (c:Nat) (z:Int) (es:List zaj):List zaj:=es.drop ((List.range es.length).countP fun i=>!decide (z≤zal (es[i]?.getD zcy).1 c))
def zbo (c:Nat) (es:List zaj):Prop:=es.Pairwise fun a b=>zal a.1 c≤zal b.1 c
theorem zbo.mono {c:Nat} {es:List zaj} (h:zbo c es) (i j:Nat) (hij:i≤j) (hj:j<es.length):zal (es[i]?.getD zcy).1 c≤zal (es[j]?.getD zcy).1 c:=by
 have hi:i<es.length:=by omega
 simp only [List.getElem?_eq_getElem hi,List.getElem?_eq_getElem hj,Option.getD_some]
 rcases Nat.lt_or_eq_of_le hij with h'|rfl
 ·exact List.pairwise_iff_getElem.1 h i j hi hj h'
 ·exact Int.le_refl _
theorem zb1.drop {w:World} {b o n cap:Nat} {es:List zaj} (h:zb1 w (.slice (some ⟨b,o,none⟩) n cap) es) (k:Nat) (hk:k≤es.length):zb1 w (.slice (some ⟨b,o+k*4,none⟩) (es.length - k) (cap - k)) (es.drop k):=by
 obtain ⟨a,cap',e,hc,hx⟩:=h
 injection e with e1 e2 e3
 subst e1 e3
 refine ⟨some ⟨b,o+k*4,none⟩,cap - k,by rw [List.length_drop],by rw [List.length_drop];omega,fun i hi=>?_⟩
 rw [List.length_drop] at hi
 obtain ⟨b',o',e,h0,h1,h2,h3⟩:=hx (k+i) (by omega)
 injection e with e
 injection e with e1 e2
 subst e1 e2
 refine ⟨b,o+k*4,rfl,?_⟩
 simp only [List.getElem?_drop]
 have e:o+(k+i)*4=o+k*4+i*4:=by omega
 rw [e] at h0 h1 h2 h3
 exact ⟨h0,h1,h2,h3⟩
theorem zb1.cap {w:World} {a:Option Addr} {n cap:Nat} {es:List zaj} (h:zb1 w (.slice a n cap) es):es.length≤cap:=by
 obtain ⟨a',cap',e,hc,_⟩:=h
 injection e with e1 e2 e3
 subst e3
 exact hc
theorem zb1.gone (w:World) (a:Option Addr) {k:Nat} {es:List zaj} (h:es.length≤k):zb1 w (.slice a (es.length - k) 0) (es.drop k):=by
 have e:es.drop k=[]:=List.drop_eq_nil_of_le h
 rw [e]
 exact ⟨a,0,by simp;omega,by simp,fun i hi=>by simp at hi⟩
theorem zj0 {w:World} {p q:Nat} {os:Array Obj}:Below w.heap.size w (grow ((w.drewN p).drewN q) os):=by
 refine ⟨rfl,rfl,rfl,by simp [grow],fun k hk=>?_⟩
 simp only [grow]
 exact Array.getElem?_append_left hk
theorem ych {w w4:World} {p q:Nat} {os:Array Obj} (h:w4=grow ((w.drewN p).drewN q) os):Below w.heap.size w w4:=by subst h;exact zj0
theorem zyv (es:List zaj) (b o cap c:Nat) (z:Int) (W:World) (hr:zb1 W (.slice (some ⟨b,o,none⟩) es.length cap) es) (hc:c<3) (hs:zbo c es) (hn:es.length≤1000000000000) :
  Calls Tryz.prog 225 #[.slice (some ⟨b,o,none⟩) es.length cap,.int .i64 c,.int .i64 z] W fun e w'=>∃ o' cap',e=.returned (.slice (some ⟨b,o',none⟩) (zfn c z es).length cap')∧zb1 W (.slice (some ⟨b,o',none⟩) (zfn c z es).length cap') (zfn c z es)∧Below W.heap.size W w':=by
 obtain ⟨W3,hW3⟩:∃ W3,W3=((W.alloc (.cells #[.slice (some ⟨b,o,none⟩) es.length cap] 141)).alloc (.cells #[.int .i64 c] 3)).alloc (.cells #[.int .i64 z] 2):=⟨_,rfl⟩
 have hb3:Below W.heap.size W W3:=by rw [hW3];exact (((Below.refl _ _).alloc (Nat.le_refl _) _).alloc (by simp) _).alloc (by simp;omega) _
 have c1:W3.cell? ⟨W.heap.size,0,none⟩=some (.slice (some ⟨b,o,none⟩) es.length cap):=by
  rw [hW3]
  exact zab ((Below.heap_alloc _ _ _ (by simp;omega)).trans ((Below.heap_alloc _ _ _ (by simp)).trans (zae _ _ _ rfl))) 0
 have c2:W3.cell? ⟨W.heap.size+1,0,none⟩=some (.int .i64 c):=by
  rw [hW3]
  exact zab ((Below.heap_alloc _ _ _ (by simp)).trans (zae _ _ _ (by simp))) 0
 have c3:W3.cell? ⟨W.heap.size+2,0,none⟩=some (.int .i64 z):=by
  rw [hW3]
  exact zab (zae _ _ _ (by simp)) 0
 have hr3:=hr.below hb3
 have hcap:es.length≤cap:=hr.cap
 have HS:Hid (∀ m,Calls Tryz.prog 257 #[.int .i64 es.length,.func (.func 258) #[] #[.pointer (some ⟨W.heap.size,0,none⟩),.pointer (some ⟨W.heap.size+1,0,none⟩),.pointer (some ⟨W.heap.size+2,0,none⟩)]] (W3.drewN m) fun e w' =>
   e=.returned (.int .i64 ((List.range es.length).countP fun i=>!decide (z≤zal (es[i]?.getD zcy).1 c):Nat))∧∃ q os,w'=grow ((W3.drewN m).drewN q) os):=by
  intro m0
  refine Any.sort_Search Tryz.searchL 258 _ es.length (fun i=>decide (z≤zal (es[i]?.getD zcy).1 c)) (W3.drewN m0) (enters_of Tryz.func258 (by kernel_rfl) rfl) (by omega) (fun m os i hi=>?_) (fun i j hij hj hi=>?_)
  ·have hb:Below W3.heap.size W3 (grow ((W3.drewN m0).drewN m) os):=zj0
   have hcell:∀ B q v,W3.cell? ⟨B,q,none⟩=some v→(grow ((W3.drewN m0).drewN m) os).cell? ⟨B,q,none⟩=some v:=fun B q v h=>(hb.cell (p:=⟨B,q,none⟩) (World.block_lt_of_cell? _ _ h)).trans h
   refine (yc9 es _ cap c i _ _ _ z _ (hr3.below hb) hc hi (hcell _ _ _ c1) (hcell _ _ _ c2) (hcell _ _ _ c3)).mono ?_
   rintro e w' ⟨rfl,hd⟩
   refine ⟨rfl,?_⟩
   obtain ⟨q,rfl⟩:=hd
   exact ⟨q,#[],by rw [grow_empty]⟩
  ·simp only [decide_eq_true_eq] at hi ⊢
   exact Int.le_trans hi (hs.mono i j hij hj)
 have hcnt:(List.range es.length).countP (fun i=>!decide (z≤zal (es[i]?.getD zcy).1 c))≤es.length:=by
  have:=List.countP_le_length (p:=fun i=>!decide (z≤zal (es[i]?.getD zcy).1 c)) (l:=List.range es.length)
  simpa using this
 have Hdrop:=zac (hr.drop _ hcnt)
 have Hb3:=zac hb3
 have HfL:Hid (zfn c z es=es.drop ((List.range es.length).countP fun i=>!decide (z≤zal (es[i]?.getD zcy).1 c))):=rfl
 generalize (List.range es.length).countP (fun i=>!decide (z≤zal (es[i]?.getD zcy).1 c))=k at *
 clear hr hr3 hs hb3
 go_enter Tryz.func225,Tryz.ntmps225
 go_wp2
 rw [← hW3]
 clear hW3
 have hk0:(k:Int)≤(es.length:Int):=by omega
 go_region_with (go_at_call 257;refine (show Calls _ _ _ (W3.drewN 1) _ from (zaa HS) 1).mono ?_;rintro e w4 ⟨rfl,q,os,hw4⟩;have Hb4:=zac (ych hw4);have c1':w4.cell? ⟨W.heap.size,0,none⟩=some (.slice (some ⟨b,o,none⟩) es.length cap):=((zaa Hb4).cell (p:=⟨W.heap.size,0,none⟩) (World.block_lt_of_cell? _ _ c1)).trans c1;clear hw4)
 all_goals go_wp2
 all_goals go_ret
 all_goals rw [zaa HfL]
 all_goals first
  | exact ⟨o+k*4,cap - k,by rw [List.length_drop];rfl,by rw [List.length_drop];exact (zaa Hdrop),(zaa Hb3).trans ((zaa Hb4).mono (zaa Hb3).size)⟩
  | exact ⟨o,0,by rw [List.length_drop];rfl,by rw [List.length_drop];exact zb1.gone _ _ (by omega),(zaa Hb3).trans ((zaa Hb4).mono (zaa Hb3).size)⟩
end Go.Proofs.YtoifcnidhfnapaaGreatDoor
namespace Go.Proofs.YtoifcnidhfnapaaGreatDoor
open Go.RowKit Go.Maps Go.Sort Go.Shelf
theorem yjp (es:List zaj) (a:Option Addr) (cap c i B1 B2 B3:Nat) (z:Int) (W:World) (hr:zb1 W (.slice a es.length cap) es) (hc:c<3) (hi:i<es.length)
  (h1:W.cell? ⟨B1,0,none⟩=some (.slice a es.length cap)) (h2:W.cell? ⟨B2,0,none⟩=some (.int .i64 c)) (h3:W.cell? ⟨B3,0,none⟩=some (.int .i64 z)) :
  Calls Tryz.prog 259 #[.int .i64 i,.pointer (some ⟨B1,0,none⟩),.pointer (some ⟨B2,0,none⟩),.pointer (some ⟨B3,0,none⟩)] W fun e w'=>e=.returned (.bool (decide (z<zal (es[i]?.getD zcy).1 c)))∧zbd W w':=by
 obtain ⟨b,o,rfl,d⟩:=hr.col hi hc
 generalize zal (es[i]?.getD zcy).1 c=q at d
 clear hr
 have hx:(i:Int)<(es.length:Int):=by omega
 have hc3:(c:Int)<3:=by omega
 go_enter Tryz.func259,Tryz.ntmps259
 go_wp2
 go_quiet (fail)
 go_wp2
 go_ret
 exact ⟨rfl,(zbd.refl _).thenN _⟩
def zp9 (c:Nat) (z:Int) (es:List zaj):List zaj:=es.take ((List.range es.length).countP fun i=>!decide (z<zal (es[i]?.getD zcy).1 c))
theorem yje {w:World} {b o n cap:Nat} {es:List zaj} (h:zb1 w (.slice (some ⟨b,o,none⟩) n cap) es) (k:Nat) (hk:k≤es.length):zb1 w (.slice (some ⟨b,o,none⟩) k cap) (es.take k):=by
 obtain ⟨a,cap',e,hc,hx⟩:=h
 injection e with e1 e2 e3
 subst e1 e3
 refine ⟨some ⟨b,o,none⟩,cap,by rw [List.length_take,Nat.min_eq_left hk],by rw [List.length_take];omega,fun i hi=>?_⟩
 rw [List.length_take] at hi
 obtain ⟨b',o',e,h0,h1,h2,h3⟩:=hx i (by omega)
 refine ⟨b',o',e,?_⟩
 rw [List.getElem?_take_of_lt (by omega)]
 exact ⟨h0,h1,h2,h3⟩
theorem yhs (es:List zaj) (b o cap c:Nat) (z:Int) (W:World) (hr:zb1 W (.slice (some ⟨b,o,none⟩) es.length cap) es) (hc:c<3) (hs:zbo c es) (hn:es.length≤1000000000000) :
  Calls Tryz.prog 226 #[.slice (some ⟨b,o,none⟩) es.length cap,.int .i64 c,.int .i64 z] W fun e w'=>∃ o' cap',e=.returned (.slice (some ⟨b,o',none⟩) (zp9 c z es).length cap')∧zb1 W (.slice (some ⟨b,o',none⟩) (zp9 c z es).length cap') (zp9 c z es)∧Below W.heap.size W w':=by
 obtain ⟨W3,hW3⟩:∃ W3,W3=((W.alloc (.cells #[.slice (some ⟨b,o,none⟩) es.length cap] 141)).alloc (.cells #[.int .i64 c] 3)).alloc (.cells #[.int .i64 z] 2):=⟨_,rfl⟩
 have hb3:Below W.heap.size W W3:=by rw [hW3];exact (((Below.refl _ _).alloc (Nat.le_refl _) _).alloc (by simp) _).alloc (by simp;omega) _
 have c1:W3.cell? ⟨W.heap.size,0,none⟩=some (.slice (some ⟨b,o,none⟩) es.length cap):=by
  rw [hW3]
  exact zab ((Below.heap_alloc _ _ _ (by simp;omega)).trans ((Below.heap_alloc _ _ _ (by simp)).trans (zae _ _ _ rfl))) 0
 have c2:W3.cell? ⟨W.heap.size+1,0,none⟩=some (.int .i64 c):=by
  rw [hW3]
  exact zab ((Below.heap_alloc _ _ _ (by simp)).trans (zae _ _ _ (by simp))) 0
 have c3:W3.cell? ⟨W.heap.size+2,0,none⟩=some (.int .i64 z):=by
  rw [hW3]
  exact zab (zae _ _ _ (by simp)) 0
 have hr3:=hr.below hb3
 have hcap:es.length≤cap:=hr.cap
 have HS:Hid (∀ m,Calls Tryz.prog 257 #[.int .i64 es.length,.func (.func 259) #[] #[.pointer (some ⟨W.heap.size,0,none⟩),.pointer (some ⟨W.heap.size+1,0,none⟩),.pointer (some ⟨W.heap.size+2,0,none⟩)]] (W3.drewN m) fun e w' =>
   e=.returned (.int .i64 ((List.range es.length).countP fun i=>!decide (z<zal (es[i]?.getD zcy).1 c):Nat))∧∃ q os,w'=grow ((W3.drewN m).drewN q) os):=by
  intro m0
  refine Any.sort_Search Tryz.searchL 259 _ es.length (fun i=>decide (z<zal (es[i]?.getD zcy).1 c)) (W3.drewN m0) (enters_of Tryz.func259 (by kernel_rfl) rfl) (by omega) (fun m os i hi=>?_) (fun i j hij hj hi=>?_)
  ·have hb:Below W3.heap.size W3 (grow ((W3.drewN m0).drewN m) os):=zj0
   have hcell:∀ B q v,W3.cell? ⟨B,q,none⟩=some v→(grow ((W3.drewN m0).drewN m) os).cell? ⟨B,q,none⟩=some v:=fun B q v h=>(hb.cell (p:=⟨B,q,none⟩) (World.block_lt_of_cell? _ _ h)).trans h
   refine (yjp es _ cap c i _ _ _ z _ (hr3.below hb) hc hi (hcell _ _ _ c1) (hcell _ _ _ c2) (hcell _ _ _ c3)).mono ?_
   rintro e w' ⟨rfl,hd⟩
   refine ⟨rfl,?_⟩
   obtain ⟨q,rfl⟩:=hd
   exact ⟨q,#[],by rw [grow_empty]⟩
  ·simp only [decide_eq_true_eq] at hi ⊢
   exact Int.lt_of_lt_of_le hi (hs.mono i j hij hj)
 have hcnt:(List.range es.length).countP (fun i=>!decide (z<zal (es[i]?.getD zcy).1 c))≤es.length:=by
  have:=List.countP_le_length (p:=fun i=>!decide (z<zal (es[i]?.getD zcy).1 c)) (l:=List.range es.length)
  simpa using this
 have Hdrop:=zac (yje hr _ hcnt)
 have Hb3:=zac hb3
 have HfL:Hid (zp9 c z es=es.take ((List.range es.length).countP fun i=>!decide (z<zal (es[i]?.getD zcy).1 c))):=rfl
 generalize (List.range es.length).countP (fun i=>!decide (z<zal (es[i]?.getD zcy).1 c))=k at *
 clear hr hr3 hs hb3
 go_enter Tryz.func226,Tryz.ntmps226
 go_wp2
 rw [← hW3]
 clear hW3
 have hk0:(k:Int)≤(es.length:Int):=by omega
 go_region_with (go_at_call 257;refine (show Calls _ _ _ (W3.drewN 1) _ from (zaa HS) 1).mono ?_;rintro e w4 ⟨rfl,q,os,hw4⟩;have Hb4:=zac (ych hw4);have c1':w4.cell? ⟨W.heap.size,0,none⟩=some (.slice (some ⟨b,o,none⟩) es.length cap):=((zaa Hb4).cell (p:=⟨W.heap.size,0,none⟩) (World.block_lt_of_cell? _ _ c1)).trans c1;clear hw4)
 all_goals go_wp2
 all_goals go_ret
 all_goals rw [zaa HfL]
 all_goals first
  | exact ⟨o,cap,by rw [List.length_take,Nat.min_eq_left hcnt];rfl,by rw [List.length_take,Nat.min_eq_left hcnt];exact (zaa Hdrop),(zaa Hb3).trans ((zaa Hb4).mono (zaa Hb3).size)⟩
end Go.Proofs.YtoifcnidhfnapaaGreatDoor
