import Derived.Test.YtoifcnidhfnapaaGreatDoorP10
import Derived.Test.YtoifcnidhfnapaaGreatDoorP05
import Derived.Test.YtoifcnidhfnapaaGreatDoorP01
import Derived.Laws.CopyRow
import Derived.Test.YtoifcnidhfnapaaGreatDoorP06
set_option linter.unusedVariables false
set_option linter.unusedSimpArgs false
namespace Go.Proofs.YtoifcnidhfnapaaGreatDoor
open Go.RowKit Go.Maps Go.Sort Go.Shelf
attribute [local go_sem] Oper.semAt_some
theorem Tryz.info79:(Tryz.prog.info? 79).map (fun i=>(i.zero,i.size,i.bytes))=some (some (.agg #[.slice none 0 0,.int .i64 0]),2,32):=by kernel_rfl
theorem zio (mb:Nat) (w:World):Calls Tryz.prog 65 #[.map (some mb)] w fun e w'=>e=.returned (.func (.func 111) #[] #[.pointer (some ⟨w.heap.size,0,none⟩)])∧w'=w.alloc (.cells #[.map (some mb)] 127):=by
 go_enter Tryz.func65,Tryz.ntmps65
 go_wp2
 go_ret
 exact ⟨rfl,rfl⟩
theorem ya1 (rb ar mb:Nat) (w:World) (h:w.heap[rb]? = some (.cells #[.int .i64 ar,.map (some mb)] 129 (0,0))):Calls Tryz.prog 38 #[.pointer (some ⟨rb,0,none⟩)] w fun e w'=>e=.returned (.func (.func 111) #[] #[.pointer (some ⟨w.heap.size,0,none⟩)])∧w'=w.alloc (.cells #[.map (some mb)] 127):=by
 have c1:w.cell? ⟨rb,1,none⟩=some (.map (some mb)):=zab h 1
 clear h
 go_enter Tryz.func38,Tryz.ntmps38
 go_wp2_with fail
 refine (zio mb w).mono ?_
 rintro e w' ⟨rfl,rfl⟩
 go_wp2
 go_ret
 exact ⟨rfl,rfl⟩
def zci (ar:Nat) (xs:List ((Row×Int)×Nat)):List Value:=xs.flatMap fun p=>[.slice (some ⟨p.2,0,none⟩) ar ar,.int .i64 p.1.2]
def zdl (W:World) (B ar:Nat) (xs:List ((Row×Int)×Nat)):Prop:=(xs.Pairwise fun p q=>p.2<q.2)∧∀ p∈xs,W.heap[p.2]? = some (.cells (zgp ar p.1.1).toArray 2 (0,0))∧B≤p.2
def zj7 (w:World) (ar Br g cap Bp rb:Nat) (pre:List (Row×Int)) (W:World):Prop:=
 ∃ xs,xs.map (·.1)=pre∧Boxed W Br 34 (.slice (some ⟨g,0,none⟩) pre.length cap)∧W.ownsRow w.heap.size 79 2 (.slice (some ⟨g,0,none⟩) pre.length cap) pre.length (zci ar xs)∧zdl W w.heap.size ar xs ∧
  Boxed W Bp 66 (.pointer (some ⟨rb,0,none⟩))∧Below w.heap.size w W
theorem zdl.kept {W W':World} {B ar:Nat} {xs:List ((Row×Int)×Nat)} {row:Option Nat} (h:zdl W B ar xs) (hg:W.grownBy W' row) (hrow:∀ j,row=some j→∀ cur,W.heap[j]?≠some (.cells cur 2 (0,0))):zdl W' B ar xs:=⟨h.1,fun p hp=>by
 obtain ⟨h1,h2⟩:=h.2 p hp
 refine ⟨(hg.block p.2 (Array.getElem?_eq_some_iff.1 h1).1 (fun e=>?_)).trans h1,h2⟩
 exact hrow p.2 e.symm _ h1⟩
theorem zj7.own (w:World) (ar Br g cap Bp rb B:Nat) (hB:w.heap.size≤B):OwnFrom B (zj7 w ar Br g cap Bp rb):=by
 rintro pre W W' row ⟨xs,hm,b1,ho,hv,b2,hb⟩ hg hr
 have hno:∀ k cs t,W.heap[k]? = some (.cells cs t (0,0))→some k≠row:=fun k cs t hk e=>by
  obtain ⟨_,o,h1,h2⟩:=hr k e.symm
  rw [hk] at h1;cases h1;cases h2
 refine ⟨xs,hm,b1.kept hg (hno _ _ _ b1),ho.kept hg (.inr ?_),hv.kept hg (fun j e cur hj=>hno j _ _ hj e.symm),b2.kept hg (hno _ _ _ b2),hb.grown hg hb.size (fun k e=>Nat.le_trans hB (hr k e).1)⟩
 rcases ho.2 with ⟨h,_⟩|⟨g',cap',cur,h,_,hgh,_⟩
 ·cases h
 ·simp at h
  obtain ⟨rfl,_⟩:=h
  exact fun e=>hno _ _ _ hgh (by simpa [Value.ownBlock] using e)
theorem zj9 {w W w2 w3:World} {ar Br g cap Bp rb B vb:Nat} {pre:List (Row×Int)} {x:Row×Int} {xs:List ((Row×Int)×Nat)} {tmp:Obj}
  (hm:xs.map (·.1)=pre) (bS:Boxed W Br 34 (.slice (some ⟨g,0,none⟩) pre.length cap)) (hrow:W.ownsRow w.heap.size 79 2 (.slice (some ⟨g,0,none⟩) pre.length cap) pre.length (zci ar xs)) (hvs:zdl W w.heap.size ar xs)
  (bP:Boxed W Bp 66 (.pointer (some ⟨rb,0,none⟩))) (hB:Below w.heap.size w W) (hg2:W.grownBy w2 none) (hv2:w2.heap[vb]? = some (.cells (zgp ar x.1).toArray 2 (0,0)))
  (hrow3:w3.ownsRow w.heap.size 79 2 (.slice (some ⟨g,0,none⟩) (pre.length+1) cap) (pre.length+1) (zci ar xs ++ [.slice (some ⟨vb,0,none⟩) ar ar,.int .i64 x.2])) (hg3:(w2.alloc tmp).grownBy w3 (some g))
  (hgB:g<B) (hBB:Br<B) (hwg:w.heap.size≤g) (hwB:w.heap.size≤Br) (hvb:W.heap.size≤vb) :
  KeepsFrom B W (w3.setCell ⟨Br,0,none⟩ (.slice (some ⟨g,0,none⟩) (pre.length+1) cap))∧zan (fun k=>k=Br∨k=g) W (w3.setCell ⟨Br,0,none⟩ (.slice (some ⟨g,0,none⟩) (pre.length+1) cap)) ∧
   zj7 w ar Br g cap Bp rb (pre ++ [x]) (w3.setCell ⟨Br,0,none⟩ (.slice (some ⟨g,0,none⟩) (pre.length+1) cap)):=by
 have hA:W.grownBy (w2.alloc tmp) none:=hg2.trans (World.grownBy_alloc _ _ none)
 have hC:=grownBy_setCell' w3 Br (.slice (some ⟨g,0,none⟩) (pre.length+1) cap)
 obtain ⟨cur,hgh⟩:∃ cur,W.heap[g]? = some (.cells cur 79 (0,0)):=by
  rcases hrow.2 with ⟨h,_⟩|⟨g',cap',cur,h,_,hgh,_⟩
  ·cases h
  ·simp at h;obtain ⟨rfl,_⟩:=h;exact ⟨cur,hgh⟩
 have hne:Br≠g:=fun e=>by rw [e] at bS;rw [show W.heap[g]? = _ from bS] at hgh;simp at hgh
 have hnP:Bp≠g:=fun e=>by rw [e] at bP;rw [show W.heap[g]? = _ from bP] at hgh;simp at hgh
 have hnP2:Bp≠Br:=fun e=>by rw [e] at bP;have h9:W.heap[Br]? = _:=bS;rw [show W.heap[Br]? = _ from bP] at h9;simp at h9
 have bS3:Boxed w3 Br 34 (.slice (some ⟨g,0,none⟩) pre.length cap):=(bS.kept hA (by simp)).kept hg3 (by simp [hne])
 have hghA:(w2.alloc tmp).heap[g]? = some (.cells cur 79 (0,0)):=(hA.block g (Array.getElem?_eq_some_iff.1 hgh).1 (by simp)).trans hgh
 refine ⟨((KeepsFrom.of_grownBy hA (fun j e=>by cases e)).trans (KeepsFrom.of_grownBy hg3 (fun j e=>by cases e;exact hgB))).trans (KeepsFrom.of_grownBy hC (fun j e=>by cases e;exact hBB)),
  ((zan.of_grown hA (fun j e=>by cases e)).trans (zan.of_grown hg3 (fun j e=>by cases e;exact .inr rfl))).trans (zan.of_grown hC (fun j e=>by cases e;exact .inl rfl)),?_⟩
 have hl:(pre ++ [x]).length=pre.length+1:=by simp
 refine ⟨xs ++ [(x,vb)],by simp [hm],?_,?_,?_,?_,?_⟩
 ·rw [hl];exact bS3.set _
 ·rw [hl]
  have e:zci ar (xs ++ [(x,vb)])=zci ar xs ++ [.slice (some ⟨vb,0,none⟩) ar ar,.int .i64 x.2]:=by simp [zci]
  rw [e]
  exact hrow3.kept hC (.inr (by simp [Value.ownBlock];omega))
 ·have h2:zdl w2 w.heap.size ar (xs ++ [(x,vb)]):=by
   refine ⟨List.pairwise_append.2 ⟨hvs.1,List.pairwise_singleton _ _,fun p hp q hq=>?_⟩,fun p hp=>?_⟩
   ·simp at hq;subst hq;exact Nat.lt_of_lt_of_le (Array.getElem?_eq_some_iff.1 (hvs.2 p hp).1).1 hvb
   ·rcases List.mem_append.1 hp with hp|hp
    ·exact (hvs.kept hg2 (fun j e=>by cases e)).2 p hp
    ·simp at hp;subst hp;exact ⟨hv2,Nat.le_trans hB.size hvb⟩
  refine ((h2.kept (World.grownBy_alloc _ tmp none) (fun j e=>by cases e)).kept hg3 (fun j e c hj=>?_)).kept hC (fun j e c hj=>?_)
  ·cases e;rw [hghA] at hj;simp at hj
  ·cases e;rw [show w3.heap[Br]? = _ from bS3] at hj;simp at hj
 ·exact ((bP.kept hA (by simp)).kept hg3 (by simp [hnP])).kept hC (by simp [hnP2])
 ·refine ((hB.grown hA hB.size (fun k e=>by cases e)).grown hg3 (Nat.le_trans hB.size hA.size) (fun k e=>by cases e;exact hwg)).grown hC (Nat.le_trans (Nat.le_trans hB.size hA.size) hg3.size) (fun k e=>by cases e;exact hwB)
theorem zke (W:World) (a b:Value) (t:TypeId):∀ j u,[a,b][j]? = some u→(W.alloc (.cells #[a,b] t)).cell? ((⟨W.heap.size,0,none⟩:Addr).add j)=some u:=by
 intro j u hj
 match j,hj with
 | 0,hj=>cases hj;exact zab (zad _ _ _ rfl) 0
 | 1,hj=>cases hj;exact zab (zad _ _ _ rfl) 1
theorem relA {w w1:World} {rb ar mb:Nat} {o:Obj} (hrl:rb<w.heap.size) (h:w.heap[rb]? = some (.cells #[.int .i64 ar,.map (some mb)] 129 (0,0))) (hg1:(w.alloc o).grownBy w1 none) (n:Nat) :
  (w1.alloc (.cells #[Value.slice (some ⟨w.heap.size+1,0,none⟩) 0 n] 34)).heap[rb]? = some (.cells #[.int .i64 ar,.map (some mb)] 129 (0,0)):=
 (Below.heap_alloc _ _ rb (by have:=hg1.size;simp at this;omega)).trans ((hg1.block rb (by simp;omega) (by simp)).trans ((Below.heap_alloc _ _ rb hrl).trans h))
theorem zpl (W:World) {Bx:Nat} {cs:Array Value} (h:W.heap[Bx]? = some (.cells cs 77 (0,0))):Bx<W.heap.size:=(Array.getElem?_eq_some_iff.1 h).1
theorem ztk (ar:Nat) (har:ar=1∨ar=2∨ar=3) (Bx:Nat) (q:World):(Instr.sliceAt 77 (.pointer (some ⟨Bx,0,none⟩)) none (some (.int .i64 ar)) none).run Tryz.prog q=.ok (.slice (some ⟨Bx,0,none⟩) ar 3) q:=by
 rcases har with rfl|rfl|rfl <;> kernel_rfl
theorem hg2w {W w2:World} (h:W.drew.grownBy w2 none):W.grownBy w2 none:=⟨h.os,h.tape,h.output,h.size,h.block⟩
def zig (ts:Array TypeId) (ty:TypeId) (args:Array Value):Sem Value:=Builtin.append_ ts ty args
theorem zkw (ts:Array TypeId) (ty:TypeId) (args:Array Value):Builtin.append_ ts ty args=zig ts ty args:=rfl
theorem apFits {w W w2:World} {g cap k:Nat} {xs:List Value} {i62:TypeInfo} (hrow:W.ownsRow w.heap.size 79 2 (.slice (some ⟨g,0,none⟩) k cap) k xs) (hg2:W.grownBy w2 none) (hi:Tryz.prog.info? 79=some i62) (hz1:i62.size=2) (vb ar:Nat) (xw:Int) (b1:k+1≤cap) :
  ∃ w3,(zig #[34,34] 34 #[.slice (some ⟨g,0,none⟩) k cap,.slice (some ⟨w2.heap.size,0,none⟩) 1 1]).run Tryz.prog (w2.alloc (.cells #[.slice (some ⟨vb,0,none⟩) ar ar,.int .i64 xw] 79))=.ok (.slice (some ⟨g,0,none⟩) (k+1) cap) w3 ∧
   w3.ownsRow w.heap.size 79 2 (.slice (some ⟨g,0,none⟩) (k+1) cap) (k+1) (xs ++ [.slice (some ⟨vb,0,none⟩) ar ar,.int .i64 xw])∧(w2.alloc (.cells #[.slice (some ⟨vb,0,none⟩) ar ar,.int .i64 xw] 79)).grownBy w3 (some g):=by
 have hrow2:=hrow.kept hg2 (.inr (by simp [Value.ownBlock]))
 obtain ⟨w3,hrun,r1,r2⟩:=run_append_fits (P:=Tryz.prog) (w2.alloc (.cells #[.slice (some ⟨vb,0,none⟩) ar ar,.int .i64 xw] 79)) w.heap.size 34 34 79 i62 2 Tryz.underlying34 hi hz1 g k cap xs (hrow2.alloc _) ⟨w2.heap.size,0,none⟩ 1 1 [.slice (some ⟨vb,0,none⟩) ar ar,.int .i64 xw] rfl (zke w2 _ _ 79) (by simp [Value.oneCell']) (by omega)
 exact ⟨w3,hrun,r1,r2⟩
section
attribute [local go_sem ↓] zkw
set_option maxRecDepth 100000 in
set_option maxHeartbeats 4000000 in
theorem rows_in (n:Nat) (hn:5≤n) (nm:ByteArray) (w:World) {eb db nD S0 E:Nat} {st:St} {R:Rel} (hE:zay w eb db nD S0 E st) (hnm:nm.size≤maxLen) (hR:st nm=some R) (har:R.ar=1∨R.ar=2∨R.ar=3) (hnn:R.n≤1000000000) (D:DataW Unit) (hown:w.ownsMap Tryz.prog 77 (plainElem Tryz.prog 2) R.mb R.n D) (hrep:Rep D R.f) :
  CallsIn Fence.wide n Tryz.prog 19 #[.pointer (some ⟨eb,0,none⟩),.string nm] w fun e w'=>∃ v ys xs,e=.returned (.tuple #[v,.int .i64 0])∧zcz D ys∧xs.map (·.1)=za3 R.f ys∧w'.ownsRow w.heap.size 79 2 v xs.length (zci R.ar xs)∧zdl w' w.heap.size R.ar xs∧Below w.heap.size w w':=by
 have h1:1≤n:=by omega
 have hlk:=hE.hit hnm hR
 have hrel:=(hE.rel nm R hR).1
 have hce:w.cell? ⟨eb,0,none⟩=some (.map (some db)):=hE.c0
 have hszD:=hown.size_le
 obtain ⟨rb,mb,ar,nn,f⟩:=R
 dsimp only at *
 obtain ⟨i62,hi,hz0,hz1,hz2⟩:=info_parts Tryz.info79
 have hrl:rb<w.heap.size:=(Array.getElem?_eq_some_iff.1 hrel).1
 have Hrel:=hide hrel
 have Hown:=hide hown
 have Hrep:=hide hrep
 have HE:=hide hE
 clear hrel hown hrep hE hR
 refine callsIn_of_wp_marks Tryz.func19 rfl trivial ?_ rfl
 simp only [Tryz.ntmps19,List.size_toArray,List.length_cons,List.length_nil,Nat.reduceAdd,Nat.reduceSub,Array.replicate_succ,Array.replicate_zero,List.push_toArray,List.append_toArray,List.nil_append,List.cons_append]
 gi_wp2_with (first
  | (refine ⟨trivial,?_⟩;gi_at_call 37;refine (callsIn_wide.2 (len_any rb ar mb nn _ ((Below.heap_alloc _ _ rb hrl).trans (zaa Hrel)) ((zaa Hown).alloc _))).mono ?_;rintro e w' ⟨rfl,rfl⟩)
  | (gi_at_make;refine wpListIn_make_own _ rfl _ _ _ rfl w.heap.size 79 i62 _ 2 Tryz.underlying34 hi hz0 hz1 _ _ _ (Maps.size D) rfl rfl rfl (by rw [hz2];omega) (by unfold maxLen;omega) (by simp) ?_;intro w1 hrow1 hg1;have bP1:Boxed w1 w.heap.size 66 (.pointer (some ⟨rb,0,none⟩)):=(Boxed.new w 66 _).kept hg1 (by simp);have cP1:=(bP1.alloc (.cells #[Value.slice (some ⟨w.heap.size+1,0,none⟩) 0 (Maps.size D)] 34)).cell;have HrelA:=hide (relA hrl (zaa Hrel) hg1 (Maps.size D)))
  | (refine ⟨trivial,?_⟩;gi_at_call 38;refine (callsIn_wide.2 (ya1 rb ar mb _ (zaa HrelA))).mono ?_;rintro e w' ⟨rfl,rfl⟩))
 have hb1:Below w.heap.size w w1:=((Below.refl _ w).alloc (Nat.le_refl _) _).grown hg1 (by simp) (fun k e=>by cases e)
 have hs1:w.heap.size+2≤w1.heap.size:=by
  rcases hrow1.2 with ⟨h,_⟩|⟨g,cap,cur,h,_,hgh,_⟩
  ·simp at h
  ·have:=(Array.getElem?_eq_some_iff.1 hgh).1
   simp at h
   omega
 have hrow1':w1.ownsRow w.heap.size 79 2 (.slice (some ⟨w.heap.size+1,0,none⟩) 0 (Maps.size D)) 0 []:=by simpa using hrow1
 clear hrow1 cP1 hg1
 obtain ⟨Bp,hBp⟩:∃ Bp,Bp=w.heap.size:=⟨_,rfl⟩
 obtain ⟨g,hgE⟩:∃ g,g=w.heap.size+1:=⟨_,rfl⟩
 obtain ⟨Br,hBr⟩:∃ Br,Br=w1.heap.size:=⟨_,rfl⟩
 have hseq:SeqStopsK Fence.wide (n - 1) Tryz.prog 111 #[.pointer (some ⟨w1.heap.size+1,0,none⟩)] (fun x:Row×Int=>#[Value.agg #[.int .i64 x.1.1,.int .i64 x.1.2.1,.int .i64 x.1.2.2],.int .i64 x.2]) (zan fun k=>k=Br∨k=g) (fun xs=>∃ ys,zcz D ys∧xs=za3 f ys) (fun _=>True) (Maps.size D) ((w1.alloc (.cells #[.slice (some ⟨w.heap.size+1,0,none⟩) 0 (Maps.size D)] 34)).alloc (.cells #[.map (some mb)] 127)):=fun l J Jx W hW hJ _ hY h0=>by
  have hsW:=hW.size
  simp at hsW
  have hml:=(zaa Hown).lt
  have hbW:Below w.heap.size w W:=(((hb1.alloc hb1.size _).alloc (by simp;omega) _)).trans (hW.mono (by simp;omega))
  refine zt8 (n - 1) (by omega) l (w1.heap.size+1) mb nn f _ J Jx (Maps.size D) hY W hJ (fun k hk=>by omega) ?_ (by omega) (by omega) D ?_ (zaa Hrep) hnn (fun ys hR=>?_) h0
  ·rw [hW.cell (p:=⟨w1.heap.size+1,0,none⟩) (by simp)]
   exact zab (zad _ _ _ (by simp)) 0
  ·obtain ⟨es,clock,hb,Ft,hs,hD⟩:=(zaa Hown)
   exact ⟨es,clock,(hbW.block mb hml).trans hb,Ft,hs,hD⟩
  ·exact zb6 ((zaa Hown).tidy ze5) hR.wf (hR.rising.imp (fun {a b} h e=>by subst e;unfold ltR at h;omega)) (fun x hx=>(hR.mem x (hR.wf x hx)).1 hx)
 refine wpIn_rangeFunc_ownH rfl h1 (gf:=111) (lb:=#[.pointer (some ⟨w1.heap.size+1,0,none⟩)]) rfl trivial (enters_of Tryz.func111 (by kernel_rfl) rfl) hseq zan.trans (fun W l o o' _ h1 h2 h3=>zan.put W l o o' h1 h2 h3) (Below.refl _ _) (fun _=>rfl)
  (zj7 w ar Br g (Maps.size D) Bp rb)
  (fun _ _ _=>False)
  (zj7.own w ar Br g (Maps.size D) Bp rb _ (by simp;omega))
  (fun _ _ _ _ _ hs _ _=>hs)
  ?start
  (fun x a' W=>∃ Bx,W.heap[Bx]? = some (.cells #[.int .i64 x.1.1,.int .i64 x.1.2.1,.int .i64 x.1.2.2] 77 (0,0)) ∧
   a'={ tmps:=#[.pointer (some ⟨eb,0,none⟩),.string nm,undef,undef,.slice none 0 0,.int .i64 0,.pointer (some ⟨w.heap.size,0,none⟩),.bool true,.pointer (some ⟨w1.heap.size,0,none⟩),.pointer (some ⟨Bx,0,none⟩),.int .i64 x.2,
    .tuple #[.pointer (some ⟨rb,0,none⟩),.bool true],.pointer (some ⟨eb,0,none⟩),.pointer (some ⟨eb,0,none⟩),.pointer (some ⟨eb,0,none⟩),.map (some db),.string nm,.tuple #[.pointer (some ⟨rb,0,none⟩),.bool true],.pointer (some ⟨rb,0,none⟩),.bool true,.bool true,.bool false,.pointer (some ⟨rb,0,none⟩),.int .i64 (Maps.size D),.slice (some ⟨w.heap.size+1,0,none⟩) 0 (Maps.size D),.pointer (some ⟨rb,0,none⟩),.func (.func 111) #[] #[.pointer (some ⟨w1.heap.size+1,0,none⟩)],.agg #[.int .i64 x.1.1,.int .i64 x.1.2.1,.int .i64 x.1.2.2],.int .i64 x.2,undef,undef,undef,undef,undef,undef,undef,undef,undef],defers:=[] })
  (fun x a' _ X Y row hs hg hr=>by
   obtain ⟨Bx,h2,h3⟩:=hs
   refine ⟨Bx,(hg.block Bx (Array.getElem?_eq_some_iff.1 h2).1 (fun e=>?_)).trans h2,h3⟩
   obtain ⟨_,o,ho,hc⟩:=hr Bx e.symm
   rw [h2] at ho
   cases ho
   cases hc)
  ?assign ?body ?done ?stop
 case start =>
  subst hBr hgE hBp
  refine ⟨[],rfl,(Boxed.new w1 34 _).alloc _,(hrow1'.alloc _).alloc _,⟨List.Pairwise.nil,fun p hp=>by simp at hp⟩,(bP1.alloc _).alloc _,(hb1.alloc hb1.size _).alloc (by simp;omega) _⟩
 case assign =>
  rintro l pre x W K hI hK
  gi_wp2
  refine hK _ _ ((KeepsOthers.alloc _ _).from _) (zan.of_grown (World.grownBy_alloc _ _ none) (fun j e=>by cases e)) ?_ ⟨W.heap.size,zad _ _ _ rfl,rfl⟩
  exact (zj7.own w ar Br g (Maps.size D) Bp rb _ (Nat.le_refl _)).alloc _ hI
 case body =>
  rintro l pre x a' W hl ⟨r,hr⟩ ⟨xs,hm,bS,hrow,hvs,bP,hB⟩ ⟨Bx,hX,rfl⟩ hlt
  obtain ⟨⟨x1,x2,x3⟩,xw⟩:=x
  dsimp only at hX ⊢
  subst hBr hgE hBp
  have c0:W.cell? ⟨Bx,0,none⟩=some (.int .i64 x1):=zab hX 0
  have c1:W.cell? ⟨Bx,1,none⟩=some (.int .i64 x2):=zab hX 1
  have c2:W.cell? ⟨Bx,2,none⟩=some (.int .i64 x3):=zab hX 2
  have cS:=bS.cell
  have cP:=bP.cell
  have hBs:=hB.size
  have hrW:W.heap[rb]? = some (.cells #[.int .i64 ar,.map (some mb)] 129 (0,0)):=(hB.block rb hrl).trans (zaa Hrel)
  have hcopy:=hide (zpl W (Bx:=Bx) hX)
  have hsl:∀ q,(Instr.sliceAt 77 (.pointer (some ⟨Bx,0,none⟩)) none (some (.int .i64 ar)) none).run Tryz.prog q=.ok (.slice (some ⟨Bx,0,none⟩) ar 3) q:=ztk ar har Bx
  have Har:=hide har
  have HX:=hide hX
  have HW:Hid (W.heap[rb]? = some (.cells #[.int .i64 ar,.map (some mb)] 129 (0,0))):=hrW
  have HbS:=hide bS
  have Hrow:=hide hrow
  have hltB:pre.length+1≤Maps.size D:=by omega
  clear hX hrW har
  gi_wp2_with fail
  gi_region_with (first
   | (refine ⟨trivial,fun _=>by omega,?_⟩;gi_at_call 40;refine (show CallsIn Fence.wide _ _ _ _ _ _ from (callsIn_wide.2 (zjn rb _ mb _ (by exact zaa HW)))).mono ?_;rintro e w' ⟨rfl,hw'⟩;replace hw':=hw'.symm;subst hw')
   | (refine ⟨trivial,fun _=>by omega,?_⟩;gi_at_call 39;refine (show CallsIn Fence.wide _ _ _ _ _ _ from (callsIn_wide.2 (zkg ar (zaa Har) x1 x2 x3 xw Bx W.drew (by exact zaa HX)))).mono ?_;rintro e w2 ⟨rfl,hv2,hg2⟩;have bS2:=(zaa HbS).kept (hg2w hg2) (by simp);have cS0:=bS2.cell;have cS2:=(bS2.alloc (.cells #[.slice (some ⟨W.heap.size+1,0,none⟩) ar ar,.int .i64 xw] 79)).cell;obtain ⟨w3,hA,hrow3,hg3⟩:=apFits (zaa Hrow) (hg2w hg2) hi hz1 (W.heap.size+1) ar xw hltB;have hc3:=((bS2.alloc (.cells #[.slice (some ⟨W.heap.size+1,0,none⟩) ar ar,.int .i64 xw] 79)).kept hg3 (by simp;omega)).cell;have hf3:=((bS2.alloc (.cells #[.slice (some ⟨W.heap.size+1,0,none⟩) ar ar,.int .i64 xw] 79)).kept hg3 (by simp;omega)).frozen))
  all_goals exact zj9 hm (zaa HbS) (zaa Hrow) hvs bP hB (hg2w hg2) (vb:=W.heap.size+1) (x:=((x1,x2,x3),xw)) hv2 hrow3 hg3 (by simp;omega) (by simp;omega) (by omega) (by omega) (by omega)
 case done =>
  rintro Dk zs W hD ⟨ys,hR,rfl⟩ ⟨xs,hm,bS,hrow,hvs,bP,hB⟩ hK
  have cS:=bS.cell
  subst hBr hgE hBp
  gi_wp2
  refine ⟨by simp,.inl ⟨_,_,rfl,run_takeDeferred hK,?_⟩⟩
  have hlen:(za3 f ys).length=xs.length:=by rw [← hm];simp
  have hpg:=grownBy_putObj' W Dk (.deferred none)
  refine ⟨_,results_tmp2 rfl _ _ _,_,ys,xs,rfl,hR,hm,?_,?_,?_⟩
  ·rw [← hlen];exact ownsRow_putObj hrow _ hK rfl
  ·exact hvs.kept hpg (fun j e cur hj=>by cases e;rw [hK] at hj;cases hj)
  ·exact hB.trans (belowK_b (w:=w) (Nat.le_refl _) W Dk _ _ (by simp at hD;omega) hK rfl rfl)
 case stop =>
  rintro D c pre W _ _ h _
  exact h.elim
end
def zcn (ar:Nat) (y:Row):List Int:=[y.1,y.2.1,y.2.2].take ar
theorem zqa (ar:Nat) (y:Row):zgp ar y=(zcn ar y).map (Value.int .i64):=by simp [zgp,zcn,encR]
theorem zlv (ar:Nat) (xs:List ((Row×Int)×Nat)) (i j:Nat) (hi:i<xs.length) (hj:j<2):(zci ar xs)[i*2+j]? = [Value.slice (some ⟨xs[i].2,0,none⟩) ar ar,.int .i64 xs[i].1.2][j]?:=by
 induction xs generalizing i with
 | nil=>simp at hi
 | cons p ps ih =>
  have e:zci ar (p :: ps)=[Value.slice (some ⟨p.2,0,none⟩) ar ar,.int .i64 p.1.2] ++ zci ar ps:=rfl
  rw [e]
  cases i with
  | zero=>rw [List.getElem?_append_left (by simp;omega)];simp
  | succ i =>
   have h2:(i+1)*2+j - 2=i*2+j:=by omega
   rw [List.getElem?_append_right (by simp;omega)]
   simp only [List.length_cons,List.length_nil,Nat.zero_add,Nat.reduceAdd,h2]
   rw [ih i (by simpa using hi)]
   simp
theorem ziq {w:World} {m ar:Nat} {v:Value} {xs:List ((Row×Int)×Nat)} (har:ar≤3) (h:w.ownsRow m 79 2 v xs.length (zci ar xs)) (hr:zdl w m ar xs):zdm w v (xs.map fun p=>(zcn ar p.1.1,p.1.2)):=by
 rcases h.2 with ⟨rfl,h0⟩|⟨g,cap,cur,rfl,_,hg,_,_,_,ht⟩
 ·have:xs=[]:=List.eq_nil_of_length_eq_zero h0
  subst this
  exact ⟨none,0,rfl,fun i hi=>by simp at hi⟩
 ·refine ⟨some ⟨g,0,none⟩,cap,by simp,fun i hi=>?_⟩
  have hi':i<xs.length:=by simpa using hi
  have hx:((xs.map fun p=>(zcn ar p.1.1,p.1.2))[i]?.getD ([],0))=(zcn ar xs[i].1.1,xs[i].1.2):=by simp [hi']
  rw [hx]
  have hcell:∀ j,j<2→cur[i*2+j]? = [Value.slice (some ⟨xs[i].2,0,none⟩) ar ar,.int .i64 xs[i].1.2][j]?:=by
   intro j hj
   rw [← zlv ar xs i j hi' hj,← ht,List.getElem?_take_of_lt (by omega)]
   simp
  refine ⟨g,0,.slice (some ⟨xs[i].2,0,none⟩) ar ar,rfl,?_,?_,?_⟩
  ·rw [zab hg,Nat.zero_add];exact hcell 0 (by omega)
  ·have hb:=(hr.2 _ (List.getElem_mem hi')).1
   rw [zqa] at hb
   have hl:(zcn ar xs[i].1.1).length=ar:=by simp [zcn];omega
   have:=zez hb ar
   rwa [hl] at this
  ·rw [zab hg,Nat.zero_add];exact hcell 1 (by omega)
structure zh0 (f:Row→Int) (ys:List Row):Prop where
 rising:zjt ys
 wf:∀ y∈ys,zav y
 mem:∀ r,zav r→(r∈ys↔f r≠0)
def zbz (ar:Nat) (f:Row→Int) (ys:List Row):List (List Int×Int):=ys.map fun y=>(zcn ar y,f y)
theorem zur (nm:ByteArray) (w:World) {eb db nD S0 E:Nat} {st:St} {R:Rel} (hE:zay w eb db nD S0 E st) (hnm:nm.size≤maxLen) (hR:st nm=some R) (har:R.ar=1∨R.ar=2∨R.ar=3) (hnn:R.n≤1000000000) :
  Calls Tryz.prog 19 #[.pointer (some ⟨eb,0,none⟩),.string nm] w fun e w'=>∃ v ys,e=.returned (.tuple #[v,.int .i64 0])∧zh0 R.f ys∧zdm w' v (zbz R.ar R.f ys)∧ys.length≤R.n∧Below w.heap.size w w':=by
 obtain ⟨D,hown,hrep⟩:=(hE.rel nm R hR).2
 refine ((callsIn_wide (n:=5)).1 (rows_in 5 (by omega) nm w hE hnm hR har hnn D hown hrep)).mono ?_
 rintro e w' ⟨v,ys,xs,rfl,hRo,hm,ho,hv,hb⟩
 have hro:zh0 R.f ys:=⟨hRo.rising,hRo.wf,fun r hr=>(hRo.mem r hr).trans (hrep.has_ r hr)⟩
 have hz:(xs.map fun p=>(zcn R.ar p.1.1,p.1.2))=zbz R.ar R.f ys:=by
  have e1:(xs.map fun p=>(zcn R.ar p.1.1,p.1.2))=(xs.map (·.1)).map fun q=>(zcn R.ar q.1,q.2):=by simp
  rw [e1,hm];simp [za3,zbz]
 have hlen:ys.length≤R.n:=Nat.le_trans (zb6 (hown.tidy ze5) hRo.wf (hRo.rising.imp (fun {a b} h e=>by subst e;unfold ltR at h;omega)) (fun x hx=>(hRo.mem x (hRo.wf x hx)).1 hx)) hown.size_le
 exact ⟨v,ys,rfl,hro,hz ▸ ziq (by omega) ho hv,hlen,hb⟩
theorem zdm.below {w w':World} {v:Value} {rs:List (List Int×Int)} (h:zdm w v rs) (hb:Below w.heap.size w w'):zdm w' v rs:=by
 obtain ⟨a,cap,rfl,hc⟩:=h
 exact ⟨a,cap,rfl,fun i hi=>by
  obtain ⟨b,o,sv,ha,h1,h2,h3⟩:=hc i hi
  exact ⟨b,o,sv,ha,(hb.cell (p:=⟨b,_,none⟩) (World.block_lt_of_cell? w _ h1)).trans h1,h2.below hb,(hb.cell (p:=⟨b,_,none⟩) (World.block_lt_of_cell? w _ h3)).trans h3⟩⟩
end Go.Proofs.YtoifcnidhfnapaaGreatDoor
namespace Go.Proofs.YtoifcnidhfnapaaGreatDoor
namespace K
open Go.RowKit Go.Maps
def InAr (ar:Nat) (y:Row):Prop:=zbx (zcn ar y)=y
theorem nums_pad {ar:Nat} {zs:List Int} (h:zs.length=ar) (h3:ar≤3):zcn ar (zbx zs)=zs:=by
 subst h
 match zs,h3 with
 | [],_=>rfl
 | [x],_=>rfl
 | [x,x2],_=>rfl
 | [x,x2,x3],_=>rfl
theorem zko {ar:Nat} {f:Row→Int} {zs:List Int} (h:zs.length=ar) (h3:ar≤3):∀ (ys:List Row),(∀ y∈ys,InAr ar y)→zbi (zbz ar f ys) zs=if zbx zs∈ys then f (zbx zs) else 0
 | [],_=>by simp [zbz,zbi]
 | y :: ys,hy=>by
  have ih:=zko (f:=f) h h3 ys (fun z hz=>hy z (List.mem_cons_of_mem _ hz))
  have hy0:=hy y List.mem_cons_self
  have e:zbz ar f (y :: ys)=(zcn ar y,f y) :: zbz ar f ys:=rfl
  rw [e]
  simp only [zbi]
  by_cases e1:zcn ar y=zs
  ·have e2:zbx zs=y:=by rw [← e1];exact hy0
   rw [if_pos e1,e2]
   simp
  ·have e2:zbx zs≠y:=fun e2=>e1 (by rw [← e2];exact nums_pad h h3)
   rw [if_neg e1,ih]
   simp [e2]
theorem zn4 {ar:Nat} {f:Row→Int} {zs:List Int} {ys:List Row} (h:zs.length=ar) (h3:ar≤3) (hy:∀ y∈ys,InAr ar y) (hR:zh0 f ys) (hw:zav (zbx zs)):zbi (zbz ar f ys) zs=f (zbx zs):=by
 rw [zko h h3 ys hy]
 by_cases e:zbx zs∈ys
 ·rw [if_pos e]
 ·rw [if_neg e]
  have:¬ f (zbx zs)≠0:=fun h=>e ((hR.mem _ hw).2 h)
  omega
theorem zzo {y:Row}:(y∈zdt→InAr 2 y)∧(y∈zhz→InAr 1 y):=by
 constructor
 ·intro h
  simp only [zdt,List.mem_flatMap,List.mem_map] at h
  obtain ⟨a,_,b,_,rfl⟩:=h
  rfl
 ·intro h
  simp only [zhz,List.mem_map] at h
  obtain ⟨a,_,rfl⟩:=h
  rfl
def zef (p:Nat→Bool):Nat→Nat
 | 0=>0
 | i+1=>zef p i+if p i then 1 else 0
theorem zlp (p:Nat→Bool):∀ n,zef p n=((List.range n).filter p).length
 | 0=>rfl
 | n+1=>by
  rw [List.range_succ,List.filter_append,List.length_append,zef,zlp p n]
  congr 1
  by_cases h:p n <;> simp [h]
theorem wf_grid1:∀ y∈zhz,zav y:=by
 intro y h
 simp only [zhz,List.mem_map] at h
 obtain ⟨a,ha,rfl⟩:=h
 exact ⟨zb1 ha,zca,zca⟩
def qryT:Int→ByteArray
 | 0=>⟨#[40,88,44,90,41,58,45,114,40,88,44,89,41,44,115,40,89,44,90,41]⟩
 | 1=>⟨#[40,88,41,58,45,114,40,88,44,88,41,44,116,40,88,41]⟩
 | 2=>⟨#[40,88,44,89,44,90,41,58,45,114,40,88,44,89,41,44,114,40,89,44,90,41,44,115,40,90,44,88,41]⟩
 | 3=>⟨#[40,41,58,45,114,40,88,44,89,41,44,116,40,89,41]⟩
 | 4=>⟨#[40,89,44,89,41,58,45,115,40,49,44,89,41,44,116,40,90,41,44,114,40,90,44,89,41]⟩
 | 5=>⟨#[40,32,88,32,41,32,58,45,32,114,40,88,44,32,89,41,44,32,115,40,90,44,32,89,41,44,32,116,40,48,41]⟩
 | 6=>⟨#[40,88,44,89,41,58,45,114,40,88,44,90,41,44,114,40,90,44,89,41,44,114,40,89,44,88,41,44,116,40,90,41]⟩
 | _=>⟨#[40,41,58,45,116,40,49,41,44,114,40,48,44,45,48,41]⟩
def qryV:Int→ByteArray
 | 0=>⟨#[88,89,90]⟩
 | 1=>⟨#[88]⟩
 | 2=>⟨#[88,89,90]⟩
 | 3=>⟨#[88,89]⟩
 | 4=>⟨#[89,90]⟩
 | 5=>⟨#[88,89,90]⟩
 | 6=>⟨#[88,89,90]⟩
 | _=>⟨#[]⟩
set_option maxRecDepth 100000 in
set_option maxHeartbeats 2000000 in
theorem zzh (c:Int) (W:World) (hc:-9223372036854775808≤c) (hc2:c≤9223372036854775807) :
  Calls Tryz.prog 15 #[.int .i64 c] W fun e w'=>e=.returned (.tuple #[.string (qryT (zcm c 8)),.string (qryV (zcm c 8))])∧w'=W:=by
 obtain ⟨k,hk⟩:∃ k,k=zcm c 8:=⟨_,rfl⟩
 have hr:=zdg c 8 (by omega)
 rw [← hk] at hr ⊢
 have HK:Hid (k=zcm c 8):=hk
 clear hk
 have hcase:k=0∨k=1∨k=2∨k=3∨k=4∨k=5∨k=6∨k=7:=by omega
 rcases hcase with rfl|rfl|rfl|rfl|rfl|rfl|rfl|rfl
 all_goals
  go_enter Tryz.func15,Tryz.ntmps15
  go_wp2_with (first|(go_at_call 25;refine (zjl _ 8 _ hc hc2 (by omega) (by omega)).mono ?_;rintro e w1 ⟨rfl,hw⟩;replace hw:=hw.symm;subst hw;rw [← HK.out]))
  go_ret2
  exact ⟨rfl,rfl⟩
end K
end Go.Proofs.YtoifcnidhfnapaaGreatDoor
