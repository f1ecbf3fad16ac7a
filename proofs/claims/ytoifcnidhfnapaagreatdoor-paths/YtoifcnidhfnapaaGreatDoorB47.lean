import Derived.Test.YtoifcnidhfnapaaGreatDoorB46
import Derived.Test.YtoifcnidhfnapaaGreatDoorB37
import Derived.Test.YtoifcnidhfnapaaGreatDoorB44
set_option linter.unusedVariables false
set_option linter.unusedSimpArgs false
set_option maxRecDepth 100000
set_option maxHeartbeats 16000000
namespace Go.Proofs.YtoifcnidhfnapaaGreatDoor
open Go.RowKit Go.Maps Go.Sort Go.Shelf
attribute [local go_sem] Oper.semAt_some
namespace H
def zcz (ar:Nat) (xs:List ((H4×Int)×Nat)):List Value:=xs.flatMap fun p=>[.slice (some ⟨p.2,0,none⟩) ar ar,.int .i64 p.1.2]
def zd2 (W:World) (B ar:Nat) (xs:List ((H4×Int)×Nat)):Prop:=(xs.Pairwise fun p q=>p.2<q.2)∧∀ p∈xs,W.heap[p.2]? = some (.cells (zh4 ar p.1.1).toArray 2 (0,0))∧B≤p.2
def zlq (w:World) (ar Br g cap Bp:Nat) (pre:List (H4×Int)) (W:World):Prop:=
 ∃ xs,xs.map (·.1)=pre∧Boxed W Br 34 (.slice (some ⟨g,0,none⟩) pre.length cap)∧W.ownsRow w.heap.size 79 2 (.slice (some ⟨g,0,none⟩) pre.length cap) pre.length (zcz ar xs)∧zd2 W w.heap.size ar xs ∧
  Boxed W Bp 3 (.int .i64 ar)∧Below w.heap.size w W
theorem zd2.kept {W W':World} {B ar:Nat} {xs:List ((H4×Int)×Nat)} {row:Option Nat} (h:zd2 W B ar xs) (hg:W.grownBy W' row) (hrow:∀ j,row=some j→∀ cur,W.heap[j]?≠some (.cells cur 2 (0,0))):zd2 W' B ar xs:=⟨h.1,fun p hp=>by
 obtain ⟨h1,h2⟩:=h.2 p hp
 refine ⟨(hg.block p.2 (Array.getElem?_eq_some_iff.1 h1).1 (fun e=>?_)).trans h1,h2⟩
 exact hrow p.2 e.symm _ h1⟩
theorem zlq.own (w:World) (ar Br g cap Bp B:Nat) (hB:w.heap.size≤B):OwnFrom B (zlq w ar Br g cap Bp):=by
 rintro pre W W' row ⟨xs,hm,b1,ho,hv,b2,hb⟩ hg hr
 have hno:∀ k cs t,W.heap[k]? = some (.cells cs t (0,0))→some k≠row:=fun k cs t hk e=>by
  obtain ⟨_,o,h1,h2⟩:=hr k e.symm
  rw [hk] at h1;cases h1;cases h2
 refine ⟨xs,hm,b1.kept hg (hno _ _ _ b1),ho.kept hg (.inr ?_),hv.kept hg (fun j e cur hj=>hno j _ _ hj e.symm),b2.kept hg (hno _ _ _ b2),hb.grown hg hb.size (fun k e=>Nat.le_trans hB (hr k e).1)⟩
 rcases ho.2 with ⟨h,_⟩|⟨g',cap',cur,h,_,hgh,_⟩
 ·cases h
 ·simp at h
  obtain ⟨rfl,_⟩:=h
  exact fun e=>hno _ _ _ hgh (by simpa [Value.ownBlock] using e)
theorem zlz {w W w2 w3:World} {ar Br g cap Bp B vb:Nat} {pre:List (H4×Int)} {x:H4×Int} {xs:List ((H4×Int)×Nat)} {tmp:Obj}
  (hm:xs.map (·.1)=pre) (bS:Boxed W Br 34 (.slice (some ⟨g,0,none⟩) pre.length cap)) (hrow:W.ownsRow w.heap.size 79 2 (.slice (some ⟨g,0,none⟩) pre.length cap) pre.length (zcz ar xs)) (hvs:zd2 W w.heap.size ar xs)
  (bP:Boxed W Bp 3 (.int .i64 ar)) (hB:Below w.heap.size w W) (hg2:W.grownBy w2 none) (hv2:w2.heap[vb]? = some (.cells (zh4 ar x.1).toArray 2 (0,0)))
  (hrow3:w3.ownsRow w.heap.size 79 2 (.slice (some ⟨g,0,none⟩) (pre.length+1) cap) (pre.length+1) (zcz ar xs ++ [.slice (some ⟨vb,0,none⟩) ar ar,.int .i64 x.2])) (hg3:(w2.alloc tmp).grownBy w3 (some g))
  (hgB:g<B) (hBB:Br<B) (hwg:w.heap.size≤g) (hwB:w.heap.size≤Br) (hvb:W.heap.size≤vb) :
  KeepsFrom B W (w3.setCell ⟨Br,0,none⟩ (.slice (some ⟨g,0,none⟩) (pre.length+1) cap))∧zar (fun k=>k=Br∨k=g) W (w3.setCell ⟨Br,0,none⟩ (.slice (some ⟨g,0,none⟩) (pre.length+1) cap)) ∧
   zlq w ar Br g cap Bp (pre ++ [x]) (w3.setCell ⟨Br,0,none⟩ (.slice (some ⟨g,0,none⟩) (pre.length+1) cap)):=by
 have hA:W.grownBy (w2.alloc tmp) none:=hg2.trans (World.grownBy_alloc _ _ none)
 have hC:=grownBy_setCell' w3 Br (.slice (some ⟨g,0,none⟩) (pre.length+1) cap)
 obtain ⟨cur,hgh⟩:∃ cur,W.heap[g]? = some (.cells cur 79 (0,0)):=by
  rcases hrow.2 with ⟨h,_⟩|⟨g',cap',cur,h,_,hgh,_⟩
  ·cases h
  ·simp at h;obtain ⟨rfl,_⟩:=h;exact ⟨cur,hgh⟩
 have hne:Br≠g:=fun e=>by rw [e] at bS;rw [show W.heap[g]? = _ from bS] at hgh;simp at hgh
 have hnP:Bp≠g:=fun e=>by rw [e] at bP;rw [show W.heap[g]? = _ from bP] at hgh;simp at hgh
 have hnP2:Bp≠Br:=fun e=>by rw [e] at bP;have h9:W.heap[Br]? = _:=bS;rw [show W.heap[Br]? = _ from bP] at h9;simp at h9
 have bS3:Boxed w3 Br 34 (.slice (some ⟨g,0,none⟩) pre.length cap):=(bS.kept hA (by simp)).kept hg3 (by simp [hne])
 have hghA:(w2.alloc tmp).heap[g]? = some (.cells cur 79 (0,0)):=(hA.block g (Array.getElem?_eq_some_iff.1 hgh).1 (by simp)).trans hgh
 refine ⟨((KeepsFrom.of_grownBy hA (fun j e=>by cases e)).trans (KeepsFrom.of_grownBy hg3 (fun j e=>by cases e;exact hgB))).trans (KeepsFrom.of_grownBy hC (fun j e=>by cases e;exact hBB)),
  ((zar.of_grown hA (fun j e=>by cases e)).trans (zar.of_grown hg3 (fun j e=>by cases e;exact .inr rfl))).trans (zar.of_grown hC (fun j e=>by cases e;exact .inl rfl)),?_⟩
 have hl:(pre ++ [x]).length=pre.length+1:=by simp
 refine ⟨xs ++ [(x,vb)],by simp [hm],?_,?_,?_,?_,?_⟩
 ·rw [hl];exact bS3.set _
 ·rw [hl]
  have e:zcz ar (xs ++ [(x,vb)])=zcz ar xs ++ [.slice (some ⟨vb,0,none⟩) ar ar,.int .i64 x.2]:=by simp [zcz]
  rw [e]
  exact hrow3.kept hC (.inr (by simp [Value.ownBlock];omega))
 ·have h2:zd2 w2 w.heap.size ar (xs ++ [(x,vb)]):=by
   refine ⟨List.pairwise_append.2 ⟨hvs.1,List.pairwise_singleton _ _,fun p hp q hq=>?_⟩,fun p hp=>?_⟩
   ·simp at hq;subst hq;exact Nat.lt_of_lt_of_le (Array.getElem?_eq_some_iff.1 (hvs.2 p hp).1).1 hvb
   ·rcases List.mem_append.1 hp with hp|hp
    ·exact (hvs.kept hg2 (fun j e=>by cases e)).2 p hp
    ·simp at hp;subst hp;exact ⟨hv2,Nat.le_trans hB.size hvb⟩
  refine ((h2.kept (World.grownBy_alloc _ tmp none) (fun j e=>by cases e)).kept hg3 (fun j e c hj=>?_)).kept hC (fun j e c hj=>?_)
  ·cases e;rw [hghA] at hj;simp at hj
  ·cases e;rw [show w3.heap[Br]? = _ from bS3] at hj;simp at hj
 ·exact ((bP.kept hA (by simp)).kept hg3 (by simp [hnP])).kept hC (by simp [hnP2])
 ·refine ((hB.grown hA hB.size (fun k e=>by cases e)).grown hg3 (Nat.le_trans hB.size hA.size) (fun k e=>by cases e;exact hwg)).grown hC (Nat.le_trans (Nat.le_trans hB.size hA.size) hg3.size) (fun k e=>by cases e;exact hwB)
theorem zsy (W:World) {Bx:Nat} {cs:Array Value} (h:W.heap[Bx]? = some (.cells cs 134 (0,0))):Bx<W.heap.size:=(Array.getElem?_eq_some_iff.1 h).1
theorem yhc (ar:Nat) (h:ar=0∨ar=1∨ar=2∨ar=3∨ar=4) (Bx:Nat) (q:World):(Instr.sliceAt 134 (.pointer (some ⟨Bx,0,none⟩)) none (some (.int .i64 ar)) none).run Tryz.prog q=.ok (.slice (some ⟨Bx,0,none⟩) ar 4) q:=by
 rcases h with rfl|rfl|rfl|rfl|rfl <;> kernel_rfl
theorem zx0 (ar:Nat) (har:ar≤4) (Bx:Nat) (q:World):(Instr.sliceAt 134 (.pointer (some ⟨Bx,0,none⟩)) none (some (.int .i64 ar)) none).run Tryz.prog q=.ok (.slice (some ⟨Bx,0,none⟩) ar 4) q:=yhc ar (by omega) Bx q
theorem zki (mb:Nat) (w:World):Calls Tryz.prog 66 #[.map (some mb)] w fun e w'=>e=.returned (.func (.func 114) #[] #[.pointer (some ⟨w.heap.size,0,none⟩)])∧w'=w.alloc (.cells #[.map (some mb)] 87):=by
 go_enter Tryz.func66,Tryz.ntmps66
 go_wp2
 go_ret
 exact ⟨rfl,rfl⟩
section
attribute [local go_sem ↓] zhb
theorem yjo (n:Nat) (hn:5≤n) (w:World) (mb nn ar:Nat) (f:H4→Int) (har:ar≤4) (hnn:nn≤1000000000) (D:DataW Unit) (hown:w.ownsMap Tryz.prog 134 (plainElem Tryz.prog 2) mb nn D) (hrep:zyq D f) :
  CallsIn Fence.wide n Tryz.prog 41 #[.map (some mb),.int .i64 ar] w fun e w'=>∃ v ys xs,e=.returned v∧zdg D ys∧xs.map (·.1)=za6 f ys∧w'.ownsRow w.heap.size 79 2 v xs.length (zcz ar xs)∧zd2 w' w.heap.size ar xs∧Below w.heap.size w w':=by
 have h1:1≤n:=by omega
 have hszD:=hown.size_le
 obtain ⟨i62,hi,hz0,hz1,hz2⟩:=info_parts Tryz.info79
 have hml:=hown.lt
 have hown0:=hown.alloc (.cells #[.int .i64 ar] 3)
 have Hown:=zac hown
 have Hrep:=zac hrep
 clear hown hrep
 refine callsIn_of_wp_marks Tryz.func41 rfl trivial ?_ rfl
 simp only [Tryz.ntmps41,List.size_toArray,List.length_cons,List.length_nil,Nat.reduceAdd,Nat.reduceSub,Array.replicate_succ,Array.replicate_zero,List.push_toArray,List.append_toArray,List.nil_append,List.cons_append]
 gi_wp2_with (first
  | (gi_at_len;refine wpListIn_len_own _ rfl _ 87 rfl 134 2 Tryz.underlying87 _ mb nn D rfl hown0 ?_)
  | (gi_at_make;refine wpListIn_make_own _ rfl _ _ _ rfl w.heap.size 79 i62 _ 2 Tryz.underlying34 hi hz0 hz1 _ _ _ (Maps.size D) rfl rfl rfl (by rw [hz2];omega) (by unfold maxLen;omega) (by simp) ?_;intro w1 hrow1 hg1;have bP1:Boxed w1 w.heap.size 3 (.int .i64 ar):=(Boxed.new w 3 _).kept hg1 (by simp))
  | (refine ⟨trivial,?_⟩;gi_at_call 66;refine (callsIn_wide.2 (zki mb _)).mono ?_;rintro e w' ⟨rfl,rfl⟩))
 have hb1:Below w.heap.size w w1:=((Below.refl _ w).alloc (Nat.le_refl _) _).grown hg1 (by simp) (fun k e=>by cases e)
 have hs1:w.heap.size+2≤w1.heap.size:=by
  rcases hrow1.2 with ⟨h,_⟩|⟨g,cap,cur,h,_,hgh,_⟩
  ·simp at h
  ·have:=(Array.getElem?_eq_some_iff.1 hgh).1
   simp at h
   omega
 have hrow1':w1.ownsRow w.heap.size 79 2 (.slice (some ⟨w.heap.size+1,0,none⟩) 0 (Maps.size D)) 0 []:=by simpa using hrow1
 clear hrow1 hg1 hown0
 obtain ⟨Bp,hBp⟩:∃ Bp,Bp=w.heap.size:=⟨_,rfl⟩
 obtain ⟨g,hgE⟩:∃ g,g=w.heap.size+1:=⟨_,rfl⟩
 obtain ⟨Br,hBr⟩:∃ Br,Br=w1.heap.size:=⟨_,rfl⟩
 have hseq:SeqStopsK Fence.wide (n - 1) Tryz.prog 114 #[.pointer (some ⟨w1.heap.size+1,0,none⟩)] (fun x:H4×Int=>#[Value.agg #[.int .i64 x.1.1,.int .i64 x.1.2.1,.int .i64 x.1.2.2.1,.int .i64 x.1.2.2.2],.int .i64 x.2]) (zar fun k=>k=Br∨k=g) (fun xs=>∃ ys,zdg D ys∧xs=za6 f ys) (fun _=>True) (Maps.size D) ((w1.alloc (.cells #[.slice (some ⟨w.heap.size+1,0,none⟩) 0 (Maps.size D)] 34)).alloc (.cells #[.map (some mb)] 87)):=fun l J Jx W hW hJ _ hY h0=>by
  have hsW:=hW.size
  simp at hsW
  have hml:=(zaa Hown).lt
  have hbW:Below w.heap.size w W:=(((hb1.alloc hb1.size _).alloc (by simp;omega) _)).trans (hW.mono (by simp;omega))
  refine zwg (n - 1) (by omega) l (w1.heap.size+1) mb nn f _ J Jx (Maps.size D) hY W hJ (fun k hk=>by omega) ?_ (by omega) (by omega) D ?_ (zaa Hrep) hnn (fun ys hR=>?_) h0
  ·rw [hW.cell (p:=⟨w1.heap.size+1,0,none⟩) (by simp)]
   exact zab (zae _ _ _ (by simp)) 0
  ·obtain ⟨es,clock,hb,Ft,hs,hD⟩:=(zaa Hown)
   exact ⟨es,clock,(hbW.block mb hml).trans hb,Ft,hs,hD⟩
  ·exact zco ((zaa Hown).tidy zy4) hR.wf (hR.rising.imp (fun {a b} h e=>by subst e;unfold ltR at h;omega)) (fun x hx=>(hR.mem x (hR.wf x hx)).1 hx)
 refine wpIn_rangeFunc_ownH rfl h1 (gf:=114) (lb:=#[.pointer (some ⟨w1.heap.size+1,0,none⟩)]) rfl trivial (enters_of Tryz.func114 (by kernel_rfl) rfl) hseq zar.trans (fun W l o o' _ h1 h2 h3=>zar.put W l o o' h1 h2 h3) (Below.refl _ _) (fun _=>rfl)
  (zlq w ar Br g (Maps.size D) Bp)
  (fun _ _ _=>False)
  (zlq.own w ar Br g (Maps.size D) Bp _ (by simp;omega))
  (fun _ _ _ _ _ hs _ _=>hs)
  ?start
  (fun x a' W=>∃ Bx,W.heap[Bx]? = some (.cells #[.int .i64 x.1.1,.int .i64 x.1.2.1,.int .i64 x.1.2.2.1,.int .i64 x.1.2.2.2] 134 (0,0)) ∧
   a'={ tmps:=#[.map (some mb),.int .i64 ar,undef,.pointer (some ⟨w.heap.size,0,none⟩),.slice none 0 0,.pointer (some ⟨w1.heap.size,0,none⟩),.pointer (some ⟨Bx,0,none⟩),.int .i64 x.2,.map (some mb),.int .i64 (Maps.size D),.slice (some ⟨w.heap.size+1,0,none⟩) 0 (Maps.size D),.map (some mb),.func (.func 114) #[] #[.pointer (some ⟨w1.heap.size+1,0,none⟩)],.agg #[.int .i64 x.1.1,.int .i64 x.1.2.1,.int .i64 x.1.2.2.1,.int .i64 x.1.2.2.2],.int .i64 x.2,undef,undef,undef,undef,undef,undef,undef,undef],defers:=[] })
  (fun x a' _ X Y row hs hg hr=>by
   obtain ⟨Bx,h2,h3⟩:=hs
   refine ⟨Bx,(hg.block Bx (Array.getElem?_eq_some_iff.1 h2).1 (fun e=>?_)).trans h2,h3⟩
   obtain ⟨_,o,ho,hc⟩:=hr Bx e.symm
   rw [h2] at ho
   cases ho
   cases hc)
  ?assign ?body ?done ?stop
 case start =>
  subst hBr hgE hBp
  refine ⟨[],rfl,(Boxed.new w1 34 _).alloc _,(hrow1'.alloc _).alloc _,⟨List.Pairwise.nil,fun p hp=>by simp at hp⟩,(bP1.alloc _).alloc _,(hb1.alloc hb1.size _).alloc (by simp;omega) _⟩
 case assign =>
  rintro l pre x W K hI hK
  gi_wp2
  refine hK _ _ ((KeepsOthers.alloc _ _).from _) (zar.of_grown (World.grownBy_alloc _ _ none) (fun j e=>by cases e)) ?_ ⟨W.heap.size,zae _ _ _ rfl,rfl⟩
  exact (zlq.own w ar Br g (Maps.size D) Bp _ (Nat.le_refl _)).alloc _ hI
 case body =>
  rintro l pre x a' W hl ⟨r,hr⟩ ⟨xs,hm,bS,hrow,hvs,bP,hB⟩ ⟨Bx,hX,rfl⟩ hlt
  obtain ⟨⟨x1,x2,x3,x4⟩,xw⟩:=x
  dsimp only at hX ⊢
  subst hBr hgE hBp
  have c0:W.cell? ⟨Bx,0,none⟩=some (.int .i64 x1):=zab hX 0
  have c1:W.cell? ⟨Bx,1,none⟩=some (.int .i64 x2):=zab hX 1
  have c2:W.cell? ⟨Bx,2,none⟩=some (.int .i64 x3):=zab hX 2
  have c3:W.cell? ⟨Bx,3,none⟩=some (.int .i64 x4):=zab hX 3
  have cS:=bS.cell
  have cP:=bP.cell
  have hBs:=hB.size
  have hcopy:=zac (zsy W (Bx:=Bx) hX)
  have hsl:∀ q,(Instr.sliceAt 134 (.pointer (some ⟨Bx,0,none⟩)) none (some (.int .i64 ar)) none).run Tryz.prog q=.ok (.slice (some ⟨Bx,0,none⟩) ar 4) q:=zx0 ar har Bx
  have Har:=zac har
  have HX:=zac hX
  have HbS:=zac bS
  have Hrow:=zac hrow
  have hltB:pre.length+1≤Maps.size D:=by omega
  clear hX har
  gi_wp2_with fail
  gi_region_with (first
   | (refine ⟨trivial,fun _=>by omega,?_⟩;gi_at_call 39;refine (show CallsIn Fence.wide _ _ _ _ _ _ from (callsIn_wide.2 (zme ar (zaa Har) x1 x2 x3 x4 xw Bx W.drew (by exact zaa HX)))).mono ?_;rintro e w2 ⟨rfl,hv2,hg2⟩;have bS2:=(zaa HbS).kept (yjx hg2) (by simp);have cS0:=bS2.cell;have cS2:=(bS2.alloc (.cells #[.slice (some ⟨W.heap.size+1,0,none⟩) ar ar,.int .i64 xw] 79)).cell;obtain ⟨w3,hA,hrow3,hg3⟩:=yh0 (zaa Hrow) (yjx hg2) hi hz1 (W.heap.size+1) ar xw hltB;have hc3:=((bS2.alloc (.cells #[.slice (some ⟨W.heap.size+1,0,none⟩) ar ar,.int .i64 xw] 79)).kept hg3 (by simp;omega)).cell;have hf3:=((bS2.alloc (.cells #[.slice (some ⟨W.heap.size+1,0,none⟩) ar ar,.int .i64 xw] 79)).kept hg3 (by simp;omega)).frozen))
  all_goals exact zlz hm (zaa HbS) (zaa Hrow) hvs bP hB (yjx hg2) (vb:=W.heap.size+1) (x:=((x1,x2,x3,x4),xw)) hv2 hrow3 hg3 (by simp;omega) (by simp;omega) (by omega) (by omega) (by omega)
 case done =>
  rintro Dk zs W hD ⟨ys,hR,rfl⟩ ⟨xs,hm,bS,hrow,hvs,bP,hB⟩ hK
  have cS:=bS.cell
  subst hBr hgE hBp
  gi_wp2
  refine ⟨by simp,.inl ⟨_,_,rfl,run_takeDeferred hK,?_⟩⟩
  have hlen:(za6 f ys).length=xs.length:=by rw [← hm];simp
  have hpg:=grownBy_putObj' W Dk (.deferred none)
  refine ⟨_,results_tmp rfl _ _ _,_,ys,xs,rfl,hR,hm,?_,?_,?_⟩
  ·rw [← hlen];exact ownsRow_putObj hrow _ hK rfl
  ·exact hvs.kept hpg (fun j e cur hj=>by cases e;rw [hK] at hj;cases hj)
  ·exact hB.trans (belowK_b (w:=w) (Nat.le_refl _) W Dk _ _ (by simp at hD;omega) hK rfl rfl)
 case stop =>
  rintro D c pre W _ _ h _
  exact h.elim
end
def zcv (ar:Nat) (y:H4):List Int:=[y.1,y.2.1,y.2.2.1,y.2.2.2].take ar
theorem zta (ar:Nat) (y:H4):zh4 ar y=(zcv ar y).map (Value.int .i64):=by simp [zh4,zcv,ze0]
theorem zn6 (ar:Nat) (xs:List ((H4×Int)×Nat)) (i j:Nat) (hi:i<xs.length) (hj:j<2):(zcz ar xs)[i*2+j]? = [Value.slice (some ⟨xs[i].2,0,none⟩) ar ar,.int .i64 xs[i].1.2][j]?:=by
 induction xs generalizing i with
 | nil=>simp at hi
 | cons p ps ih =>
  have e:zcz ar (p :: ps)=[Value.slice (some ⟨p.2,0,none⟩) ar ar,.int .i64 p.1.2] ++ zcz ar ps:=rfl
  rw [e]
  cases i with
  | zero=>rw [List.getElem?_append_left (by simp;omega)];simp
  | succ i =>
   have h2:(i+1)*2+j - 2=i*2+j:=by omega
   rw [List.getElem?_append_right (by simp;omega)]
   simp only [List.length_cons,List.length_nil,Nat.zero_add,Nat.reduceAdd,h2]
   rw [ih i (by simpa using hi)]
   simp
theorem zkf {w:World} {m ar:Nat} {v:Value} {xs:List ((H4×Int)×Nat)} (har:ar≤4) (h:w.ownsRow m 79 2 v xs.length (zcz ar xs)) (hr:zd2 w m ar xs):zdf w v (xs.map fun p=>(zcv ar p.1.1,p.1.2)):=by
 rcases h.2 with ⟨rfl,h0⟩|⟨g,cap,cur,rfl,_,hg,_,_,_,ht⟩
 ·have:xs=[]:=List.eq_nil_of_length_eq_zero h0
  subst this
  exact ⟨none,0,rfl,fun i hi=>by simp at hi⟩
 ·refine ⟨some ⟨g,0,none⟩,cap,by simp,fun i hi=>?_⟩
  have hi':i<xs.length:=by simpa using hi
  have hx:((xs.map fun p=>(zcv ar p.1.1,p.1.2))[i]?.getD ([],0))=(zcv ar xs[i].1.1,xs[i].1.2):=by simp [hi']
  rw [hx]
  have hcell:∀ j,j<2→cur[i*2+j]? = [Value.slice (some ⟨xs[i].2,0,none⟩) ar ar,.int .i64 xs[i].1.2][j]?:=by
   intro j hj
   rw [← zn6 ar xs i j hi' hj,← ht,List.getElem?_take_of_lt (by omega)]
   simp
  refine ⟨g,0,.slice (some ⟨xs[i].2,0,none⟩) ar ar,rfl,?_,?_,?_⟩
  ·rw [zab hg,Nat.zero_add];exact hcell 0 (by omega)
  ·have hb:=(hr.2 _ (List.getElem_mem hi')).1
   rw [zta] at hb
   have hl:(zcv ar xs[i].1.1).length=ar:=by simp [zcv];omega
   have:=zcj hb ar
   rwa [hl] at this
  ·rw [zab hg,Nat.zero_add];exact hcell 1 (by omega)
structure zg3 (f:H4→Int) (ys:List H4):Prop where
 rising:ze9 ys
 wf:∀ y∈ys,WfH y
 mem:∀ r,WfH r→(r∈ys↔f r≠0)
def zbj (ar:Nat) (f:H4→Int) (ys:List H4):List (List Int×Int):=ys.map fun y=>(zcv ar y,f y)
theorem znu (w:World) (mb nn ar:Nat) (f:H4→Int) (har:ar≤4) (hnn:nn≤1000000000) (hM:zgv w mb nn f) :
  Calls Tryz.prog 41 #[.map (some mb),.int .i64 ar] w fun e w'=>∃ v ys xs,e=.returned v∧zg3 f ys∧(xs.map fun p:(H4×Int)×Nat=>(zcv ar p.1.1,p.1.2))=zbj ar f ys∧w'.ownsRow w.heap.size 79 2 v xs.length (zcz ar xs)∧zd2 w' w.heap.size ar xs∧zdf w' v (zbj ar f ys)∧ys.length≤nn∧Below w.heap.size w w':=by
 obtain ⟨D,hown,hrep⟩:=hM
 refine ((callsIn_wide (n:=5)).1 (yjo 5 (by omega) w mb nn ar f har hnn D hown hrep)).mono ?_
 rintro e w' ⟨v,ys,xs,rfl,hRo,hm,ho,hv,hb⟩
 have hro:zg3 f ys:=⟨hRo.rising,hRo.wf,fun r hr=>(hRo.mem r hr).trans (hrep.has_ r hr)⟩
 have hz:(xs.map fun p=>(zcv ar p.1.1,p.1.2))=zbj ar f ys:=by
  have e1:(xs.map fun p=>(zcv ar p.1.1,p.1.2))=(xs.map (·.1)).map fun q=>(zcv ar q.1,q.2):=by simp
  rw [e1,hm];simp [za6,zbj]
 have hlen:ys.length≤nn:=Nat.le_trans (zco (hown.tidy zy4) hRo.wf (hRo.rising.imp (fun {a b} h e=>by subst e;unfold ltR at h;omega)) (fun x hx=>(hRo.mem x (hRo.wf x hx)).1 hx)) hown.size_le
 exact ⟨v,ys,xs,rfl,hro,hz,ho,hv,hz ▸ zkf har ho hv,hlen,hb⟩
end H
end Go.Proofs.YtoifcnidhfnapaaGreatDoor
namespace Go.Proofs.YtoifcnidhfnapaaGreatDoor
open Go.RowKit Go.Maps Go.Sort Go.Shelf
theorem yh7:∀ w,(zeroValue 81).run Tryz.prog w=.ok (.pointer none) w:=Tryz.zeroValue81
section
variable {W:World} {fix:Nat→Prop} {eb db nD nI nV N:Nat} {st:St} {ixs:IxS} {vws:VwS}
theorem EngV.vmiss (h:EngV W fix eb db nD nI nV N st ixs vws) {nm:ByteArray} (hn:nm.size≤maxLen) (hx:vws nm=none) :
  (Instr.lookup 70 (.map (some (db+2))) (.string nm) true).run Tryz.prog W=.ok (.tuple #[.pointer none,.bool false]) W:=by
 obtain ⟨D,hown,_,hhas,hat⟩:=h.vmap
 obtain ⟨v,ps,hrun,hv⟩:=hown.look_ok zoo Tryz.underlying70 (yh7 _) (zd:=.lit (.int .i64 (-1))) (zp:=[]) rfl (zdj hn)
 have h0:Maps.has D (zas nm)=false:=by rw [hhas nm hn,hx];rfl
 rw [atKey_of_not_has h0] at hv
 rw [zit hv,h0] at hrun
 exact hrun
theorem EngV.vhit (h:EngV W fix eb db nD nI nV N st ixs vws) {nm:ByteArray} {v:zec} (hx:vws nm=some v) :
  (Instr.lookup 70 (.map (some (db+2))) (.string nm) true).run Tryz.prog W=.ok (.tuple #[.pointer (some ⟨v.VB,0,none⟩),.bool true]) W:=by
 obtain ⟨D,hown,_,hhas,hat⟩:=h.vmap
 obtain ⟨h8,hat⟩:=hat nm v hx
 have hn:nm.size≤maxLen:=Nat.le_trans h8 (by unfold maxLen;omega)
 obtain ⟨v',ps,hrun,hv⟩:=hown.look_ok zoo Tryz.underlying70 (yh7 _) (zd:=.lit (.int .i64 (-1))) (zp:=[]) rfl (zdj hn)
 have h0:Maps.has D (zas nm)=true:=by rw [hhas nm hn,hx];rfl
 rw [hat] at hv
 rw [zdz hv,h0] at hrun
 exact hrun
end
theorem zo5 (W:World) {fix:Nat→Prop} {eb db nD nI nV N:Nat} {st:St} {ixs:IxS} {vws:VwS} (hE:EngV W fix eb db nD nI nV N st ixs vws) (nm:ByteArray) (v:zec) (hv:vws nm=some v) (K:Nat) (hK:K≤1000000000) (hM:zgv W v.mb K v.f) :
  Calls Tryz.prog 20 #[.pointer (some ⟨eb,0,none⟩),.string nm] W fun e w'=>∃ o ys xs,e=.returned (.tuple #[o,.int .i64 0])∧H.zg3 v.f ys∧(xs.map fun p:(H4×Int)×Nat=>(H.zcv v.H.length p.1.1,p.1.2))=H.zbj v.H.length v.f ys∧w'.ownsRow W.heap.size 79 2 o xs.length (H.zcz v.H.length xs)∧H.zd2 w' W.heap.size v.H.length xs∧zdf w' o (H.zbj v.H.length v.f ys)∧ys.length≤K∧Below W.heap.size W w':=by
 obtain ⟨iv,hb,_⟩:=(hE.vw nm v hv).1.blk
 have h4:v.H.length≤4:=(hE.vw nm v hv).1.fit.ok.h4
 have hlk:=hE.vhit hv
 have c2:=hE.c2
 have d2:W.cell? ⟨v.VB,2,none⟩=some (.int .i64 v.H.length):=zab hb 2
 have d3:W.cell? ⟨v.VB,3,none⟩=some (.map (some v.mb)):=zab hb 3
 have HT:=zac (H.znu W.drew v.mb K v.H.length v.f h4 hK (hM.kept rfl))
 clear hE hb hM
 go_enter Tryz.func20,Tryz.ntmps20
 go_wp2_with fail
 go_region_with (first
  | (go_at_call 41;refine (zaa HT).mono ?_;rintro e w' ⟨o,ys,xs,rfl,h1,h2,h3,h5,h6,h7,h8⟩))
 all_goals
  have HF:=zac (show H.zg3 v.f ys∧(xs.map fun p:(H4×Int)×Nat=>(H.zcv v.H.length p.1.1,p.1.2))=H.zbj v.H.length v.f ys∧w'.ownsRow W.heap.size 79 2 o xs.length (H.zcz v.H.length xs)∧H.zd2 w' W.heap.size v.H.length xs∧zdf w' o (H.zbj v.H.length v.f ys)∧ys.length≤K∧Below W.heap.size W w' from ⟨h1,h2,h3,h5,h6,h7,(zav _ _).trans h8⟩)
  clear h1 h2 h3 h5 h6 h7 h8
  go_wp2
  go_ret2
  exact ⟨o,ys,xs,rfl,zaa HF⟩
theorem zn7 (nm s:ByteArray) (W:World) {fix:Nat→Prop} {eb db nD nI nV N:Nat} {st:St} {ixs:IxS} {vws:VwS} (hE:EngV W fix eb db nD nI nV N st ixs vws) (hn:zfv nm=true) (hn8:nm.size≤8) (hx:vws nm=none) (hnV:nV≤5) (hsz:s.size≤300) :
  Calls Tryz.prog 60 #[.pointer (some ⟨eb,0,none⟩),.string nm,.string s] W fun e w'=>e=.returned (.int .i64 0)∧w'=W:=by
 have hrun:=hE.vmiss (Nat.le_trans hn8 (by unfold maxLen;omega)) hx
 have c2:=hE.c2
 obtain ⟨D,hown,hs0,_⟩:=hE.vmap
 have t3:¬ 6≤(Maps.size D:Int):=by omega
 have t4:¬ 300<(s.size:Int):=by omega
 have Hn:=zac hn
 clear hE hn
 go_enter Tryz.func60,Tryz.ntmps60
 go_wp2_with (first
  | (go_at_call 57;refine (zma nm _ (by omega)).mono ?_;rintro e w1 ⟨rfl,hw⟩;replace hw:=hw.symm;subst hw;rw [zaa Hn])
  | (at_len;refine wpList_len_own _ rfl _ 70 rfl 9 81 Tryz.underlying70 _ (db+2) nV D rfl hown ?_))
 go_ret
 exact ⟨rfl,rfl⟩
structure yb7 (W:World) (fix:Nat→Prop) (eb db nD nI nV N:Nat) (st:St) (ixs:IxS) (vws:VwS) (nm:ByteArray) (H:List (Nat×Nat)) (B:List zbb) (w':World):Prop where
 ex:∃ fix' ixk nIk v,EngV w' fix' eb db nD nIk (nV+1) N st ixk (zib vws nm v)∧nIk≤nI+4∧(∀ q,fix q→fix' q)∧(∀ q,fix' q→fix q∨W.heap.size≤q)∧v.H=H∧v.B=B∧v.n≤N ^ 4+1∧∀ q,zcs st ixk (zib vws nm v) q→zcs st ixs vws q∨W.heap.size≤q
 keep:KeepX (fun q=>q=db+1∨q=db+2) W w'
theorem zxv (nm s o:ByteArray) (hs:List (Nat×Nat)) (ats:List zba) (W:World) {fix:Nat→Prop} {eb db nD nI nV N:Nat} {st:St} {ixs:IxS} {vws:VwS} (hE:EngV W fix eb db nD nI nV N st ixs vws) (hn:zfv nm=true) (hn8:nm.size≤8) (hx:vws nm=none) (hnV:nV≤5) (hsz:s.size≤300)
  (hp:zff s=.ok (hs,ats)) (hF:zdq st hs (ats.map zba.q)) (hL:yb4 (ats.map zba.q)) (ho:o=⟨#[]⟩∨(zaz o).Perm (zbl ((ats.map zba.q).map (·.ts)))) (hRn:∀ nm R,st nm=some R→R.n≤N) (hN:N≤10000) (hN1:1≤N) (hnI:nI≤100000) :
  Calls Tryz.prog 35 #[.pointer (some ⟨eb,0,none⟩),.string nm,.string s,.string o] W fun e w'=>e=.returned (.tuple #[.int .i64 0,.int .i64 0])∧yb7 W fix eb db nD nI nV N st ixs vws nm hs (ats.map zba.q) w':=by
 have Hc:=zac (zn7 nm s W hE hn hn8 hx hnV hsz)
 have Hq:=zac (zva s hsz hs ats hp W hE.rep hF hL)
 obtain ⟨B,hB⟩:∃ B,B=ats.map zba.q:=⟨_,rfl⟩
 rw [← hB] at Hq hF hL ho ⊢
 have HE:=zac hE
 have HF:=zac hF
 have HL:=zac hL
 have Ho:=zac ho
 have HRn:=zac hRn
 have Hx:=zac hx
 have hel:eb<W.heap.size:=hE.flt _ hE.feb
 have he3:=hE.eb3
 have hmz:nm.size≤maxLen:=Nat.le_trans hn8 (by unfold maxLen;omega)
 clear hE hF hL ho hRn hx hp hB hn
 go_enter Tryz.func35,Tryz.ntmps35
 go_wp2_with (first
  | (go_at_call 60;refine (zaa Hc).mono ?_;rintro e w1 ⟨rfl,hw⟩;replace hw:=hw.symm;subst hw))
 refine (zaa Hq).mono ?_
 rintro e w2 ⟨QB,rfl,hQ2,hb2⟩
 have HE2:=zac ((zaa HE).below hb2)
 have HQ2:=zac hQ2
 have Hb2:=zac hb2
 clear hb2 hQ2 Hq Hc
 go_wp2_with fail
 refine (zwt _).mono ?_
 rintro e w3 ⟨rfl,hb3⟩
 have HE3:=zac ((zaa HE2).below hb3)
 have HQ3:=zac ((zaa HQ2).below hb3)
 have Hb3:=zac ((zaa Hb2).trans (hb3.mono (zaa Hb2).size))
 clear hb3 HE2 HQ2 Hb2
 go_wp2_with fail
 refine (zu0 QB hs B o _ (zaa HQ3) (zaa HF).ok (zaa HL) (zaa Ho)).mono ?_
 rintro e w4 ⟨rfl,hb4⟩
 have hE4:=(zaa HE3).below hb4
 have HQ4:=zac ((zaa HQ3).below hb4)
 have hb4':=(zaa Hb3).trans (hb4.mono (zaa Hb3).size)
 have hs4:=hb4'.size
 have c2:=hE4.c2
 have hel4:eb<w4.heap.size:=by omega
 obtain ⟨D,hown,hsz0,hhas,hat⟩:=hE4.vmap
 have hlen:=hown.size_le
 obtain ⟨U,hU⟩:∃ U:World→Nat→World,∀ W b,W.ownsMap Tryz.prog 9 zap (db+2) nV D→(Instr.mapUpdate 70 (.map (some (db+2))) (.string nm) (.pointer (some ⟨b,0,none⟩))).run Tryz.prog W=.ok () (U W b) ∧
   (U W b).ownsMap Tryz.prog 9 zap (db+2) (nV+1) (D.put (zas nm) (.lit (.int .i64 b)))∧W.grownBy (U W b) (some (db+2)):=by
  have hh:∀ (W:World) (b:Nat),∃ w',W.ownsMap Tryz.prog 9 zap (db+2) nV D→(Instr.mapUpdate 70 (.map (some (db+2))) (.string nm) (.pointer (some ⟨b,0,none⟩))).run Tryz.prog W=.ok () w' ∧
    w'.ownsMap Tryz.prog 9 zap (db+2) (nV+1) (D.put (zas nm) (.lit (.int .i64 b)))∧W.grownBy w' (some (db+2)):=by
   intro W b
   by_cases hW:W.ownsMap Tryz.prog 9 zap (db+2) nV D
   ·obtain ⟨w',hr⟩:=hW.update zoo Tryz.underlying70 (by unfold maxLen;omega) (zdj hmz) (val:=.pointer (some ⟨b,0,none⟩)) (d:=.lit (.int .i64 b)) (ps:=[]) rfl
    exact ⟨w',fun _=>hr⟩
   ·exact ⟨W,fun h=>absurd h hW⟩
  exact ⟨fun W b=>Classical.choose (hh W b),fun W b=>Classical.choose_spec (hh W b)⟩
 have hUr:∀ W b,W.ownsMap Tryz.prog 9 zap (db+2) nV D→(Instr.mapUpdate 70 (.map (some (db+2))) (.string nm) (.pointer (some ⟨b,0,none⟩))).run Tryz.prog W=.ok () (U W b):=fun W b h=>(hU W b h).1
 have HNv:∀ W5,Below w4.heap.size w4 W5→Hid (Calls Tryz.prog 64 #[.pointer (some ⟨eb,0,none⟩),.pointer (some ⟨QB,0,none⟩),.string o] W5 fun e w'=>∃ v,e=.returned (.pointer (some ⟨v.VB,0,none⟩))∧zyp W5 fix eb db nD nI nV N st ixs vws hs B w' v):=fun W5 h=>zxj QB hs B o W5 (hE4.below h) ((zaa HQ4).below h) (zaa HF) (zaa Ho) (zaa HRn) hN hN1 hnI
 have HU:=zac hU
 have Hhas:=zac hhas
 have Hat:=zac hat
 have HE4:=zac hE4
 have Hb4:=zac hb4'
 clear hb4 hb4' hE4 HE3 HQ3 Hb3 hU hhas hat
 go_wp2_with fail
 go_region_held3 (fun W'=>W'.cell? ⟨eb,2,none⟩=some (.map (some (db+2))))
  (first
   | go_keep
   | (rw [hb5.cell (by simpa using hel4)];assumption)
   | (rw [World.cell?_of_block (a:=⟨eb,2,none⟩) (hd6.keep.blk eb (Nat.lt_of_lt_of_le hel4 (Below.ofDrew hb5).size) (by omega))];assumption)
   | (rw [World.cell?_of_block (a:=⟨eb,2,none⟩) (((zaa HU) w6 _ hown6).2.2.block eb (Nat.lt_of_lt_of_le (Nat.lt_of_lt_of_le hel4 (Below.ofDrew hb5).size) hd6.keep.size) (by simp;omega))];assumption))
  (first
   | (go_at_call 59;refine (zob nm _ (by omega)).mono ?_;rintro e w5 ⟨rfl,hb5⟩)
   | (go_at_call 64;refine (zaa (HNv w5 (Below.ofDrew hb5))).mono ?_;rintro e w6 ⟨v,rfl,hd6⟩;have hown6:w6.ownsMap Tryz.prog 9 zap (db+2) nV D:=zau hown ((hd6.keep.blk (db+2) (Nat.lt_of_lt_of_le hown.lt (Below.ofDrew hb5).size) (by omega)).trans ((Below.ofDrew hb5).block _ hown.lt))))
 have hb5':Below w4.heap.size w4 w5:=Below.ofDrew hb5
 have hE5:=(zaa HE4).below hb5'
 obtain ⟨_,hUo,hUg⟩:=(zaa HU) w6 v.VB hown6
 obtain ⟨fix',ixk,nIk,h1,h2,h3,h4,h5,h6⟩:=hE5.withView hd6 hn8 (zaa Hx) hown6 hsz0 (zaa Hhas) (zaa Hat) hUo hUg
 have hb5w:=(zaa Hb4).trans (hb5'.mono (zaa Hb4).size)
 have hs5:=hb5w.size
 have HF:=zac (show yb7 W fix eb db nD nI nV N st ixs vws nm hs B (U w6 v.VB) from ⟨⟨fix',ixk,nIk,v,h1,h2,h3,fun q hq=>(h4 q hq).imp id (fun h=>by omega),hd6.hq.1,hd6.hq.2,hd6.vn,fun q hq=>(h6 q hq).imp id (fun h=>by omega)⟩,(KeepX.ofBelow hb5w).trans h5⟩)
 clear h1 h2 h3 h4 h5 h6 hUo hUg hE5 hb5 hb5' hb5w hd6 hown6
 go_wp2
 go_ret2
 exact ⟨rfl,zaa HF⟩
end Go.Proofs.YtoifcnidhfnapaaGreatDoor
namespace Go.Proofs.YtoifcnidhfnapaaGreatDoor
open Go.RowKit Go.Maps
theorem zgv.range {w:World} {b n:Nat} {f:H4→Int} (h:zgv w b n f) {r:H4} (hr:WfH r):-9223372036854775808≤f r∧f r≤9223372036854775807:=by
 obtain ⟨D,hown,hrep⟩:=h
 obtain ⟨v,ps,_,hv⟩:=hown.look_ok zy4 Tryz.underlying87 (zym _) (zd:=.lit (.int .i64 0)) (zp:=[]) (plainElem_int Tryz.underlying2 (by decide)) (zom hr)
 rw [hrep.at_ r hr] at hv
 simp only [plainElem,Tryz.underlying2] at hv
 cases v <;> simp at hv
 obtain ⟨⟨rfl,hw⟩,⟨rfl,rfl⟩⟩:=hv
 simp only [Lit.wf,IntKind.min,IntKind.max,IntKind.signed,IntKind.bits,Bool.and_eq_true,decide_eq_true_eq,if_true] at hw
 omega
theorem zgv.tight {w:World} {b n:Nat} {f:H4→Int} (h:zgv w b n f) (G:List H4) (hG:∀ r,WfH r→f r≠0→r∈G):zgv w b G.length f:=by
 obtain ⟨D,hown,hrep⟩:=h
 have hT:=hown.tidy zy4
 obtain ⟨es,clock,h1,hF,h3,rfl⟩:=hown
 refine ⟨_,⟨es,clock,h1,hF,?_,rfl⟩,hrep⟩
 obtain ⟨l,hl,hp⟩:=hT
 cases hl
 have hlen:((es.toList.map (WideElems.rg Tryz.prog 134 (plainElem (H:=Unit) Tryz.prog 2))).foldr DataW.insert []).length=es.size:=by rw [length_sorted];simp
 rw [← hlen]
 have hmem:∀ p∈(es.toList.map (WideElems.rg Tryz.prog 134 (plainElem (H:=Unit) Tryz.prog 2))).foldr DataW.insert [],∃ r,WfH r∧p.1=zj4 r:=by
  intro p hp
  obtain ⟨x,hx,rfl⟩:=List.mem_map.1 (mem_sorted.1 hp)
  obtain ⟨y,hy⟩:=hF.reads x hx
  obtain ⟨r,hr,_,h2⟩:=zj6 (WideElems.rd_key hy)
  refine ⟨r,hr,?_⟩
  unfold WideElems.rg
  rw [hy]
  exact h2
 generalize (es.toList.map (WideElems.rg Tryz.prog 134 (plainElem (H:=Unit) Tryz.prog 2))).foldr DataW.insert []=l at *
 have h5:(l.map (·.1)).length≤(G.map zj4).length:=by
  refine zck _ _ (List.pairwise_map.2 hp) fun k hk=>?_
  obtain ⟨p,hp',rfl⟩:=List.mem_map.1 hk
  obtain ⟨r,hr,h6⟩:=hmem p hp'
  rw [h6]
  refine List.mem_map.2 ⟨r,hG r hr ((hrep.has_ r hr).1 ?_),rfl⟩
  rw [has_eq]
  exact List.any_eq_true.2 ⟨p,hp',by rw [h6];exact WideAt.sameKey_self (zi9 r)⟩
 simpa using h5
end Go.Proofs.YtoifcnidhfnapaaGreatDoor
