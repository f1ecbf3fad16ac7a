import Derived.Test.YtoifcnidhfnapaaGreatDoorP27
set_option linter.unusedVariables false
set_option linter.unusedSimpArgs false
namespace Go.Proofs.YtoifcnidhfnapaaGreatDoor
open Go.RowKit Go.Maps Go.Sort Go.Shelf
def RofI (w:World) (c0 c1 c2:Nat) (pre:List (Row×Int)) (W:World):Prop:=
 ∃ v,Boxed W (w.heap.size+1) 141 v∧W.ownsRow w.heap.size 221 4 v pre.length (zb2 (pre.map (arrE c0 c1 c2)))∧W.heap[w.heap.size]? = some (.cells #[.int .i64 c0,.int .i64 c1,.int .i64 c2] 94 (0,0))∧Below w.heap.size w W
theorem RofI.own (w:World) (c0 c1 c2 B:Nat) (hB:w.heap.size≤B):OwnFrom B (RofI w c0 c1 c2):=by
 rintro pre W W' row ⟨v,b1,ho,b2,hb⟩ hg hr
 have hno:∀ k cs t,W.heap[k]? = some (.cells cs t (0,0))→some k≠row:=fun k cs t hk e=>by
  obtain ⟨_,o,h1,h2⟩:=hr k e.symm
  rw [hk] at h1;cases h1;cases h2
 refine ⟨v,b1.kept hg (hno _ _ _ b1),?_,(hg.block _ (Array.getElem?_eq_some_iff.1 b2).1 (hno _ _ _ b2)).trans b2,hb.grown hg hb.size (fun k e=>Nat.le_trans hB (hr k e).1)⟩
 rcases ho.2 with ⟨rfl,h0⟩|⟨g',cap',cur,rfl,_,hgh,_⟩
 ·exact ho.kept hg (.inl rfl)
 ·exact ho.kept hg (.inr fun e=>hno _ _ _ hgh (by simpa [Value.ownBlock] using e))
theorem rof_step {w W w2 w3:World} {c0 c1 c2 g' cap' B:Nat} {v:Value} {pre:List (Row×Int)} {x:Row×Int} {tmp:Obj} (bS:Boxed W (w.heap.size+1) 141 v) (hrow:W.ownsRow w.heap.size 221 4 v pre.length (zb2 (pre.map (arrE c0 c1 c2)))) (bC:W.heap[w.heap.size]? = some (.cells #[.int .i64 c0,.int .i64 c1,.int .i64 c2] 94 (0,0))) (hB:Below w.heap.size w W)
  (hb2:Below W.heap.size W w2) (hrow3:w3.ownsRow w.heap.size 221 4 (.slice (some ⟨g',0,none⟩) (pre.length+1) cap') (pre.length+1) (zb2 (pre.map (arrE c0 c1 c2) ++ [arrE c0 c1 c2 x]))) (hg3:(w2.alloc tmp).grownBy w3 v.ownBlock) :
  KeepsFrom B W (w3.setCell ⟨w.heap.size+1,0,none⟩ (.slice (some ⟨g',0,none⟩) (pre.length+1) cap'))∧zbl W (w3.setCell ⟨w.heap.size+1,0,none⟩ (.slice (some ⟨g',0,none⟩) (pre.length+1) cap'))∧RofI w c0 c1 c2 (pre ++ [x]) (w3.setCell ⟨w.heap.size+1,0,none⟩ (.slice (some ⟨g',0,none⟩) (pre.length+1) cap')):=by
 have hg2:W.grownBy w2 none:=⟨hb2.os,hb2.tape,hb2.output,hb2.size,fun k hk _=>hb2.block k hk⟩
 have bS2:=bS.kept hg2 (by simp)
 have hrow2:w2.ownsRow w.heap.size 221 4 v pre.length (zb2 (pre.map (arrE c0 c1 c2))):=by
  rcases hrow.2 with ⟨rfl,h0⟩|⟨g',cap',cur,rfl,_,hgh,_⟩
  ·exact hrow.kept hg2 (.inl rfl)
  ·exact hrow.kept hg2 (.inr (by simp [Value.ownBlock]))
 obtain ⟨hv1,hv2,hr2,hk2,hbb⟩:=bS2.appended (by decide) hrow2 (Nat.le_trans hB.size hb2.size) (by omega) hrow3 hg3
 have hC:=grownBy_setCell' w3 (w.heap.size+1) (.slice (some ⟨g',0,none⟩) (pre.length+1) cap')
 refine ⟨(KeepsFrom.of_grownBy hg2 (fun j e=>by cases e)).trans (hk2.from _),?_,?_⟩
 ·refine ((zbl.of_grown hg2 (fun j e=>by cases e)).trans (zbl.of_grown (World.grownBy_alloc w2 tmp none) (fun j e=>by cases e))).trans ((zbl.of_grown hg3 (fun j e=>?_)).trans (zbl.of_grown hC (fun j e=>?_)))
  ·rcases (hrow2.alloc tmp).2 with ⟨rfl,h0⟩|⟨g',cap',cur,rfl,_,hgh,_⟩
   ·cases e
   ·simp only [Value.ownBlock] at e
    injection e with e
    subst e
    exact ⟨_,_,_,hgh,.inr rfl⟩
  ·cases e
   exact ⟨_,_,_,hv1,.inl rfl⟩
 ·refine ⟨_,hv2,?_,?_,hB.trans ((hb2.mono hB.size).trans hbb)⟩
  ·simpa using hr2
  ·have h2:=(hb2.block _ (Array.getElem?_eq_some_iff.1 bC).1).trans bC
   have h3:w3.heap[w.heap.size]? = some (.cells #[.int .i64 c0,.int .i64 c1,.int .i64 c2] 94 (0,0)):=by
    refine (hg3.block _ (by have:=(Array.getElem?_eq_some_iff.1 h2).1;simp;omega) (fun e=>?_)).trans ((Below.heap_alloc _ _ _ (Array.getElem?_eq_some_iff.1 h2).1).trans h2)
    rcases hrow2.2 with ⟨rfl,h0⟩|⟨g',cap',cur,rfl,_,hgh,_⟩
    ·cases e
    ·simp only [Value.ownBlock] at e
     injection e with e
     subst e
     rw [h2] at hgh
     simp at hgh
   exact (hC.block _ (Array.getElem?_eq_some_iff.1 h3).1 (by simp)).trans h3
theorem zv5 {W w2:World} {base:Nat} {v:Value} {ms:List REnt} {n:Nat} (h:W.ownsRow base 221 4 v n (zb2 ms)) (hg2:W.grownBy w2 none) (hn:n=ms.length:=by simp):w2.ownsRow base 221 4 v ms.length (zb2 ms):=by
 subst hn
 rcases h.2 with ⟨rfl,h0⟩|⟨g',cap',cur,rfl,_,hgh,_⟩
 ·exact h.kept hg2 (.inl rfl)
 ·exact h.kept hg2 (.inr (by simp [Value.ownBlock]))
theorem rof_row {w w3:World} {c0 c1 c2 g' cap':Nat} {a0 a1 a2 x1 x2 x3 xw:Int} {pre:List (Row×Int)} (hy:(a0,a1,a2)=arrR c0 c1 c2 (x1,x2,x3)) (h:w3.ownsRow w.heap.size 221 4 (.slice (some ⟨g',0,none⟩) ((pre.map (arrE c0 c1 c2)).length+1) cap') ((pre.map (arrE c0 c1 c2)).length+1) (zb2 (pre.map (arrE c0 c1 c2) ++ [((a0,a1,a2),xw)]))) :
  w3.ownsRow w.heap.size 221 4 (.slice (some ⟨g',0,none⟩) (pre.length+1) cap') (pre.length+1) (zb2 (pre.map (arrE c0 c1 c2) ++ [arrE c0 c1 c2 ((x1,x2,x3),xw)])):=by
 rw [List.length_map,hy] at h
 exact h
section
attribute [local go_sem] Oper.semAt_some
attribute [local go_sem ↓] zkw
set_option maxRecDepth 100000 in
set_option maxHeartbeats 4000000 in
theorem zqj (c0 c1 c2 gf N:Nat) (hc:zyj c0 c1 c2) (lb:Array Value) (S:List (Row×Int)→Prop) (w:World) (eg:∀ args w,(callFunc gf args).run Tryz.prog w=.ok (.enter gf args) w) (hN:N≤1000000000)
  (hseq:∀ W0,Below w.heap.size w W0→SeqStopsK Fence.wide 8 Tryz.prog gf lb ztw zbl S (fun _=>True) N W0) (hS:∀ ls,S ls→ls.length≤N) :
  CallsIn Fence.wide 9 Tryz.prog 166 #[.agg #[.int .i64 c0,.int .i64 c1,.int .i64 c2],.func (.func gf) #[] lb] w fun e w'=>∃ v ls es,e=.returned v∧S ls∧es.Perm (ls.map (arrE c0 c1 c2))∧((ls.map (arrE c0 c1 c2)).Pairwise (fun a b=>a.1≠b.1)→zgg es)∧zb9 w' v es∧Below w.heap.size w w':=by
 refine callsIn_of_wp_marks Tryz.func166 rfl trivial ?_ rfl
 simp only [Tryz.ntmps166,List.size_toArray,List.length_cons,List.length_nil,Nat.reduceAdd,Nat.reduceSub,Array.replicate_succ,Array.replicate_zero,List.push_toArray,List.append_toArray,List.nil_append,List.cons_append]
 gi_wp2
 obtain ⟨W0,hW0⟩:∃ W0,W0=(w.alloc (.cells #[.int .i64 c0,.int .i64 c1,.int .i64 c2] 94)).alloc (.cells #[.slice none 0 0] 141):=⟨_,rfl⟩
 rw [← hW0]
 have hb0:Below w.heap.size w W0:=by rw [hW0];exact ((Below.refl _ _).alloc (Nat.le_refl _) _).alloc (by simp) _
 have hs0:W0.heap.size=w.heap.size+2:=by rw [hW0];simp
 have hI0:RofI w c0 c1 c2 [] W0:=⟨_,by rw [hW0];exact zad _ _ _ (by simp),World.ownsRow_nil _ _ _ _,by rw [hW0];exact (Below.heap_alloc _ _ _ (by simp)).trans (zad _ _ _ rfl),hb0⟩
 clear hW0
 refine wpIn_rangeFunc_ownH rfl (by omega) (gf:=gf) (lb:=lb) rfl trivial eg (hseq W0 hb0) zbl.trans (fun W l o o' _ h1 h2 h3=>zbl.put W l o o' h1 h2 h3) (Below.refl _ _) (fun _=>rfl)
  (RofI w c0 c1 c2)
  (fun _ _ _=>False)
  (RofI.own w c0 c1 c2 _ (by omega))
  (fun _ _ _ _ _ hs _ _=>hs)
  hI0
  (fun x a' W=>∃ Bx,W.heap[Bx]? = some (.cells #[.int .i64 x.1.1,.int .i64 x.1.2.1,.int .i64 x.1.2.2] 77 (0,0)) ∧
   a'={ tmps:=#[.agg #[.int .i64 c0,.int .i64 c1,.int .i64 c2],.func (.func gf) #[] lb,.pointer (some ⟨w.heap.size,0,none⟩),undef,.slice none 0 0,.pointer (some ⟨w.heap.size+1,0,none⟩),.pointer (some ⟨Bx,0,none⟩),.int .i64 x.2,.func (.func gf) #[] lb,.agg #[.int .i64 x.1.1,.int .i64 x.1.2.1,.int .i64 x.1.2.2],.int .i64 x.2,undef,undef,undef,undef,undef,undef,undef,undef,undef,undef,undef],defers:=[] })
  (fun x a' _ X Y row hs hg hr=>by
   obtain ⟨Bx,h2,h3⟩:=hs
   refine ⟨Bx,(hg.block Bx (Array.getElem?_eq_some_iff.1 h2).1 (fun e=>?_)).trans h2,h3⟩
   obtain ⟨_,o,ho,hc⟩:=hr Bx e.symm
   rw [h2] at ho
   cases ho
   cases hc)
  ?assign ?body ?done ?stop
 case assign =>
  rintro l pre x W K hI hK
  dsimp only [ztw]
  gi_wp2
  refine hK _ _ ((KeepsOthers.alloc _ _).from _) (zbl.of_grown (World.grownBy_alloc _ _ none) (fun j e=>by cases e)) ?_ ⟨W.heap.size,zad _ _ _ rfl,rfl⟩
  exact (RofI.own w c0 c1 c2 _ (Nat.le_refl _)).alloc _ hI
 case body =>
  rintro l pre x a' W hl ⟨r,hr⟩ ⟨v,bS,hrow,bC,hB⟩ ⟨Bx,hX,rfl⟩ hlt
  obtain ⟨⟨x1,x2,x3⟩,xw⟩:=x
  dsimp only at hX ⊢
  have x0':W.cell? ⟨Bx,0,none⟩=some (.int .i64 x1):=zab hX 0
  have x1':W.cell? ⟨Bx,1,none⟩=some (.int .i64 x2):=zab hX 1
  have x2':W.cell? ⟨Bx,2,none⟩=some (.int .i64 x3):=zab hX 2
  have k0:W.cell? ⟨w.heap.size,0,none⟩=some (.int .i64 c0):=zab bC 0
  have k1:W.cell? ⟨w.heap.size,1,none⟩=some (.int .i64 c1):=zab bC 1
  have k2:W.cell? ⟨w.heap.size,2,none⟩=some (.int .i64 c2):=zab bC 2
  have cS:=bS.cell
  have HbS:=hide bS
  have Hrow:=hide hrow
  have HbC:=hide bC
  have HB:=hide hB
  obtain ⟨y,hy⟩:∃ y,y=arrR c0 c1 c2 (x1,x2,x3):=⟨_,rfl⟩
  have harr:=zup c0 c1 c2 hc (x1,x2,x3) W.drew
  rw [← hy] at harr
  obtain ⟨a0,a1,a2⟩:=y
  unfold r3C at harr
  dsimp only at harr
  have Harr:=hide harr
  have Hy:=hide hy
  have hpl:pre.length≤1000000000:=by omega
  clear bS hrow bC hB hX harr hy
  gi_wp2_with fail
  gi_region_with (first
   | (refine ⟨trivial,?_⟩;gi_at_call 210;refine (show CallsIn Fence.wide _ _ _ _ _ _ from (callsIn_wide.2 (zaa Harr))).mono ?_;rintro e w2 ⟨rfl,hb2⟩;have hg2:W.grownBy w2 none:=⟨hb2.os,hb2.tape,hb2.output,hb2.size,fun k hk _=>hb2.block k hk⟩;have bS2:=(zaa HbS).kept hg2 (by simp);have cS0:=bS2.cell;have cS2:=(bS2.alloc (.cells #[.int .i64 a0,.int .i64 a1,.int .i64 a2,.int .i64 xw] 221)).cell;obtain ⟨g',cap',w3,hA,hrow3,hg3⟩:=apGrowE (w2:=w2) ((a0,a1,a2),xw) (zv5 (zaa Hrow) hg2) (Nat.le_trans (zaa HB).size hb2.size) (by simpa using hpl);have bS3:=(bS2.alloc (.cells #[.int .i64 a0,.int .i64 a1,.int .i64 a2,.int .i64 xw] 221)).kept hg3 ((bS2.alloc (.cells #[.int .i64 a0,.int .i64 a1,.int .i64 a2,.int .i64 xw] 221)).not_row (by decide) ((zv5 (zaa Hrow) hg2).alloc _));have hc3:=bS3.cell;have hf3:=bS3.frozen;simp only [List.length_map] at hA))
  all_goals exact rof_step (x:=((x1,x2,x3),xw)) (zaa HbS) (zaa Hrow) (zaa HbC) (zaa HB) ⟨hg2.os,hg2.tape,hg2.output,hg2.size,fun k hk=>hg2.block k hk (by simp)⟩ (rof_row (zaa Hy) hrow3) hg3
 case done =>
  rintro Dk ls W hD hSl ⟨v,bS,hrow,bC,hB⟩ hK
  have hlen:=hS ls hSl
  have cS:=bS.cell
  have hml:(ls.map (arrE c0 c1 c2)).length=ls.length:=by simp
  have hsort:=sortRun w.heap.size v (ls.map (arrE c0 c1 c2)) W (by rw [hml];exact hrow) (by rw [hml];omega)
  have hno:v.ownBlock≠some Dk:=by
   rcases hrow.2 with ⟨rfl,h0⟩|⟨g',cap',cur,rfl,_,hgh,_⟩
   ·simp [Value.ownBlock]
   ·intro e
    simp only [Value.ownBlock] at e
    injection e with e
    subst e
    rw [hK] at hgh
    cases hgh
  have hvb:∀ g,v.ownBlock=some g→w.heap.size≤g:=by
   rcases hrow.2 with ⟨rfl,h0⟩|⟨g',cap',cur,rfl,hbb,hgh,_⟩
   ·intro g e;cases e
   ·intro g e
    simp only [Value.ownBlock] at e
    injection e with e
    omega
  have hnr:=bS.not_row (by decide) hrow
  have Hsort:=hide hsort
  have HbS:=hide bS
  have HB:=hide hB
  clear hsort bS hrow bC hB hI0
  gi_wp2_with (first
   | (refine ⟨trivial,?_⟩;gi_at_call 211;refine (callsIn_wide.2 (zaa Hsort)).mono ?_;rintro e w5 ⟨rfl,es,hp,hri,hbt,hg5⟩;have cS5:=((zaa HbS).kept hg5 hnr).cell))
  have hK5:w5.heap[Dk]? = some (.deferred (some [])):=(hg5.block Dk (Array.getElem?_eq_some_iff.1 hK).1 (fun e=>hno e.symm)).trans hK
  refine ⟨by simp,.inl ⟨_,_,rfl,run_takeDeferred hK5,?_⟩⟩
  refine ⟨_,results_tmp rfl _ _ _,v,ls,es,rfl,hSl,hp,hri,?_,?_⟩
  ·have hpg:=grownBy_putObj' w5 Dk (.deferred none)
   refine hbt.keepT (X:=fun q=>q=Dk) ⟨hpg.os,hpg.tape,hpg.output,hpg.size,fun q hq hx=>hpg.block q hq (fun e=>hx (by injection e))⟩ (fun q hq=>?_)
   subst hq
   rintro ⟨cs,hcs⟩
   rw [hK5] at hcs
   cases hcs
  ·have hB5:Below w.heap.size w w5:=(zaa HB).grown hg5 (zaa HB).size (fun k e=>hvb k e)
   exact hB5.trans (belowK_b (w:=w) (Nat.le_refl _) w5 Dk _ _ (by omega) hK5 rfl rfl)
 case stop =>
  rintro D c pre W _ _ h _
  exact h.elim
end
set_option maxRecDepth 100000 in
set_option maxHeartbeats 1000000 in
theorem zwv (n:Nat) (l Bm:Nat) (J:List (Row×Int)→World→Prop) (W:World) (hJ:AbidesFrom W.heap.size J) (hm:W.cell? ⟨Bm,0,none⟩=some (.map none)) (h0:J [] W) :
  CallsIn Fence.wide n Tryz.prog 212 #[.func (.yield l) #[] #[],.pointer (some ⟨Bm,0,none⟩)] W fun e W'=>(∃ v,e=.returned v)∧J [] W':=by
 refine callsIn_of_wp Tryz.func212 rfl trivial ?_ rfl
 simp only [Tryz.ntmps212,List.size_toArray,List.length_cons,List.length_nil,Nat.reduceAdd,Nat.reduceSub,Array.replicate_succ,Array.replicate_zero,List.push_toArray,List.append_toArray,List.nil_append,List.cons_append]
 have hrg:=run_range_nilMap (P:=Tryz.prog) W 127 77 2 Tryz.underlying127
 have hnx:∀ ty,(Instr.next (.pointer (some ⟨W.heap.size,0,none⟩)) false ty).run Tryz.prog (W.alloc (.mapIter none 0 #[] 0))=_:=fun ty=>run_next_nilMap _ ty 0 0 #[]
 gi_wp2
 refine wpIn_loop_rounds 1 ?_
 rw [roundsIn_succ]
 gi_wp2
 go_end0
 exact ⟨⟨_,rfl⟩,hJ [] W _ none h0 (World.grownBy_alloc W _ none) (fun r e=>by cases e)⟩
def zw1 (W:World) (v:Value) (n:Nat) (f:Row→Int):Prop:=(v=.map none∧∀ r,f r=0)∨∃ b,v=.map (some b)∧WMap W b n f
structure zlc (f:Row→Int) (xs:List Row):Prop where
 wf:∀ x∈xs,zav x
 apart:xs.Pairwise (·≠·)
 mem:∀ r,zav r→(r∈xs↔f r≠0)
theorem ztj (o:Option Nat) (w:World):Calls Tryz.prog 167 #[.map o] w fun e w'=>e=.returned (.func (.func 212) #[] #[.pointer (some ⟨w.heap.size,0,none⟩)])∧w'=w.alloc (.cells #[.map o] 127):=by
 go_enter Tryz.func167,Tryz.ntmps167
 go_wp2
 go_ret
 exact ⟨rfl,rfl⟩
structure zk8 (c0 c1 c2:Nat):Prop extends zyj c0 c1 c2 where
 d01:c0≠c1
 d02:c0≠c2
 d12:c1≠c2
theorem arrR_inj {c0 c1 c2:Nat} (h:zk8 c0 c1 c2) {x y:Row} (e:arrR c0 c1 c2 x=arrR c0 c1 c2 y):x=y:=by
 obtain ⟨⟨h0,h1,h2⟩,d1,d2,d3⟩:=h
 obtain ⟨x0,x1,x2⟩:=x
 obtain ⟨y0,y1,y2⟩:=y
 unfold arrR at e
 have e0:=congrArg (fun q:Row=>q.1) e
 have e1:=congrArg (fun q:Row=>q.2.1) e
 have e2:=congrArg (fun q:Row=>q.2.2) e
 dsimp only at e0 e1 e2
 rcases (by omega:c0=0∨c0=1∨c0=2) with rfl|rfl|rfl <;> rcases (by omega:c1=0∨c1=1∨c1=2) with rfl|rfl|rfl <;> rcases (by omega:c2=0∨c2=1∨c2=2) with rfl|rfl|rfl <;> first
  | exact absurd rfl d1
  | exact absurd rfl d2
  | exact absurd rfl d3
  | (simp only [zah] at e0 e1 e2;rw [e0,e1,e2])
theorem zo9 {r:Row} (h:zav r) (c:Nat):wfI (zah r c):=by
 obtain ⟨h0,h1,h2⟩:=h
 unfold zah
 split <;> assumption
theorem arrR_wf {c0 c1 c2:Nat} {r:Row} (h:zav r):zav (arrR c0 c1 c2 r):=⟨zo9 h _,zo9 h _,zo9 h _⟩
structure zpr (c0 c1 c2:Nat) (f:Row→Int) (es:List REnt):Prop where
 rows:∃ xs,zlc f xs∧es.Perm ((za3 f xs).map (arrE c0 c1 c2))
 rise:zgg es
 wf:∀ e∈es,zav e.1
theorem zoe {c0 c1 c2:Nat} (hc:zk8 c0 c1 c2) {f:Row→Int} {xs:List Row} {es:List REnt} (hx:zlc f xs) (hp:es.Perm ((za3 f xs).map (arrE c0 c1 c2))) (hr:((za3 f xs).map (arrE c0 c1 c2)).Pairwise (fun a b=>a.1≠b.1)→zgg es):zpr c0 c1 c2 f es:=by
 refine ⟨⟨xs,hx,hp⟩,hr ?_,fun e he=>?_⟩
 ·unfold za3
  rw [List.map_map,List.pairwise_map]
  exact hx.apart.imp fun {a b} h e=>h (arrR_inj hc e)
 ·have:=hp.mem_iff.1 he
  unfold za3 at this
  rw [List.map_map,List.mem_map] at this
  obtain ⟨x,h1,rfl⟩:=this
  exact arrR_wf (hx.wf x h1)
theorem zpw {D:DataW Unit} {f:Row→Int} {xs:List Row} (hr:Rep D f) (h:zce D (fun _=>false) xs):zlc f xs:=
 ⟨h.wf,h.apart,fun r hw=>by rw [h.mem r hw,← hr.has_ r hw];simp⟩
def zu1 (f:Row→Int) (N:Nat) (ls:List (Row×Int)):Prop:=∃ xs,zlc f xs∧ls=za3 f xs∧xs.length≤N
theorem mall_seq {w:World} {Bm n N:Nat} {v:Value} {f:Row→Int} (hm:w.heap[Bm]? = some (.cells #[v] 127 (0,0))) (h:zw1 w v n f) (hn:n≤N):∀ W0,Below w.heap.size w W0→SeqStopsK Fence.wide 8 Tryz.prog 212 #[.pointer (some ⟨Bm,0,none⟩)] ztw zbl (zu1 f N) (fun _=>True) N W0:=by
 intro W0 hb0 l J Jx W hW hJ _ hY h0
 have hbW:Below w.heap.size w W:=hb0.trans (hW.mono hb0.size)
 have hmW:W.cell? ⟨Bm,0,none⟩=some v:=zab ((hbW.block Bm (Array.getElem?_eq_some_iff.1 hm).1).trans hm) 0
 rcases h with ⟨rfl,hf⟩|⟨b,rfl,D,hown,hrep⟩
 ·refine (zwv 8 l Bm J W hJ hmW h0).mono ?_
  rintro e W' ⟨he,hj⟩
  exact ⟨he,.inl ⟨[],⟨[],⟨by simp,List.Pairwise.nil,fun r hr=>by simp [hf r]⟩,rfl,by simp⟩,hj⟩⟩
 ·have hsD:Maps.size D≤n:=hown.size_le
  have hownW:W.ownsMap Tryz.prog 77 (plainElem Tryz.prog 2) b n D:=zaw hown (hbW.block b hown.lt)
  refine (mall_in 8 (by omega) l Bm b n D f hrep J Jx (fun pre x W1 hj hl=>hY pre x W1 hj (by omega)) W hJ hmW hownW h0).mono ?_
  rintro e W' ⟨he,hor⟩
  refine ⟨he,?_⟩
  rcases hor with ⟨ls,⟨xs,hk,rfl⟩,hj⟩|h
  ·refine .inl ⟨_,⟨xs,zpw hrep hk,rfl,?_⟩,hj⟩
   have:=zb6 (hown.tidy ze5) hk.wf hk.apart (fun x hx=>((hk.mem x (hk.wf x hx)).1 hx).1)
   omega
  ·exact .inr h
theorem zb9.form {W:World} {v:Value} {es:List REnt} (h:zb9 W v es):∃ a cap,v=.slice a es.length cap:=by
 rcases h with ⟨rfl,rfl⟩|⟨b,o,cp,rfl,_⟩
 ·exact ⟨none,0,rfl⟩
 ·exact ⟨_,cp,rfl⟩
theorem zak {a b:World} {k:Nat} {o:Obj} (h:Below a.heap.size a b) (hx:a.heap[k]? = some o):b.heap[k]? = some o:=(h.block k (Array.getElem?_eq_some_iff.1 hx).1).trans hx
theorem yal {W W1 w5:World} {XB c0 c1 c2 n vcap:Nat} {va:Option Addr} {rv bv:Value} {f:Row→Int} {rs:List (List REnt)} {es':List REnt} {ls:List (Row×Int)} {vals:List Value} {ob:Obj} (hc:zk8 c0 c1 c2) (hB:W.heap[XB]? = some (.cells #[.int .i64 c0,.int .i64 c1,.int .i64 c2,rv,bv] 144 (0,0))) (hb1:Below W.heap.size W W1) (hW1:W1=(W.alloc ob).drew)
  (hown:W.ownsRow 0 141 1 rv vals.length vals) (hruns:zh1 W vals rs) (hS:zu1 f n ls) (hp:es'.Perm (ls.map (arrE c0 c1 c2))) (hri:(ls.map (arrE c0 c1 c2)).Pairwise (fun a b=>a.1≠b.1)→zgg es') (hbt:zb9 w5 (.slice va es'.length vcap) es') (hb5:Below (W.alloc ob).drew.heap.size (W.alloc ob).drew w5) :
  Ending.returned (.tuple #[])=.returned (.tuple #[])∧∃ es2,IdxO (w5.setCell ⟨XB,4,none⟩ (.slice va es'.length vcap)) XB (.int .i64 c0) (.int .i64 c1) (.int .i64 c2) rv rs es2∧zpr c0 c1 c2 f es2∧es2.length≤n∧KeepX (fun k=>k=XB) W (w5.setCell ⟨XB,4,none⟩ (.slice va es'.length vcap)):=by
 rw [← hW1] at hb5
 obtain ⟨xs,hx,rfl,hl⟩:=hS
 have hbW:Below W.heap.size W w5:=hb1.trans (hb5.mono hb1.size)
 have hB5:=zak hbW hB
 have hC:=zag w5 XB 4 (.slice va es'.length vcap)
 have hK5:KeepX (fun k=>k=XB) w5 (w5.setCell ⟨XB,4,none⟩ (.slice va es'.length vcap)):=⟨hC.os,hC.tape,hC.output,hC.size,fun q hq hx=>hC.block q hq (fun e=>hx (by injection e))⟩
 have hnE:∀ k,k=XB→¬ zcy w5 k:=by
  rintro k rfl ⟨cs,hcs⟩
  rw [hB5] at hcs
  simp at hcs
 have hlen:es'.length≤n:=by
  have:=hp.length_eq
  simp [za3] at this
  omega
 have hown5:w5.ownsRow 0 141 1 rv vals.length vals:=by
  obtain ⟨p,c,rfl,_⟩:=zaj hown
  exact hown.kept (row:=none) ⟨hbW.os,hbW.tape,hbW.output,hbW.size,fun q hq _=>hbW.block q hq⟩ (by cases p with|none=>exact .inl rfl|some x=>exact .inr (by simp [Value.ownBlock]))
 refine ⟨rfl,es',⟨⟨_,zh7 hB5,hbt.keepT hK5 hnE⟩,vals,hown5.kept hC (.inr (zjx hown5 hB5)),(hruns.keepT (X:=fun _=>False) (KeepX.ofBelow hbW) (fun _ h=>h.elim)).keepT hK5 hnE⟩,zoe hc hx hp hri,hlen,(KeepX.ofBelow hbW).trans hK5⟩
section
attribute [local go_sem] Oper.semAt_some
set_option maxRecDepth 100000 in
set_option maxHeartbeats 4000000 in
theorem zzl (XB c0 c1 c2 n:Nat) (hc:zk8 c0 c1 c2) (rv:Value) (rs:List (List REnt)) (es:List REnt) (o:Option Nat) (f:Row→Int) (W:World) (hX:IdxO W XB (.int .i64 c0) (.int .i64 c1) (.int .i64 c2) rv rs es) (hM:zw1 W (.map o) n f) (hn:n≤1000000000) :
  Calls Tryz.prog 121 #[.pointer (some ⟨XB,0,none⟩),.map o] W fun e w'=>e=.returned (.tuple #[])∧∃ es',IdxO w' XB (.int .i64 c0) (.int .i64 c1) (.int .i64 c2) rv rs es'∧zpr c0 c1 c2 f es'∧es'.length≤n∧KeepX (fun k=>k=XB) W w':=by
 obtain ⟨bv,hB,hbat⟩:=hX.blk
 obtain ⟨vals,hown,hruns⟩:=hX.own
 have hBl:XB<W.heap.size:=(Array.getElem?_eq_some_iff.1 hB).1
 have k0:W.cell? ⟨XB,0,none⟩=some (.int .i64 c0):=zab hB 0
 have k1:W.cell? ⟨XB,1,none⟩=some (.int .i64 c1):=zab hB 1
 have k2:W.cell? ⟨XB,2,none⟩=some (.int .i64 c2):=zab hB 2
 obtain ⟨W1,hW1⟩:∃ W1,W1=(W.alloc (.cells #[.map o] 127)).drew:=⟨_,rfl⟩
 have hb1:Below W.heap.size W W1:=by rw [hW1];exact ((Below.refl _ W).alloc (Nat.le_refl _) (.cells #[.map o] 127)).trans (zaq _ _)
 have hB1:=(hb1.block XB hBl).trans hB
 have j0:W1.cell? ⟨XB,0,none⟩=some (.int .i64 c0):=zab hB1 0
 have j1:W1.cell? ⟨XB,1,none⟩=some (.int .i64 c1):=zab hB1 1
 have j2:W1.cell? ⟨XB,2,none⟩=some (.int .i64 c2):=zab hB1 2
 have hM1:zw1 W1 (.map o) n f:=by
  rcases hM with h|⟨b,e,D,h1,h2⟩
  ·exact .inl h
  ·exact .inr ⟨b,e,D,zaw h1 (hb1.block b h1.lt),h2⟩
 have hm1:W1.heap[W.heap.size]? = some (.cells #[.map o] 127 (0,0)):=by rw [hW1];exact zad _ _ _ rfl
 have hrun:=zqj c0 c1 c2 212 n hc.tozyj #[.pointer (some ⟨W.heap.size,0,none⟩)] (zu1 f n) W1 (enters_of Tryz.func212 (by kernel_rfl) rfl) hn (mall_seq hm1 hM1 (Nat.le_refl _)) (fun ls ⟨xs,_,e,hl⟩=>by rw [e];simpa [za3] using hl)
 rw [hW1] at hrun
 have Hrun:=hide (zm1 (m':=8) hrun)
 have Hall:=hide (ztj o W.drew)
 have Hb1:=hide hb1
 rw [hW1] at hB1
 have HB1:=hide hB1
 have Hown:=hide hown
 have Hruns:=hide hruns
 have HB:=hide hB
 rw [hW1] at j0 j1 j2
 have HW1:=hide hW1
 clear hrun hb1 hB1 hown hruns hB hbat hM hM1 hm1 hX
 refine (callsIn_wide (n:=9)).1 (callsIn_of_wp Tryz.func121 rfl trivial ?_ rfl)
 simp only [Tryz.ntmps121,List.size_toArray,List.length_cons,List.length_nil,Nat.reduceAdd,Nat.reduceSub,Array.replicate_succ,Array.replicate_zero,List.push_toArray,List.append_toArray,List.nil_append,List.cons_append]
 gi_wp2_with fail
 gi_region_with (first
  | (refine ⟨trivial,?_⟩;gi_at_call 167;refine (show CallsIn Fence.wide _ _ _ _ _ _ from (callsIn_wide.2 (zaa Hall))).mono ?_;rintro e w1 ⟨rfl,hw1⟩;replace hw1:w1=(W.alloc (.cells #[.map o] 127)).drew:=hw1;rw [hw1])
  | (refine ⟨trivial,?_⟩;gi_at_call 166;refine (zaa Hrun).mono ?_;rintro e w5 ⟨v,ls,es',rfl,hS,hp,hri,hbt,hb5⟩;obtain ⟨va,vcap,rfl⟩:=hbt.form;have hB5:=zak hb5 (zaa HB1);have f5:w5.frozen? ⟨XB,4,none⟩=false:=zac hB5 4;have c5:w5.cell? ⟨XB,4,none⟩=some bv:=zab hB5 4))
 all_goals
  go_end0
  exact yal hc (zaa HB) (zaa Hb1) (zaa HW1) (zaa Hown) (zaa Hruns) hS hp hri hbt hb5
end
theorem new_fin {w5:World} {c0 c1 c2 n vcap:Nat} {va:Option Addr} {f:Row→Int} {es:List REnt} {ls:List (Row×Int)} (hc:zk8 c0 c1 c2) (hS:zu1 f n ls) (hp:es.Perm (ls.map (arrE c0 c1 c2))) (hri:(ls.map (arrE c0 c1 c2)).Pairwise (fun a b=>a.1≠b.1)→zgg es) (hbt:zb9 w5 (.slice va es.length vcap) es) :
  IdxO (w5.alloc (.cells #[.int .i64 c0,.int .i64 c1,.int .i64 c2,.slice none 0 0,.slice va es.length vcap] 144)) w5.heap.size (.int .i64 c0) (.int .i64 c1) (.int .i64 c2) (.slice none 0 0) [] es∧zpr c0 c1 c2 f es∧es.length≤n:=by
 obtain ⟨xs,hx,rfl,hl⟩:=hS
 refine ⟨⟨⟨_,zad _ _ _ rfl,hbt.below ((Below.refl _ _).alloc (Nat.le_refl _) _)⟩,[],⟨rfl,.inl ⟨rfl,rfl⟩⟩,⟨rfl,fun i hi=>by simp at hi⟩⟩,zoe hc hx hp hri,?_⟩
 have:=hp.length_eq
 simp [za3] at this
 omega
section
attribute [local go_sem] Oper.semAt_some
set_option maxRecDepth 100000 in
set_option maxHeartbeats 4000000 in
theorem zwf (c0 c1 c2 gf n:Nat) (hc:zk8 c0 c1 c2) (lb:Array Value) (f:Row→Int) (W:World) (eg:∀ args w,(callFunc gf args).run Tryz.prog w=.ok (.enter gf args) w) (hn:n≤100000000)
  (hseq:∀ W0,Below W.heap.size W W0→SeqStopsK Fence.wide 8 Tryz.prog gf lb ztw zbl (zu1 f n) (fun _=>True) n W0) :
  Calls Tryz.prog 154 #[.agg #[.int .i64 c0,.int .i64 c1,.int .i64 c2],.func (.func gf) #[] lb] W fun e w'=>∃ XB rv rs es,e=.returned (.pointer (some ⟨XB,0,none⟩))∧W.heap.size≤XB∧IdxO w' XB (.int .i64 c0) (.int .i64 c1) (.int .i64 c2) rv rs []∧zk6 rs∧zpr c0 c1 c2 f es∧Eqv rs.flatten es∧totL rs≤n∧Below W.heap.size W w'∧(∀ g,rv.ownBlock=some g→W.heap.size≤g):=by
 obtain ⟨W1,hW1⟩:∃ W1,W1=(W.alloc (.cells #[.int .i64 c0,.int .i64 c1,.int .i64 c2] 94)).drew:=⟨_,rfl⟩
 have hb1:Below W.heap.size W W1:=by rw [hW1];exact ((Below.refl _ W).alloc (Nat.le_refl _) (.cells #[.int .i64 c0,.int .i64 c1,.int .i64 c2] 94)).trans (zaq _ _)
 have hB1:W1.heap[W.heap.size]? = some (.cells #[.int .i64 c0,.int .i64 c1,.int .i64 c2] 94 (0,0)):=by rw [hW1];exact zad W _ _ rfl
 have j0:W1.cell? ⟨W.heap.size,0,none⟩=some (.int .i64 c0):=zab hB1 0
 have j1:W1.cell? ⟨W.heap.size,1,none⟩=some (.int .i64 c1):=zab hB1 1
 have j2:W1.cell? ⟨W.heap.size,2,none⟩=some (.int .i64 c2):=zab hB1 2
 have hrun:=zqj c0 c1 c2 gf n hc.tozyj lb (zu1 f n) W1 eg (by omega) (fun W0 h0=>hseq W0 (hb1.trans (h0.mono hb1.size))) (fun ls ⟨xs,_,e,hl⟩=>by rw [e];simpa [za3] using hl)
 rw [hW1] at hrun hB1 j0 j1 j2
 have Hrun:=hide (zm1 (m':=8) hrun)
 have HB1:=hide hB1
 have Hb1:=hide hb1
 have HW1:=hide hW1
 clear hrun hB1 hb1 hseq
 refine (callsIn_wide (n:=9)).1 (callsIn_of_wp Tryz.func154 rfl trivial ?_ rfl)
 simp only [Tryz.ntmps154,List.size_toArray,List.length_cons,List.length_nil,Nat.reduceAdd,Nat.reduceSub,Array.replicate_succ,Array.replicate_zero,List.push_toArray,List.append_toArray,List.nil_append,List.cons_append]
 gi_wp2_with fail
 gi_region_with (first
  | (refine ⟨trivial,?_⟩;gi_at_call 166;refine (zaa Hrun).mono ?_;rintro e w5 ⟨v,ls,es,rfl,hS,hp,hri,hbt,hb5⟩;obtain ⟨va,vcap,rfl⟩:=hbt.form;have hB5:=zak hb5 (zaa HB1);have m0:w5.cell? ⟨W.heap.size,0,none⟩=some (.int .i64 c0):=zab hB5 0;have m1:w5.cell? ⟨W.heap.size,1,none⟩=some (.int .i64 c1):=zab hB5 1;have m2:w5.cell? ⟨W.heap.size,2,none⟩=some (.int .i64 c2):=zab hB5 2))
 all_goals
  obtain ⟨hI,hA,hl⟩:=new_fin hc hS hp hri hbt
  rw [← zaa HW1] at hb5
  have hb6:=((zaa Hb1).trans (hb5.mono (zaa Hb1).size)).alloc (Nat.le_trans (zaa Hb1).size hb5.size) (.cells #[.int .i64 c0,.int .i64 c1,.int .i64 c2,.slice none 0 0,.slice va es.length vcap] 144)
  have hszW:W.heap.size≤w5.heap.size:=Nat.le_trans (zaa Hb1).size hb5.size
  have hset:=zop _ _ _ _ _ [] es _ hI ⟨by simp,by simp,by simp⟩ hA.rise hA.wf (by simp [totL];omega)
  obtain ⟨w6,hw6⟩:∃ w6,w6=w5.alloc (.cells #[.int .i64 c0,.int .i64 c1,.int .i64 c2,.slice none 0 0,.slice va es.length vcap] 144):=⟨_,rfl⟩
  rw [← hw6] at hset hb6
  have Hset:=hide hset
  have Hb6:=hide hb6
  have HA:=hide hA
  have Hl:=hide hl
  clear hset hb6 hA hl hI hS hp hri hbt hb5 hB5 m0 m1 m2 j0 j1 j2
  gi_wp2_with (first
   | (refine ⟨trivial,?_⟩;gi_at_call 123;rw [← hw6];refine (show CallsIn Fence.wide _ _ _ _ _ _ from (callsIn_wide.2 (zaa Hset))).mono ?_;rintro e w7 ⟨rfl,rv',rs',h1,h2,h3,h4,h5,h6⟩))
  go_ret
  refine ⟨_,rv',rs',es,rfl,hszW,h1,h2,zaa HA,by simpa using h3,by have:=zaa Hl;simp [totL] at h4;unfold totL;omega,?_,fun g hg=>?_⟩
  ·have h7:=zaa Hb6
   exact h7.trans (h5.below (Nat.le_trans hszW (by rw [hw6];simp)) (fun k hk=>by rcases hk with rfl|hk;exact hszW;cases hk))
  ·rcases h6 g hg with h|h
   ·cases h
   ·rw [hw6] at h
    simp at h
    omega
end
end Go.Proofs.YtoifcnidhfnapaaGreatDoor
