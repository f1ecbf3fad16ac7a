import Derived.RangeFuncNested
import Derived.Test.YtoifcnidhfnapaaGreatDoorB13
import Derived.Test.YtoifcnidhfnapaaGreatDoorB14
import Derived.Test.YtoifcnidhfnapaaGreatDoorB09
import Derived.OrdersIn
import Derived.TacticsIn
set_option linter.unusedVariables false
set_option linter.unusedSimpArgs false
set_option maxRecDepth 100000
set_option maxHeartbeats 16000000
namespace Go.Proofs.YtoifcnidhfnapaaGreatDoor
open Go.RowKit
structure KeepX (X:Nat→Prop) (W W':World):Prop where
 os:W'.os=W.os
 tape:W'.tape=W.tape
 output:W'.output=W.output
 size:W.heap.size≤W'.heap.size
 blk:∀ q,q<W.heap.size→¬ X q→W'.heap[q]? = W.heap[q]?
theorem KeepX.refl (X:Nat→Prop) (W:World):KeepX X W W:=⟨rfl,rfl,rfl,Nat.le_refl _,fun _ _ _=>rfl⟩
theorem KeepX.trans {X:Nat→Prop} {A B C:World} (h:KeepX X A B) (k:KeepX X B C):KeepX X A C:=
 ⟨k.os.trans h.os,k.tape.trans h.tape,k.output.trans h.output,Nat.le_trans h.size k.size,fun q hq hx=>(k.blk q (Nat.lt_of_lt_of_le hq h.size) hx).trans (h.blk q hq hx)⟩
theorem KeepX.mono {X Y:Nat→Prop} {A B:World} (h:KeepX X A B) (hXY:∀ k,k<A.heap.size→X k→Y k):KeepX Y A B:=
 ⟨h.os,h.tape,h.output,h.size,fun q hq hx=>h.blk q hq fun e=>hx (hXY q hq e)⟩
theorem KeepX.ofBelow {X:Nat→Prop} {A B:World} (h:Below A.heap.size A B):KeepX X A B:=⟨h.os,h.tape,h.output,h.size,fun q hq _=>h.block q hq⟩
theorem KeepX.put {X:Nat→Prop} (W:World) (l:Nat) (o:Obj) (h:X l):KeepX X W (W.putObj l o):=
 ⟨rfl,rfl,rfl,by simp,fun q _ hx=>World.putObj_heap_other (fun e=>hx (e ▸ h))⟩
theorem KeepX.below {X:Nat→Prop} {A B:World} (h:KeepX X A B) {n:Nat} (hn:n≤A.heap.size) (hX:∀ k,X k→n≤k):Below n A B:=
 ⟨h.os,h.tape,h.output,h.size,fun q hq=>h.blk q (Nat.lt_of_lt_of_le hq hn) fun e=>by have:=hX q e;omega⟩
theorem KeepX.cell {X:Nat→Prop} {A B:World} (h:KeepX X A B) {p:Addr} (hp:p.block<A.heap.size) (hx:¬ X p.block):B.cell? p=A.cell? p:=World.cell?_of_block (h.blk p.block hp hx)
theorem zm5 {m m':Nat} {P:Program} {l:Nat} {f:FuncId} {tmps:Array Value} {assign body:Code} {w:World} {R:Ending→World→Prop} (h:RoundIn Fence.wide m P l f tmps assign body w R):RoundIn Fence.wide m' P l f tmps assign body w R:=
 ⟨h.1,fun c cs _=>h.2 c cs (room_wide _)⟩
theorem zm8 {m m':Nat} {P:Program} {l:Nat} {args:Array Value} {W:World} {R:Ending→World→Prop} (h:YieldAt Fence.wide m P l args W R):YieldAt Fence.wide m' P l args W R:=by
 obtain ⟨fn,tmps,assign,body,h1,h2⟩:=h
 exact ⟨fn,tmps,assign,body,h1,zm5 h2⟩
theorem zn5 {m m':Nat} {P:Program} {f:FuncId} {args:Array Value} {w:World} {R:Ending→World→Prop} (h:CallsIn Fence.wide m P f args w R):CallsIn Fence.wide m' P f args w R:=callsIn_wide.2 (callsIn_wide.1 h)
def yid {α:Type} (P:Program) (gf:Nat) (lb:Array Value) (encs:α→Array Value) (X:Nat→Prop) (C:World→Prop) (G S:List α→Prop) (l:Nat) (W:World):Prop:=
 ∀ (J:List α→World→Prop),(∀ pre A,J pre A→C A)→(∀ pre A B,J pre A→Below W.heap.size A B→J pre B) →
  (∀ pre x W1,J pre W1→W.heap.size≤W1.heap.size→G (pre ++ [x])→YieldAt Fence.wide 0 P l (encs x) W1 fun e W'=>e=.returned (.bool true)∧J (pre ++ [x]) W'∧KeepX (fun k=>X k∨k=l) W1 W') →
  J [] W→Calls P gf (#[.func (.yield l) #[] #[]] ++ lb) W fun e W'=>(∃ v,e=.returned v)∧∃ xs,S xs∧J xs W'
theorem zu5 {α:Type} {P:Program} {n:Nat} {g:Operand} {ps:Array Tmp} {assign body:Code} {Q:Exit→Act→World→Prop} {a:Act} {w:World} {gf:Nat} {lb:Array Value} (h1:1≤n)
  (hg:a.eval g=.func (.func gf) #[] lb) (eg:∀ args w,(callFunc gf args).run P w=.ok (.enter gf args) w) {encs:α→Array Value} (hps:∀ x,(encs x).size=ps.size) (X:Nat→Prop) (hX:∀ k,X k→k<w.heap.size) (C:World→Prop) (G S:List α→Prop)
  (I:List α→World→Prop) (hI:∀ pre A B,I pre A→Below w.heap.size A B→I pre B) (h0:I [] w) (hC:∀ pre A r,I pre A→A.heap[w.heap.size+1]? = some (.loop r)→C A)
  (hiter:∀ W,Below w.heap.size w W→W.heap.size=w.heap.size+2→yid P gf lb encs X C G S (w.heap.size+1) W)
  (Ax:α→Act→World→Prop) (hAx:∀ x a' W o,Ax x a' W→Ax x a' (W.putObj (w.heap.size+1) o))
  (hassign:∀ pre x W (K:Act→World→Prop),I pre W→w.heap.size+2≤W.heap.size→(∀ a' W',KeepX X W W'→I pre W'→Ax x a' W'→K a' W') →
   assign.wpIn (Fence.wide.inRound (w.heap.size+1)) (n - 1 - 1) P (Exit.then K (fun _ _ _=>False)) { tmps:=(ps.zip (encs x)).foldl (fun t (p,v)=>t.setIfInBounds p v) a.tmps,defers:=[] } W)
  (hbody:∀ pre x a' W,I pre W→Ax x a' W→w.heap.size+2≤W.heap.size→G (pre ++ [x])→body.wpIn (Fence.wide.inRound (w.heap.size+1)) (n - 1 - 1) P (fun e _ W'=>e=.normal∧I (pre ++ [x]) W'∧KeepX X W W') a' W)
  (hdone:∀ D xs W,w.heap.size≤D→S xs→I xs W→W.heap[D]? = some (.deferred (some []))→Q .normal { a with defers:={ target:=.collected D,args:=#[] } :: a.defers } W) :
  (Code.rangeFunc g ps assign body).wpIn Fence.wide n P Q a w:=by
 refine wpIn_rangeFunc fun fn hfn=>?_
 obtain ⟨rec,hrec⟩:∃ rec:LoopState→Loop,rec=fun st=>{ state:=st,pending:=none,fn,tmps:=a.tmps,params:=ps,assign,body,defers:=w.heap.size }:=⟨_,rfl⟩
 obtain ⟨W1,hW1⟩:∃ W1,W1=(w.alloc (.deferred (some []))).alloc (.loop (rec .ready)):=⟨_,rfl⟩
 have hs1:W1.heap.size=w.heap.size+2:=by rw [hW1];simp
 have hb1:Below w.heap.size w W1:=by rw [hW1];exact ((Below.refl _ w).alloc (Nat.le_refl _) _).alloc (by simp) _
 have hL:W1.heap[w.heap.size+1]? = some (.loop (rec .ready)):=by rw [hW1];have:=World.alloc_heap_new (w.alloc (.deferred (some []))) (.loop (rec .ready));rwa [World.size_alloc] at this
 have hD:W1.heap[w.heap.size]? = some (.deferred (some [])):=by rw [hW1];exact (Below.heap_alloc _ _ _ (by simp)).trans (World.alloc_heap_new w _)
 have hput:∀ (A:World) o,Below w.heap.size A (A.putObj (w.heap.size+1) o):=fun A o=>⟨rfl,rfl,rfl,by simp,fun k hk=>World.putObj_heap_other (by omega)⟩
 refine ⟨w.heap.size+1,[{ target:=.collected w.heap.size,args:=#[] }],W1,{ target:=.fn (.func gf) lb,args:=#[.func (.yield (w.heap.size+1)) #[] #[]] },W1,gf,#[.func (.yield (w.heap.size+1)) #[] #[]] ++ lb,W1,?_,?_,fun _ _=>trivial,?_,fun _=>h1,?_⟩
 ·rw [hW1,hrec];exact run_enterLoop_outer _ _ _ _ _
 ·simp only [resolve,hg]
  simp [go_sem]
 ·simp [invoke,go_sem,eg]
 ·obtain ⟨J,hJ⟩:∃ J:List α→World→Prop,J=fun pre W=>I pre W∧W.heap[w.heap.size+1]? = some (.loop (rec .ready))∧W.heap[w.heap.size]? = some (.deferred (some [])):=⟨_,rfl⟩
  refine callsIn_wide.2 ((hiter W1 hb1 hs1 J ?_ ?_ ?_ ?_).mono ?_)
  ·rintro pre A hA
   rw [hJ] at hA
   exact hC pre A _ hA.1 hA.2.1
  ·rintro pre A B hA hb
   rw [hJ] at hA ⊢
   rw [hs1] at hb
   exact ⟨hI pre A B hA.1 ⟨hb.os,hb.tape,hb.output,hb.size,fun k hk=>hb.block k (by omega)⟩,(hb.block _ (by omega)).trans hA.2.1,(hb.block _ (by omega)).trans hA.2.2⟩
  ·rintro pre x W hW hsz hG
   rw [hJ] at hW ⊢
   obtain ⟨hi,hl,hd⟩:=hW
   rw [hs1] at hsz
   have hy:=run_yield (P:=P) (args:=encs x) hl (by rw [hrec];exact hps x)
   rw [hrec] at hy
   refine ⟨fn,_,assign,body,hy,zm5 (roundIn_of_wpIn (n:=n - 1 - 1) trivial (hassign pre x W _ hi hsz ?_))⟩
   intro a' Wa hka hia hax
   have hla:=(hka.blk (w.heap.size+1) (by omega) (fun e=>by have:=hX _ e;omega)).trans hl
   have hda:=(hka.blk w.heap.size (by omega) (fun e=>by have:=hX _ e;omega)).trans hd
   have hsa:=hka.size
   refine ⟨_,run_beginRound hla (by rw [hrec]),?_⟩
   refine wpIn_mono (hbody pre x a' _ (hI _ _ _ hia (hput _ _)) (hAx _ _ _ _ hax) (by simp;omega) hG) ?_
   rintro e a3 W3 ⟨rfl,hi3,hk3⟩
   have hsz3:=hk3.size
   simp at hsz3
   have hl3:W3.heap[w.heap.size+1]? = some (.loop { rec .ready with state:=.busy }):=(hk3.blk _ (by simp;omega) (fun e=>by have:=hX _ e;omega)).trans (World.putObj_heap_same (by omega))
   have hd3:=(hk3.blk w.heap.size (by simp;omega) (fun e=>by have:=hX _ e;omega)).trans ((World.putObj_heap_other (by omega)).trans hda)
   have hend:=run_endRound (P:=P) none hl3
   rw [hrec] at hend
   refine ⟨_,_,hend,rfl,⟨hI _ _ _ hi3 (hput _ _),?_,(World.putObj_heap_other (by omega)).trans hd3⟩,?_⟩
   ·rw [World.putObj_heap_same (by omega),hrec];rfl
   ·refine (hka.mono fun k _ h=>.inl h).trans ((KeepX.put _ _ _ (.inr rfl)).trans ((hk3.mono fun k _ h=>.inl h).trans (KeepX.put _ _ _ (.inr rfl))))
  ·rw [hJ]
   exact ⟨hI _ _ _ h0 hb1,hL,hD⟩
  ·rintro e W2 ⟨⟨v,rfl⟩,xs,hS,hj⟩
   rw [hJ] at hj
   obtain ⟨hi,hl,hd⟩:=hj
   refine ⟨none,_,by have:=run_endLoop (P:=P) hl (by rw [hrec];simp);rw [hrec] at this;exact this,?_⟩
   exact hdone _ xs _ (Nat.le_refl _) hS (hI _ _ _ hi (hput _ _)) ((World.putObj_heap_other (by omega)).trans hd)
end Go.Proofs.YtoifcnidhfnapaaGreatDoor
namespace Go.Proofs.YtoifcnidhfnapaaGreatDoor
open Go.RowKit Go.Maps Go.Sort Go.Shelf
def zyo (us:List (Nat×Nat)) (S:Nat→Src) (zs:List Int):Prop:=zs.Pairwise (· < ·)∧∀ z,z∈zs↔zkn us S z
structure zms (us:List (Nat×Nat)) (S:Nat→Src) (fr:Int) (zs:List Int):Prop where
 rise:zs.Pairwise (· < ·)
 low:∀ z∈zs,z<fr
 isin:∀ z∈zs,zkn us S z
 all:∀ z,zkn us S z→z<fr→z∈zs
theorem zms.end1 {us:List (Nat×Nat)} {S:Nat→Src} {fr y:Int} {zs:List Int} (h:zms us S fr zs) (hL:zrm us S fr (y,false)):zyo us S zs:=
 ⟨h.rise,fun z=>⟨h.isin z,fun hz=>h.all z hz (by have:=hL.2 rfl z hz;omega)⟩⟩
theorem zms.next {us:List (Nat×Nat)} {S:Nat→Src} {fr y:Int} {zs:List Int} (h:zms us S fr zs) (hL:zrm us S fr (y,true)):zms us S (y+1) (zs ++ [y]):=by
 obtain ⟨h1,h2,h3⟩:=hL.1 rfl
 dsimp only at h1 h2 h3
 refine ⟨List.pairwise_append.2 ⟨h.rise,List.pairwise_singleton _ _,fun a ha b hb=>?_⟩,fun z hz=>?_,fun z hz=>?_,fun z hz hl=>?_⟩
 ·simp at hb;subst hb;have:=h.low a ha;omega
 ·rcases List.mem_append.1 hz with hz|hz
  ·have:=h.low z hz;omega
  ·simp at hz;omega
 ·rcases List.mem_append.1 hz with hz|hz
  ·exact h.isin z hz
  ·simp at hz;subst hz;exact h1
 ·by_cases hf:z<fr
  ·exact List.mem_append_left _ (h.all z hz hf)
  ·have:=h3 z hz (by omega)
   have e:z=y:=by omega
   subst e
   simp
theorem zms.end2 {us:List (Nat×Nat)} {S:Nat→Src} {fr:Int} {zs:List Int} (h:zms us S fr zs) (hhi:∀ z,zkn us S z→z<fr):zyo us S zs:=
 ⟨h.rise,fun z=>⟨h.isin z,fun hz=>h.all z hz (hhi z hz)⟩⟩
theorem ydg {us:List (Nat×Nat)} {S:Nat→Src} {y:Int} (hn0:0<us.length) (h:zkn us S y):∃ u∈us,znc (S u.1).c (S u.1).rs y:=
 ⟨us[0],List.getElem_mem hn0,h _ (List.getElem_mem hn0)⟩
theorem KeepX.then {X:Nat→Prop} {A B C:World} (h:KeepX X A B) (hb:Below B.heap.size B C):KeepX X A C:=h.trans (KeepX.ofBelow hb)
attribute [local go_sem] Oper.semAt_some in
theorem zsk (us:List (Nat×Nat)) (uv:Value) (pa:Option Addr) (pn pc:Nat) (sv:Nat→SV) (S:Nat→Src) (hn0:0<us.length) (hn:us.length≤4)
  (hu:∀ k,k<us.length→(us[k]?.getD (0,0)).1<4∧zcm 1 (S (us[k]?.getD (0,0)).1)) (hM:∀ z,zdh us S z≤1000000000000) (hlo:∀ z,zkn us S z→-9223372036854775808≤z∧z≤9223372036854775807) (sB qB:Nat) (X:Nat→Prop) (l:Nat) (W:World)
  (hK:∀ W',KeepX (fun k=>X k∨k=l) W W'→zmu W' uv us∧(∀ i,i<4→zay W' (sv i).val (S i).rs)∧W'.heap[sB]? = some (.cells #[uv,.slice pa pn pc] 273 (0,0))∧W'.heap[qB]? = some (.cells (zag sv (fun i=>((S i).c:Int))) 192 (0,0))) :
  yid Tryz.prog 228 #[.pointer (some ⟨sB,0,none⟩),.pointer (some ⟨qB,0,none⟩)] (fun z:Int=>#[.int .i64 z]) X (fun _=>True) (fun zs=>zs.Nodup∧∀ z∈zs,wfI z) (zyo us S) l W:=by
 intro J _ hJ hY h0
 refine (callsIn_wide (n:=5)).1 (callsIn_of_wp Tryz.func228 rfl trivial ?_ rfl)
 have Hu:=zac hu
 have HM:=zac hM
 have Hlo:=zac hlo
 have HK:=zac hK
 have HJ:=zac hJ
 have HY:=zac hY
 clear hu hM hlo hK hJ hY
 simp only [Tryz.ntmps228,List.size_toArray,List.length_cons,List.length_nil,Nat.reduceAdd,Nat.reduceSub,Array.replicate_succ,Array.replicate_zero,List.push_toArray,List.append_toArray,List.nil_append,List.cons_append]
 gi_wp2
 gi_loopw [4] (fun f wr=>∃ (fr:Int) (zs:List Int),f=.int .i64 fr∧-9223372036854775808≤fr∧fr≤9223372036854775807∧J zs wr∧KeepX (fun k=>X k∨k=l) W wr∧zms us S fr zs) (fun f _=>zdh us S (intOf f - 1))
 case atStart=>exact ⟨_,[],rfl,by omega,by omega,h0,KeepX.refl _ _,List.Pairwise.nil,(fun z hz=>by cases hz),(fun z hz=>by cases hz),fun z hz hl=>by have:=(zaa Hlo) z hz;omega⟩
 case round =>
  obtain ⟨fr,zs,rfl,hf1,hf2,hJz,hKr,hN⟩:=hrel
  obtain ⟨hUs,hRs,hsB,hqB⟩:=(zaa HK) wr hKr
  obtain ⟨ua,ucap,rfl,hux⟩:=id hUs
  have c0:wr.cell? ⟨sB,0,none⟩=some (.slice ua us.length ucap):=zab hsB 0
  have c1:wr.cell? ⟨sB,1,none⟩=some (.slice pa pn pc):=zab hsB 1
  have p0:wr.cell? ⟨qB,0,none⟩=some _:=(zaf hqB 0 (by omega)).1
  have p1:wr.cell? ⟨qB,1,none⟩=some _:=(zaf hqB 0 (by omega)).2
  have p2:wr.cell? ⟨qB,2,none⟩=some _:=(zaf hqB 1 (by omega)).1
  have p3:wr.cell? ⟨qB,3,none⟩=some _:=(zaf hqB 1 (by omega)).2
  have p4:wr.cell? ⟨qB,4,none⟩=some _:=(zaf hqB 2 (by omega)).1
  have p5:wr.cell? ⟨qB,5,none⟩=some _:=(zaf hqB 2 (by omega)).2
  have p6:wr.cell? ⟨qB,6,none⟩=some _:=(zaf hqB 3 (by omega)).1
  have p7:wr.cell? ⟨qB,7,none⟩=some _:=(zaf hqB 3 (by omega)).2
  have HUs:=zac hUs
  have HRs:=zac hRs
  have HJz:=zac hJz
  have HKr:=zac hKr
  have HN:=zac hN
  clear hUs hRs hsB hqB hJz hKr hN hux
  gi_wp2_with fail
  refine ⟨trivial,?_⟩
  refine (callsIn_wide.2 (ybh us (.slice ua us.length ucap) pa pn pc sv S fr wr (zaa HUs) hn0 hn (zaa HRs) (zaa Hu) ((zaa HM) fr))).mono ?_
  rintro e w2 ⟨⟨y,bb⟩,rfl,hL,hb2⟩
  have hJ2:=(zaa HJ) zs wr w2 (zaa HJz) (hb2.mono (zaa HKr).size)
  have hK2:=(zaa HKr).then hb2
  clear hb2
  dsimp only
  cases bb with
  | false =>
   have Hend:=zac ((zaa HN).end1 hL)
   have HJ2:=zac hJ2
   clear hJ2 hK2 hL
   gi_wp2_with (refine ⟨(fun f hf=>by cases hf),?_⟩)
   refine bodyPost_ret (results_none rfl _ _ _) rfl ?_
   exact ⟨⟨_,rfl⟩,zs,zaa Hend,zaa HJ2⟩
  | true =>
   have hN2:=(zaa HN).next hL
   obtain ⟨hin,hfy,_⟩:=hL.1 rfl
   dsimp only at hin hfy
   obtain ⟨fn,tmps,assign,body,hy,hR⟩:=zm8 (m':=4) ((zaa HY) zs y w2 hJ2 hK2.size ⟨hN2.rise.imp (fun h e=>by omega),fun z hz=>zbm ((zaa Hlo) z (hN2.isin z hz))⟩)
   obtain ⟨u,huu,hui⟩:=ydg hn0 hin
   have hab:zdh us S y<zdh us S (fr - 1):=zto us S (by omega) huu hui
   have hyr:=(zaa Hlo) y hin
   have HR:=zac hR
   have HN2:=zac hN2
   have HK2:=zac hK2
   have Hab:=zac hab
   clear hR hN2 hK2 hab hJ2 hL hin hui huu
   by_cases hmax:y=9223372036854775807
   ·subst hmax
    gi_wp2_with (refine (zaa HR).mono ?_;rintro e W3 ⟨rfl,hJ3,hK3⟩;have HJ3:=zac hJ3;clear hJ3 hK3)
    refine bodyPost_ret (results_none rfl _ _ _) rfl ?_
    exact ⟨⟨_,rfl⟩,zs ++ [9223372036854775807],(zaa HN2).end2 fun z hz=>by have:=(zaa Hlo) z hz;omega,zaa HJ3⟩
   ·gi_wp2_with (refine (zaa HR).mono ?_;rintro e W3 ⟨rfl,hJ3,hK3⟩;have HJ3:=zac hJ3;have HK3:=zac hK3;clear hJ3 hK3)
    go_roundw
    case rel=>exact ⟨y+1,zs ++ [y],by simp,by omega,by omega,zaa HJ3,(zaa HK2).trans (zaa HK3),zaa HN2⟩
    case measure=>simp only [intOf];rw [show y+1 - 1=y by omega];exact zaa Hab
def ztl (A:World) (k:Nat):Prop:=∀ cs t fr,A.heap[k]?≠some (.cells cs t fr)
theorem KeepX.cellN {Y:Nat→Prop} {W W':World} (h:KeepX Y W W') (hN:∀ k,Y k→ztl W k) {b o:Nat} {v:Value} (hc:W.cell? ⟨b,o,none⟩=some v):W'.cell? ⟨b,o,none⟩=some v:=by
 have hlt:b<W.heap.size:=World.block_lt_of_cell? W _ hc
 have hb:¬ Y b:=fun hy=>by
  cases e:W.heap[b]? with
  | none=>rw [Array.getElem?_eq_none_iff] at e;omega
  | some ob =>
   cases ob with
   | cells cs t fr=>exact hN b hy cs t fr e
   | _=>simp [World.cell?,e] at hc
 exact (World.cell?_of_block (w:=W) (a:=⟨b,o,none⟩) (h.blk b hlt hb)).trans hc
theorem KeepX.blkN {Y:Nat→Prop} {W W':World} (h:KeepX Y W W') (hN:∀ k,Y k→ztl W k) {b:Nat} {cs:Array Value} {t:TypeId} {fr:Nat×Nat} (hc:W.heap[b]? = some (.cells cs t fr)):W'.heap[b]? = some (.cells cs t fr):=
 (h.blk b (Array.getElem?_eq_some_iff.1 hc).1 (fun hy=>hN b hy _ _ _ hc)).trans hc
theorem zb1.keepN {Y:Nat→Prop} {W W':World} {v:Value} {es:List zaj} (h:zb1 W v es) (hk:KeepX Y W W') (hN:∀ k,Y k→ztl W k):zb1 W' v es:=by
 obtain ⟨a,cap,rfl,hc,hx⟩:=h
 refine ⟨a,cap,rfl,hc,fun i hi=>?_⟩
 obtain ⟨b,o,rfl,h0,h1,h2,h3,cs,h4⟩:=hx i hi
 exact ⟨b,o,rfl,hk.cellN hN h0,hk.cellN hN h1,hk.cellN hN h2,hk.cellN hN h3,cs,hk.blkN hN h4⟩
theorem zay.keepN {Y:Nat→Prop} {W W':World} {v:Value} {rs:List (List zaj)} (h:zay W v rs) (hk:KeepX Y W W') (hN:∀ k,Y k→ztl W k):zay W' v rs:=by
 obtain ⟨a,cap,rfl,hx⟩:=h
 refine ⟨a,cap,rfl,fun i hi=>?_⟩
 obtain ⟨g,q,b,o,cp,rfl,d0,hr⟩:=hx i hi
 exact ⟨g,q,b,o,cp,rfl,hk.cellN hN d0,hr.keepN hk hN⟩
theorem zay.asideT {w w':World} {B:Nat} {v:Value} {rs:List (List zaj)} {cs:Array Value} {t:TypeId} (h:zay w v rs) (hB:w.heap[B]? = some (.cells cs t (0,0))) (ht:t≠221) (hcs:∀ (o:Nat) (b:Addr) (n c:Nat),cs[o]?≠some (Value.slice (some b) n c)) (hk:∀ q,q<w.heap.size→q≠B→w'.heap[q]? = w.heap[q]?):zay w' v rs:=by
 obtain ⟨a,cap,rfl,hx⟩:=h
 refine ⟨a,cap,rfl,fun i hi=>?_⟩
 obtain ⟨g,q,b,o,cp,rfl,d0,hr⟩:=hx i hi
 have hg:g≠B:=fun e=>by
  subst e
  rw [zab hB] at d0
  exact hcs _ _ _ _ d0
 have hgl:g<w.heap.size:=World.block_lt_of_cell? w _ d0
 refine ⟨g,q,b,o,cp,rfl,(World.cell?_of_block (w:=w) (a:=⟨g,q+i,none⟩) (hk g hgl hg)).trans d0,?_⟩
 by_cases he:rs[i]?.getD []=[]
 ·rw [he];exact ⟨_,cp,rfl,Nat.zero_le _,fun j hj=>by simp at hj⟩
 ·obtain ⟨a',cap',e,_,hx'⟩:=id hr
  obtain ⟨b',o',e',x0,_,_,_,cs',x4⟩:=hx' 0 (List.length_pos_iff.2 he)
  injection e with e1 e2 e3
  have e4:=e1.trans e'
  injection e4 with e4
  injection e4 with e5 e6
  subst e5 e6
  have hbB:b≠B:=fun e=>by
   subst e
   rw [hB] at x4
   injection x4 with x4
   injection x4 with _ x5
   exact ht x5
  exact hr.back (hk b (World.block_lt_of_cell? w _ x0) hbB).symm
theorem zmu.keepN {Y:Nat→Prop} {W W':World} {v:Value} {us:List (Nat×Nat)} (h:zmu W v us) (hk:KeepX Y W W') (hN:∀ k,Y k→ztl W k):zmu W' v us:=by
 obtain ⟨a,cap,rfl,hx⟩:=h
 refine ⟨a,cap,rfl,fun i hi=>?_⟩
 obtain ⟨b,o,rfl,d0,d1⟩:=hx i hi
 exact ⟨b,o,rfl,hk.cellN hN d0,hk.cellN hN d1⟩
theorem KeepX.setNew {Y:Nat→Prop} {W w:World} (h:KeepX Y W w) {b:Nat} (hb:W.heap.size≤b) (o:Nat) (v:Value):KeepX Y W (w.setCell ⟨b,o,none⟩ v):=
 ⟨h.os,h.tape,h.output,by simp [World.setCell];exact h.size,fun q hq hx=>(Below.heap_setCell _ _ _ q (by dsimp only;omega)).trans (h.blk q hq hx)⟩
def znj (w:World) (a:Option Addr) (ps:List Nat):Prop:=∀ j,j<ps.length→∃ b o,a=some ⟨b,o,none⟩∧w.cell? ⟨b,o+j,none⟩=some (.int .i64 ((ps[j]?.getD 0:Nat):Int))
def zeb (w:World) (v:Value) (sts:List Stp):Prop:=
 ∃ a cap,v=.slice a sts.length cap∧sts.length≤cap∧∀ j,j<sts.length→∃ b o ua uc pa pc,a=some ⟨b,o,none⟩∧w.cell? ⟨b,o+j*2,none⟩=some (.slice ua (sts[j]?.getD ⟨[],[]⟩).us.length uc) ∧
  w.cell? ⟨b,o+j*2+1,none⟩=some (.slice pa (sts[j]?.getD ⟨[],[]⟩).ps.length pc)∧zmu w (.slice ua (sts[j]?.getD ⟨[],[]⟩).us.length uc) (sts[j]?.getD ⟨[],[]⟩).us∧znj w pa (sts[j]?.getD ⟨[],[]⟩).ps
theorem zeb.keepN {Y:Nat→Prop} {W W':World} {v:Value} {sts:List Stp} (h:zeb W v sts) (hk:KeepX Y W W') (hN:∀ k,Y k→ztl W k):zeb W' v sts:=by
 obtain ⟨a,cap,rfl,hc,hx⟩:=h
 refine ⟨a,cap,rfl,hc,fun i hi=>?_⟩
 obtain ⟨b,o,ua,uc,pa,pc,rfl,d0,d1,d2,d3⟩:=hx i hi
 refine ⟨b,o,ua,uc,pa,pc,rfl,hk.cellN hN d0,hk.cellN hN d1,d2.keepN hk hN,fun j hj=>?_⟩
 obtain ⟨b',o',e,d⟩:=d3 j hj
 exact ⟨b',o',e,hk.cellN hN d⟩
theorem zeb.below {W W':World} {v:Value} {sts:List Stp} (h:zeb W v sts) (hb:Below W.heap.size W W'):zeb W' v sts:=
 h.keepN (Y:=fun _=>False) (KeepX.ofBelow hb) (fun _ h=>h.elim)
theorem zeb.tail {W:World} {b o n cap:Nat} {st:Stp} {sts:List Stp} (h:zeb W (.slice (some ⟨b,o,none⟩) n cap) (st :: sts)):zeb W (.slice (some ⟨b,o+2,none⟩) sts.length (cap - 1)) sts:=by
 obtain ⟨a,cap',e,hc,hx⟩:=h
 injection e with e1 e2 e3
 subst e1 e3
 simp only [List.length_cons] at hc
 refine ⟨_,cap - 1,rfl,by omega,fun j hj=>?_⟩
 obtain ⟨b',o',ua,uc,pa,pc,e,d0,d1,d2,d3⟩:=hx (j+1) (by simp;omega)
 injection e with e
 injection e with e1 e2
 subst e1 e2
 simp only [List.getElem?_cons_succ] at d0 d1 d2 d3
 rw [show o+(j+1)*2=o+2+j*2 by omega] at d0 d1
 exact ⟨b,o+2,ua,uc,pa,pc,rfl,d0,d1,d2,d3⟩
def h4C (h:H4):Array Value:=#[.int .i64 h.1,.int .i64 h.2.1,.int .i64 h.2.2.1,.int .i64 h.2.2.2]
structure zrp (X:Nat→Prop) (l B0 N:Nat) (J:List (H4×Int)→World→Prop):Prop where
 lt:∀ k,X k∨k=l→k<B0
 nc:∀ pre A,J pre A→∀ k,X k∨k=l→ztl A k
 st:∀ pre A B,J pre A→Below B0 A B→J pre B
 yl:∀ pre x A,J pre A→B0≤A.heap.size→pre.length<N→WfH x.1→YieldAt Fence.wide 0 Tryz.prog l #[.agg (h4C x.1),.int .i64 x.2] A fun e A'=>e=.returned (.bool true)∧J (pre ++ [x]) A'∧KeepX (fun k=>X k∨k=l) A A'
def zkr (X:Nat→Prop) (l:Nat) (J:List (H4×Int)→World→Prop) (pre:List (H4×Int)) (V:H4→B64) (c:Nat) (W:World) (e:Ending) (W':World):Prop:=
 e=.returned (.bool true)∧∃ ys,(∀ h,zrj ys h=V h)∧ys.length≤c∧J (pre ++ ys) W'∧KeepX (fun k=>X k∨k=l) W W'
structure zn0 (w:World) (B PB:Nat) (stv:Value) (srcs row:Array Value) (l:Nat) (r:Bool):Prop where
 b0:w.heap[B]? = some (.cells #[.pointer (some ⟨PB,0,none⟩)] 84 (0,0))
 b1:w.heap[B+1]? = some (.cells #[stv] 263 (0,0))
 b2:w.heap[B+1+1]? = some (.cells srcs 192 (0,0))
 b3:w.heap[B+1+1+1]? = some (.cells row 134 (0,0))
 b4:w.heap[B+1+1+1+1]? = some (.cells #[.func (.yield l) #[] #[]] 207 (0,0))
 b5:w.heap[B+1+1+1+1+1]? = some (.cells #[.bool r] 4 (0,0))
def zp7 (W:World) (PB:Nat) (stv:Value) (srcs row:Array Value) (l:Nat):World:=
 (((((W.alloc (.cells #[.pointer (some ⟨PB,0,none⟩)] 84)).alloc (.cells #[stv] 263)).alloc (.cells srcs 192)).alloc (.cells row 134)).alloc (.cells #[.func (.yield l) #[] #[]] 207)).alloc (.cells #[.bool false] 4)
theorem zpe (W:World) (PB:Nat) (stv:Value) (srcs row:Array Value) (l:Nat):zn0 (zp7 W PB stv srcs row l) W.heap.size PB stv srcs row l false:=by
 constructor <;> (unfold zp7;repeat (first|exact zae _ _ _ (by simp)|refine (Below.heap_alloc _ _ _ (by simp <;> omega)).trans ?_))
theorem zre (W:World) (PB:Nat) (stv:Value) (srcs row:Array Value) (l:Nat):(zp7 W PB stv srcs row l).heap.size=W.heap.size+6:=by unfold zp7;simp
theorem zpd (W:World) (PB:Nat) (stv:Value) (srcs row:Array Value) (l:Nat):Below W.heap.size W (zp7 W PB stv srcs row l):=by
 unfold zp7
 refine (((((((Below.refl _ _).alloc (Nat.le_refl _) _).alloc (by simp) _).alloc (by simp;omega) _).alloc (by simp;omega) _).alloc (by simp;omega) _).alloc (by simp;omega) _)
theorem yez {na:Nat} {S:Nat→Src} {row:H4} {q:Int} (hq:BitVec.ofInt 64 q=zg5 (fun i=>zbz (zcn S i) wtB) na) (h:H4):zrj (if q=0 then [] else [(row,q)]) h=zs9 na [] S row h:=by
 rw [yho,← hq]
 by_cases h0:q=0
 ·subst h0
  simp [zrj,zbz]
 ·rw [if_neg h0]
  simp [zrj,zbz]
attribute [local go_sem] Oper.semAt_some in
theorem yly {X:Nat→Prop} {l B0 N:Nat} {J:List (H4×Int)→World→Prop} (hY:zrp X l B0 N J) (PB:Nat) (ka:Option Addr) (na kcap:Nat) (x1 x2:Value) (sa:Option Addr) (sc:Nat) (sv:Nat→SV) (S:Nat→Src) (row:H4) (pre:List (H4×Int)) (W:World)
  (hJ:J pre W) (hB:B0≤W.heap.size) (hP:W.heap[PB]? = some (.cells #[.slice ka na kcap,x1,x2] 265 (0,0))) (hS:SOK na [] S) (hr:∀ i,i<4→zay W (sv i).val (S i).rs) (hcnt:pre.length+zmn na S≤N) (hrow:WfH row) :
  Calls Tryz.prog 159 #[.pointer (some ⟨PB,0,none⟩),.slice sa 0 sc,.agg (zag sv (fun i=>((S i).c:Int))),.agg (h4C row),.func (.yield l) #[] #[]] W (zkr X l J pre (zs9 na [] S row) (zmn na S) W):=by
 refine (callsIn_wide (n:=9)).1 (callsIn_of_wp Tryz.func159 rfl trivial ?_ rfl)
 obtain ⟨r0,r1,r2,r3⟩:=row
 obtain ⟨W6,hW6⟩:∃ W6,W6=zp7 W PB (.slice sa 0 sc) (zag sv (fun i=>((S i).c:Int))) (h4C (r0,r1,r2,r3)) l:=⟨_,rfl⟩
 have hb6:Below W.heap.size W W6:=by rw [hW6];exact zpd ..
 have hsz:W6.heap.size=W.heap.size+6:=by rw [hW6];exact zre ..
 have hbx:zn0 W6 W.heap.size PB (.slice sa 0 sc) (zag sv (fun i=>((S i).c:Int))) (h4C (r0,r1,r2,r3)) l false:=by rw [hW6];exact zpe ..
 obtain ⟨q,hq⟩:∃ q,q=zo1 (fun i=>(S i).rs) na:=⟨_,rfl⟩
 have hw:=zw6 PB ka na kcap x1 x2 sv (fun i=>((S i).c:Int)) (fun i=>(S i).rs) W6 ((hb6.block PB (Array.getElem?_eq_some_iff.1 hP).1).trans hP) hS.na4 (fun i hi=>(hr i (by have:=hS.na4;omega)).below hb6) (fun i hi=>⟨(hS.ok i hi).len,(hS.ok i hi).cnt⟩)
 rw [← hq] at hw
 have Hpos:Hid (q≠0→1≤zmn na S):=fun h=>yhn (by rw [← hq];exact h)
 have Hcnt:=zac hcnt
 have Hrow:=zac hrow
 clear hcnt hrow
 have hsum:∀ h,zrj (if q=0 then [] else [((r0,r1,r2,r3),q)]) h=zs9 na [] S (r0,r1,r2,r3) h:=yez (by rw [hq];exact zoz _ na)
 have c1:W6.cell? ⟨W.heap.size+1,0,none⟩=some (.slice sa 0 sc):=zab hbx.b1 0
 have c0:W6.cell? ⟨W.heap.size,0,none⟩=some (.pointer (some ⟨PB,0,none⟩)):=zab hbx.b0 0
 have p0:W6.cell? ⟨W.heap.size+1+1,0,none⟩=some _:=(zaf hbx.b2 0 (by omega)).1
 have p1:W6.cell? ⟨W.heap.size+1+1,1,none⟩=some _:=(zaf hbx.b2 0 (by omega)).2
 have p2:W6.cell? ⟨W.heap.size+1+1,2,none⟩=some _:=(zaf hbx.b2 1 (by omega)).1
 have p3:W6.cell? ⟨W.heap.size+1+1,3,none⟩=some _:=(zaf hbx.b2 1 (by omega)).2
 have p4:W6.cell? ⟨W.heap.size+1+1,4,none⟩=some _:=(zaf hbx.b2 2 (by omega)).1
 have p5:W6.cell? ⟨W.heap.size+1+1,5,none⟩=some _:=(zaf hbx.b2 2 (by omega)).2
 have p6:W6.cell? ⟨W.heap.size+1+1,6,none⟩=some _:=(zaf hbx.b2 3 (by omega)).1
 have p7:W6.cell? ⟨W.heap.size+1+1,7,none⟩=some _:=(zaf hbx.b2 3 (by omega)).2
 have Hbx:=zac hbx
 have Hb6:=zac hb6
 have Hsz:=zac hsz
 have Hw:=zac hw
 have HJ:=zac hJ
 have HY:=zac hY
 have Hsum:=zac hsum
 clear hbx hb6 hsz hw hJ hY hsum hP hS hr hq
 simp only [Tryz.ntmps159,List.size_toArray,List.length_cons,List.length_nil,Nat.reduceAdd,Nat.reduceSub,Array.replicate_succ,Array.replicate_zero,List.push_toArray,List.append_toArray,List.nil_append,List.cons_append]
 unfold zp7 zag h4C at hW6
 unfold zag h4C
 gi_wp2_with fail
 refine ⟨trivial,?_⟩
 rw [← hW6]
 refine (callsIn_wide.2 (zaa Hw)).mono ?_
 rintro e w2 ⟨rfl,hb2⟩
 dsimp only
 have hK2:KeepX (fun k=>X k∨k=l) W w2:=KeepX.ofBelow ((zaa Hb6).trans (hb2.mono (zaa Hb6).size))
 have hJ2:=(zaa HY).st pre W w2 (zaa HJ) (((zaa Hb6).trans (hb2.mono (zaa Hb6).size)).mono hB)
 have hs2:W.heap.size+6≤w2.heap.size:=by have:=hb2.size;have:=zaa Hsz;omega
 have g5:=(hb2.block _ (by have:=zaa Hsz;omega)).trans (zaa Hbx).b5
 have g4:=(hb2.block _ (by have:=zaa Hsz;omega)).trans (zaa Hbx).b4
 have g3:=(hb2.block _ (by have:=zaa Hsz;omega)).trans (zaa Hbx).b3
 have d5:w2.cell? ⟨W.heap.size+1+1+1+1+1,0,none⟩=some (.bool false):=zab g5 0
 have f5:w2.frozen? ⟨W.heap.size+1+1+1+1+1,0,none⟩=false:=zad g5 0
 have d4:w2.cell? ⟨W.heap.size+1+1+1+1,0,none⟩=some (.func (.yield l) #[] #[]):=zab g4 0
 have e0:w2.cell? ⟨W.heap.size+1+1+1,0,none⟩=some (.int .i64 r0):=zab g3 0
 have e1:w2.cell? ⟨W.heap.size+1+1+1,1,none⟩=some (.int .i64 r1):=zab g3 1
 have e2:w2.cell? ⟨W.heap.size+1+1+1,2,none⟩=some (.int .i64 r2):=zab g3 2
 have e3:w2.cell? ⟨W.heap.size+1+1+1,3,none⟩=some (.int .i64 r3):=zab g3 3
 have G5:=zac g5
 have Hs2:=zac hs2
 clear g5 g4 g3 hb2 c0 c1 p0 p1 p2 p3 p4 p5 p6 p7 hs2
 by_cases hq0:q=0
 ·subst hq0
  have HK2:=zac hK2
  have HJ2:=zac hJ2
  clear hK2 hJ2
  gi_wp2_with (refine ⟨(fun f hf=>by cases hf),?_⟩)
  refine bodyPost_ret (v:=.bool true) (by simp [results,Tryz.results159,go_sem,d5,f5]) rfl ⟨rfl,[],fun h=>?_,Nat.zero_le _,?_,?_⟩
  ·have:=(zaa Hsum) h
   simpa using this
  ·rw [List.append_nil]
   exact (zaa HY).st pre _ _ (zaa HJ2) (zbu (Below.refl _ _) (by omega) _ _)
  ·exact (zaa HK2).setNew (by omega) _ _
 ·obtain ⟨fn,tmps,assign,body,hy,hR⟩:=zm8 (m':=8) ((zaa HY).yl pre ((r0,r1,r2,r3),q) w2 hJ2 (by have:=zaa Hs2;omega) (by have:=(zaa Hpos) hq0;have:=zaa Hcnt;omega) (zaa Hrow))
  have HR:=zac hR
  have HK2:=zac hK2
  clear hR hK2 hJ2
  unfold h4C at hy
  dsimp only at hy
  have Hlt:=zac (zaa HY).lt
  have Hst:=zac (zaa HY).st
  clear HY
  gi_wp2_with (refine (zaa HR).mono ?_;rintro e W3 ⟨rfl,hJ3,hK3⟩;have g5':=(hK3.blk _ (by have:=zaa Hs2;omega) (fun e=>by have:=(zaa Hlt) _ e;omega)).trans (zaa G5);have d5':W3.cell? ⟨W.heap.size+1+1+1+1+1,0,none⟩=some (.bool false):=zab g5' 0;have f5':W3.frozen? ⟨W.heap.size+1+1+1+1+1,0,none⟩=false:=zad g5' 0;have HJ3:=zac hJ3;have HK3:=zac hK3;clear hJ3 hK3 g5')
  refine bodyPost_ret (v:=.bool true) (by simp [results,Tryz.results159,go_sem,d5',f5']) rfl ⟨rfl,[((r0,r1,r2,r3),q)],fun h=>?_,(zaa Hpos) hq0,?_,?_⟩
  ·have:=(zaa Hsum) h
   rwa [if_neg hq0] at this
  ·exact (zaa Hst) _ _ _ (zaa HJ3) (zbu (Below.refl _ _) (by omega) _ _)
  ·exact ((zaa HK2).trans (zaa HK3)).setNew (by omega) _ _
end Go.Proofs.YtoifcnidhfnapaaGreatDoor
namespace Go.Proofs.YtoifcnidhfnapaaGreatDoor
open Go
def zsj (ops : Array Oper) : Bool := ops.all fun o => match o.op with | .defer _ => false | _ => true
theorem yax {ops : Array Oper} (h : zsj ops = true) {i : Nat} {o : Oper} (ho : ops[i]? = some o) (c : Call) : o.op ≠ .defer c := by
  intro e
  have := Array.all_eq_true_iff_forall_mem.1 h o (Array.mem_of_getElem? ho)
  rw [e] at this
  cases this
theorem zv2 {F : Fence} {n : Nat} {P : Program} {ops : Array Oper} {Q : Exit → Act → World → Prop} (l : Nat) (hro : F.round = none) (hnd : zsj ops = true) {i : Nat} {K : Act → World → Prop} {a : Act} {w : World}
    (h : wpOpIn F n P ops Q i K a w) : wpOpIn (F.inRound l) n P ops Q i K a w := by
  unfold wpOpIn at *
  cases ho : ops[i]? with
  | none => simp only [ho] at h ⊢
            exact h
  | some o =>
    simp only [ho] at h ⊢
    split
    · rename_i hw
      simp only [hw, if_true] at h
      unfold Oper.wpIn at *
      rw [hro, Oper.semAt_none] at h
      refine ⟨h.1, ?_⟩
      rw [show (F.inRound l).round = some l from rfl, Oper.semAt_some l _ _ (yax hnd ho)]
      exact h.2
    · rename_i hw
      simp only [hw] at h
      exact h
theorem zlo {F : Fence} {n : Nat} {P : Program} {md : Region.Mode} {ops : Array Oper} {Q : Exit → Act → World → Prop} (l : Nat) (hro : F.round = none) (hnd : zsj ops = true) :
    ∀ (fuel : Nat) (listed : Array Bool) (a : Act) (w : World), wpAnyIn F n P md ops Q fuel listed a w → wpAnyIn (F.inRound l) n P md ops Q fuel listed a w
  | 0, _, _, _, h => h
  | fuel + 1, listed, a, w, h => ⟨h.1, fun i hi => wpOpIn_mono (fun a' w' h' => zlo l hro hnd fuel _ a' w' h') (zv2 l hro hnd (h.2 i hi))⟩
theorem ziu {F : Fence} {n : Nat} {P : Program} {ops : Array Oper} {Q : Exit → Act → World → Prop} {l : Nat} {id : Nat} {a : Act} {w : World} (hro : F.round = none) (hm : P.follows .mixedOrders = true) (hnd : zsj ops = true)
    (h : wpAnyIn F n P .any ops Q ops.size (Array.replicate ops.size false) a w.drew) : (Code.region id ops true).wpIn (F.inRound l) n P Q a w :=
  wpIn_region_any hm (zlo l hro hnd _ _ _ _ h)
end Go.Proofs.YtoifcnidhfnapaaGreatDoor
