import Derived.Test.YtoifcnidhfnapaaGreatDoorP16
import Derived.Test.YtoifcnidhfnapaaGreatDoorP12
import Derived.Test.YtoifcnidhfnapaaGreatDoorP17
import Derived.Test.YtoifcnidhfnapaaGreatDoorP09
import Derived.OrdersIn
import Derived.TacticsIn
set_option linter.unusedVariables false
set_option linter.unusedSimpArgs false
namespace Go.Proofs.YtoifcnidhfnapaaGreatDoor
open Go.RowKit Go.Maps Go.Sort Go.Shelf
def zv7 (us:List (Nat×Nat)) (S:Nat→Src) (zs:List Int):Prop:=zs.Pairwise (· < ·)∧∀ z,z∈zs↔zi6 us S z
structure zkt (us:List (Nat×Nat)) (S:Nat→Src) (fr:Int) (zs:List Int):Prop where
 rise:zs.Pairwise (· < ·)
 low:∀ z∈zs,z<fr
 isin:∀ z∈zs,zi6 us S z
 all:∀ z,zi6 us S z→z<fr→z∈zs
theorem zkt.end1 {us:List (Nat×Nat)} {S:Nat→Src} {fr y:Int} {zs:List Int} (h:zkt us S fr zs) (hL:zp7 us S fr (y,false)):zv7 us S zs:=
 ⟨h.rise,fun z=>⟨h.isin z,fun hz=>h.all z hz (by have:=hL.2 rfl z hz;omega)⟩⟩
theorem zkt.next {us:List (Nat×Nat)} {S:Nat→Src} {fr y:Int} {zs:List Int} (h:zkt us S fr zs) (hL:zp7 us S fr (y,true)):zkt us S (y+1) (zs ++ [y]):=by
 obtain ⟨h1,h2,h3⟩:=hL.1 rfl
 dsimp only at h1 h2 h3
 refine ⟨List.pairwise_append.2 ⟨h.rise,List.pairwise_singleton _ _,fun a ha b hb=>?_⟩,fun z hz=>?_,fun z hz=>?_,fun z hz hl=>?_⟩
 ·simp at hb;subst hb;have:=h.low a ha;omega
 ·rcases List.mem_append.1 hz with hz|hz
  ·have:=h.low z hz;omega
  ·simp at hz;omega
 ·rcases List.mem_append.1 hz with hz|hz
  ·exact h.isin z hz
  ·simp at hz;subst hz;exact h1
 ·by_cases hf:z<fr
  ·exact List.mem_append_left _ (h.all z hz hf)
  ·have:=h3 z hz (by omega)
   have e:z=y:=by omega
   subst e
   simp
theorem zkt.end2 {us:List (Nat×Nat)} {S:Nat→Src} {fr:Int} {zs:List Int} (h:zkt us S fr zs) (hhi:∀ z,zi6 us S z→z<fr):zv7 us S zs:=
 ⟨h.rise,fun z=>⟨h.isin z,fun hz=>h.all z hz (hhi z hz)⟩⟩
theorem zza {us:List (Nat×Nat)} {S:Nat→Src} {y:Int} (hn0:0<us.length) (h:zi6 us S y):∃ u∈us,zk9 (S u.1).c (S u.1).rs y:=
 ⟨us[0],List.getElem_mem hn0,h _ (List.getElem_mem hn0)⟩
theorem KeepX.then {X:Nat→Prop} {A B C:World} (h:KeepX X A B) (hb:Below B.heap.size B C):KeepX X A C:=h.trans (KeepX.ofBelow hb)
attribute [local go_sem] Oper.semAt_some in
set_option maxRecDepth 100000 in
set_option maxHeartbeats 4000000 in
theorem zpm (us:List (Nat×Nat)) (uv:Value) (pa:Option Addr) (pn pc:Nat) (sv:Nat→SV) (S:Nat→Src) (hn0:0<us.length) (hn:us.length≤4)
  (hu:∀ k,k<us.length→(us[k]?.getD (0,0)).1<4∧zb7 1 (S (us[k]?.getD (0,0)).1)) (hM:∀ z,zc1 us S z≤1000000000000) (hlo:∀ z,zi6 us S z→-9223372036854775808≤z∧z≤9223372036854775807) (sB qB:Nat) (X:Nat→Prop) (l:Nat) (W:World)
  (hK:∀ W',KeepX (fun k=>X k∨k=l) W W'→zk1 W' uv us∧(∀ i,i<4→zau W' (sv i).val (S i).rs)∧W'.heap[sB]? = some (.cells #[uv,.slice pa pn pc] 273 (0,0))∧W'.heap[qB]? = some (.cells (zaf sv (fun i=>((S i).c:Int))) 192 (0,0))) :
  Tells Tryz.prog 228 #[.pointer (some ⟨sB,0,none⟩),.pointer (some ⟨qB,0,none⟩)] (fun z:Int=>#[.int .i64 z]) X (fun _=>True) (fun zs=>zs.Nodup∧∀ z∈zs,wfI z) (zv7 us S) l W:=by
 intro J _ hJ hY h0
 refine (callsIn_wide (n:=5)).1 (callsIn_of_wp Tryz.func228 rfl trivial ?_ rfl)
 have Hu:=hide hu
 have HM:=hide hM
 have Hlo:=hide hlo
 have HK:=hide hK
 have HJ:=hide hJ
 have HY:=hide hY
 clear hu hM hlo hK hJ hY
 simp only [Tryz.ntmps228,List.size_toArray,List.length_cons,List.length_nil,Nat.reduceAdd,Nat.reduceSub,Array.replicate_succ,Array.replicate_zero,List.push_toArray,List.append_toArray,List.nil_append,List.cons_append]
 gi_wp2
 gi_loopw [4] (fun f wr=>∃ (fr:Int) (zs:List Int),f=.int .i64 fr∧-9223372036854775808≤fr∧fr≤9223372036854775807∧J zs wr∧KeepX (fun k=>X k∨k=l) W wr∧zkt us S fr zs) (fun f _=>zc1 us S (intOf f - 1))
 case atStart=>exact ⟨_,[],rfl,by omega,by omega,h0,KeepX.refl _ _,List.Pairwise.nil,(fun z hz=>by cases hz),(fun z hz=>by cases hz),fun z hz hl=>by have:=(zaa Hlo) z hz;omega⟩
 case round =>
  obtain ⟨fr,zs,rfl,hf1,hf2,hJz,hKr,hN⟩:=hrel
  obtain ⟨hUs,hRs,hsB,hqB⟩:=(zaa HK) wr hKr
  obtain ⟨ua,ucap,rfl,hux⟩:=id hUs
  have c0:wr.cell? ⟨sB,0,none⟩=some (.slice ua us.length ucap):=zab hsB 0
  have c1:wr.cell? ⟨sB,1,none⟩=some (.slice pa pn pc):=zab hsB 1
  have p0:wr.cell? ⟨qB,0,none⟩=some _:=(zae hqB 0 (by omega)).1
  have p1:wr.cell? ⟨qB,1,none⟩=some _:=(zae hqB 0 (by omega)).2
  have p2:wr.cell? ⟨qB,2,none⟩=some _:=(zae hqB 1 (by omega)).1
  have p3:wr.cell? ⟨qB,3,none⟩=some _:=(zae hqB 1 (by omega)).2
  have p4:wr.cell? ⟨qB,4,none⟩=some _:=(zae hqB 2 (by omega)).1
  have p5:wr.cell? ⟨qB,5,none⟩=some _:=(zae hqB 2 (by omega)).2
  have p6:wr.cell? ⟨qB,6,none⟩=some _:=(zae hqB 3 (by omega)).1
  have p7:wr.cell? ⟨qB,7,none⟩=some _:=(zae hqB 3 (by omega)).2
  have HUs:=hide hUs
  have HRs:=hide hRs
  have HJz:=hide hJz
  have HKr:=hide hKr
  have HN:=hide hN
  clear hUs hRs hsB hqB hJz hKr hN hux
  gi_wp2_with fail
  refine ⟨trivial,?_⟩
  refine (callsIn_wide.2 (zwt us (.slice ua us.length ucap) pa pn pc sv S fr wr (zaa HUs) hn0 hn (zaa HRs) (zaa Hu) ((zaa HM) fr))).mono ?_
  rintro e w2 ⟨⟨y,bb⟩,rfl,hL,hb2⟩
  have hJ2:=(zaa HJ) zs wr w2 (zaa HJz) (hb2.mono (zaa HKr).size)
  have hK2:=(zaa HKr).then hb2
  clear hb2
  dsimp only
  cases bb with
  | false =>
   have Hend:=hide ((zaa HN).end1 hL)
   have HJ2:=hide hJ2
   clear hJ2 hK2 hL
   gi_wp2_with (refine ⟨(fun f hf=>by cases hf),?_⟩)
   refine bodyPost_ret (results_none rfl _ _ _) rfl ?_
   exact ⟨⟨_,rfl⟩,zs,zaa Hend,zaa HJ2⟩
  | true =>
   have hN2:=(zaa HN).next hL
   obtain ⟨hin,hfy,_⟩:=hL.1 rfl
   dsimp only at hin hfy
   obtain ⟨fn,tmps,assign,body,hy,hR⟩:=zkv (m':=4) ((zaa HY) zs y w2 hJ2 hK2.size ⟨hN2.rise.imp (fun h e=>by omega),fun z hz=>zoj ((zaa Hlo) z (hN2.isin z hz))⟩)
   obtain ⟨u,huu,hui⟩:=zza hn0 hin
   have hab:zc1 us S y<zc1 us S (fr - 1):=zqx us S (by omega) huu hui
   have hyr:=(zaa Hlo) y hin
   have HR:=hide hR
   have HN2:=hide hN2
   have HK2:=hide hK2
   have Hab:=hide hab
   clear hR hN2 hK2 hab hJ2 hL hin hui huu
   by_cases hmax:y=9223372036854775807
   ·subst hmax
    gi_wp2_with (refine (zaa HR).mono ?_;rintro e W3 ⟨rfl,hJ3,hK3⟩;have HJ3:=hide hJ3;clear hJ3 hK3)
    refine bodyPost_ret (results_none rfl _ _ _) rfl ?_
    exact ⟨⟨_,rfl⟩,zs ++ [9223372036854775807],(zaa HN2).end2 fun z hz=>by have:=(zaa Hlo) z hz;omega,zaa HJ3⟩
   ·gi_wp2_with (refine (zaa HR).mono ?_;rintro e W3 ⟨rfl,hJ3,hK3⟩;have HJ3:=hide hJ3;have HK3:=hide hK3;clear hJ3 hK3)
    go_roundw
    case rel=>exact ⟨y+1,zs ++ [y],by simp,by omega,by omega,zaa HJ3,(zaa HK2).trans (zaa HK3),zaa HN2⟩
    case measure=>simp only [intOf];rw [show y+1 - 1=y by omega];exact zaa Hab
def NotC (A:World) (k:Nat):Prop:=∀ cs t fr,A.heap[k]?≠some (.cells cs t fr)
theorem KeepX.cellN {Y:Nat→Prop} {W W':World} (h:KeepX Y W W') (hN:∀ k,Y k→NotC W k) {b o:Nat} {v:Value} (hc:W.cell? ⟨b,o,none⟩=some v):W'.cell? ⟨b,o,none⟩=some v:=by
 have hlt:b<W.heap.size:=World.block_lt_of_cell? W _ hc
 have hb:¬ Y b:=fun hy=>by
  cases e:W.heap[b]? with
  | none=>rw [Array.getElem?_eq_none_iff] at e;omega
  | some ob =>
   cases ob with
   | cells cs t fr=>exact hN b hy cs t fr e
   | _=>simp [World.cell?,e] at hc
 exact (World.cell?_of_block (w:=W) (a:=⟨b,o,none⟩) (h.blk b hlt hb)).trans hc
theorem KeepX.blkN {Y:Nat→Prop} {W W':World} (h:KeepX Y W W') (hN:∀ k,Y k→NotC W k) {b:Nat} {cs:Array Value} {t:TypeId} {fr:Nat×Nat} (hc:W.heap[b]? = some (.cells cs t fr)):W'.heap[b]? = some (.cells cs t fr):=
 (h.blk b (Array.getElem?_eq_some_iff.1 hc).1 (fun hy=>hN b hy _ _ _ hc)).trans hc
theorem zbq.keepN {Y:Nat→Prop} {W W':World} {v:Value} {es:List REnt} (h:zbq W v es) (hk:KeepX Y W W') (hN:∀ k,Y k→NotC W k):zbq W' v es:=by
 obtain ⟨a,cap,rfl,hc,hx⟩:=h
 refine ⟨a,cap,rfl,hc,fun i hi=>?_⟩
 obtain ⟨b,o,rfl,h0,h1,h2,h3,cs,h4⟩:=hx i hi
 exact ⟨b,o,rfl,hk.cellN hN h0,hk.cellN hN h1,hk.cellN hN h2,hk.cellN hN h3,cs,hk.blkN hN h4⟩
theorem zau.keepN {Y:Nat→Prop} {W W':World} {v:Value} {rs:List (List REnt)} (h:zau W v rs) (hk:KeepX Y W W') (hN:∀ k,Y k→NotC W k):zau W' v rs:=by
 obtain ⟨a,cap,rfl,hx⟩:=h
 refine ⟨a,cap,rfl,fun i hi=>?_⟩
 obtain ⟨g,q,b,o,cp,rfl,d0,hr⟩:=hx i hi
 exact ⟨g,q,b,o,cp,rfl,hk.cellN hN d0,hr.keepN hk hN⟩
theorem zau.asideT {w w':World} {B:Nat} {v:Value} {rs:List (List REnt)} {cs:Array Value} {t:TypeId} (h:zau w v rs) (hB:w.heap[B]? = some (.cells cs t (0,0))) (ht:t≠221) (hcs:∀ (o:Nat) (b:Addr) (n c:Nat),cs[o]?≠some (Value.slice (some b) n c)) (hk:∀ q,q<w.heap.size→q≠B→w'.heap[q]? = w.heap[q]?):zau w' v rs:=by
 obtain ⟨a,cap,rfl,hx⟩:=h
 refine ⟨a,cap,rfl,fun i hi=>?_⟩
 obtain ⟨g,q,b,o,cp,rfl,d0,hr⟩:=hx i hi
 have hg:g≠B:=fun e=>by
  subst e
  rw [zab hB] at d0
  exact hcs _ _ _ _ d0
 have hgl:g<w.heap.size:=World.block_lt_of_cell? w _ d0
 refine ⟨g,q,b,o,cp,rfl,(World.cell?_of_block (w:=w) (a:=⟨g,q+i,none⟩) (hk g hgl hg)).trans d0,?_⟩
 by_cases he:rs[i]?.getD []=[]
 ·rw [he];exact ⟨_,cp,rfl,Nat.zero_le _,fun j hj=>by simp at hj⟩
 ·obtain ⟨a',cap',e,_,hx'⟩:=id hr
  obtain ⟨b',o',e',x0,_,_,_,cs',x4⟩:=hx' 0 (List.length_pos_iff.2 he)
  injection e with e1 e2 e3
  have e4:=e1.trans e'
  injection e4 with e4
  injection e4 with e5 e6
  subst e5 e6
  have hbB:b≠B:=fun e=>by
   subst e
   rw [hB] at x4
   injection x4 with x4
   injection x4 with _ x5
   exact ht x5
  exact hr.back (hk b (World.block_lt_of_cell? w _ x0) hbB).symm
theorem zk1.keepN {Y:Nat→Prop} {W W':World} {v:Value} {us:List (Nat×Nat)} (h:zk1 W v us) (hk:KeepX Y W W') (hN:∀ k,Y k→NotC W k):zk1 W' v us:=by
 obtain ⟨a,cap,rfl,hx⟩:=h
 refine ⟨a,cap,rfl,fun i hi=>?_⟩
 obtain ⟨b,o,rfl,d0,d1⟩:=hx i hi
 exact ⟨b,o,rfl,hk.cellN hN d0,hk.cellN hN d1⟩
theorem KeepX.setNew {Y:Nat→Prop} {W w:World} (h:KeepX Y W w) {b:Nat} (hb:W.heap.size≤b) (o:Nat) (v:Value):KeepX Y W (w.setCell ⟨b,o,none⟩ v):=
 ⟨h.os,h.tape,h.output,by simp [World.setCell];exact h.size,fun q hq hx=>(Below.heap_setCell _ _ _ q (by dsimp only;omega)).trans (h.blk q hq hx)⟩
def zlm (w:World) (a:Option Addr) (ps:List Nat):Prop:=∀ j,j<ps.length→∃ b o,a=some ⟨b,o,none⟩∧w.cell? ⟨b,o+j,none⟩=some (.int .i64 ((ps[j]?.getD 0:Nat):Int))
def zd3 (w:World) (v:Value) (sts:List Stp):Prop:=
 ∃ a cap,v=.slice a sts.length cap∧sts.length≤cap∧∀ j,j<sts.length→∃ b o ua uc pa pc,a=some ⟨b,o,none⟩∧w.cell? ⟨b,o+j*2,none⟩=some (.slice ua (sts[j]?.getD ⟨[],[]⟩).us.length uc) ∧
  w.cell? ⟨b,o+j*2+1,none⟩=some (.slice pa (sts[j]?.getD ⟨[],[]⟩).ps.length pc)∧zk1 w (.slice ua (sts[j]?.getD ⟨[],[]⟩).us.length uc) (sts[j]?.getD ⟨[],[]⟩).us∧zlm w pa (sts[j]?.getD ⟨[],[]⟩).ps
theorem zd3.keepN {Y:Nat→Prop} {W W':World} {v:Value} {sts:List Stp} (h:zd3 W v sts) (hk:KeepX Y W W') (hN:∀ k,Y k→NotC W k):zd3 W' v sts:=by
 obtain ⟨a,cap,rfl,hc,hx⟩:=h
 refine ⟨a,cap,rfl,hc,fun i hi=>?_⟩
 obtain ⟨b,o,ua,uc,pa,pc,rfl,d0,d1,d2,d3⟩:=hx i hi
 refine ⟨b,o,ua,uc,pa,pc,rfl,hk.cellN hN d0,hk.cellN hN d1,d2.keepN hk hN,fun j hj=>?_⟩
 obtain ⟨b',o',e,d⟩:=d3 j hj
 exact ⟨b',o',e,hk.cellN hN d⟩
theorem zd3.below {W W':World} {v:Value} {sts:List Stp} (h:zd3 W v sts) (hb:Below W.heap.size W W'):zd3 W' v sts:=
 h.keepN (Y:=fun _=>False) (KeepX.ofBelow hb) (fun _ h=>h.elim)
theorem zd3.tail {W:World} {b o n cap:Nat} {st:Stp} {sts:List Stp} (h:zd3 W (.slice (some ⟨b,o,none⟩) n cap) (st :: sts)):zd3 W (.slice (some ⟨b,o+2,none⟩) sts.length (cap - 1)) sts:=by
 obtain ⟨a,cap',e,hc,hx⟩:=h
 injection e with e1 e2 e3
 subst e1 e3
 simp only [List.length_cons] at hc
 refine ⟨_,cap - 1,rfl,by omega,fun j hj=>?_⟩
 obtain ⟨b',o',ua,uc,pa,pc,e,d0,d1,d2,d3⟩:=hx (j+1) (by simp;omega)
 injection e with e
 injection e with e1 e2
 subst e1 e2
 simp only [List.getElem?_cons_succ] at d0 d1 d2 d3
 rw [show o+(j+1)*2=o+2+j*2 by omega] at d0 d1
 exact ⟨b,o+2,ua,uc,pa,pc,rfl,d0,d1,d2,d3⟩
def h4C (h:H4):Array Value:=#[.int .i64 h.1,.int .i64 h.2.1,.int .i64 h.2.2.1,.int .i64 h.2.2.2]
structure zpq (X:Nat→Prop) (l B0 N:Nat) (J:List (H4×Int)→World→Prop):Prop where
 lt:∀ k,X k∨k=l→k<B0
 nc:∀ pre A,J pre A→∀ k,X k∨k=l→NotC A k
 st:∀ pre A B,J pre A→Below B0 A B→J pre B
 yl:∀ pre x A,J pre A→B0≤A.heap.size→pre.length<N→WfH x.1→YieldAt Fence.wide 0 Tryz.prog l #[.agg (h4C x.1),.int .i64 x.2] A fun e A'=>e=.returned (.bool true)∧J (pre ++ [x]) A'∧KeepX (fun k=>X k∨k=l) A A'
def zi9 (X:Nat→Prop) (l:Nat) (J:List (H4×Int)→World→Prop) (pre:List (H4×Int)) (V:H4→B64) (c:Nat) (W:World) (e:Ending) (W':World):Prop:=
 e=.returned (.bool true)∧∃ ys,(∀ h,ysum ys h=V h)∧ys.length≤c∧J (pre ++ ys) W'∧KeepX (fun k=>X k∨k=l) W W'
structure zm2 (w:World) (B PB:Nat) (stv:Value) (srcs row:Array Value) (l:Nat) (r:Bool):Prop where
 b0:w.heap[B]? = some (.cells #[.pointer (some ⟨PB,0,none⟩)] 84 (0,0))
 b1:w.heap[B+1]? = some (.cells #[stv] 263 (0,0))
 b2:w.heap[B+1+1]? = some (.cells srcs 192 (0,0))
 b3:w.heap[B+1+1+1]? = some (.cells row 134 (0,0))
 b4:w.heap[B+1+1+1+1]? = some (.cells #[.func (.yield l) #[] #[]] 207 (0,0))
 b5:w.heap[B+1+1+1+1+1]? = some (.cells #[.bool r] 4 (0,0))
def znf (W:World) (PB:Nat) (stv:Value) (srcs row:Array Value) (l:Nat):World:=
 (((((W.alloc (.cells #[.pointer (some ⟨PB,0,none⟩)] 84)).alloc (.cells #[stv] 263)).alloc (.cells srcs 192)).alloc (.cells row 134)).alloc (.cells #[.func (.yield l) #[] #[]] 207)).alloc (.cells #[.bool false] 4)
theorem zlt (W:World) (PB:Nat) (stv:Value) (srcs row:Array Value) (l:Nat):zm2 (znf W PB stv srcs row l) W.heap.size PB stv srcs row l false:=by
 constructor <;> (unfold znf;repeat (first|exact zad _ _ _ (by simp)|refine (Below.heap_alloc _ _ _ (by simp <;> omega)).trans ?_))
theorem zn7 (W:World) (PB:Nat) (stv:Value) (srcs row:Array Value) (l:Nat):(znf W PB stv srcs row l).heap.size=W.heap.size+6:=by unfold znf;simp
theorem zma (W:World) (PB:Nat) (stv:Value) (srcs row:Array Value) (l:Nat):Below W.heap.size W (znf W PB stv srcs row l):=by
 unfold znf
 refine (((((((Below.refl _ _).alloc (Nat.le_refl _) _).alloc (by simp) _).alloc (by simp;omega) _).alloc (by simp;omega) _).alloc (by simp;omega) _).alloc (by simp;omega) _)
theorem ybh {na:Nat} {S:Nat→Src} {row:H4} {q:Int} (hq:BitVec.ofInt 64 q=zfw (fun i=>bsum (zb8 S i) wtB) na) (h:H4):ysum (if q=0 then [] else [(row,q)]) h=tval na [] S row h:=by
 rw [tval_end,← hq]
 by_cases h0:q=0
 ·subst h0
  simp [ysum,bsum]
 ·rw [if_neg h0]
  simp [ysum,bsum]
attribute [local go_sem] Oper.semAt_some in
set_option maxRecDepth 100000 in
set_option maxHeartbeats 4000000 in
theorem tell0 {X:Nat→Prop} {l B0 N:Nat} {J:List (H4×Int)→World→Prop} (hY:zpq X l B0 N J) (PB:Nat) (ka:Option Addr) (na kcap:Nat) (x1 x2:Value) (sa:Option Addr) (sc:Nat) (sv:Nat→SV) (S:Nat→Src) (row:H4) (pre:List (H4×Int)) (W:World)
  (hJ:J pre W) (hB:B0≤W.heap.size) (hP:W.heap[PB]? = some (.cells #[.slice ka na kcap,x1,x2] 265 (0,0))) (hS:SOK na [] S) (hr:∀ i,i<4→zau W (sv i).val (S i).rs) (hcnt:pre.length+tcnt na S≤N) (hrow:WfH row) :
  Calls Tryz.prog 159 #[.pointer (some ⟨PB,0,none⟩),.slice sa 0 sc,.agg (zaf sv (fun i=>((S i).c:Int))),.agg (h4C row),.func (.yield l) #[] #[]] W (zi9 X l J pre (tval na [] S row) (tcnt na S) W):=by
 refine (callsIn_wide (n:=9)).1 (callsIn_of_wp Tryz.func159 rfl trivial ?_ rfl)
 obtain ⟨r0,r1,r2,r3⟩:=row
 obtain ⟨W6,hW6⟩:∃ W6,W6=znf W PB (.slice sa 0 sc) (zaf sv (fun i=>((S i).c:Int))) (h4C (r0,r1,r2,r3)) l:=⟨_,rfl⟩
 have hb6:Below W.heap.size W W6:=by rw [hW6];exact zma ..
 have hsz:W6.heap.size=W.heap.size+6:=by rw [hW6];exact zn7 ..
 have hbx:zm2 W6 W.heap.size PB (.slice sa 0 sc) (zaf sv (fun i=>((S i).c:Int))) (h4C (r0,r1,r2,r3)) l false:=by rw [hW6];exact zlt ..
 obtain ⟨q,hq⟩:∃ q,q=zmq (fun i=>(S i).rs) na:=⟨_,rfl⟩
 have hw:=zuz PB ka na kcap x1 x2 sv (fun i=>((S i).c:Int)) (fun i=>(S i).rs) W6 ((hb6.block PB (Array.getElem?_eq_some_iff.1 hP).1).trans hP) hS.na4 (fun i hi=>(hr i (by have:=hS.na4;omega)).below hb6) (fun i hi=>⟨(hS.ok i hi).len,(hS.ok i hi).cnt⟩)
 rw [← hq] at hw
 have Hpos:Hid (q≠0→1≤tcnt na S):=fun h=>tcnt_pos (by rw [← hq];exact h)
 have Hcnt:=hide hcnt
 have Hrow:=hide hrow
 clear hcnt hrow
 have hsum:∀ h,ysum (if q=0 then [] else [((r0,r1,r2,r3),q)]) h=tval na [] S (r0,r1,r2,r3) h:=ybh (by rw [hq];exact zms _ na)
 have c1:W6.cell? ⟨W.heap.size+1,0,none⟩=some (.slice sa 0 sc):=zab hbx.b1 0
 have c0:W6.cell? ⟨W.heap.size,0,none⟩=some (.pointer (some ⟨PB,0,none⟩)):=zab hbx.b0 0
 have p0:W6.cell? ⟨W.heap.size+1+1,0,none⟩=some _:=(zae hbx.b2 0 (by omega)).1
 have p1:W6.cell? ⟨W.heap.size+1+1,1,none⟩=some _:=(zae hbx.b2 0 (by omega)).2
 have p2:W6.cell? ⟨W.heap.size+1+1,2,none⟩=some _:=(zae hbx.b2 1 (by omega)).1
 have p3:W6.cell? ⟨W.heap.size+1+1,3,none⟩=some _:=(zae hbx.b2 1 (by omega)).2
 have p4:W6.cell? ⟨W.heap.size+1+1,4,none⟩=some _:=(zae hbx.b2 2 (by omega)).1
 have p5:W6.cell? ⟨W.heap.size+1+1,5,none⟩=some _:=(zae hbx.b2 2 (by omega)).2
 have p6:W6.cell? ⟨W.heap.size+1+1,6,none⟩=some _:=(zae hbx.b2 3 (by omega)).1
 have p7:W6.cell? ⟨W.heap.size+1+1,7,none⟩=some _:=(zae hbx.b2 3 (by omega)).2
 have Hbx:=hide hbx
 have Hb6:=hide hb6
 have Hsz:=hide hsz
 have Hw:=hide hw
 have HJ:=hide hJ
 have HY:=hide hY
 have Hsum:=hide hsum
 clear hbx hb6 hsz hw hJ hY hsum hP hS hr hq
 simp only [Tryz.ntmps159,List.size_toArray,List.length_cons,List.length_nil,Nat.reduceAdd,Nat.reduceSub,Array.replicate_succ,Array.replicate_zero,List.push_toArray,List.append_toArray,List.nil_append,List.cons_append]
 unfold znf zaf h4C at hW6
 unfold zaf h4C
 gi_wp2_with fail
 refine ⟨trivial,?_⟩
 rw [← hW6]
 refine (callsIn_wide.2 (zaa Hw)).mono ?_
 rintro e w2 ⟨rfl,hb2⟩
 dsimp only
 have hK2:KeepX (fun k=>X k∨k=l) W w2:=KeepX.ofBelow ((zaa Hb6).trans (hb2.mono (zaa Hb6).size))
 have hJ2:=(zaa HY).st pre W w2 (zaa HJ) (((zaa Hb6).trans (hb2.mono (zaa Hb6).size)).mono hB)
 have hs2:W.heap.size+6≤w2.heap.size:=by have:=hb2.size;have:=zaa Hsz;omega
 have g5:=(hb2.block _ (by have:=zaa Hsz;omega)).trans (zaa Hbx).b5
 have g4:=(hb2.block _ (by have:=zaa Hsz;omega)).trans (zaa Hbx).b4
 have g3:=(hb2.block _ (by have:=zaa Hsz;omega)).trans (zaa Hbx).b3
 have d5:w2.cell? ⟨W.heap.size+1+1+1+1+1,0,none⟩=some (.bool false):=zab g5 0
 have f5:w2.frozen? ⟨W.heap.size+1+1+1+1+1,0,none⟩=false:=zac g5 0
 have d4:w2.cell? ⟨W.heap.size+1+1+1+1,0,none⟩=some (.func (.yield l) #[] #[]):=zab g4 0
 have e0:w2.cell? ⟨W.heap.size+1+1+1,0,none⟩=some (.int .i64 r0):=zab g3 0
 have e1:w2.cell? ⟨W.heap.size+1+1+1,1,none⟩=some (.int .i64 r1):=zab g3 1
 have e2:w2.cell? ⟨W.heap.size+1+1+1,2,none⟩=some (.int .i64 r2):=zab g3 2
 have e3:w2.cell? ⟨W.heap.size+1+1+1,3,none⟩=some (.int .i64 r3):=zab g3 3
 have G5:=hide g5
 have Hs2:=hide hs2
 clear g5 g4 g3 hb2 c0 c1 p0 p1 p2 p3 p4 p5 p6 p7 hs2
 by_cases hq0:q=0
 ·subst hq0
  have HK2:=hide hK2
  have HJ2:=hide hJ2
  clear hK2 hJ2
  gi_wp2_with (refine ⟨(fun f hf=>by cases hf),?_⟩)
  refine bodyPost_ret (v:=.bool true) (by simp [results,Tryz.results159,go_sem,d5,f5]) rfl ⟨rfl,[],fun h=>?_,Nat.zero_le _,?_,?_⟩
  ·have:=(zaa Hsum) h
   simpa using this
  ·rw [List.append_nil]
   exact (zaa HY).st pre _ _ (zaa HJ2) (zbk (Below.refl _ _) (by omega) _ _)
  ·exact (zaa HK2).setNew (by omega) _ _
 ·obtain ⟨fn,tmps,assign,body,hy,hR⟩:=zkv (m':=8) ((zaa HY).yl pre ((r0,r1,r2,r3),q) w2 hJ2 (by have:=zaa Hs2;omega) (by have:=(zaa Hpos) hq0;have:=zaa Hcnt;omega) (zaa Hrow))
  have HR:=hide hR
  have HK2:=hide hK2
  clear hR hK2 hJ2
  unfold h4C at hy
  dsimp only at hy
  have Hlt:=hide (zaa HY).lt
  have Hst:=hide (zaa HY).st
  clear HY
  gi_wp2_with (refine (zaa HR).mono ?_;rintro e W3 ⟨rfl,hJ3,hK3⟩;have g5':=(hK3.blk _ (by have:=zaa Hs2;omega) (fun e=>by have:=(zaa Hlt) _ e;omega)).trans (zaa G5);have d5':W3.cell? ⟨W.heap.size+1+1+1+1+1,0,none⟩=some (.bool false):=zab g5' 0;have f5':W3.frozen? ⟨W.heap.size+1+1+1+1+1,0,none⟩=false:=zac g5' 0;have HJ3:=hide hJ3;have HK3:=hide hK3;clear hJ3 hK3 g5')
  refine bodyPost_ret (v:=.bool true) (by simp [results,Tryz.results159,go_sem,d5',f5']) rfl ⟨rfl,[((r0,r1,r2,r3),q)],fun h=>?_,(zaa Hpos) hq0,?_,?_⟩
  ·have:=(zaa Hsum) h
   rwa [if_neg hq0] at this
  ·exact (zaa Hst) _ _ _ (zaa HJ3) (zbk (Below.refl _ _) (by omega) _ _)
  ·exact ((zaa HK2).trans (zaa HK3)).setNew (by omega) _ _
end Go.Proofs.YtoifcnidhfnapaaGreatDoor
namespace Go.Proofs.YtoifcnidhfnapaaGreatDoor
open Go
def zp3 (ops : Array Oper) : Bool := ops.all fun o => match o.op with | .defer _ => false | _ => true
theorem zx8 {ops : Array Oper} (h : zp3 ops = true) {i : Nat} {o : Oper} (ho : ops[i]? = some o) (c : Call) : o.op ≠ .defer c := by
  intro e
  have := Array.all_eq_true_iff_forall_mem.1 h o (Array.mem_of_getElem? ho)
  rw [e] at this
  cases this
theorem zsl {F : Fence} {n : Nat} {P : Program} {ops : Array Oper} {Q : Exit → Act → World → Prop} (l : Nat) (hro : F.round = none) (hnd : zp3 ops = true) {i : Nat} {K : Act → World → Prop} {a : Act} {w : World}
    (h : wpOpIn F n P ops Q i K a w) : wpOpIn (F.inRound l) n P ops Q i K a w := by
  unfold wpOpIn at *
  cases ho : ops[i]? with
  | none => simp only [ho] at h ⊢
            exact h
  | some o =>
    simp only [ho] at h ⊢
    split
    · rename_i hw
      simp only [hw, if_true] at h
      unfold Oper.wpIn at *
      rw [hro, Oper.semAt_none] at h
      refine ⟨h.1, ?_⟩
      rw [show (F.inRound l).round = some l from rfl, Oper.semAt_some l _ _ (zx8 hnd ho)]
      exact h.2
    · rename_i hw
      simp only [hw] at h
      exact h
theorem zix {F : Fence} {n : Nat} {P : Program} {md : Region.Mode} {ops : Array Oper} {Q : Exit → Act → World → Prop} (l : Nat) (hro : F.round = none) (hnd : zp3 ops = true) :
    ∀ (fuel : Nat) (listed : Array Bool) (a : Act) (w : World), wpAnyIn F n P md ops Q fuel listed a w → wpAnyIn (F.inRound l) n P md ops Q fuel listed a w
  | 0, _, _, _, h => h
  | fuel + 1, listed, a, w, h => ⟨h.1, fun i hi => wpOpIn_mono (fun a' w' h' => zix l hro hnd fuel _ a' w' h') (zsl l hro hnd (h.2 i hi))⟩
theorem zg1 {F : Fence} {n : Nat} {P : Program} {ops : Array Oper} {Q : Exit → Act → World → Prop} {l : Nat} {id : Nat} {a : Act} {w : World} (hro : F.round = none) (hm : P.follows .mixedOrders = true) (hnd : zp3 ops = true)
    (h : wpAnyIn F n P .any ops Q ops.size (Array.replicate ops.size false) a w.drew) : (Code.region id ops true).wpIn (F.inRound l) n P Q a w :=
  wpIn_region_any hm (zix l hro hnd _ _ _ _ h)
end Go.Proofs.YtoifcnidhfnapaaGreatDoor
