import Derived.Test.YtoifcnidhfnapaaGreatDoorB17
import Derived.Test.YtoifcnidhfnapaaGreatDoorB10
import Derived.Test.YtoifcnidhfnapaaGreatDoorB02
import Derived.Test.YtoifcnidhfnapaaGreatDoorB08
import Derived.Test.YtoifcnidhfnapaaGreatDoorB09
set_option linter.unusedVariables false
set_option linter.unusedSimpArgs false
set_option maxRecDepth 100000
set_option maxHeartbeats 16000000
namespace Go.Proofs.YtoifcnidhfnapaaGreatDoor
open Go.RowKit Go.Maps Go.Sort Go.Shelf
structure ybz (c0 c1 c2:Nat):Prop where
 h0:c0<3
 h1:c1<3
 h2:c2<3
def r3C (r:Row):Array Value:=#[.int .i64 r.1,.int .i64 r.2.1,.int .i64 r.2.2]
def zpx (c0 c1 c2:Nat) (r:Row):Row:=(zal r c0,zal r c1,zal r c2)
def ylj (c0 c1 c2:Nat) (r:Row):Nat→Row
 | 0=>(0,0,0)
 | 1=>(zal r c0,0,0)
 | 2=>(zal r c0,zal r c1,0)
 | _=>zpx c0 c1 c2 r
theorem zjh {w:World} {B:Nat} {r:Row} {t:TypeId} (hB:w.heap[B]? = some (.cells (r3C r) t (0,0))) (p:Nat) (hp:p<3):w.cell? ⟨B,p,none⟩=some (.int .i64 (zal r p)):=by
 rw [zab hB]
 match p,hp with|0,_=>rfl|1,_=>rfl|2,_=>rfl
theorem zwi (c0 c1 c2:Nat) (hc:ybz c0 c1 c2) (r:Row) (W:World) :
  Calls Tryz.prog 210 #[.agg #[.int .i64 c0,.int .i64 c1,.int .i64 c2],.agg (r3C r)] W fun e w'=>e=.returned (.agg (r3C (zpx c0 c1 c2 r)))∧Below W.heap.size W w':=by
 obtain ⟨r0,r1,r2⟩:=r
 obtain ⟨W4,hW4⟩:∃ W4,W4=(((W.alloc (.cells #[.int .i64 c0,.int .i64 c1,.int .i64 c2] 94)).alloc (.cells #[.int .i64 r0,.int .i64 r1,.int .i64 r2] 77)).alloc (.cells #[.int .i64 0,.int .i64 0,.int .i64 0] 77)).alloc (.cells #[.int .i64 0,.int .i64 0,.int .i64 0] 77):=⟨_,rfl⟩
 have hb4:Below W.heap.size W W4:=by
  rw [hW4]
  exact ((((Below.refl _ _).alloc (Nat.le_refl _) _).alloc (by simp) _).alloc (by simp;omega) _).alloc (by simp;omega) _
 have hsz:W4.heap.size=W.heap.size+4:=by rw [hW4];simp
 have g1:W4.heap[W.heap.size+1]? = some (.cells (r3C (r0,r1,r2)) 77 (0,0)):=by
  rw [hW4]
  exact (Below.heap_alloc _ _ _ (by simp)).trans ((Below.heap_alloc _ _ _ (by simp)).trans (zae _ _ _ (by simp)))
 have g2:W4.heap[W.heap.size+1+1]? = some (.cells (r3C (0,0,0)) 77 (0,0)):=by
  rw [hW4]
  exact (Below.heap_alloc _ _ _ (by simp)).trans (zae _ _ _ (by simp))
 have g3:W4.heap[W.heap.size+1+1+1]? = some (.cells (r3C (0,0,0)) 77 (0,0)):=by
  rw [hW4]
  exact zae _ _ _ (by simp)
 have hi0:∀ q,(Instr.index 94 (.agg #[.int .i64 c0,.int .i64 c1,.int .i64 c2]) (.int .i64 0)).run Tryz.prog q=.ok (.int .i64 c0) q:=fun q=>by kernel_rfl
 have hi1:∀ q,(Instr.index 94 (.agg #[.int .i64 c0,.int .i64 c1,.int .i64 c2]) (.int .i64 1)).run Tryz.prog q=.ok (.int .i64 c1) q:=fun q=>by kernel_rfl
 have hi2:∀ q,(Instr.index 94 (.agg #[.int .i64 c0,.int .i64 c1,.int .i64 c2]) (.int .i64 2)).run Tryz.prog q=.ok (.int .i64 c2) q:=fun q=>by kernel_rfl
 have hx0:(c0:Int)<3:=by have:=hc.h0;omega
 have hx1:(c1:Int)<3:=by have:=hc.h1;omega
 have hx2:(c2:Int)<3:=by have:=hc.h2;omega
 have Hb4:=zac hb4
 have Hsz:=zac hsz
 have G1:=zac g1
 have G2:=zac g2
 have G3:=zac g3
 have Hc:=zac hc
 clear hb4 hsz g1 g2 g3 hc
 unfold r3C
 go_enter Tryz.func210,Tryz.ntmps210
 go_wp2
 rw [← hW4]
 clear hW4
 try go_wp2
 go_loopw [9] (fun i wr=>∃ k:Nat,k≤3∧i=.int .i64 k∧wr.heap[W.heap.size+1+1+1]? = some (.cells (r3C (ylj c0 c1 c2 (r0,r1,r2) k)) 77 (0,0))∧KeepX (fun q=>q=W.heap.size+1+1+1) W4 wr) (fun i _=>3 - (intOf i).toNat)
 case atStart=>exact ⟨0,by omega,rfl,zaa G3,KeepX.refl _ _⟩
 case round =>
  obtain ⟨k,hk,rfl,hA,hK⟩:=hrel
  have h4:=zaa Hsz
  have gr:=(hK.blk (W.heap.size+1) (by omega) (by omega)).trans (zaa G1)
  by_cases hlt:k<3
  ·rcases (by omega:k=0∨k=1∨k=2) with rfl|rfl|rfl
   ·have d:=zjh gr c0 (zaa Hc).h0
    have y:wr.cell? ⟨W.heap.size+1+1+1,0,none⟩=some _:=zjh hA 0 (by omega)
    have fz:wr.frozen? ⟨W.heap.size+1+1+1,0,none⟩=false:=zad hA 0
    have hset:=zdy 0 (.int .i64 (zal (r0,r1,r2) c0)) hA
    have Hset:=zac hset
    have HK:=zac (hK.set1 0 (.int .i64 (zal (r0,r1,r2) c0)))
    clear hset hA hK gr h4
    generalize hq:zal (r0,r1,r2) c0=q at d Hset HK
    go_wp2
    exact ⟨⟨1,by omega,rfl,by rw [← hq] at Hset ⊢;exact zaa Hset,zaa HK⟩,by simp [intOf]⟩
   ·have d:=zjh gr c1 (zaa Hc).h1
    have y:wr.cell? ⟨W.heap.size+1+1+1,1,none⟩=some _:=zjh hA 1 (by omega)
    have fz:wr.frozen? ⟨W.heap.size+1+1+1,1,none⟩=false:=zad hA 1
    have hset:=zdy 1 (.int .i64 (zal (r0,r1,r2) c1)) hA
    have Hset:=zac hset
    have HK:=zac (hK.set1 1 (.int .i64 (zal (r0,r1,r2) c1)))
    clear hset hA hK gr h4
    generalize hq:zal (r0,r1,r2) c1=q at d Hset HK
    go_wp2
    exact ⟨⟨2,by omega,rfl,by rw [← hq] at Hset ⊢;exact zaa Hset,zaa HK⟩,by simp [intOf]⟩
   ·have d:=zjh gr c2 (zaa Hc).h2
    have y:wr.cell? ⟨W.heap.size+1+1+1,2,none⟩=some _:=zjh hA 2 (by omega)
    have fz:wr.frozen? ⟨W.heap.size+1+1+1,2,none⟩=false:=zad hA 2
    have hset:=zdy 2 (.int .i64 (zal (r0,r1,r2) c2)) hA
    have Hset:=zac hset
    have HK:=zac (hK.set1 2 (.int .i64 (zal (r0,r1,r2) c2)))
    clear hset hA hK gr h4
    generalize hq:zal (r0,r1,r2) c2=q at d Hset HK
    go_wp2
    exact ⟨⟨3,by omega,rfl,by rw [← hq] at Hset ⊢;exact zaa Hset,zaa HK⟩,by simp [intOf]⟩
  ·have hke:k=3:=by omega
   subst hke
   have g2r:=(hK.blk (W.heap.size+1+1) (by omega) (by omega)).trans (zaa G2)
   have hA':wr.heap[W.heap.size+1+1+1]? = some (.cells (r3C (zpx c0 c1 c2 (r0,r1,r2))) 77 (0,0)):=hA
   obtain ⟨⟨a0,a1,a2⟩,ha⟩:∃ a,a=zpx c0 c1 c2 (r0,r1,r2):=⟨_,rfl⟩
   rw [← ha] at hA'
   have y0:wr.cell? ⟨W.heap.size+1+1+1,0,none⟩=some (.int .i64 a0):=zab hA' 0
   have y1:wr.cell? ⟨W.heap.size+1+1+1,1,none⟩=some (.int .i64 a1):=zab hA' 1
   have y2:wr.cell? ⟨W.heap.size+1+1+1,2,none⟩=some (.int .i64 a2):=zab hA' 2
   have z0:wr.cell? ⟨W.heap.size+1+1,0,none⟩=some (.int .i64 0):=zab g2r 0
   have z1:wr.cell? ⟨W.heap.size+1+1,1,none⟩=some (.int .i64 0):=zab g2r 1
   have z2:wr.cell? ⟨W.heap.size+1+1,2,none⟩=some (.int .i64 0):=zab g2r 2
   have f0:wr.frozen? ⟨W.heap.size+1+1,0,none⟩=false:=zad g2r 0
   have f1:wr.frozen? ⟨W.heap.size+1+1,1,none⟩=false:=zad g2r 1
   have f2:wr.frozen? ⟨W.heap.size+1+1,2,none⟩=false:=zad g2r 2
   have hbw:Below W.heap.size W wr:=(zaa Hb4).trans (hK.below (by omega) (fun q e=>by omega))
   have Hbw:=zac hbw
   have Ha:=zac ha
   clear hA hA' hK g2r gr hbw ha h4
   go_wp2
   refine bodyPost_ret (v:=.agg #[.int .i64 a0,.int .i64 a1,.int .i64 a2]) (by simp [results,Tryz.results210,go_sem,z0,z1,z2,f0,f1,f2,y0,y1,y2]) rfl ⟨by rw [← zaa Ha],?_⟩
   iterate 3 refine zbu ?_ (by omega) _ _
   exact zaa Hbw
theorem yf8 (x y:zaj) (W:World):Calls Tryz.prog 125 #[.agg #[.int .i64 x.1.1,.int .i64 x.1.2.1,.int .i64 x.1.2.2,.int .i64 x.2],.agg #[.int .i64 y.1.1,.int .i64 y.1.2.1,.int .i64 y.1.2.2,.int .i64 y.2]] W fun e w'=>e=.returned (.int .i64 (zi4 x.1 y.1))∧Below W.heap.size W w':=by
 obtain ⟨⟨x0,x1,x2⟩,xw⟩:=x
 obtain ⟨⟨y0,y1,y2⟩,yw⟩:=y
 obtain ⟨W2,hW2⟩:∃ W2,W2=(W.alloc (.cells #[.int .i64 x0,.int .i64 x1,.int .i64 x2,.int .i64 xw] 221)).alloc (.cells #[.int .i64 y0,.int .i64 y1,.int .i64 y2,.int .i64 yw] 221):=⟨_,rfl⟩
 have hb2:Below W.heap.size W W2:=by rw [hW2];exact ((Below.refl _ _).alloc (Nat.le_refl _) _).alloc (by simp) _
 have hcmp:=zg8 (x0,x1,x2) (y0,y1,y2) W2
 have Hb2:=zac hb2
 have Hcmp:=zac hcmp
 clear hb2 hcmp
 dsimp only
 go_enter Tryz.func125,Tryz.ntmps125
 go_wp2_with fail
 rw [← hW2]
 refine (zaa Hcmp).mono ?_
 rintro e w' ⟨rfl,q,os,hw'⟩
 have hb3:Below W2.heap.size W2 w':=by
  rw [hw']
  refine ⟨rfl,rfl,rfl,?_,fun k hk=>?_⟩
  ·simp [grow,World.drewN]
  ·simp only [grow]
   exact Array.getElem?_append_left hk
 have Hb3:=zac ((zaa Hb2).trans (hb3.mono (zaa Hb2).size))
 clear hw' hb3
 dsimp only
 go_wp2
 go_ret
 exact ⟨rfl,zaa Hb3⟩
def mgB (x:zaj) (a:List zaj) (rec:List zaj→List zaj):List zaj→List zaj
 | []=>x :: a
 | y :: b=>if zi4 x.1 y.1<0 then x :: rec (y :: b) else if 0<zi4 x.1 y.1 then y :: mgB x a rec b else if wrap64 (x.2+y.2)=0 then rec b else (x.1,wrap64 (x.2+y.2)) :: rec b
def zcq:List zaj→List zaj→List zaj
 | []=>fun b=>b
 | x :: a=>mgB x a (zcq a)
theorem mg0 (b:List zaj):zcq [] b=b:=rfl
theorem mgC (x:zaj) (a:List zaj) (y:zaj) (b:List zaj):zcq (x :: a) (y :: b)=if zi4 x.1 y.1<0 then x :: zcq a (y :: b) else if 0<zi4 x.1 y.1 then y :: zcq (x :: a) b else if wrap64 (x.2+y.2)=0 then zcq a b else (x.1,wrap64 (x.2+y.2)) :: zcq a b:=rfl
theorem yar (a:List zaj):zcq a []=a:=by
 cases a <;> rfl
theorem mgI {M:List zaj→List zaj→List zaj→Prop} (c1:∀ b,M [] b b) (c2:∀ x a,M (x :: a) [] (x :: a)) (c3:∀ x a y b,zi4 x.1 y.1<0→M a (y :: b) (zcq a (y :: b))→M (x :: a) (y :: b) (x :: zcq a (y :: b))) (c4:∀ x a y b,¬ zi4 x.1 y.1<0→0<zi4 x.1 y.1→M (x :: a) b (zcq (x :: a) b)→M (x :: a) (y :: b) (y :: zcq (x :: a) b)) (c5:∀ x a y b,¬ zi4 x.1 y.1<0→¬ 0<zi4 x.1 y.1→wrap64 (x.2+y.2)=0→M a b (zcq a b)→M (x :: a) (y :: b) (zcq a b)) (c6:∀ x a y b,¬ zi4 x.1 y.1<0→¬ 0<zi4 x.1 y.1→¬ wrap64 (x.2+y.2)=0→M a b (zcq a b)→M (x :: a) (y :: b) ((x.1,wrap64 (x.2+y.2)) :: zcq a b)):∀ a b,M a b (zcq a b):=by
 intro a
 induction a with
 | nil=>exact c1
 | cons x a iha =>
  intro b
  induction b with
  | nil=>exact c2 x a
  | cons y b ihb =>
   rw [mgC]
   by_cases h1:zi4 x.1 y.1<0
   ·rw [if_pos h1];exact c3 x a y b h1 (iha _)
   ·rw [if_neg h1]
    by_cases h2:0<zi4 x.1 y.1
    ·rw [if_pos h2];exact c4 x a y b h1 h2 ihb
    ·rw [if_neg h2]
     by_cases h3:wrap64 (x.2+y.2)=0
     ·rw [if_pos h3];exact c5 x a y b h1 h2 h3 (iha b)
     ·rw [if_neg h3];exact c6 x a y b h1 h2 h3 (iha b)
def zi6 (e:zaj):List Value:=[.int .i64 e.1.1,.int .i64 e.1.2.1,.int .i64 e.1.2.2,.int .i64 e.2]
def zch (es:List zaj):List Value:=es.flatMap zi6
theorem zub (es:List zaj):(zch es).length=es.length*4:=by
 induction es with
 | nil=>rfl
 | cons e es ih =>
  show (zi6 e ++ zch es).length=_
  rw [List.length_append,ih]
  simp [zi6]
  omega
theorem znm:∀ (es:List zaj) (i j:Nat),i<es.length→j<4→(zch es)[i*4+j]? = (zi6 (es[i]?.getD zcy))[j]?
 | [],i,j,hi,_=>by simp at hi
 | e :: es,0,j,_,hj=>by
  show (zi6 e ++ zch es)[0*4+j]? = _
  rw [Nat.zero_mul,Nat.zero_add,List.getElem?_append_left (by simp [zi6];omega)]
  rfl
 | e :: es,i+1,j,hi,hj=>by
  show (zi6 e ++ zch es)[(i+1)*4+j]? = _
  rw [List.getElem?_append_right (by simp [zi6];omega)]
  have:(i+1)*4+j - (zi6 e).length=i*4+j:=by simp [zi6];omega
  rw [this,znm es i j (by simpa using hi) hj]
  simp
theorem ybf {w:World} {m:Nat} {v:Value} {es:List zaj} (h:w.ownsRow m 221 4 v es.length (zch es)):zb1 w v es:=by
 rcases h.2 with ⟨rfl,h0⟩|⟨g,cap,cur,rfl,_,hg,hle,_,_,ht⟩
 ·have:es=[]:=List.eq_nil_of_length_eq_zero h0
  subst this
  exact ⟨none,0,rfl,Nat.le_refl _,fun i hi=>by simp at hi⟩
 ·refine ⟨some ⟨g,0,none⟩,cap,rfl,hle,fun i hi=>⟨g,0,rfl,?_⟩⟩
  have hcell:∀ j,j<4→cur[i*4+j]? = (zi6 (es[i]?.getD zcy))[j]?:=by
   intro j hj
   rw [← znm es i j hi hj,← ht,List.getElem?_take_of_lt (by omega)]
   simp
  refine ⟨?_,?_,?_,?_,cur,hg⟩
  ·rw [zab hg,Nat.zero_add];exact hcell 0 (by omega)
  ·rw [zab hg,Nat.zero_add];exact hcell 1 (by omega)
  ·rw [zab hg,Nat.zero_add];exact hcell 2 (by omega)
  ·rw [zab hg,Nat.zero_add];exact hcell 3 (by omega)
theorem Tryz.info221:(Tryz.prog.info? 221).map (fun i=>(i.zero,i.size,i.bytes))=some (some (.agg #[.int .i64 0,.int .i64 0,.int .i64 0,.int .i64 0]),4,32):=by kernel_rfl
theorem zi3 (W:World) (a b c d:Value) (t:TypeId):∀ j u,[a,b,c,d][j]? = some u→(W.alloc (.cells #[a,b,c,d] t)).cell? ((⟨W.heap.size,0,none⟩:Addr).add j)=some u:=by
 intro j u hj
 match j,hj with
 | 0,hj=>cases hj;exact zab (zae _ _ _ rfl) 0
 | 1,hj=>cases hj;exact zab (zae _ _ _ rfl) 1
 | 2,hj=>cases hj;exact zab (zae _ _ _ rfl) 2
 | 3,hj=>cases hj;exact zab (zae _ _ _ rfl) 3
theorem yij {W w:World} {base g cap:Nat} {ms:List zaj} (e:zaj) (hrow:w.ownsRow base 221 4 (.slice (some ⟨g,0,none⟩) ms.length cap) ms.length (zch ms)) (hroom:ms.length+1≤cap) :
  ∃ w3,(zjy #[141,141] 141 #[.slice (some ⟨g,0,none⟩) ms.length cap,.slice (some ⟨w.heap.size,0,none⟩) 1 1]).run Tryz.prog (w.alloc (.cells #[.int .i64 e.1.1,.int .i64 e.1.2.1,.int .i64 e.1.2.2,.int .i64 e.2] 221))=.ok (.slice (some ⟨g,0,none⟩) (ms.length+1) cap) w3 ∧
   w3.ownsRow base 221 4 (.slice (some ⟨g,0,none⟩) (ms ++ [e]).length cap) (ms ++ [e]).length (zch (ms ++ [e]))∧(w.alloc (.cells #[.int .i64 e.1.1,.int .i64 e.1.2.1,.int .i64 e.1.2.2,.int .i64 e.2] 221)).grownBy w3 (some g):=by
 obtain ⟨i62,hi,hz0,hz1,hz2⟩:=info_parts Tryz.info221
 obtain ⟨w3,hrun,r1,r2⟩:=run_append_fits (P:=Tryz.prog) (w.alloc (.cells #[.int .i64 e.1.1,.int .i64 e.1.2.1,.int .i64 e.1.2.2,.int .i64 e.2] 221)) base 141 141 221 i62 4 Tryz.underlying141 hi hz1 g ms.length cap (zch ms) (hrow.alloc _) ⟨w.heap.size,0,none⟩ 1 1 (zi6 e) rfl (zi3 w _ _ _ _ 221) (by simp [zi6,Value.oneCell']) (by omega)
 refine ⟨w3,hrun,?_,r2⟩
 have e1:zch (ms ++ [e])=zch ms ++ zi6 e:=by simp [zch]
 rw [e1,List.length_append]
 exact r1
theorem zb1.cells {w:World} {b o n cp:Nat} {es:List zaj} (h:zb1 w (.slice (some ⟨b,o,none⟩) n cp) es):∀ j u,(zch es)[j]? = some u→w.cell? ((⟨b,o,none⟩:Addr).add j)=some u:=by
 obtain ⟨a,cap,e,_,hx⟩:=h
 injection e with e1 e2 e3
 intro j u hj
 have hl:j<es.length*4:=by
  rw [← zub]
  exact (List.getElem?_eq_some_iff.1 hj).1
 have hd:j=j / 4*4+j % 4:=by omega
 have hm:j % 4<4:=Nat.mod_lt _ (by omega)
 have hi:j / 4<es.length:=by omega
 obtain ⟨b',o',e',h0,h1,h2,h3,_⟩:=hx (j / 4) hi
 have e4:=e1.trans e'
 injection e4 with e4
 injection e4 with e5 e6
 subst e5 e6
 rw [hd,znm es _ _ hi hm] at hj
 have ea:(⟨b,o,none⟩:Addr).add j=⟨b,o+j,none⟩:=by simp [Addr.add]
 rw [ea]
 rw [hd,← Nat.add_assoc]
 match hq:j % 4,hm with
 | 0,_=>rw [hq] at hj;cases hj;exact h0
 | 1,_=>rw [hq] at hj;cases hj;exact h1
 | 2,_=>rw [hq] at hj;cases hj;exact h2
 | 3,_=>rw [hq] at hj;cases hj;exact h3
theorem ykb {w:World} {base g cap:Nat} {ms es:List zaj} {a:Option Addr} {cp:Nat} (hrow:w.ownsRow base 221 4 (.slice (some ⟨g,0,none⟩) ms.length cap) ms.length (zch ms)) (hr:zb1 w (.slice a es.length cp) es) (hnil:a=none→cp=0) (hroom:ms.length+es.length≤cap) :
  ∃ w3,(zjy #[141,141] 141 #[.slice (some ⟨g,0,none⟩) ms.length cap,.slice a es.length cp]).run Tryz.prog w=.ok (.slice (some ⟨g,0,none⟩) (ms ++ es).length cap) w3∧w3.ownsRow base 221 4 (.slice (some ⟨g,0,none⟩) (ms ++ es).length cap) (ms ++ es).length (zch (ms ++ es))∧w.grownBy w3 (some g):=by
 obtain ⟨i62,hi,hz0,hz1,hz2⟩:=info_parts Tryz.info221
 have e1:zch (ms ++ es)=zch ms ++ zch es:=by simp [zch]
 rw [e1,List.length_append]
 cases a with
 | none =>
  have he:es=[]:=by
   cases es with
   | nil=>rfl
   | cons x xs =>
    obtain ⟨a',cap',e,_,hx⟩:=hr
    injection e with e1 e2 e3
    obtain ⟨b,o,e',_⟩:=hx 0 (by simp)
    exact absurd (e1.trans e') (by simp)
  subst he
  rw [hnil rfl]
  have hrun:=run_append_owned_none (P:=Tryz.prog) (w:=w) base 141 141 221 i62 4 Tryz.underlying141 hi _ _ _ hrow
  refine ⟨w,hrun,by simpa [zch] using hrow,⟨rfl,rfl,rfl,Nat.le_refl _,fun _ _ _=>rfl⟩⟩
 | some ad =>
  obtain ⟨b,o,hao⟩:∃ b o,ad=⟨b,o,none⟩∨es=[]:=by
   cases es with
   | nil=>exact ⟨0,0,.inr rfl⟩
   | cons x xs =>
    obtain ⟨a',cap',e,_,hx⟩:=id hr
    injection e with e1 e2 e3
    obtain ⟨b,o,e',_⟩:=hx 0 (by simp)
    have:=e1.trans e'
    injection this with this
    exact ⟨b,o,.inl this⟩
  have hcells:∀ j u,(zch es)[j]? = some u→w.cell? (ad.add j)=some u:=by
   rcases hao with rfl|rfl
   ·exact hr.cells
   ·intro j u hj;simp [zch] at hj
  have h1:∀ u∈zch es,u.oneCell'=true:=by
   intro u hu
   unfold zch at hu
   rw [List.mem_flatMap] at hu
   obtain ⟨e,_,he⟩:=hu
   simp [zi6] at he
   rcases he with rfl|rfl|rfl|rfl <;> rfl
  obtain ⟨w3,hrun,r1,r2⟩:=run_append_fits (P:=Tryz.prog) w base 141 141 221 i62 4 Tryz.underlying141 hi hz1 g ms.length cap (zch ms) hrow ad es.length cp (zch es) (zub es) hcells h1 hroom
  exact ⟨w3,hrun,r1,r2⟩
theorem yem (b o n cap:Nat) (h:n+1≤cap) (hc:¬ cap=1) (q:World):(Instr.sliceAt 141 (.slice (some ⟨b,o,none⟩) (n+1) cap) (some (.int .i64 1)) none none).run Tryz.prog q=.ok (.slice (some ⟨b,o+4,none⟩) n (cap - 1)) q:=by
 have h1:(1:Int)≤(n:Int)+1:=by omega
 have h2:(n:Int)+1≤(cap:Int):=by omega
 go_simp
theorem yhd {W:World} {x:zaj} {al:List zaj} {a:Option Addr} {cap:Nat} (h:zb1 W (.slice a (x :: al).length cap) (x :: al)):∃ b o ad cap',a=some ⟨b,o,none⟩∧(∀ q,(Instr.sliceAt 141 (.slice a (al.length+1) cap) (some (.int .i64 1)) none none).run Tryz.prog q=.ok (.slice (some ad) al.length cap') q)∧zb1 W (.slice (some ad) al.length cap') al:=by
 have hcap:al.length+1≤cap:=h.cap
 obtain ⟨a0,cap0,e,_,hx⟩:=id h
 injection e with e1 e2 e3
 obtain ⟨b,o,e',_⟩:=hx 0 (by simp)
 have ea:a=some ⟨b,o,none⟩:=e1.trans e'
 subst ea
 by_cases hc:cap=1
 ·subst hc
  have hn:al=[]:=List.eq_nil_of_length_eq_zero (by omega)
  subst hn
  exact ⟨b,o,⟨b,o,none⟩,0,rfl,(fun q=>by kernel_rfl),⟨_,0,rfl,Nat.le_refl _,fun i hi=>by simp at hi⟩⟩
 ·refine ⟨b,o,⟨b,o+4,none⟩,cap - 1,rfl,fun q=>?_,?_⟩
  ·exact yem b o al.length cap hcap hc q
  ·have:=h.drop 1 (by simp)
   simpa using this
def yh4 (x y:zaj):Int:=zi4 x.1 y.1
theorem swoE:SWO (ltOf yh4):=
 ⟨fun x=>yj2.irrefl x.1,fun x y z=>yj2.trans x.1 y.1 z.1,fun x y z=>yj2.ntrans x.1 y.1 z.1⟩
theorem yki (W:World) (a b:Obj) (q:Nat) (os:Array Obj):grow (((W.alloc a).alloc b).drewN q) os=grow (W.drewN q) (#[a,b] ++ os):=by
 rw [alloc_eq_grow,alloc_eq_grow,grow_grow]
 show grow (grow (W.drewN q) _) os=_
 rw [grow_grow]
 rfl
theorem ylo (x y:zaj) (W:World):Calls Tryz.prog 125 #[.agg #[.int .i64 x.1.1,.int .i64 x.1.2.1,.int .i64 x.1.2.2,.int .i64 x.2],.agg #[.int .i64 y.1.1,.int .i64 y.1.2.1,.int .i64 y.1.2.2,.int .i64 y.2]] W fun e w'=>e=.returned (.int .i64 (yh4 x y))∧∃ q os',w'=grow (W.drewN q) os':=by
 obtain ⟨⟨x0,x1,x2⟩,xw⟩:=x
 obtain ⟨⟨y0,y1,y2⟩,yw⟩:=y
 obtain ⟨W2,hW2⟩:∃ W2,W2=(W.alloc (.cells #[.int .i64 x0,.int .i64 x1,.int .i64 x2,.int .i64 xw] 221)).alloc (.cells #[.int .i64 y0,.int .i64 y1,.int .i64 y2,.int .i64 yw] 221):=⟨_,rfl⟩
 have hcmp:=zg8 (x0,x1,x2) (y0,y1,y2) W2
 have Hcmp:=zac hcmp
 have HW:=zac hW2
 clear hcmp
 dsimp only
 go_enter Tryz.func125,Tryz.ntmps125
 go_wp2_with fail
 rw [← hW2]
 refine (zaa Hcmp).mono ?_
 rintro e w' ⟨rfl,q,os,hw'⟩
 have Hw:=zac hw'
 clear hw'
 dsimp only
 go_wp2
 go_ret
 exact ⟨rfl,q,_,(zaa Hw).trans ((congrArg (fun z:World=>grow (z.drewN q) os) (zaa HW)).trans (yki _ _ _ _ _))⟩
theorem yf2 (blk off size:Nat) (w:World):CmpLays Tryz.prog 125 #[] zi6 4 yh4 blk off size w:=
 fun _ _ _ _ x y=>ylo x y _
theorem pdqE (blk cap:Nat) (d:Array zaj) (w:World) (hH:HoldsK zi6 4 w blk 0 d) (hblk:blk<w.heap.size) (hsz:d.size<4611686018427387904) :
  Calls Tryz.prog 248 #[.slice (some ⟨blk,0,none⟩) d.size cap,.int .i64 0,.int .i64 d.size,.int .i64 (Lib.bitLen d.size:Nat),.func (.func 125) #[] #[]] w fun e w'=>e=.returned (.tuple #[])∧∃ d' n os,PermIn 0 d.size d d'∧SortedIn (ltOf yh4) 0 d.size d'∧w'=sortWorldK zi6 4 w blk 0 n d' os:=by
 have eg:∀ args w,(callFunc 125 args).run Tryz.prog w=.ok (.enter 125 args) w:=enters_of Tryz.func125 (by kernel_rfl) rfl
 have hlim:Lib.bitLen d.size<4611686018427387904:=Nat.lt_of_le_of_lt (Lib.bitLen_le d.size 62 (by omega) (by omega)) (by omega)
 have hp:=AnyQ.pdqsortCmpFunc_all Tryz.sortEnt 4 Tryz.isAgg221 Tryz.sizeOf221 zi6 yh4 125 #[] swoE blk 0 cap d w eg (yf2 blk 0 d.size w) ⟨fun _=>rfl,fun x v hv=>by simp [zi6] at hv;rcases hv with rfl|rfl|rfl|rfl <;> rfl,hH,hblk⟩ (d.size+1) 0 d.size (Lib.bitLen d.size) d w (by omega) rfl (SWK.start hH) (Nat.zero_le _) (Nat.le_refl _) hsz hlim (Or.inl rfl)
 refine hp.mono ?_
 rintro e w' ⟨rfl,n,os,hw⟩
 have h:=pdq_sorts (ltOf yh4) swoE d 0 d.size (Lib.bitLen d.size) true true (Nat.zero_le _) (Nat.le_refl _) (Or.inl rfl)
 exact ⟨rfl,_,n,os,h.1,h.2,hw⟩
theorem yep (blk cap:Nat) (d:Array zaj) (w:World) (hH:HoldsK zi6 4 w blk 0 d) (hblk:blk<w.heap.size) (hsz:d.size<1000000000000) :
  Calls Tryz.prog 211 #[.slice (some ⟨blk,0,none⟩) d.size cap,.func (.func 125) #[] #[]] w fun e w'=>e=.returned (.tuple #[])∧∃ d' n os,PermIn 0 d.size d d'∧SortedIn (ltOf yh4) 0 d.size d'∧w'=sortWorldK zi6 4 w blk 0 n d' os:=by
 have hp:=pdqE blk cap d w hH hblk (by omega)
 have hl:Calls Tryz.prog 207 #[.int .u64 (d.size:Int)] w fun e w'=>e=.returned (.int .i64 (Lib.bitLen d.size:Nat))∧w'=w:=by
  have h:=Any.bits_Len (SlLaysF0.n15.bits (P:=Tryz.prog) (ρ:=Tryz.sortRow_ren) { Tryz.sortRow with }) (d.size:Int) w (by omega) (by omega)
  rwa [Int.toNat_natCast] at h
 have wr:IntKind.u64.wrap (d.size:Int)=d.size:=by simp [IntKind.wrap,IntKind.bits,IntKind.signed];omega
 have Hp:=zac hp
 have Hl:=zac hl
 clear hp hl hH
 go_enter Tryz.func211,Tryz.ntmps211
 go_wp2_with (first|(go_at_call 207;refine (zaa Hl).mono ?_;rintro e w' ⟨rfl,rfl⟩)|(go_at_call 248;refine (zaa Hp).mono ?_;rintro e w' ⟨rfl,d',n,os,h1,h2,rfl⟩))
 go_end0
 exact ⟨rfl,d',n,os,h1,h2,rfl⟩
structure zbw (W W':World):Prop where
 size:W.heap.size≤W'.heap.size
 cells:∀ (k:Nat) (cs:Array Value) (t:TypeId) (fr:Nat×Nat),W.heap[k]? = some (Obj.cells cs t fr)→t≠141→t≠221→W'.heap[k]? = some (Obj.cells cs t fr)
 walk:∀ (k:Nat) (o:Obj),W.heap[k]? = some o→o.isWalk=true→W'.heap[k]? = some o
theorem zbw.refl (W:World):zbw W W:=⟨Nat.le_refl _,fun _ _ _ _ h _ _=>h,fun _ _ h _=>h⟩
theorem zbw.trans {A B C:World} (h:zbw A B) (k:zbw B C):zbw A C:=
 ⟨Nat.le_trans h.size k.size,fun q cs t fr hq h1 h2=>k.cells q cs t fr (h.cells q cs t fr hq h1 h2) h1 h2,fun q o hq ho=>k.walk q o (h.walk q o hq ho) ho⟩
theorem zbw.of_grown {A B:World} {row:Option Nat} (h:A.grownBy B row) (hr:∀ j,row=some j→∃ cs t fr,A.heap[j]? = some (.cells cs t fr)∧(t=141∨t=221)):zbw A B:=by
 refine ⟨h.size,fun k cs t fr hk h1 h2=>(h.block k (Array.getElem?_eq_some_iff.1 hk).1 (fun e=>?_)).trans hk,fun k o hk ho=>(h.block k (Array.getElem?_eq_some_iff.1 hk).1 (fun e=>?_)).trans hk⟩
 ·obtain ⟨cs',t',fr',h3,h4⟩:=hr k e.symm
  rw [hk] at h3
  injection h3 with h3
  injection h3 with e1 e2 e3
  subst e2
  exact h4.elim h1 h2
 ·obtain ⟨cs',t',fr',h3,h4⟩:=hr k e.symm
  rw [hk] at h3
  injection h3 with h3
  subst h3
  cases ho
theorem zbw.put (W:World) (l:Nat) (o o':Obj) (h:W.heap[l]? = some o) (h1:o.isCells=false) (h2:o.isWalk=false):zbw W (W.putObj l o'):=by
 refine ⟨by simp,fun k cs t fr hk _ _=>?_,fun k p hk hp=>?_⟩
 ·have hne:k≠l:=fun e=>by
   subst e
   rw [h] at hk
   injection hk with hk
   subst hk
   cases h1
  rw [World.putObj_heap_other hne];exact hk
 ·have hne:k≠l:=fun e=>by
   subst e
   rw [h] at hk
   injection hk with hk
   subst hk
   rw [h2] at hp
   cases hp
  rw [World.putObj_heap_other hne];exact hk
theorem zbw.walks {A B:World} (h:zbw A B):KeepsWalks A B:=⟨h.size,h.walk⟩
theorem zbw.cellOf {W W':World} (h:zbw W W') {b o:Nat} {cs:Array Value} {t:TypeId} {fr:Nat×Nat} {v:Value} (hb:W.heap[b]? = some (.cells cs t fr)) (h1:t≠141) (h2:t≠221) (hc:W.cell? ⟨b,o,none⟩=some v):W'.cell? ⟨b,o,none⟩=some v:=by
 have h3:=h.cells b cs t fr hb h1 h2
 rw [World.cell?_of_block (a:=⟨b,o,none⟩) (h3.trans hb.symm)];exact hc
theorem zbw.wmap {W W':World} (h:zbw W W') {b n:Nat} {f:Row→Int} (hm:zfk W b n f):zfk W' b n f:=by
 obtain ⟨D,⟨es,cl,hb,h2⟩,hr⟩:=hm
 exact ⟨D,⟨es,cl,h.walk b _ hb rfl,h2⟩,hr⟩
def zwr (x:Row×Int):Array Value:=#[.agg #[.int .i64 x.1.1,.int .i64 x.1.2.1,.int .i64 x.1.2.2],.int .i64 x.2]
theorem yiy (n:Nat) (hn:1≤n) (l Bm b nn:Nat) (D:DataW Unit) (g:Row→Int) (hrep:Rep D g) (J Jx:List (Row×Int)→World→Prop)
  (hY:∀ pre x W,J pre W→pre.length<Maps.size D→YieldAt Fence.wide (n - 1) Tryz.prog l (zwr x) W fun e W' =>
   (e=.returned (.bool true)∧J (pre ++ [x]) W'∧zbw W W')∨(e=.returned (.bool false)∧Jx (pre ++ [x]) W'))
  (W:World) (hJ:AbidesFrom W.heap.size J) (hm:W.cell? ⟨Bm,0,none⟩=some (.map (some b))) (hown:W.ownsMap Tryz.prog 77 (plainElem Tryz.prog 2) b nn D) (h0:J [] W) :
  CallsIn Fence.wide n Tryz.prog 212 #[.func (.yield l) #[] #[],.pointer (some ⟨Bm,0,none⟩)] W fun e W'=>(∃ v,e=.returned v) ∧
   ((∃ ls,(∃ xs,zcu D (fun _=>false) xs∧ls=za6 g xs)∧J ls W')∨(∃ pre,True∧Jx pre W')):=by
 refine callsIn_of_wp Tryz.func212 rfl trivial ?_ rfl
 simp only [Tryz.ntmps212,List.size_toArray,List.length_cons,List.length_nil,Nat.reduceAdd,Nat.reduceSub,Array.replicate_succ,Array.replicate_zero,List.push_toArray,List.append_toArray,List.nil_append,List.cons_append]
 gi_wp2_with (first
  | (gi_at_range;refine wpListIn_range_own _ rfl _ 127 rfl 77 2 zft Tryz.underlying127 _ b nn _ rfl hown ?_;intro w0 hrg0 hg0 hs0)
  | gi_in)
 go_frame
 gi_loopw [7] (fun _ wr=>∃ (left:Lit→Bool) (cnt:Nat) (ss:List Row),wr.ranges Tryz.prog 77 (plainElem Tryz.prog 2) b W.heap.size nn D left cnt∧ss.length+cnt≤Maps.size D∧zcu D left ss∧J (za6 g ss) wr) (fun _ wr=>wr.rangeLeft b W.heap.size)
 case atStart=>exact ⟨_,_,[],hrg0,by simp,zcu.start D,hJ [] W w0 none h0 hg0 (fun r e=>by cases e)⟩
 case round =>
  obtain ⟨left,cnt,ss,hrg,hcs,hC,hJs⟩:=hrel
  gi_wp2_with (first
   | (gi_at_next;refine wpListIn_next_ranges _ rfl _ rfl 77 zft (plainElem Tryz.prog 2) (fun x:Row=>.agg #[.int .i64 x.1,.int .i64 x.2.1,.int .i64 x.2.2]) (Value.int .i64) zul zqt b W.heap.size nn D left cnt rfl hrg ?_ ?_)
   | gi_in)
  ·intro _ hl0
   gi_wp2
   go_end0
   exact ⟨⟨_,rfl⟩,.inl ⟨_,⟨ss,⟨hC.wf,hC.apart,fun r hr=>by rw [hC.mem r hr,hl0]⟩,rfl⟩,hJs⟩⟩
  ·intro x1 x2 x3 c kl y1 y2 w1 cnt1 hkey hlk hv hat hrg1 hlt hg1 hs1 hen
   obtain ⟨hwx,hkl,hc⟩:=ykc hrep (x:=(x1,x2,x3)) (y:=(y1,y2)) hkey hv hat
   have hhas:Maps.has D (za2 (x1,x2,x3))=true:=by rw [← hkl];exact has_true_of_atKey hat
   have hJ1:J (za6 g ss) w1:=hJ _ wr w1 (some W.heap.size) hJs hg1 (fun r e=>by cases e;exact ⟨Nat.le_refl _,hrg.iter_walk⟩)
   have hJ2:J (za6 g ss) (w1.alloc (.cells #[.int .i64 x1,.int .i64 x2,.int .i64 x3] 77)):=hJ _ w1 _ none hJ1 (World.grownBy_alloc _ _ none) (fun r e=>by cases e)
   obtain ⟨fn,tmps,assign,body,hy,hR⟩:=hY (za6 g ss) ((x1,x2,x3),g (x1,x2,x3)) _ hJ2 (by simp [za6];omega)
   rw [hkl] at hlk hrg1
   have hC2:=hC.step hwx hhas hlk
   have hrg2:=hrg1.alloc (.cells #[.int .i64 x1,.int .i64 x2,.int .i64 x3] 77)
   dsimp only [zwr] at hy
   clear hkey hv hat hs1 hkl
   gi_wp2
   refine hR.mono ?_
   rintro e W3 (⟨rfl,hJ3,hk3⟩|⟨rfl,hJx3⟩)
   ·gi_wp2
    have hrg3:=hrg2.of_walks hk3.walks
    go_roundw
    case rel=>exact ⟨_,cnt1,ss ++ [(x1,x2,x3)],hrg3,by simp;omega,hC2,by simpa [za6] using hJ3⟩
    case measure=>rw [hrg3.left_eq,hrg.left_eq];exact hlt
   ·gi_wp2
    refine bodyPost_ret (results_none rfl _ _ _) rfl ?_
    exact ⟨⟨_,rfl⟩,.inr ⟨_,trivial,hJx3⟩⟩
end Go.Proofs.YtoifcnidhfnapaaGreatDoor
