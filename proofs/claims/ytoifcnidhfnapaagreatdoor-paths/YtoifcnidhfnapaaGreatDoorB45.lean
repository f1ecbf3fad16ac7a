import Derived.Test.YtoifcnidhfnapaaGreatDoorB06
import Derived.Test.YtoifcnidhfnapaaGreatDoorB09
import Derived.Test.YtoifcnidhfnapaaGreatDoorB22
import Derived.Test.YtoifcnidhfnapaaGreatDoorB02
import Derived.Test.YtoifcnidhfnapaaGreatDoorB14
set_option linter.unusedVariables false
set_option linter.unusedSimpArgs false
set_option maxRecDepth 100000
set_option maxHeartbeats 16000000
namespace Go.Proofs.YtoifcnidhfnapaaGreatDoor
open Go.RowKit Go.Maps Go.Sort Go.Shelf
namespace H
def ze0 (r:H4):List Value:=[.int .i64 r.1,.int .i64 r.2.1,.int .i64 r.2.2.1,.int .i64 r.2.2.2]
def zuq (r:H4):List Int:=[r.1,r.2.1,r.2.2.1,r.2.2.2]
def zi4 (x y:H4):Int:=ztd (zuq x) (zuq y)
theorem ykk {w:World} {b:Nat} {t:TypeId} (x y z u:Int) (h:w.heap[b]? = some (.cells #[.int .i64 x,.int .i64 y,.int .i64 z,.int .i64 u] t (0,0))):zbn w (.slice (some ⟨b,0,none⟩) 4 4) [x,y,z,u]:=by
 refine ⟨some ⟨b,0,none⟩,4,rfl,fun i hi=>⟨b,0,rfl,?_⟩⟩
 rw [zab h]
 match i,hi with
 | 0,_=>rfl
 | 1,_=>rfl
 | 2,_=>rfl
 | 3,_=>rfl
theorem zg8 (x y:H4) (W:World):Calls Tryz.prog 317 #[.agg #[.int .i64 x.1,.int .i64 x.2.1,.int .i64 x.2.2.1,.int .i64 x.2.2.2],.agg #[.int .i64 y.1,.int .i64 y.2.1,.int .i64 y.2.2.1,.int .i64 y.2.2.2]] W fun e w'=>e=.returned (.int .i64 (zi4 x y))∧∃ q os',w'=grow (W.drewN q) os':=by
 obtain ⟨x1,x2,x3,x4⟩:=x
 obtain ⟨y1,y2,y3,y4⟩:=y
 dsimp only
 obtain ⟨W2,hW2⟩:∃ W2,W2=(W.alloc (.cells #[.int .i64 x1,.int .i64 x2,.int .i64 x3,.int .i64 x4] 134)).alloc (.cells #[.int .i64 y1,.int .i64 y2,.int .i64 y3,.int .i64 y4] 134):=⟨_,rfl⟩
 have hx:zbn W2 (.slice (some ⟨W.heap.size,0,none⟩) 4 4) [x1,x2,x3,x4]:=ykk (t:=134) x1 x2 x3 x4 (by rw [hW2,Below.heap_alloc _ _ _ (by simp)];exact zae _ _ _ rfl)
 have hy:zbn W2 (.slice (some ⟨W.heap.size+1,0,none⟩) 4 4) [y1,y2,y3,y4]:=ykk (t:=134) y1 y2 y3 y4 (by rw [hW2];exact zae _ _ _ (by simp))
 have Hx:=zac hx
 have Hy:=zac hy
 have HW:=zac hW2
 have Hr:Hid (ztd [x1,x2,x3,x4] [y1,y2,y3,y4]=zi4 (x1,x2,x3,x4) (y1,y2,y3,y4)):=rfl
 clear hx hy
 go_enter Tryz.func317,Tryz.ntmps317
 go_wp2
 rw [← hW2]
 clear hW2
 go_quiet ((go_at_call 215;exact Calls.quiet_of_same (zog _ _ [x1,x2,x3,x4] [y1,y2,y3,y4] _ (by exact (zaa Hx).drewN _) (by exact (zaa Hy).drewN _) rfl (by simp))))
 go_wp2
 go_ret
 refine ⟨zd0 (zaa Hr),nq,#[.cells #[.int .i64 x1,.int .i64 x2,.int .i64 x3,.int .i64 x4] 134,.cells #[.int .i64 y1,.int .i64 y2,.int .i64 y3,.int .i64 y4] 134],?_⟩
 rw [zaa HW,alloc_eq_grow,alloc_eq_grow,grow_grow]
 rfl
theorem yf3 (blk off size:Nat) (w:World):CmpLays Tryz.prog 317 #[] ze0 4 zi4 blk off size w:=
 fun _ _ _ _ x y=>zg8 x y _
def ltR (x y:H4):Prop:=x.1<y.1∨(x.1=y.1∧(x.2.1<y.2.1∨(x.2.1=y.2.1∧(x.2.2.1<y.2.2.1∨(x.2.2.1=y.2.2.1∧x.2.2.2<y.2.2.2)))))
theorem zqw (x y:H4):ltOf zi4 x y=true↔ltR x y:=by
 unfold ltOf zi4 zuq ltR
 rw [decide_eq_true_iff]
 simp only [ztd]
 by_cases h1:x.1=y.1
 ·rw [if_pos ((zef _ _).2 h1)]
  by_cases h2:x.2.1=y.2.1
  ·rw [if_pos ((zef _ _).2 h2)]
   by_cases h3:x.2.2.1=y.2.2.1
   ·rw [if_pos ((zef _ _).2 h3)]
    by_cases h4:x.2.2.2=y.2.2.2
    ·rw [if_pos ((zef _ _).2 h4)];simp;omega
    ·rw [if_neg (fun e=>h4 ((zef _ _).1 e)),zj2];omega
   ·rw [if_neg (fun e=>h3 ((zef _ _).1 e)),zj2];omega
  ·rw [if_neg (fun e=>h2 ((zef _ _).1 e)),zj2];omega
 ·rw [if_neg (fun e=>h1 ((zef _ _).1 e)),zj2];omega
theorem zc0 (x y:H4):ltOf zi4 x y=false↔¬ ltR x y:=by
 rw [← zqw];simp
theorem yj2:SWO (ltOf zi4) where
 irrefl x:=by rw [zc0];unfold ltR;omega
 trans x y z h1 h2:=by rw [zqw] at *;unfold ltR at *;omega
 ntrans x y z h1 h2:=by rw [zc0] at *;unfold ltR at *;omega
theorem invH:∀ key kl,keyOf Tryz.prog 134 key=some kl→∃ x:H4,key=.agg #[.int .i64 x.1,.int .i64 x.2.1,.int .i64 x.2.2.1,.int .i64 x.2.2.2]:=by
 intro key kl h
 obtain ⟨r,_,hv,_⟩:=zj6 h
 exact ⟨r,hv⟩
theorem yll {D:DataW Unit} {g:H4→Int} (hrep:zyq D g) {x:H4} {c:Int} {kl:Lit} {y:DataW Unit×List MemPlace} (hkey:keyOf Tryz.prog 134 (.agg #[.int .i64 x.1,.int .i64 x.2.1,.int .i64 x.2.2.1,.int .i64 x.2.2.2])=some kl)
  (hv:plainElem (H:=Unit) Tryz.prog 2 (.int .i64 c)=some y) (hat:∀ zd,D.atKey kl zd=y.1):WfH x∧kl=zj4 x∧c=g x:=by
 obtain ⟨r,hr,hv',rfl⟩:=zj6 hkey
 simp only [yjw,Value.agg.injEq] at hv'
 have e:x=r:=by
  simp at hv'
  exact Prod.ext hv'.1 (Prod.ext hv'.2.1 (Prod.ext hv'.2.2.1 hv'.2.2.2))
 subst e
 obtain ⟨c',hc',rfl,_⟩:=plainElem_int_inv Tryz.underlying2 hv
 have e1:=hrep.at_ x hr
 rw [hat] at e1
 refine ⟨hr,rfl,?_⟩
 cases hc'
 exact zdk e1
def yf7 (Dg:DataW Unit) (left:Lit→Bool) (r:H4):Prop:=Maps.has Dg (zj4 r)=true∧left (zj4 r)=false
theorem zz3 {Dg:DataW Unit} {left:Lit→Bool} {x:H4} (hx:WfH x) (hh:Maps.has Dg (zj4 x)=true):∀ r,WfH r→((yf7 Dg left r∨r=x)↔yf7 Dg (fun z=>left z && !z.sameKey (zj4 x)) r):=by
 intro r hr
 unfold yf7
 by_cases e:r=x
 ·subst e
  simp [hh,WideAt.sameKey_self (zi9 r)]
 ·have:(zj4 r).sameKey (zj4 x)=false:=sameKey_ne (fun e'=>e (zi8 hr hx e'))
  simp [this,e]
theorem zi3 (w:World) (a b c d:Value) (t:TypeId):∀ j u,[a,b,c,d][j]? = some u→(w.alloc (.cells #[a,b,c,d] t)).cell? ((⟨w.heap.size,0,none⟩:Addr).add j)=some u:=by
 intro j u hj
 rw [Addr.add_lit,Nat.zero_add,zab (zae w _ _ rfl)]
 simpa using hj
theorem zxr {w:World} {b n:Nat} {D:DataW Unit} (h:w.ownsMap Tryz.prog 134 (plainElem Tryz.prog 2) b n D):zig D:=by
 intro es he
 obtain ⟨es',e1,_,e3⟩:=h.entries zy4
 rw [he] at e1
 cases e1
 exact e3
structure zcu (D:DataW Unit) (left:Lit→Bool) (xs:List H4):Prop where
 wf:∀ x∈xs,WfH x
 apart:xs.Pairwise (·≠·)
 mem:∀ r,WfH r→(r∈xs↔Maps.has D (zj4 r)=true∧left (zj4 r)=false)
theorem zcu.start (D:DataW Unit):zcu D (Maps.has D) []:=
 ⟨fun x hx=>by simp at hx,List.Pairwise.nil,fun r _=>by simp⟩
theorem zcu.step {D:DataW Unit} {left:Lit→Bool} {xs:List H4} (h:zcu D left xs) {x:H4} (hx:WfH x) (hh:Maps.has D (zj4 x)=true) (hl:left (zj4 x)=true):zcu D (fun z=>left z && !z.sameKey (zj4 x)) (xs ++ [x]):=by
 have hnx:x ∉ xs:=fun hm=>by have:=((h.mem x hx).1 hm).2;rw [hl] at this;cases this
 refine ⟨fun y hy=>?_,?_,fun r hr=>?_⟩
 ·rcases List.mem_append.1 hy with hy|hy
  ·exact h.wf y hy
  ·simp at hy;subst hy;exact hx
 ·refine List.pairwise_append.2 ⟨h.apart,by simp,fun a ha b hb=>?_⟩
  simp at hb
  subst hb
  exact fun e=>hnx (e ▸ ha)
 ·simp only [List.mem_append,List.mem_singleton]
  rw [h.mem r hr]
  have:=zz3 (Dg:=D) (left:=left) hx hh r hr
  unfold yf7 at this
  exact this
theorem zr8 (n:Nat) (hn:1≤n) (l Bm b nn:Nat) (D:DataW Unit) (g:H4→Int) (hrep:zyq D g) (J Jx:List H4→World→Prop)
  (hY:∀ pre x W,J pre W→pre.length<Maps.size D→YieldAt Fence.wide (n - 1) Tryz.prog l #[.agg #[.int .i64 x.1,.int .i64 x.2.1,.int .i64 x.2.2.1,.int .i64 x.2.2.2]] W fun e W' =>
   (e=.returned (.bool true)∧J (pre ++ [x]) W'∧KeepsWalks W W')∨(e=.returned (.bool false)∧Jx (pre ++ [x]) W'))
  (W:World) (hJ:AbidesFrom W.heap.size J) (hm:W.cell? ⟨Bm,0,none⟩=some (.map (some b))) (hown:W.ownsMap Tryz.prog 134 (plainElem Tryz.prog 2) b nn D) (h0:J [] W) :
  CallsIn Fence.wide n Tryz.prog 165 #[.func (.yield l) #[] #[],.pointer (some ⟨Bm,0,none⟩)] W fun e W'=>(∃ v,e=.returned v) ∧
   ((∃ xs,zcu D (fun _=>false) xs∧J xs W')∨(∃ pre,True∧Jx pre W')):=by
 refine callsIn_of_wp Tryz.func165 rfl trivial ?_ rfl
 simp only [Tryz.ntmps165,List.size_toArray,List.length_cons,List.length_nil,Nat.reduceAdd,Nat.reduceSub,Array.replicate_succ,Array.replicate_zero,List.push_toArray,List.append_toArray,List.nil_append,List.cons_append]
 gi_wp2_with (first
  | (gi_at_range;refine wpListIn_range_own _ rfl _ 87 rfl 134 2 zy4 Tryz.underlying87 _ b nn _ rfl hown ?_;intro w0 hrg0 hg0 hs0)
  | gi_in)
 go_frame
 gi_loopw [6] (fun _ wr=>∃ (left:Lit→Bool) (cnt:Nat) (ss:List H4),wr.ranges Tryz.prog 134 (plainElem Tryz.prog 2) b W.heap.size nn D left cnt∧ss.length+cnt≤Maps.size D∧zcu D left ss∧J ss wr) (fun _ wr=>wr.rangeLeft b W.heap.size)
 case atStart=>exact ⟨_,_,[],hrg0,by simp,zcu.start D,hJ [] W w0 none h0 hg0 (fun r e=>by cases e)⟩
 case round =>
  obtain ⟨left,cnt,ss,hrg,hcs,hC,hJs⟩:=hrel
  gi_wp2_with (first
   | (gi_at_next;refine wpListIn_next_ranges _ rfl _ rfl 134 zy4 (plainElem Tryz.prog 2) (fun x:H4=>.agg #[.int .i64 x.1,.int .i64 x.2.1,.int .i64 x.2.2.1,.int .i64 x.2.2.2]) (Value.int .i64) invH zqt b W.heap.size nn D left cnt rfl hrg ?_ ?_)
   | gi_in)
  ·intro _ hl0
   gi_wp2
   go_end0
   exact ⟨⟨_,rfl⟩,.inl ⟨ss,⟨hC.wf,hC.apart,fun r hr=>by rw [hC.mem r hr,hl0]⟩,hJs⟩⟩
  ·intro x1 x2 x3 x4 c kl y1 y2 w1 cnt1 hkey hlk hv hat hrg1 hlt hg1 hs1 hen
   obtain ⟨hwx,hkl,hc⟩:=yll hrep (x:=(x1,x2,x3,x4)) (y:=(y1,y2)) hkey hv hat
   have hhas:Maps.has D (zj4 (x1,x2,x3,x4))=true:=by rw [← hkl];exact has_true_of_atKey hat
   have hJ1:J ss w1:=hJ ss wr w1 (some W.heap.size) hJs hg1 (fun r e=>by cases e;exact ⟨Nat.le_refl _,hrg.iter_walk⟩)
   have hJ2:J ss (w1.alloc (.cells #[.int .i64 x1,.int .i64 x2,.int .i64 x3,.int .i64 x4] 134)):=hJ ss w1 _ none hJ1 (World.grownBy_alloc _ _ none) (fun r e=>by cases e)
   obtain ⟨fn,tmps,assign,body,hy,hR⟩:=hY ss (x1,x2,x3,x4) _ hJ2 (by omega)
   rw [hkl] at hlk hrg1
   have hC2:=hC.step hwx hhas hlk
   have hrg2:=hrg1.alloc (.cells #[.int .i64 x1,.int .i64 x2,.int .i64 x3,.int .i64 x4] 134)
   dsimp only at hy
   clear hkey hv hat hs1 hc hkl
   gi_wp2
   refine hR.mono ?_
   rintro e W3 (⟨rfl,hJ3,hk3⟩|⟨rfl,hJx3⟩)
   ·gi_wp2
    have hrg3:=hrg2.of_walks hk3
    go_roundw
    case rel=>exact ⟨_,cnt1,ss ++ [(x1,x2,x3,x4)],hrg3,by simp;omega,hC2,hJ3⟩
    case measure=>rw [hrg3.left_eq,hrg.left_eq];exact hlt
   ·gi_wp2
    refine bodyPost_ret (results_none rfl _ _ _) rfl ?_
    exact ⟨⟨_,rfl⟩,.inr ⟨ss ++ [(x1,x2,x3,x4)],trivial,hJx3⟩⟩
end H
end Go.Proofs.YtoifcnidhfnapaaGreatDoor
namespace Go.Proofs.YtoifcnidhfnapaaGreatDoor
open Go.RowKit Go.Maps Go.Sort Go.Shelf
attribute [local go_sem] Oper.semAt_some
namespace H
theorem Tryz.info134:(Tryz.prog.info? 134).map (fun i=>(i.zero,i.size,i.bytes))=some (some (.agg #[.int .i64 0,.int .i64 0,.int .i64 0,.int .i64 0]),4,32):=by kernel_rfl
def zf9 (xs:List H4):List Value:=xs.flatMap ze0
theorem zik (n:Nat) (hn:3≤n) (Bm b nn:Nat) (D:DataW Unit) (g:H4→Int) (hrep:zyq D g) (w:World) (hm:w.cell? ⟨Bm,0,none⟩=some (.map (some b))) (hown:w.ownsMap Tryz.prog 134 (plainElem Tryz.prog 2) b nn D) (hnn:nn≤1000000000) :
  CallsIn Fence.wide n Tryz.prog 208 #[.slice none 0 0,.func (.func 165) #[] #[.pointer (some ⟨Bm,0,none⟩)]] w fun e w'=>∃ v xs,e=.returned v∧zcu D (fun _=>false) xs∧w'.ownsRow w.heap.size 134 4 v xs.length (zf9 xs)∧Below w.heap.size w w':=by
 have h1:1≤n:=by omega
 refine callsIn_of_wp_marks Tryz.func208 rfl trivial ?_ rfl
 simp only [Tryz.ntmps208,List.size_toArray,List.length_cons,List.length_nil,Nat.reduceAdd,Nat.reduceSub,Array.replicate_succ,Array.replicate_zero,List.push_toArray,List.append_toArray,List.nil_append,List.cons_append]
 gi_wp2
 have bS0:=Boxed.new w 208 (.slice none 0 0)
 have hB0:Below w.heap.size w (w.alloc (.cells #[.slice none 0 0] 208)):=(Below.refl _ w).alloc (Nat.le_refl _) _
 have hm0:(w.alloc (.cells #[.slice none 0 0] 208)).cell? ⟨Bm,0,none⟩=some (.map (some b)):=(hB0.cell (p:=⟨Bm,0,none⟩) (World.block_lt_of_cell? w _ hm)).trans hm
 have hBm:Bm<w.heap.size:=World.block_lt_of_cell? w _ hm
 have hown0:=hown.alloc (.cells #[.slice none 0 0] 208)
 have hsz:(w.alloc (.cells #[.slice none 0 0] 208)).heap.size=w.heap.size+1:=by simp
 obtain ⟨W0,hW0⟩:∃ W0,w.alloc (.cells #[.slice none 0 0] 208)=W0:=⟨_,rfl⟩
 rw [hW0] at bS0 hB0 hm0 hown0 hsz ⊢
 clear hW0
 have hsD:Maps.size D≤nn:=hown.size_le
 have hseq:SeqStopsK Fence.wide (n - 1) Tryz.prog 165 #[.pointer (some ⟨Bm,0,none⟩)] (fun x:H4=>#[Value.agg #[.int .i64 x.1,.int .i64 x.2.1,.int .i64 x.2.2.1,.int .i64 x.2.2.2]]) KeepsWalks (zcu D (fun _=>false)) (fun _=>True) (Maps.size D) W0:=fun l J Jx W hW hJ _ hY h0=>by
  refine zr8 (n - 1) (by omega) l Bm b nn D g hrep J Jx hY W hJ ((hW.cell (p:=⟨Bm,0,none⟩) (show Bm<_ by omega)).trans hm0) ?_ h0
  have hbl:=hown0.lt
  obtain ⟨es,clock,hb,Ft,hs,hD⟩:=hown0
  exact ⟨es,clock,(hW.block b hbl).trans hb,Ft,hs,hD⟩
 obtain ⟨i60,hi,hz0,hz1,hz2⟩:=info_parts Tryz.info134
 refine wpIn_rangeFunc_ownH rfl h1 (gf:=165) (lb:=#[.pointer (some ⟨Bm,0,none⟩)]) rfl trivial (enters_of Tryz.func165 (by kernel_rfl) rfl) hseq walksK_t walksK_b (Below.refl _ _) (fun _=>rfl)
  (fun pre W=>(∃ v,Boxed W w.heap.size 208 v∧W.ownsRow w.heap.size 134 4 v pre.length (zf9 pre)∧True)∧Below w.heap.size w W)
  (fun _ _ _=>False)
  (OwnFrom.and (Own.from (holdsRow_own w.heap.size w.heap.size 208 134 4 (fun pre:List H4=>pre.length) zf9 (fun _ _=>True)) _) (ownFrom_below (Nat.le_refl _) (by omega)))
  (fun _ _ _ _ _ hs _ _=>hs)
  ⟨⟨_,bS0,World.ownsRow_nil _ _ _ _,trivial⟩,hB0⟩
  (fun x a' W=>∃ Bx,w.heap.size<Bx∧W.heap[Bx]? = some (.cells #[.int .i64 x.1,.int .i64 x.2.1,.int .i64 x.2.2.1,.int .i64 x.2.2.2] 134 (0,0)) ∧
   a'={ tmps:=#[.slice none 0 0,.func (.func 165) #[] #[.pointer (some ⟨Bm,0,none⟩)],.pointer (some ⟨w.heap.size,0,none⟩),undef,.slice none 0 0,.pointer (some ⟨Bx,0,none⟩),.func (.func 165) #[] #[.pointer (some ⟨Bm,0,none⟩)],.agg #[.int .i64 x.1,.int .i64 x.2.1,.int .i64 x.2.2.1,.int .i64 x.2.2.2],undef,undef,undef,undef,undef],defers:=[] })
  (fun x a' _ X Y row hs hg hr=>by
   obtain ⟨Bx,h1,h2,h3⟩:=hs
   refine ⟨Bx,h1,(hg.block Bx (Array.getElem?_eq_some_iff.1 h2).1 (fun e=>?_)).trans h2,h3⟩
   obtain ⟨_,o,ho,hc⟩:=hr Bx e.symm
   rw [h2] at ho
   cases ho
   cases hc)
  ?assign ?body ?done ?stop
 case assign =>
  rintro l pre x W K ⟨⟨v,bS,hrow,_⟩,hB⟩ hK
  gi_wp2
  exact hK _ _ ((KeepsOthers.alloc _ _).from _) (KeepsWalks.alloc _ _) ⟨⟨v,bS.alloc _,hrow.alloc _,trivial⟩,hB.alloc hB.size _⟩ ⟨W.heap.size,bS.lt,zae _ _ _ rfl,rfl⟩
 case body =>
  rintro l pre x a' W hl ⟨r,hr⟩ ⟨⟨v,bS,hrow,_⟩,hB⟩ ⟨Bx,hBx,hX,rfl⟩ hlt
  obtain ⟨x1,x2,x3,x4⟩:=x
  dsimp only at hX ⊢
  have c0:W.cell? ⟨Bx,0,none⟩=some (.int .i64 x1):=zab hX 0
  have c1:W.cell? ⟨Bx,1,none⟩=some (.int .i64 x2):=zab hX 1
  have c2:W.cell? ⟨Bx,2,none⟩=some (.int .i64 x3):=zab hX 2
  have c3:W.cell? ⟨Bx,3,none⟩=some (.int .i64 x4):=zab hX 3
  have cS:=bS.cell
  have hBs:=hB.size
  have hnew:=zi3 W (.int .i64 x1) (.int .i64 x2) (.int .i64 x3) (.int .i64 x4) 134
  gi_wp2_with (first
   | (gi_at_builtin;refine wpListIn_append_own _ rfl _ _ 208 rfl w.heap.size 134 i60 _ 4 32 Tryz.underlying208 hi hz0 hz1 hz2 rfl (by decide) _ _ _ rfl (hrow.alloc _) ⟨W.heap.size,0,none⟩ 1 1 [.int .i64 x1,.int .i64 x2,.int .i64 x3,.int .i64 x4] rfl rfl hnew (by simp [Value.oneCell']) (by unfold maxLen;omega) (by omega) (by simp;omega) ?_;intro v' w1 hown' hgrow _;obtain ⟨g',cap',rfl⟩:=zgr hown';obtain ⟨hv1,hv2,hr2,hk2,hb2⟩:=bS.appended (by decide) hrow hB.size (Nat.le_refl _) hown' hgrow;have hc1:=hv1.cell;have hf1:=hv1.frozen))
  refine ⟨hk2.from _,⟨hk2.size,fun k o hk ho=>hk2.same k o hk (Obj.not_cells_of_walk ho)⟩,⟨_,hv2,?_,trivial⟩,hB.trans hb2⟩
  have e:zf9 (pre ++ [(x1,x2,x3,x4)])=zf9 pre ++ [.int .i64 x1,.int .i64 x2,.int .i64 x3,.int .i64 x4]:=by simp [zf9,ze0]
  rw [e]
  simpa using hr2
 case done =>
  rintro D ys W hD hS ⟨⟨v,bS,hrow,_⟩,hB⟩ hK
  have cS:=bS.cell
  gi_wp2
  refine ⟨by simp,.inl ⟨_,_,rfl,run_takeDeferred hK,?_⟩⟩
  exact ⟨_,results_tmp rfl _ _ _,v,ys,rfl,hS,ownsRow_putObj hrow _ hK rfl,hB.trans (belowK_b (w:=w) (Nat.le_refl _) W D _ _ (by omega) hK rfl rfl)⟩
 case stop =>
  rintro D c pre W _ _ h _
  exact h.elim
end H
end Go.Proofs.YtoifcnidhfnapaaGreatDoor
namespace Go.Proofs.YtoifcnidhfnapaaGreatDoor
open Go.RowKit Go.Maps Go.Sort Go.Shelf
namespace H
theorem zhv (Bm b nn:Nat) (D:DataW Unit) (g:H4→Int) (hrep:zyq D g) (w:World) (hm:w.cell? ⟨Bm,0,none⟩=some (.map (some b))) (hown:w.ownsMap Tryz.prog 134 (plainElem Tryz.prog 2) b nn D) (hnn:nn≤1000000000) :
  Calls Tryz.prog 163 #[.func (.func 165) #[] #[.pointer (some ⟨Bm,0,none⟩)]] w fun e w'=>∃ v xs,e=.returned v∧zcu D (fun _=>false) xs∧w'.ownsRow w.heap.size 134 4 v xs.length (zf9 xs)∧RowKit.Below w.heap.size w w':=by
 have H:=zac ((callsIn_wide (n:=3)).1 (zik 3 (by omega) Bm b nn D g hrep w hm hown hnn))
 clear hrep hm hown
 go_enter Tryz.func163,Tryz.ntmps163
 go_wp2_with fail
 refine (zaa H).mono ?_
 rintro e w1 ⟨v,xs,rfl,hK,ho,hb⟩
 clear H
 go_wp2
 go_ret
 exact ⟨v,xs,rfl,hK,ho,hb⟩
theorem zgq (b:Nat) (w:World):Calls Tryz.prog 116 #[.map (some b)] w fun e w'=>e=.returned (.func (.func 165) #[] #[.pointer (some ⟨w.heap.size,0,none⟩)])∧w'=w.alloc (.cells #[.map (some b)] 87):=by
 go_enter Tryz.func116,Tryz.ntmps116
 go_wp2
 go_ret
 exact ⟨rfl,rfl⟩
theorem zi7 (w:World) (blk n:Nat) (d:Array H4) (os:Array Obj):w.grownBy (sortWorldK ze0 4 w blk 0 n d os) (some blk):=by
 refine ⟨rfl,rfl,rfl,by simp [sortWorldK,grow,putRowK,putRow,mapBlock,Sort.ahead],fun k hk hne=>?_⟩
 have hk':k≠blk:=fun e=>hne (by rw [e])
 simp only [sortWorldK,grow,putRowK,putRow,mapBlock,Sort.ahead]
 rw [Array.getElem?_append_left (by simpa using hk),Array.getElem?_modify,if_neg (fun e=>hk' e.symm)]
def zhs (w:World) (v:Value) (ys:List H4):Prop:=
 ∃ a cap,v=.slice a ys.length cap∧∀ i,i<ys.length→∃ b,a=some ⟨b,0,none⟩∧w.cell? ⟨b,i*4,none⟩=some (.int .i64 (ys[i]?.getD (0,0,0,0)).1) ∧
  w.cell? ⟨b,i*4+1,none⟩=some (.int .i64 (ys[i]?.getD (0,0,0,0)).2.1)∧w.cell? ⟨b,i*4+2,none⟩=some (.int .i64 (ys[i]?.getD (0,0,0,0)).2.2.1)∧w.cell? ⟨b,i*4+3,none⟩=some (.int .i64 (ys[i]?.getD (0,0,0,0)).2.2.2)
theorem zr1 (xs:List H4) (i j:Nat) (hi:i<xs.length) (hj:j<4):(zf9 xs)[i*4+j]? = (ze0 xs[i])[j]?:=by
 induction xs generalizing i with
 | nil=>simp at hi
 | cons p ps ih =>
  have hl:(ze0 p).length=4:=rfl
  have e:zf9 (p :: ps)=ze0 p ++ zf9 ps:=rfl
  rw [e]
  cases i with
  | zero=>rw [List.getElem?_append_left (by rw [hl];omega)];simp
  | succ i =>
   have h2:(i+1)*4+j - 4=i*4+j:=by omega
   rw [List.getElem?_append_right (by rw [hl];omega),hl,h2,ih i (by simpa using hi)]
   simp
theorem zgo {w:World} {base g cap:Nat} {xs:List H4} (h:w.ownsRow base 134 4 (.slice (some ⟨g,0,none⟩) xs.length cap) xs.length (zf9 xs)):HoldsK ze0 4 w g 0 xs.toArray:=by
 intro j hj
 rw [size_flatK] at hj
 have hj':j<xs.length*4:=by simpa using hj
 rw [get_flatK _ _ _ _ hj,Nat.zero_add,h.cellAt j hj',h.frozenAt j]
 refine ⟨?_,rfl⟩
 have hd:j / 4<xs.length:=by omega
 have hm:j % 4<4:=Nat.mod_lt _ (by omega)
 have e:j=j / 4*4+j % 4:=by omega
 have:=zr1 xs (j / 4) (j % 4) hd hm
 rw [← e] at this
 rw [this]
 have e2:xs.toArray[j / 4]! = xs[j / 4]:=by simp [hd]
 rw [e2]
 have hl:j % 4<(ze0 xs[j / 4]).length:=by simp [ze0];omega
 simp [hl]
theorem ze7 {w:World} {g cap:Nat} {d:Array H4} (h:HoldsK ze0 4 w g 0 d):zhs w (.slice (some ⟨g,0,none⟩) d.size cap) d.toList:=by
 refine ⟨some ⟨g,0,none⟩,cap,by simp,fun i hi=>⟨g,rfl,?_⟩⟩
 have hi':i<d.size:=by simpa using hi
 have e:d.toList[i]?.getD (0,0,0,0)=d[i]!:=by simp [hi']
 rw [e]
 have h0:=(h.cell (i:=i) (c:=0) hi' (by omega)).1
 have h1:=(h.cell (i:=i) (c:=1) hi' (by omega)).1
 have h2:=(h.cell (i:=i) (c:=2) hi' (by omega)).1
 have h3:=(h.cell (i:=i) (c:=3) hi' (by omega)).1
 simp only [Nat.zero_add,Nat.add_zero] at h0 h1 h2 h3
 exact ⟨h0,h1,h2,h3⟩
def ze9 (ys:List H4):Prop:=ys.Pairwise ltR
theorem zk3 (x y:H4) (h:¬ ltR y x) (hne:x≠y):ltR x y:=by
 unfold ltR at *
 by_cases h1:x.1=y.1
 ·by_cases h2:x.2.1=y.2.1
  ·by_cases h3:x.2.2.1=y.2.2.1
   ·by_cases h4:x.2.2.2=y.2.2.2
    ·exact absurd (Prod.ext h1 (Prod.ext h2 (Prod.ext h3 h4))) hne
    ·omega
   ·omega
  ·omega
 ·omega
theorem zdv {d:Array H4} (h:SortedIn (ltOf zi4) 0 d.size d) (hp:d.toList.Pairwise (·≠·)):ze9 d.toList:=by
 unfold ze9
 rw [List.pairwise_iff_getElem] at hp ⊢
 intro i j hi hj hij
 have h1:=h i j (Nat.zero_le _) hij (by simpa using hj)
 rw [zc0] at h1
 have e1:d[i]! = d.toList[i]:=by simp at hi;simp [hi]
 have e2:d[j]! = d.toList[j]:=by simp at hj;simp [hj]
 rw [e1,e2] at h1
 exact zk3 _ _ h1 (hp i j hi hj hij)
end H
end Go.Proofs.YtoifcnidhfnapaaGreatDoor
namespace Go.Proofs.YtoifcnidhfnapaaGreatDoor
open Go.RowKit Go.Maps Go.Sort Go.Shelf
namespace H
def tnR:Sim.Tn:=[(164,[1,12]),(209,[4,29,36,43,51,60,79,84,102,110,133,145]),(207,[]),(317,[]),(240,[3,22]),(241,[3,28,58]),(242,[3]),(243,[3,39,43,47,53]),(244,[3]),(245,[3,23,72,112]),(246,[4,35,54]),(247,[4,36,54,109,127]),(238,[]),(239,[]),(215,[]),(266,[4,24,43]),(262,[]),(263,[]),(267,[3,16]),(268,[5,18,27,36]),(249,[]),(283,[4,12]),(277,[])]
def yc8:Value:=.func (.func 317) #[] #[]
def zse:Value:=.func (.methodOf 134 "Compare") #[] #[]
theorem zx9:(tnR.all fun x=>Sim.fnOK Tryz.prog tnR x)=true:=by kernel_rfl
theorem yi0 (n:Nat) (x:Value) (w:World):(method (n+1) 134 x "Compare").run Tryz.prog w=.ok (317,x) w:=by kernel_rfl
theorem yiq:Sim.Fine Tryz.prog tnR yc8 zse 317 where
 fns f T h:=(List.all_eq_true.1 zx9) (f,T) (zqv h)
 steps:=zpa
 follows:=by kernel_rfl
 cmp:=by rfl
 n1 b:=by simp [yc8]
 n2 b:=by simp [zse]
 one x y w:=by
  simp only [yc8,Deferred.ofValue,pure_bind,invoke,Array.append_empty,Array.empty_append]
  exact enters_of Tryz.func317 (by kernel_rfl) rfl #[x,y] w
 two x y w:=by
  simp [zse,Deferred.ofValue,invoke,callMethod]
  rw [show 446+Made.depth=(446+Made.depth - 1)+1 from rfl,yi0]
  exact enters_of Tryz.func317 (by kernel_rfl) rfl #[x,y] w
theorem ylq (p:Option Addr) (cap:Nat) (fv:Value) (w:World):Calls Tryz.prog 240 #[.slice p 0 cap,.int .i64 0,.int .i64 0,fv] w fun e w'=>e=.returned (.tuple #[])∧w'=w:=by
 go_enter Tryz.func240,Tryz.ntmps240
 go_wp2
 refine wp_loop_rounds 1 ?_
 rw [rounds_succ]
 go_wp2
 go_end0
 exact ⟨rfl,rfl⟩
theorem ylv (p:Option Addr) (cap:Nat) (lim:Int) (fv:Value) (w:World):Calls Tryz.prog 209 #[.slice p 0 cap,.int .i64 0,.int .i64 0,.int .i64 lim,fv] w fun e w'=>e=.returned (.tuple #[])∧w'=w:=by
 go_enter Tryz.func209,Tryz.ntmps209
 go_wp2
 refine wp_loop_rounds 1 ?_
 rw [rounds_succ]
 go_wp2_with (go_at_call 240;refine (ylq _ _ _ _).mono ?_;rintro e w' ⟨rfl,rfl⟩)
 (try simp only [Exit.inBlock,Exit.then])
 refine bodyPost_ret (results_none rfl _ _ _) rfl ?_
 exact ⟨rfl,rfl⟩
theorem zld (p:Option Addr) (cap:Nat) (fv:Value) (w:World):Calls Tryz.prog 164 #[.slice p 0 cap,fv] w fun e w'=>e=.returned (.tuple #[])∧w'=w:=by
 go_enter Tryz.func164,Tryz.ntmps164
 go_wp2_with (first|(go_at_call 207;refine (zru _).mono ?_;rintro e w' ⟨rfl,rfl⟩)|(go_at_call 209;refine (ylv _ _ _ _ _).mono ?_;rintro e w' ⟨rfl,rfl⟩))
 go_end0
 exact ⟨rfl,rfl⟩
theorem zml (blk cap:Nat) (d:Array H4) (w:World) (hH:HoldsK ze0 4 w blk 0 d) (hblk:blk<w.heap.size) (hsz:d.size<4611686018427387904) :
  Calls Tryz.prog 164 #[.slice (some ⟨blk,0,none⟩) d.size cap,.func (.func 317) #[] #[]] w fun e w'=>e=.returned (.tuple #[])∧∃ d' n os,PermIn 0 d.size d d'∧SortedIn (ltOf zi4) 0 d.size d'∧w'=sortWorldK ze0 4 w blk 0 n d' os:=by
 have eg:∀ args w,(callFunc 317 args).run Tryz.prog w=.ok (.enter 317 args) w:=enters_of Tryz.func317 (by kernel_rfl) rfl
 exact AnyQ.slices_SortFunc Tryz.sortHRow 4 Tryz.isAgg134 Tryz.sizeOf134 ze0 (fun _=>rfl) (fun x v hv=>by simp [ze0] at hv;rcases hv with rfl|rfl|rfl|rfl <;> rfl) zi4 yj2 317 #[] blk 0 cap d w eg (yf3 blk 0 d.size w) hH hblk hsz
theorem ydp:tnR.lookup 164=some [1,12]:=by rfl
theorem zle (blk cap:Nat) (d:Array H4) (w:World) (hH:HoldsK ze0 4 w blk 0 d) (hblk:blk<w.heap.size) (hsz:d.size<4611686018427387904) :
  Calls Tryz.prog 164 #[.slice (some ⟨blk,0,none⟩) d.size cap,zse] w fun e w'=>e=.returned (.tuple #[])∧∃ d' n os,PermIn 0 d.size d d'∧SortedIn (ltOf zi4) 0 d.size d'∧w'=sortWorldK ze0 4 w blk 0 n d' os:=by
 have hT:Sim.TRel yc8 zse [1,12] #[.slice (some ⟨blk,0,none⟩) d.size cap,yc8] #[.slice (some ⟨blk,0,none⟩) d.size cap,zse]:=by
  refine ⟨rfl,fun i=>?_⟩
  match i with
  | 0=>exact Sim.VR.of_clean (by decide)
  | 1=>exact ⟨fun h=>absurd (by decide) h,fun _=>.inr ⟨rfl,rfl⟩⟩
  | i+2=>exact Sim.VR.refl_undef _ _ _ _
 have h1:=zml blk cap d w hH hblk hsz
 exact Sim.calls_turn yiq ydp hT (fun e w' h=>⟨_,h.1⟩) h1
structure zdg (D:DataW Unit) (ys:List H4):Prop where
 rising:ze9 ys
 wf:∀ y∈ys,WfH y
 mem:∀ r,WfH r→(r∈ys↔Maps.has D (zj4 r)=true)
theorem zco {D:DataW Unit} (hT:Tidy D) {xs:List H4} (hwf:∀ x∈xs,WfH x) (hap:xs.Pairwise (·≠·)) (hm:∀ x∈xs,Maps.has D (zj4 x)=true):xs.length≤Maps.size D:=by
 obtain ⟨es,rfl,hp⟩:=hT
 have h1:(xs.map zj4).length≤(es.map (·.1)).length:=by
  refine zck _ _ ?_ (fun l hl=>?_)
  ·rw [List.pairwise_map]
   exact hap.imp_of_mem (fun {a b} ha hb hne e=>hne (zi8 (hwf a ha) (hwf b hb) e))
  ·obtain ⟨x,hx,rfl⟩:=List.mem_map.1 hl
   have h:=hm x hx
   rw [has_eq] at h
   obtain ⟨p,hp1,hp2⟩:=List.any_eq_true.1 h
   exact List.mem_map.2 ⟨p,hp1,WideAt.sameKey_eq hp2⟩
 simpa [size_eq] using h1
theorem zg0 (Bm b nn:Nat) (D:DataW Unit) (g:H4→Int) (hrep:zyq D g) (w:World) (hm:w.cell? ⟨Bm,0,none⟩=some (.map (some b))) (hown:w.ownsMap Tryz.prog 134 (plainElem Tryz.prog 2) b nn D) (hnn:nn≤1000000000) :
  Calls Tryz.prog 115 #[.func (.func 165) #[] #[.pointer (some ⟨Bm,0,none⟩)],zse] w fun e w'=>∃ v ys,e=.returned v∧zdg D ys∧zhs w' v ys∧RowKit.Below w.heap.size w w'∧ys.length≤nn∧∀ gb ln cap,v=.slice (some ⟨gb,0,none⟩) ln cap→w.heap.size≤gb:=by
 have H:=zac (zhv Bm b nn D g hrep w hm hown hnn)
 have hszD:=hown.size_le
 have hT:=hown.tidy zy4
 have HT:=zac hT
 have HK:=zac (zxr hown)
 have Hrep:=zac hrep
 clear hrep hm hown hT
 go_enter Tryz.func115,Tryz.ntmps115
 go_wp2_with fail
 refine (zaa H).mono ?_
 rintro e w1 ⟨v,xs,rfl,hK,ho,hb⟩
 have hmem:∀ r,WfH r→(r∈xs↔Maps.has D (zj4 r)=true):=fun r hr=>by rw [hK.mem r hr];simp
 have hxl:xs.length≤nn:=Nat.le_trans (zco (zaa HT) hK.wf hK.apart (fun x hx=>(hmem x (hK.wf x hx)).1 hx)) hszD
 rcases ho.2 with ⟨rfl,h0⟩|⟨gb,cap,cur,rfl,hbg,hgh,_⟩
 ·have hx0:xs=[]:=List.eq_nil_of_length_eq_zero h0
  subst hx0
  have HR:Hid (zdg D []):=⟨List.Pairwise.nil,fun y hy=>by simp at hy,hmem⟩
  have Hb:=zac hb
  clear H hK hmem ho hb
  go_wp2_with (first|(go_at_call 164;refine (zld _ _ _ _).mono ?_;rintro e w' ⟨rfl,rfl⟩))
  go_ret
  exact ⟨_,[],rfl,zaa HR,⟨none,0,rfl,fun i hi=>by simp at hi⟩,zaa Hb,by simp,fun gb ln cap e=>by simp at e⟩
 ·have hH:=zgo ho
  have hgl:gb<w1.heap.size:=(Array.getElem?_eq_some_iff.1 hgh).1
  have Hs:=zac (zle gb cap xs.toArray w1 hH hgl (by simp;omega))
  have HH:=zac hH
  have Hb:=zac hb
  have Hmem:=zac hmem
  have HKo:=zac hK
  clear H hK hmem ho hb hgh hH
  go_wp2_with fail
  refine (zaa Hs).mono ?_
  rintro e w2 ⟨rfl,d',n,os,hp,hsrt,rfl⟩
  have hsz:d'.size=xs.length:=by have:=hp.1;simpa using this
  have hperm:d'.toList.Perm xs:=by
   have h:=hp.2.2
   have e1:(d'.extract 0 xs.toArray.size)=d':=by rw [Array.extract_eq_self_of_le (by simp;omega)]
   have e2:(xs.toArray.extract 0 xs.toArray.size)=xs.toArray:=Array.extract_eq_self_of_le (by simp)
   rw [e1,e2] at h
   simpa using h
  have hHd:HoldsK ze0 4 (sortWorldK ze0 4 w1 gb 0 n d' os) gb 0 d':=holdsK_sortWorldK_c ze0 4 w1 gb 0 xs.toArray d' n os (zaa HH) hgl (by simpa using hsz)
  have hR:zdg D d'.toList:=by
   refine ⟨zdv ?_ ?_,fun y hy=>(zaa HKo).wf y (hperm.mem_iff.1 hy),fun r hr=>by rw [hperm.mem_iff];exact (zaa Hmem) r hr⟩
   ·rw [hsz];simpa using hsrt
   ·exact (hperm.pairwise_iff (fun {a b} (h:a≠b)=>h.symm)).2 (zaa HKo).apart
  have hTr:=ze7 (cap:=cap) hHd
  have hBe:RowKit.Below w.heap.size w (sortWorldK ze0 4 w1 gb 0 n d' os):=(zaa Hb).grown (zi7 w1 gb n d' os) (zaa Hb).size (fun k e=>by cases e;exact hbg)
  rw [hsz] at hTr
  have HF:=zac (And.intro hR (And.intro hTr hBe))
  clear hR hTr hBe hHd hperm hp hsrt Hs
  generalize sortWorldK ze0 4 w1 gb 0 n d' os=w3 at *
  go_wp2
  go_ret
  exact ⟨_,_,rfl,(zaa HF).1,(zaa HF).2.1,(zaa HF).2.2,by simp [hsz];omega,fun g' ln cap' e=>by simp at e;omega⟩
end H
end Go.Proofs.YtoifcnidhfnapaaGreatDoor
