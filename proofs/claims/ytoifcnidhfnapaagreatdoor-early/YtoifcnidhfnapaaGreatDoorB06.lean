import Derived.Test.YtoifcnidhfnapaaGreatDoorB05
import Derived.Shelf.SlSortCmp.WholeK
import Derived.RangeFuncNested
import Derived.RangeFuncBound
import Derived.RangeFuncCalls
import Derived.RangeFuncLeaves
import Derived.Shelf.Abstract
import Derived.Shelf.RegionOpen
import Derived.OwnWalkIn
import Derived.TacticsInMore
import Derived.LoopNIn
import Derived.LoopIn
import Derived.Maps.OwnIn
import Derived.Sort.MapsRangeIn
import Derived.Calls
set_option linter.unusedVariables false
set_option linter.unusedSimpArgs false
set_option maxRecDepth 100000
set_option maxHeartbeats 16000000
namespace Go.Proofs.YtoifcnidhfnapaaGreatDoor
open Go.RowKit Go.Maps
def zql (x y:Int):Int:=if x<y then -1 else if y<x then 1 else 0
theorem zxg (x:Int) (w:World):Calls Tryz.prog 277 #[.int .i64 x] w fun e w'=>e=.returned (.bool false)∧w'=w:=by
 have h:(x != x)=false:=by simp
 go_enter Tryz.func277,Tryz.ntmps277
 go_wp2
 go_ret
 exact ⟨by simp,rfl⟩
theorem ycu (x y:Int) (w:World):Calls Tryz.prog 249 #[.int .i64 x,.int .i64 y] w fun e w'=>e=.returned (.int .i64 (zql x y))∧w'=w:=by
 by_cases h1:x<y
 ·have e:Hid (zql x y=-1):=by unfold Hid zql;rw [if_pos h1]
  go_enter Tryz.func249,Tryz.ntmps249
  go_wp2_with (first|(go_at_call 277;refine (zxg _ _).mono ?_;rintro e w' ⟨rfl,rfl⟩))
  go_ret
  exact ⟨zd0 e.out.symm,rfl⟩
 ·by_cases h2:y<x
  ·have e:Hid (zql x y=1):=by unfold Hid zql;rw [if_neg h1,if_pos h2]
   go_enter Tryz.func249,Tryz.ntmps249
   go_wp2_with (first|(go_at_call 277;refine (zxg _ _).mono ?_;rintro e w' ⟨rfl,rfl⟩))
   go_ret
   exact ⟨zd0 e.out.symm,rfl⟩
  ·have e:Hid (zql x y=0):=by unfold Hid zql;rw [if_neg h1,if_neg h2]
   go_enter Tryz.func249,Tryz.ntmps249
   go_wp2_with (first|(go_at_call 277;refine (zxg _ _).mono ?_;rintro e w' ⟨rfl,rfl⟩))
   go_ret
   exact ⟨zd0 e.out.symm,rfl⟩
def ztd:List Int→List Int→Int
 | x :: xs,y :: ys=>if zql x y=0 then ztd xs ys else zql x y
 | _,_=>0
theorem ycr {xs ys:List Int} {k:Nat} (h1:k<xs.length) (h2:k<ys.length):ztd (xs.drop k) (ys.drop k)=if zql (xs[k]?.getD 0) (ys[k]?.getD 0)=0 then ztd (xs.drop (k+1)) (ys.drop (k+1)) else zql (xs[k]?.getD 0) (ys[k]?.getD 0):=by
 rw [List.drop_eq_getElem_cons h1,List.drop_eq_getElem_cons h2]
 simp [ztd,h1,h2]
theorem zog (v u:Value) (zs ys:List Int) (w:World) (hv:zbn w v zs) (hu:zbn w u ys) (hl:zs.length=ys.length) (hl2:zs.length≤1000000) :
  Calls Tryz.prog 215 #[v,u] w fun e w'=>e=.returned (.int .i64 (ztd zs ys))∧w'=w:=by
 obtain ⟨a,cap,rfl,hc⟩:=hv
 obtain ⟨a',cap',rfl,hc'⟩:=hu
 have Hc:=zac hc
 have Hc':=zac hc'
 have g1:zs.length≤ys.length:=by omega
 have g2:ys.length≤zs.length:=by omega
 clear hc hc' hl
 go_enter Tryz.func215,Tryz.ntmps215
 go_wp2
 go_loop [11] (fun i=>∃ k:Nat,k≤zs.length∧i=.int .i64 k∧ztd zs ys=ztd (zs.drop k) (ys.drop k)) (fun i=>zs.length - (intOf i).toNat)
 case atStart=>exact ⟨0,Nat.zero_le _,rfl,by simp⟩
 case round =>
  obtain ⟨k,hk,rfl,hcm⟩:=hrel
  have Hcm:=zac hcm
  clear hcm
  by_cases hlt:k<zs.length
  ·obtain ⟨b,o,rfl,h1⟩:=(zaa Hc) k hlt
   obtain ⟨b',o',rfl,h2⟩:=(zaa Hc') k (by omega)
   have hlt':k<ys.length:=by omega
   have hst:=ycr hlt hlt'
   obtain ⟨z,hz⟩:∃ z,z=zs[k]?.getD 0:=⟨_,rfl⟩
   obtain ⟨y,hy⟩:∃ y,y=ys[k]?.getD 0:=⟨_,rfl⟩
   rw [← hz] at h1 hst
   rw [← hy] at h2 hst
   have Hst:=zac hst
   clear hz hy hst
   have hx:(k:Int)<(zs.length:Int):=by omega
   have hx':(k:Int)<(ys.length:Int):=by omega
   by_cases hq:zql z y=0
   ·have hqb:(zql z y != 0)=false:=by simp [hq]
    have Hr:Hid (ztd zs ys=ztd (zs.drop (k+1)) (ys.drop (k+1))):=by unfold Hid;rw [zaa Hcm,zaa Hst,if_pos hq]
    clear hq
    go_wp2_with (first|(go_at_call 249;refine (ycu _ _ _).mono ?_;rintro e w' ⟨rfl,rfl⟩))
    go_round
    case rel=>exact ⟨k+1,by omega,by go_num,zaa Hr⟩
    case measure=>simp [intOf];omega
   ·have hqb:(zql z y != 0)=true:=by simp [hq]
    have Hr:Hid (ztd zs ys=zql z y):=by unfold Hid;rw [zaa Hcm,zaa Hst,if_neg hq]
    clear hq
    go_wp2_with (first|(go_at_call 249;refine (ycu _ _ _).mono ?_;rintro e w' ⟨rfl,rfl⟩))
    go_ret
    exact ⟨zd0 (zaa Hr).symm,rfl⟩
  ·have Hr:Hid (ztd zs ys=0):=by
    unfold Hid;rw [zaa Hcm,List.drop_eq_nil_of_le (by omega)];rfl
   go_wp2
   go_ret
   exact ⟨zd0 (zaa Hr).symm,rfl⟩
end Go.Proofs.YtoifcnidhfnapaaGreatDoor
namespace Go.Proofs.YtoifcnidhfnapaaGreatDoor
open Go.RowKit Go.Maps Go.Sort Go.Shelf
def ze0 (r:Row):List Value:=[.int .i64 r.1,.int .i64 r.2.1,.int .i64 r.2.2]
def zuq (r:Row):List Int:=[r.1,r.2.1,r.2.2]
def zi4 (x y:Row):Int:=ztd (zuq x) (zuq y)
theorem ykj {w:World} {b:Nat} {t:TypeId} (x y z:Int) (h:w.heap[b]? = some (.cells #[.int .i64 x,.int .i64 y,.int .i64 z] t (0,0))):zbn w (.slice (some ⟨b,0,none⟩) 3 3) [x,y,z]:=by
 refine ⟨some ⟨b,0,none⟩,3,rfl,fun i hi=>⟨b,0,rfl,?_⟩⟩
 rw [zab h]
 match i,hi with
 | 0,_=>rfl
 | 1,_=>rfl
 | 2,_=>rfl
theorem zg8 (x y:Row) (W:World):Calls Tryz.prog 170 #[.agg #[.int .i64 x.1,.int .i64 x.2.1,.int .i64 x.2.2],.agg #[.int .i64 y.1,.int .i64 y.2.1,.int .i64 y.2.2]] W fun e w'=>e=.returned (.int .i64 (zi4 x y))∧∃ q os',w'=grow (W.drewN q) os':=by
 obtain ⟨x1,x2,x3⟩:=x
 obtain ⟨y1,y2,y3⟩:=y
 dsimp only
 obtain ⟨W2,hW2⟩:∃ W2,W2=(W.alloc (.cells #[.int .i64 x1,.int .i64 x2,.int .i64 x3] 77)).alloc (.cells #[.int .i64 y1,.int .i64 y2,.int .i64 y3] 77):=⟨_,rfl⟩
 have hx:zbn W2 (.slice (some ⟨W.heap.size,0,none⟩) 3 3) [x1,x2,x3]:=ykj (t:=77) x1 x2 x3 (by rw [hW2,Below.heap_alloc _ _ _ (by simp)];exact zae _ _ _ rfl)
 have hy:zbn W2 (.slice (some ⟨W.heap.size+1,0,none⟩) 3 3) [y1,y2,y3]:=ykj (t:=77) y1 y2 y3 (by rw [hW2];exact zae _ _ _ (by simp))
 have Hx:=zac hx
 have Hy:=zac hy
 have HW:=zac hW2
 have Hr:Hid (ztd [x1,x2,x3] [y1,y2,y3]=zi4 (x1,x2,x3) (y1,y2,y3)):=rfl
 clear hx hy
 go_enter Tryz.func170,Tryz.ntmps170
 go_wp2
 rw [← hW2]
 clear hW2
 go_quiet ((go_at_call 215;exact Calls.quiet_of_same (zog _ _ [x1,x2,x3] [y1,y2,y3] _ (by exact (zaa Hx).drewN _) (by exact (zaa Hy).drewN _) rfl (by simp))))
 go_wp2
 go_ret
 refine ⟨zd0 (zaa Hr),nq,#[.cells #[.int .i64 x1,.int .i64 x2,.int .i64 x3] 77,.cells #[.int .i64 y1,.int .i64 y2,.int .i64 y3] 77],?_⟩
 rw [zaa HW,alloc_eq_grow,alloc_eq_grow,grow_grow]
 rfl
theorem ycs (blk off size:Nat) (w:World):CmpLays Tryz.prog 170 #[] ze0 3 zi4 blk off size w:=
 fun _ _ _ _ x y=>zg8 x y _
theorem zj2 (x y:Int):zql x y<0↔x<y:=by
 unfold zql
 split
 ·simp [*]
 ·split <;> simp [*] <;> omega
theorem zef (x y:Int):zql x y=0↔x=y:=by
 unfold zql
 split
 ·constructor <;> intro h <;> omega
 ·split
  ·constructor <;> intro h <;> omega
  ·constructor <;> intro h <;> omega
def ltR (x y:Row):Prop:=x.1<y.1∨(x.1=y.1∧(x.2.1<y.2.1∨(x.2.1=y.2.1∧x.2.2<y.2.2)))
theorem zqw (x y:Row):ltOf zi4 x y=true↔ltR x y:=by
 unfold ltOf zi4 zuq ltR
 rw [decide_eq_true_iff]
 simp only [ztd]
 by_cases h1:x.1=y.1
 ·rw [if_pos ((zef _ _).2 h1)]
  by_cases h2:x.2.1=y.2.1
  ·rw [if_pos ((zef _ _).2 h2)]
   by_cases h3:x.2.2=y.2.2
   ·rw [if_pos ((zef _ _).2 h3)];simp;omega
   ·rw [if_neg (fun e=>h3 ((zef _ _).1 e)),zj2];omega
  ·rw [if_neg (fun e=>h2 ((zef _ _).1 e)),zj2];omega
 ·rw [if_neg (fun e=>h1 ((zef _ _).1 e)),zj2];omega
theorem zc0 (x y:Row):ltOf zi4 x y=false↔¬ ltR x y:=by
 rw [← zqw];simp
theorem yj2:SWO (ltOf zi4) where
 irrefl x:=by rw [zc0];unfold ltR;omega
 trans x y z h1 h2:=by rw [zqw] at *;unfold ltR at *;omega
 ntrans x y z h1 h2:=by rw [zc0] at *;unfold ltR at *;omega
structure zcu (D:DataW Unit) (left:Lit→Bool) (xs:List Row):Prop where
 wf:∀ x∈xs,zaw x
 apart:xs.Pairwise (·≠·)
 mem:∀ r,zaw r→(r∈xs↔Maps.has D (za2 r)=true∧left (za2 r)=false)
theorem zcu.start (D:DataW Unit):zcu D (Maps.has D) []:=
 ⟨fun x hx=>by simp at hx,List.Pairwise.nil,fun r _=>by simp⟩
theorem zcu.step {D:DataW Unit} {left:Lit→Bool} {xs:List Row} (h:zcu D left xs) {x:Row} (hx:zaw x) (hh:Maps.has D (za2 x)=true) (hl:left (za2 x)=true):zcu D (fun z=>left z && !z.sameKey (za2 x)) (xs ++ [x]):=by
 have hnx:x ∉ xs:=fun hm=>by have:=((h.mem x hx).1 hm).2;rw [hl] at this;cases this
 refine ⟨fun y hy=>?_,?_,fun r hr=>?_⟩
 ·rcases List.mem_append.1 hy with hy|hy
  ·exact h.wf y hy
  ·simp at hy;subst hy;exact hx
 ·refine List.pairwise_append.2 ⟨h.apart,by simp,fun a ha b hb=>?_⟩
  simp at hb
  subst hb
  exact fun e=>hnx (e ▸ ha)
 ·simp only [List.mem_append,List.mem_singleton]
  rw [h.mem r hr]
  have:=zoi (Dg:=D) (left:=left) hx hh r hr
  unfold zjo at this
  exact this
theorem zr8 (n:Nat) (hn:1≤n) (l Bm b nn:Nat) (D:DataW Unit) (g:Row→Int) (hrep:Rep D g) (J Jx:List Row→World→Prop)
  (hY:∀ pre x W,J pre W→pre.length<Maps.size D→YieldAt Fence.wide (n - 1) Tryz.prog l #[.agg #[.int .i64 x.1,.int .i64 x.2.1,.int .i64 x.2.2]] W fun e W' =>
   (e=.returned (.bool true)∧J (pre ++ [x]) W'∧KeepsWalks W W')∨(e=.returned (.bool false)∧Jx (pre ++ [x]) W'))
  (W:World) (hJ:AbidesFrom W.heap.size J) (hm:W.cell? ⟨Bm,0,none⟩=some (.map (some b))) (hown:W.ownsMap Tryz.prog 77 (plainElem Tryz.prog 2) b nn D) (h0:J [] W) :
  CallsIn Fence.wide n Tryz.prog 162 #[.func (.yield l) #[] #[],.pointer (some ⟨Bm,0,none⟩)] W fun e W'=>(∃ v,e=.returned v) ∧
   ((∃ xs,zcu D (fun _=>false) xs∧J xs W')∨(∃ pre,True∧Jx pre W')):=by
 refine callsIn_of_wp Tryz.func162 rfl trivial ?_ rfl
 simp only [Tryz.ntmps162,List.size_toArray,List.length_cons,List.length_nil,Nat.reduceAdd,Nat.reduceSub,Array.replicate_succ,Array.replicate_zero,List.push_toArray,List.append_toArray,List.nil_append,List.cons_append]
 gi_wp2_with (first
  | (gi_at_range;refine wpListIn_range_own _ rfl _ 127 rfl 77 2 zft Tryz.underlying127 _ b nn _ rfl hown ?_;intro w0 hrg0 hg0 hs0)
  | gi_in)
 go_frame
 gi_loopw [6] (fun _ wr=>∃ (left:Lit→Bool) (cnt:Nat) (ss:List Row),wr.ranges Tryz.prog 77 (plainElem Tryz.prog 2) b W.heap.size nn D left cnt∧ss.length+cnt≤Maps.size D∧zcu D left ss∧J ss wr) (fun _ wr=>wr.rangeLeft b W.heap.size)
 case atStart=>exact ⟨_,_,[],hrg0,by simp,zcu.start D,hJ [] W w0 none h0 hg0 (fun r e=>by cases e)⟩
 case round =>
  obtain ⟨left,cnt,ss,hrg,hcs,hC,hJs⟩:=hrel
  gi_wp2_with (first
   | (gi_at_next;refine wpListIn_next_ranges _ rfl _ rfl 77 zft (plainElem Tryz.prog 2) (fun x:Row=>.agg #[.int .i64 x.1,.int .i64 x.2.1,.int .i64 x.2.2]) (Value.int .i64) zul zqt b W.heap.size nn D left cnt rfl hrg ?_ ?_)
   | gi_in)
  ·intro _ hl0
   gi_wp2
   go_end0
   exact ⟨⟨_,rfl⟩,.inl ⟨ss,⟨hC.wf,hC.apart,fun r hr=>by rw [hC.mem r hr,hl0]⟩,hJs⟩⟩
  ·intro x1 x2 x3 c kl y1 y2 w1 cnt1 hkey hlk hv hat hrg1 hlt hg1 hs1 hen
   obtain ⟨hwx,hkl,hc⟩:=ykc hrep (x:=(x1,x2,x3)) (y:=(y1,y2)) hkey hv hat
   have hhas:Maps.has D (za2 (x1,x2,x3))=true:=by rw [← hkl];exact has_true_of_atKey hat
   have hJ1:J ss w1:=hJ ss wr w1 (some W.heap.size) hJs hg1 (fun r e=>by cases e;exact ⟨Nat.le_refl _,hrg.iter_walk⟩)
   have hJ2:J ss (w1.alloc (.cells #[.int .i64 x1,.int .i64 x2,.int .i64 x3] 77)):=hJ ss w1 _ none hJ1 (World.grownBy_alloc _ _ none) (fun r e=>by cases e)
   obtain ⟨fn,tmps,assign,body,hy,hR⟩:=hY ss (x1,x2,x3) _ hJ2 (by omega)
   rw [hkl] at hlk hrg1
   have hC2:=hC.step hwx hhas hlk
   have hrg2:=hrg1.alloc (.cells #[.int .i64 x1,.int .i64 x2,.int .i64 x3] 77)
   dsimp only at hy
   clear hkey hv hat hs1 hc hkl
   gi_wp2
   refine hR.mono ?_
   rintro e W3 (⟨rfl,hJ3,hk3⟩|⟨rfl,hJx3⟩)
   ·gi_wp2
    have hrg3:=hrg2.of_walks hk3
    go_roundw
    case rel=>exact ⟨_,cnt1,ss ++ [(x1,x2,x3)],hrg3,by simp;omega,hC2,hJ3⟩
    case measure=>rw [hrg3.left_eq,hrg.left_eq];exact hlt
   ·gi_wp2
    refine bodyPost_ret (results_none rfl _ _ _) rfl ?_
    exact ⟨⟨_,rfl⟩,.inr ⟨ss ++ [(x1,x2,x3)],trivial,hJx3⟩⟩
attribute [local go_sem] Oper.semAt_some
theorem Tryz.info77:(Tryz.prog.info? 77).map (fun i=>(i.zero,i.size,i.bytes))=some (some (.agg #[.int .i64 0,.int .i64 0,.int .i64 0]),3,24):=by kernel_rfl
def zf9 (xs:List Row):List Value:=xs.flatMap ze0
theorem zik (n:Nat) (hn:3≤n) (Bm b nn:Nat) (D:DataW Unit) (g:Row→Int) (hrep:Rep D g) (w:World) (hm:w.cell? ⟨Bm,0,none⟩=some (.map (some b))) (hown:w.ownsMap Tryz.prog 77 (plainElem Tryz.prog 2) b nn D) (hnn:nn≤1000000000) :
  CallsIn Fence.wide n Tryz.prog 205 #[.slice none 0 0,.func (.func 162) #[] #[.pointer (some ⟨Bm,0,none⟩)]] w fun e w'=>∃ v xs,e=.returned v∧zcu D (fun _=>false) xs∧w'.ownsRow w.heap.size 77 3 v xs.length (zf9 xs)∧Below w.heap.size w w':=by
 have h1:1≤n:=by omega
 refine callsIn_of_wp_marks Tryz.func205 rfl trivial ?_ rfl
 simp only [Tryz.ntmps205,List.size_toArray,List.length_cons,List.length_nil,Nat.reduceAdd,Nat.reduceSub,Array.replicate_succ,Array.replicate_zero,List.push_toArray,List.append_toArray,List.nil_append,List.cons_append]
 gi_wp2
 have bS0:=Boxed.new w 200 (.slice none 0 0)
 have hB0:Below w.heap.size w (w.alloc (.cells #[.slice none 0 0] 200)):=(Below.refl _ w).alloc (Nat.le_refl _) _
 have hm0:(w.alloc (.cells #[.slice none 0 0] 200)).cell? ⟨Bm,0,none⟩=some (.map (some b)):=(hB0.cell (p:=⟨Bm,0,none⟩) (World.block_lt_of_cell? w _ hm)).trans hm
 have hBm:Bm<w.heap.size:=World.block_lt_of_cell? w _ hm
 have hown0:=hown.alloc (.cells #[.slice none 0 0] 200)
 have hsz:(w.alloc (.cells #[.slice none 0 0] 200)).heap.size=w.heap.size+1:=by simp
 obtain ⟨W0,hW0⟩:∃ W0,w.alloc (.cells #[.slice none 0 0] 200)=W0:=⟨_,rfl⟩
 rw [hW0] at bS0 hB0 hm0 hown0 hsz ⊢
 clear hW0
 have hsD:Maps.size D≤nn:=hown.size_le
 have hseq:SeqStopsK Fence.wide (n - 1) Tryz.prog 162 #[.pointer (some ⟨Bm,0,none⟩)] (fun x:Row=>#[Value.agg #[.int .i64 x.1,.int .i64 x.2.1,.int .i64 x.2.2]]) KeepsWalks (zcu D (fun _=>false)) (fun _=>True) (Maps.size D) W0:=fun l J Jx W hW hJ _ hY h0=>by
  refine zr8 (n - 1) (by omega) l Bm b nn D g hrep J Jx hY W hJ ((hW.cell (p:=⟨Bm,0,none⟩) (show Bm<_ by omega)).trans hm0) ?_ h0
  have hbl:=hown0.lt
  obtain ⟨es,clock,hb,Ft,hs,hD⟩:=hown0
  exact ⟨es,clock,(hW.block b hbl).trans hb,Ft,hs,hD⟩
 obtain ⟨i60,hi,hz0,hz1,hz2⟩:=info_parts Tryz.info77
 refine wpIn_rangeFunc_ownH rfl h1 (gf:=162) (lb:=#[.pointer (some ⟨Bm,0,none⟩)]) rfl trivial (enters_of Tryz.func162 (by kernel_rfl) rfl) hseq walksK_t walksK_b (Below.refl _ _) (fun _=>rfl)
  (fun pre W=>(∃ v,Boxed W w.heap.size 200 v∧W.ownsRow w.heap.size 77 3 v pre.length (zf9 pre)∧True)∧Below w.heap.size w W)
  (fun _ _ _=>False)
  (OwnFrom.and (Own.from (holdsRow_own w.heap.size w.heap.size 200 77 3 (fun pre:List Row=>pre.length) zf9 (fun _ _=>True)) _) (ownFrom_below (Nat.le_refl _) (by omega)))
  (fun _ _ _ _ _ hs _ _=>hs)
  ⟨⟨_,bS0,World.ownsRow_nil _ _ _ _,trivial⟩,hB0⟩
  (fun x a' W=>∃ Bx,w.heap.size<Bx∧W.heap[Bx]? = some (.cells #[.int .i64 x.1,.int .i64 x.2.1,.int .i64 x.2.2] 77 (0,0)) ∧
   a'={ tmps:=#[.slice none 0 0,.func (.func 162) #[] #[.pointer (some ⟨Bm,0,none⟩)],.pointer (some ⟨w.heap.size,0,none⟩),undef,.slice none 0 0,.pointer (some ⟨Bx,0,none⟩),.func (.func 162) #[] #[.pointer (some ⟨Bm,0,none⟩)],.agg #[.int .i64 x.1,.int .i64 x.2.1,.int .i64 x.2.2],undef,undef,undef,undef,undef],defers:=[] })
  (fun x a' _ X Y row hs hg hr=>by
   obtain ⟨Bx,h1,h2,h3⟩:=hs
   refine ⟨Bx,h1,(hg.block Bx (Array.getElem?_eq_some_iff.1 h2).1 (fun e=>?_)).trans h2,h3⟩
   obtain ⟨_,o,ho,hc⟩:=hr Bx e.symm
   rw [h2] at ho
   cases ho
   cases hc)
  ?assign ?body ?done ?stop
 case assign =>
  rintro l pre x W K ⟨⟨v,bS,hrow,_⟩,hB⟩ hK
  gi_wp2
  exact hK _ _ ((KeepsOthers.alloc _ _).from _) (KeepsWalks.alloc _ _) ⟨⟨v,bS.alloc _,hrow.alloc _,trivial⟩,hB.alloc hB.size _⟩ ⟨W.heap.size,bS.lt,zae _ _ _ rfl,rfl⟩
 case body =>
  rintro l pre x a' W hl ⟨r,hr⟩ ⟨⟨v,bS,hrow,_⟩,hB⟩ ⟨Bx,hBx,hX,rfl⟩ hlt
  obtain ⟨x1,x2,x3⟩:=x
  dsimp only at hX ⊢
  have c0:W.cell? ⟨Bx,0,none⟩=some (.int .i64 x1):=zab hX 0
  have c1:W.cell? ⟨Bx,1,none⟩=some (.int .i64 x2):=zab hX 1
  have c2:W.cell? ⟨Bx,2,none⟩=some (.int .i64 x3):=zab hX 2
  have cS:=bS.cell
  have hBs:=hB.size
  have hnew:=zqk W (.int .i64 x1) (.int .i64 x2) (.int .i64 x3) 77
  gi_wp2_with (first
   | (gi_at_builtin;refine wpListIn_append_own _ rfl _ _ 200 rfl w.heap.size 77 i60 _ 3 24 Tryz.underlying200 hi hz0 hz1 hz2 rfl (by decide) _ _ _ rfl (hrow.alloc _) ⟨W.heap.size,0,none⟩ 1 1 [.int .i64 x1,.int .i64 x2,.int .i64 x3] rfl rfl hnew (by simp [Value.oneCell']) (by unfold maxLen;omega) (by omega) (by simp;omega) ?_;intro v' w1 hown' hgrow _;obtain ⟨g',cap',rfl⟩:=zgr hown';obtain ⟨hv1,hv2,hr2,hk2,hb2⟩:=bS.appended (by decide) hrow hB.size (Nat.le_refl _) hown' hgrow;have hc1:=hv1.cell;have hf1:=hv1.frozen))
  refine ⟨hk2.from _,⟨hk2.size,fun k o hk ho=>hk2.same k o hk (Obj.not_cells_of_walk ho)⟩,⟨_,hv2,?_,trivial⟩,hB.trans hb2⟩
  have e:zf9 (pre ++ [(x1,x2,x3)])=zf9 pre ++ [.int .i64 x1,.int .i64 x2,.int .i64 x3]:=by simp [zf9,ze0]
  rw [e]
  simpa using hr2
 case done =>
  rintro D ys W hD hS ⟨⟨v,bS,hrow,_⟩,hB⟩ hK
  have cS:=bS.cell
  gi_wp2
  refine ⟨by simp,.inl ⟨_,_,rfl,run_takeDeferred hK,?_⟩⟩
  exact ⟨_,results_tmp rfl _ _ _,v,ys,rfl,hS,ownsRow_putObj hrow _ hK rfl,hB.trans (belowK_b (w:=w) (Nat.le_refl _) W D _ _ (by omega) hK rfl rfl)⟩
 case stop =>
  rintro D c pre W _ _ h _
  exact h.elim
theorem zhv (Bm b nn:Nat) (D:DataW Unit) (g:Row→Int) (hrep:Rep D g) (w:World) (hm:w.cell? ⟨Bm,0,none⟩=some (.map (some b))) (hown:w.ownsMap Tryz.prog 77 (plainElem Tryz.prog 2) b nn D) (hnn:nn≤1000000000) :
  Calls Tryz.prog 160 #[.func (.func 162) #[] #[.pointer (some ⟨Bm,0,none⟩)]] w fun e w'=>∃ v xs,e=.returned v∧zcu D (fun _=>false) xs∧w'.ownsRow w.heap.size 77 3 v xs.length (zf9 xs)∧RowKit.Below w.heap.size w w':=by
 have H:=zac ((callsIn_wide (n:=3)).1 (zik 3 (by omega) Bm b nn D g hrep w hm hown hnn))
 clear hrep hm hown
 go_enter Tryz.func160,Tryz.ntmps160
 go_wp2_with fail
 refine (zaa H).mono ?_
 rintro e w1 ⟨v,xs,rfl,hK,ho,hb⟩
 clear H
 go_wp2
 go_ret
 exact ⟨v,xs,rfl,hK,ho,hb⟩
theorem zgq (b:Nat) (w:World):Calls Tryz.prog 113 #[.map (some b)] w fun e w'=>e=.returned (.func (.func 162) #[] #[.pointer (some ⟨w.heap.size,0,none⟩)])∧w'=w.alloc (.cells #[.map (some b)] 127):=by
 go_enter Tryz.func113,Tryz.ntmps113
 go_wp2
 go_ret
 exact ⟨rfl,rfl⟩
theorem zi7 (w:World) (blk n:Nat) (d:Array Row) (os:Array Obj):w.grownBy (sortWorldK ze0 3 w blk 0 n d os) (some blk):=by
 refine ⟨rfl,rfl,rfl,by simp [sortWorldK,grow,putRowK,putRow,mapBlock,Sort.ahead],fun k hk hne=>?_⟩
 have hk':k≠blk:=fun e=>hne (by rw [e])
 simp only [sortWorldK,grow,putRowK,putRow,mapBlock,Sort.ahead]
 rw [Array.getElem?_append_left (by simpa using hk),Array.getElem?_modify,if_neg (fun e=>hk' e.symm)]
def zhs (w:World) (v:Value) (ys:List Row):Prop:=
 ∃ a cap,v=.slice a ys.length cap∧∀ i,i<ys.length→∃ b,a=some ⟨b,0,none⟩∧w.cell? ⟨b,i*3,none⟩=some (.int .i64 (ys[i]?.getD (0,0,0)).1) ∧
  w.cell? ⟨b,i*3+1,none⟩=some (.int .i64 (ys[i]?.getD (0,0,0)).2.1)∧w.cell? ⟨b,i*3+2,none⟩=some (.int .i64 (ys[i]?.getD (0,0,0)).2.2)
theorem zr1 (xs:List Row) (i j:Nat) (hi:i<xs.length) (hj:j<3):(zf9 xs)[i*3+j]? = (ze0 xs[i])[j]?:=by
 induction xs generalizing i with
 | nil=>simp at hi
 | cons p ps ih =>
  have hl:(ze0 p).length=3:=rfl
  have e:zf9 (p :: ps)=ze0 p ++ zf9 ps:=rfl
  rw [e]
  cases i with
  | zero=>rw [List.getElem?_append_left (by rw [hl];omega)];simp
  | succ i =>
   have h2:(i+1)*3+j - 3=i*3+j:=by omega
   rw [List.getElem?_append_right (by rw [hl];omega),hl,h2,ih i (by simpa using hi)]
   simp
theorem zgo {w:World} {base g cap:Nat} {xs:List Row} (h:w.ownsRow base 77 3 (.slice (some ⟨g,0,none⟩) xs.length cap) xs.length (zf9 xs)):HoldsK ze0 3 w g 0 xs.toArray:=by
 intro j hj
 rw [size_flatK] at hj
 have hj':j<xs.length*3:=by simpa using hj
 rw [get_flatK _ _ _ _ hj,Nat.zero_add,h.cellAt j hj',h.frozenAt j]
 refine ⟨?_,rfl⟩
 have hd:j / 3<xs.length:=by omega
 have hm:j % 3<3:=Nat.mod_lt _ (by omega)
 have e:j=j / 3*3+j % 3:=by omega
 have:=zr1 xs (j / 3) (j % 3) hd hm
 rw [← e] at this
 rw [this]
 have e2:xs.toArray[j / 3]! = xs[j / 3]:=by simp [hd]
 rw [e2]
 have hl:j % 3<(ze0 xs[j / 3]).length:=by simp [ze0];omega
 simp [hl]
theorem ze7 {w:World} {g cap:Nat} {d:Array Row} (h:HoldsK ze0 3 w g 0 d):zhs w (.slice (some ⟨g,0,none⟩) d.size cap) d.toList:=by
 refine ⟨some ⟨g,0,none⟩,cap,by simp,fun i hi=>⟨g,rfl,?_⟩⟩
 have hi':i<d.size:=by simpa using hi
 have e:d.toList[i]?.getD (0,0,0)=d[i]!:=by simp [hi']
 rw [e]
 have h0:=(h.cell (i:=i) (c:=0) hi' (by omega)).1
 have h1:=(h.cell (i:=i) (c:=1) hi' (by omega)).1
 have h2:=(h.cell (i:=i) (c:=2) hi' (by omega)).1
 simp only [Nat.zero_add,Nat.add_zero] at h0 h1 h2
 exact ⟨h0,h1,h2⟩
def ze9 (ys:List Row):Prop:=ys.Pairwise ltR
theorem zk3 (x y:Row) (h:¬ ltR y x) (hne:x≠y):ltR x y:=by
 unfold ltR at *
 by_cases h1:x.1=y.1
 ·by_cases h2:x.2.1=y.2.1
  ·by_cases h3:x.2.2=y.2.2
   ·exact absurd (Prod.ext h1 (Prod.ext h2 h3)) hne
   ·omega
  ·omega
 ·omega
theorem zdv {d:Array Row} (h:SortedIn (ltOf zi4) 0 d.size d) (hp:d.toList.Pairwise (·≠·)):ze9 d.toList:=by
 unfold ze9
 rw [List.pairwise_iff_getElem] at hp ⊢
 intro i j hi hj hij
 have h1:=h i j (Nat.zero_le _) hij (by simpa using hj)
 rw [zc0] at h1
 have e1:d[i]! = d.toList[i]:=by simp at hi;simp [hi]
 have e2:d[j]! = d.toList[j]:=by simp at hj;simp [hj]
 rw [e1,e2] at h1
 exact zk3 _ _ h1 (hp i j hi hj hij)
end Go.Proofs.YtoifcnidhfnapaaGreatDoor
namespace Go.Proofs.YtoifcnidhfnapaaGreatDoor.Sim
open Go
abbrev Tn:=List (Nat×List Nat)
def zbp (T:List Nat):Operand→Bool
 | .tmp t=>!T.contains t
 | _=>true
def zdt (T:List Nat) (o:Oper):Bool:=
 match o.dst with
 | some d=>!T.contains d
 | none=>true
def yh1 (T T':List Nat) (args:Array Operand):Bool:=
 (List.range args.size).all fun j=>match args[j]? with
  | some x=>(zbp T x) == !(T'.contains j)
  | none=>true
def yfn (tn:Tn) (T:List Nat) (o:Oper):Bool:=
 match o.op with
 | .move x | .assign x=>if zbp T x then zdt T o else !(zdt T o)
 | .call c=>zdt T o && (match c.callee with
   | .builtin .len=>c.args.all (zbp T)
   | .value (.func f)=>match tn.lookup f with
    | some T'=>yh1 T T' c.args
    | none=>false
   | .value (.tmp t)=>T.contains t && c.args.all (zbp T) && c.args.size == 2
   | _=>false)
 | .pick .. | .alloc .. | .box .. | .load .. | .store .. | .nilCheck .. | .binOp .. | .unOp .. | .convert .. | .extract .. | .index .. | .indexAddr .. | .slice .. | .field .. | .fieldAddr ..=>zdt T o && o.op.operands.all (zbp T)
 | _=>false
def zfp (tn:Tn) (T:List Nat):Code→Bool
 | .skip | .ret | .exit _ | .label _=>true
 | .region _ ops _=>ops.all (yfn tn T)
 | .seq a b=>zfp tn T a && zfp tn T b
 | .cond c a b=>zbp T c && zfp tn T a && zfp tn T b
 | .block _ b=>zfp tn T b
 | .loop b=>zfp tn T b
 | _=>false
def yeg (T:List Nat):ResultVar→Bool
 | .tmp t=>!T.contains t
 | .cell a _=>!T.contains a
def fnOK (P:Program) (tn:Tn) (x:Nat×List Nat):Bool:=
 match P.funcs[x.1]? with
 | some fn=>fn.name != "runtime.NumGoroutine" && fn.results.all (yeg x.2) && (match fn.body with
   | some c=>zfp tn x.2 c
   | none=>false)
 | none=>false
def zet (tn:Tn) (T:List Nat):Item→Bool
 | .code c=>zfp tn T c
 | .inBlock _=>true
 | .inLoop c=>zfp tn T c
 | .inRegion ops _=>ops.all (yfn tn T)
 | _=>false
section
variable (V1 V2:Value)
def VR (T:List Nat) (i:Nat) (x y:Value):Prop:=(i ∉ T→x=y)∧(i∈T→(x=undef∧y=undef)∨(x=V1∧y=V2))
structure TRel (T:List Nat) (a b:Array Value):Prop where
 size:a.size=b.size
 each:∀ i,VR V1 V2 T i (a.getD i undef) (b.getD i undef)
end
variable {V1 V2:Value} {T:List Nat} {a b:Array Value}
theorem zyw (a:Array Value) (d i:Nat) (v:Value):(a.setIfInBounds d v).getD i undef=if d=i∧d<a.size then v else a.getD i undef:=by
 simp only [Array.getD_eq_getD_getElem?,Array.getElem?_setIfInBounds]
 by_cases h:d=i
 ·subst h
  by_cases h2:d<a.size
  ·simp [h2]
  ·simp [h2]
 ·simp [h]
theorem TRel.set (h:TRel V1 V2 T a b) {d:Nat} {v v':Value} (hv:VR V1 V2 T d v v'):TRel V1 V2 T (a.setIfInBounds d v) (b.setIfInBounds d v'):=by
 refine ⟨by simp [h.size],fun i=>?_⟩
 rw [zyw,zyw,← h.size]
 by_cases e:d=i∧d<a.size
 ·rw [if_pos e,if_pos e,← e.1];exact hv
 ·rw [if_neg e,if_neg e];exact h.each i
theorem VR.refl_undef (V1 V2:Value) (T:List Nat) (i:Nat):VR V1 V2 T i undef undef:=⟨fun _=>rfl,fun _=>.inl ⟨rfl,rfl⟩⟩
theorem VR.of_clean {i:Nat} {v:Value} (h:i ∉ T):VR V1 V2 T i v v:=⟨fun _=>rfl,fun hi=>absurd hi h⟩
theorem TRel.clean (h:TRel V1 V2 T a b) {i:Nat} (hi:i ∉ T):a.getD i undef=b.getD i undef:=(h.each i).1 hi
theorem TRel.opt (h:TRel V1 V2 T a b) {i:Nat} (hi:i ∉ T):a[i]? = b[i]?:=by
 have h1:=h.clean hi
 have h2:=h.size
 by_cases hl:i<a.size
 ·have hl':i<b.size:=by omega
  simp only [Array.getD_eq_getD_getElem?,Array.getElem?_eq_getElem hl,Array.getElem?_eq_getElem hl',Option.getD_some] at h1
  rw [Array.getElem?_eq_getElem hl,Array.getElem?_eq_getElem hl',h1]
 ·rw [Array.getElem?_eq_none (by omega),Array.getElem?_eq_none (by omega)]
def ztk (V:Value):Prop:=∀ b,V≠.bool b
theorem TRel.yielded (h:TRel V1 V2 T a b) (n1:ztk V1) (n2:ztk V2) (ops:Array Oper):yielded ops a=yielded ops b:=by
 funext j
 unfold Go.yielded
 cases hd:(ops[j]?).bind (·.dst) with
 | none=>rfl
 | some d =>
  simp only [Option.bind_some]
  by_cases hi:d∈T
  ·have key:∀ (x:Array Value) (V:Value),ztk V→(x.getD d undef=undef∨x.getD d undef=V)→(match x[d]? with|some (.bool b)=>some b|_=>none)=(none:Option Bool):=by
    intro x V hV hx
    cases hg:x[d]? with
    | none=>rfl
    | some v =>
     have hv:x.getD d undef=v:=by simp [Array.getD_eq_getD_getElem?,hg]
     rw [hv] at hx
     rcases hx with rfl|rfl
     ·rfl
     ·cases v <;> first|rfl|exact absurd rfl (hV _)
   rcases (h.each d).2 hi with ⟨h1,h2⟩|⟨h1,h2⟩
   ·exact (key a V1 n1 (.inl h1)).trans (key b V2 n2 (.inl h2)).symm
   ·exact (key a V1 n1 (.inr h1)).trans (key b V2 n2 (.inr h2)).symm
  ·rw [h.opt hi]
theorem zut {ρ ρ':Operand→Value} (xs:Array Operand) (h:∀ x∈xs,ρ x=ρ' x):xs.map ρ=xs.map ρ':=Array.map_congr_left h
theorem zuc {ρ ρ':Operand→Value} (tn:Tn) (T:List Nat) (o:Oper) (hok:yfn tn T o=true) (h:∀ x∈o.op.operands,ρ x=ρ' x) (hc:∀ c,o.op≠.call c):execOp ρ o=execOp ρ' o:=by
 obtain ⟨dst,op,ty,pos,af,gd⟩:=o
 cases op <;> simp only [yfn,Bool.false_eq_true] at hok <;> (try exact absurd rfl (hc _))
 case pick c x y =>
  simp only [execOp]
  rw [h c (by simp [Op.operands]),h x (by simp [Op.operands]),h y (by simp [Op.operands])]
 case slice t x l hi m =>
  simp only [execOp]
  have hl:∀ (z:Option Operand),(∀ y∈z.toArray,ρ y=ρ' y)→z.map ρ=z.map ρ':=by
   intro z hz
   cases z with
   | none=>rfl
   | some y=>simp;exact hz y (by simp)
  rw [h x (by simp [Op.operands]),hl l (fun y hy=>h y (by simp only [Op.operands,Array.mem_append];exact .inl (.inl (.inr hy)))),hl hi (fun y hy=>h y (by simp only [Op.operands,Array.mem_append];exact .inl (.inr hy))),hl m (fun y hy=>h y (by simp only [Op.operands,Array.mem_append];exact .inr hy))]
 case store t x y =>
  simp only [execOp]
  rw [h x (by simp [Op.operands]),h y (by simp [Op.operands])]
 case binOp q t x y t' =>
  simp only [execOp]
  rw [h x (by simp [Op.operands]),h y (by simp [Op.operands])]
 case index t x y =>
  simp only [execOp]
  rw [h x (by simp [Op.operands]),h y (by simp [Op.operands])]
 case indexAddr t x y =>
  simp only [execOp]
  rw [h x (by simp [Op.operands]),h y (by simp [Op.operands])]
 all_goals (simp only [execOp])
 all_goals (rw [h _ (by simp only [Op.operands];exact Array.mem_singleton.2 rfl)])
theorem zws {ρ:Operand→Value} (tn:Tn) (T:List Nat) (P:Program) (w w':World) (o:Oper) (nx:Next) (hok:yfn tn T o=true) (hc:∀ c,o.op≠.call c) (h:(execOp ρ o).run P w=.ok nx w'):(∃ v,nx=.value v)∨nx=.skip:=by
 have hv:∀ s:Sem Value,((do let x ← s;pure (Next.value x)):Sem Next).run P w=.ok nx w'→∃ v,nx=.value v:=by
  intro s hs
  rw [Sem.run_bind] at hs
  cases hr:s.run P w with
  | ok x w2=>rw [hr] at hs;simp at hs;exact ⟨x,hs.1.symm⟩
  | halt x w2=>rw [hr] at hs;simp [Result.andThen] at hs
 have hu:∀ s:Sem Unit,((do s;pure Next.skip):Sem Next).run P w=.ok nx w'→nx=.skip:=by
  intro s hs
  rw [Sem.run_bind] at hs
  cases hr:s.run P w with
  | ok x w2=>rw [hr] at hs;simp at hs;exact hs.1.symm
  | halt x w2=>rw [hr] at hs;simp [Result.andThen] at hs
 obtain ⟨dst,op,ty,pos,af,gd⟩:=o
 cases op <;> simp only [yfn,Bool.false_eq_true] at hok <;> (try exact absurd rfl (hc _))
 case move x=>simp [execOp] at h;exact .inl ⟨_,h.1.symm⟩
 case assign x=>simp [execOp] at h;exact .inl ⟨_,h.1.symm⟩
 case pick c x y=>exact .inl (by
  simp only [execOp] at h
  rw [Sem.run_bind] at h
  cases hr:(asBool (ρ c)).run P w with
  | ok b w2=>rw [hr] at h;simp at h;exact ⟨_,h.1.symm⟩
  | halt x w2=>rw [hr] at h;simp [Result.andThen] at h)
 case store t x y=>exact .inr (hu _ h)
 case nilCheck x =>
  refine .inl ?_
  have hB:∀ {α:Type} (s:Sem α) (k:α→Sem Next) (w1:World),(∀ a w2,(k a).run P w2=.ok nx w'→∃ v,nx=.value v)→(s >>= k).run P w1=.ok nx w'→∃ v,nx=.value v:=by
   intro α s k w1 hk hs
   rw [Sem.run_bind] at hs
   cases hr:s.run P w1 with
   | ok x w2=>rw [hr] at hs;exact hk _ _ hs
   | halt x w2=>rw [hr] at hs;simp [Result.andThen] at hs
  have hp:∀ w1,(runtimePanic .nilDeref:Sem Next).run P w1=.ok nx w'→∃ v,nx=.value v:=by
   intro w1 hs
   unfold runtimePanic at hs
   refine hB _ _ _ (fun p w2 h2=>?_) hs
   simp [goPanic] at h2
  have hpu:∀ w1 v,(pure (Next.value v):Sem Next).run P w1=.ok nx w'→∃ v,nx=.value v:=by
   intro w1 v hs
   simp at hs
   exact ⟨v,hs.1.symm⟩
  simp only [execOp] at h
  split at h
  ·exact hp _ h
  ·exact hp _ h
  ·exact hp _ h
  ·split at h
   ·exact hp _ h
   ·refine hB _ _ _ (fun a w2 h2=>?_) h
    refine hB _ _ _ (fun a w3 h3=>?_) h2
    split at h3
    ·refine hB _ _ _ (fun a w4 h4=>?_) h3
     exact hpu _ _ h4
    ·exact hpu _ _ h3
   ·exact hpu _ _ h
  ·exact hpu _ _ h
 all_goals exact .inl (hv _ h)
end Go.Proofs.YtoifcnidhfnapaaGreatDoor.Sim
