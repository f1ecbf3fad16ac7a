import Derived.Test.YtoifcnidhfnapaaGreatDoorP06
import Derived.Shelf.SlSortCmp.WholeK
import Derived.RangeFuncNested
import Derived.RangeFuncBound
import Derived.RangeFuncCalls
import Derived.RangeFuncLeaves
import Derived.Shelf.Abstract
import Derived.Shelf.RegionOpen
import Derived.OwnWalkIn
import Derived.TacticsInMore
import Derived.LoopNIn
import Derived.LoopIn
import Derived.Maps.OwnIn
import Derived.Sort.MapsRangeIn
import Derived.Calls
import Derived.DyingRun
set_option linter.unusedVariables false
set_option linter.unusedSimpArgs false
namespace Go.Proofs.YtoifcnidhfnapaaGreatDoor
open Go.RowKit Go.Maps Go.Sort Go.Shelf
def encR (r:Row):List Value:=[.int .i64 r.1,.int .i64 r.2.1,.int .i64 r.2.2]
def zro (r:Row):List Int:=[r.1,r.2.1,r.2.2]
def cmpR (x y:Row):Int:=cmpL (zro x) (zro y)
theorem ints3 {w:World} {b:Nat} {t:TypeId} (x y z:Int) (h:w.heap[b]? = some (.cells #[.int .i64 x,.int .i64 y,.int .i64 z] t (0,0))):zbm w (.slice (some ⟨b,0,none⟩) 3 3) [x,y,z]:=by
 refine ⟨some ⟨b,0,none⟩,3,rfl,fun i hi=>⟨b,0,rfl,?_⟩⟩
 rw [zab h]
 match i,hi with
 | 0,_=>rfl
 | 1,_=>rfl
 | 2,_=>rfl
set_option maxHeartbeats 1000000 in
theorem zf0 (x y:Row) (W:World):Calls Tryz.prog 170 #[.agg #[.int .i64 x.1,.int .i64 x.2.1,.int .i64 x.2.2],.agg #[.int .i64 y.1,.int .i64 y.2.1,.int .i64 y.2.2]] W fun e w'=>e=.returned (.int .i64 (cmpR x y))∧∃ q os',w'=grow (W.drewN q) os':=by
 obtain ⟨x1,x2,x3⟩:=x
 obtain ⟨y1,y2,y3⟩:=y
 dsimp only
 obtain ⟨W2,hW2⟩:∃ W2,W2=(W.alloc (.cells #[.int .i64 x1,.int .i64 x2,.int .i64 x3] 77)).alloc (.cells #[.int .i64 y1,.int .i64 y2,.int .i64 y3] 77):=⟨_,rfl⟩
 have hx:zbm W2 (.slice (some ⟨W.heap.size,0,none⟩) 3 3) [x1,x2,x3]:=ints3 (t:=77) x1 x2 x3 (by rw [hW2,Below.heap_alloc _ _ _ (by simp)];exact zad _ _ _ rfl)
 have hy:zbm W2 (.slice (some ⟨W.heap.size+1,0,none⟩) 3 3) [y1,y2,y3]:=ints3 (t:=77) y1 y2 y3 (by rw [hW2];exact zad _ _ _ (by simp))
 have Hx:=hide hx
 have Hy:=hide hy
 have HW:=hide hW2
 have Hr:Hid (cmpL [x1,x2,x3] [y1,y2,y3]=cmpR (x1,x2,x3) (y1,y2,y3)):=rfl
 clear hx hy
 go_enter Tryz.func170,Tryz.ntmps170
 go_wp2
 rw [← hW2]
 clear hW2
 go_quiet ((go_at_call 215;exact Calls.quiet_of_same (zl4 _ _ [x1,x2,x3] [y1,y2,y3] _ (by exact (zaa Hx).drewN _) (by exact (zaa Hy).drewN _) rfl (by simp))))
 go_wp2
 go_ret
 refine ⟨zdi (zaa Hr),nq,#[.cells #[.int .i64 x1,.int .i64 x2,.int .i64 x3] 77,.cells #[.int .i64 y1,.int .i64 y2,.int .i64 y3] 77],?_⟩
 rw [zaa HW,alloc_eq_grow,alloc_eq_grow,grow_grow]
 rfl
theorem ybg (blk off size:Nat) (w:World):CmpLays Tryz.prog 170 #[] encR 3 cmpR blk off size w:=
 fun _ _ _ _ x y=>zf0 x y _
theorem zim (x y:Int):cmpI x y<0↔x<y:=by
 unfold cmpI
 split
 ·simp [*]
 ·split <;> simp [*] <;> omega
theorem zdw (x y:Int):cmpI x y=0↔x=y:=by
 unfold cmpI
 split
 ·constructor <;> intro h <;> omega
 ·split
  ·constructor <;> intro h <;> omega
  ·constructor <;> intro h <;> omega
def ltR (x y:Row):Prop:=x.1<y.1∨(x.1=y.1∧(x.2.1<y.2.1∨(x.2.1=y.2.1∧x.2.2<y.2.2)))
theorem zn0 (x y:Row):ltOf cmpR x y=true↔ltR x y:=by
 unfold ltOf cmpR zro ltR
 rw [decide_eq_true_iff]
 simp only [cmpL]
 by_cases h1:x.1=y.1
 ·rw [if_pos ((zdw _ _).2 h1)]
  by_cases h2:x.2.1=y.2.1
  ·rw [if_pos ((zdw _ _).2 h2)]
   by_cases h3:x.2.2=y.2.2
   ·rw [if_pos ((zdw _ _).2 h3)];simp;omega
   ·rw [if_neg (fun e=>h3 ((zdw _ _).1 e)),zim];omega
  ·rw [if_neg (fun e=>h2 ((zdw _ _).1 e)),zim];omega
 ·rw [if_neg (fun e=>h1 ((zdw _ _).1 e)),zim];omega
theorem zch (x y:Row):ltOf cmpR x y=false↔¬ ltR x y:=by
 rw [← zn0];simp
theorem swoR:SWO (ltOf cmpR) where
 irrefl x:=by rw [zch];unfold ltR;omega
 trans x y z h1 h2:=by rw [zn0] at *;unfold ltR at *;omega
 ntrans x y z h1 h2:=by rw [zch] at *;unfold ltR at *;omega
structure zce (D:DataW Unit) (left:Lit→Bool) (xs:List Row):Prop where
 wf:∀ x∈xs,zav x
 apart:xs.Pairwise (·≠·)
 mem:∀ r,zav r→(r∈xs↔Maps.has D (zaz r)=true∧left (zaz r)=false)
theorem zce.start (D:DataW Unit):zce D (Maps.has D) []:=
 ⟨fun x hx=>by simp at hx,List.Pairwise.nil,fun r _=>by simp⟩
theorem zce.step {D:DataW Unit} {left:Lit→Bool} {xs:List Row} (h:zce D left xs) {x:Row} (hx:zav x) (hh:Maps.has D (zaz x)=true) (hl:left (zaz x)=true):zce D (fun z=>left z && !z.sameKey (zaz x)) (xs ++ [x]):=by
 have hnx:x ∉ xs:=fun hm=>by have:=((h.mem x hx).1 hm).2;rw [hl] at this;cases this
 refine ⟨fun y hy=>?_,?_,fun r hr=>?_⟩
 ·rcases List.mem_append.1 hy with hy|hy
  ·exact h.wf y hy
  ·simp at hy;subst hy;exact hx
 ·refine List.pairwise_append.2 ⟨h.apart,by simp,fun a ha b hb=>?_⟩
  simp at hb
  subst hb
  exact fun e=>hnx (e ▸ ha)
 ·simp only [List.mem_append,List.mem_singleton]
  rw [h.mem r hr]
  have:=zmu (Dg:=D) (left:=left) hx hh r hr
  unfold zh9 at this
  exact this
set_option maxRecDepth 100000 in
set_option maxHeartbeats 1000000 in
theorem zp1 (n:Nat) (hn:1≤n) (l Bm b nn:Nat) (D:DataW Unit) (g:Row→Int) (hrep:Rep D g) (J Jx:List Row→World→Prop)
  (hY:∀ pre x W,J pre W→pre.length<Maps.size D→YieldAt Fence.wide (n - 1) Tryz.prog l #[.agg #[.int .i64 x.1,.int .i64 x.2.1,.int .i64 x.2.2]] W fun e W' =>
   (e=.returned (.bool true)∧J (pre ++ [x]) W'∧KeepsWalks W W')∨(e=.returned (.bool false)∧Jx (pre ++ [x]) W'))
  (W:World) (hJ:AbidesFrom W.heap.size J) (hm:W.cell? ⟨Bm,0,none⟩=some (.map (some b))) (hown:W.ownsMap Tryz.prog 77 (plainElem Tryz.prog 2) b nn D) (h0:J [] W) :
  CallsIn Fence.wide n Tryz.prog 162 #[.func (.yield l) #[] #[],.pointer (some ⟨Bm,0,none⟩)] W fun e W'=>(∃ v,e=.returned v) ∧
   ((∃ xs,zce D (fun _=>false) xs∧J xs W')∨(∃ pre,True∧Jx pre W')):=by
 refine callsIn_of_wp Tryz.func162 rfl trivial ?_ rfl
 simp only [Tryz.ntmps162,List.size_toArray,List.length_cons,List.length_nil,Nat.reduceAdd,Nat.reduceSub,Array.replicate_succ,Array.replicate_zero,List.push_toArray,List.append_toArray,List.nil_append,List.cons_append]
 gi_wp2_with (first
  | (gi_at_range;refine wpListIn_range_own _ rfl _ 127 rfl 77 2 ze5 Tryz.underlying127 _ b nn _ rfl hown ?_;intro w0 hrg0 hg0 hs0)
  | gi_in)
 go_frame
 gi_loopw [6] (fun _ wr=>∃ (left:Lit→Bool) (cnt:Nat) (ss:List Row),wr.ranges Tryz.prog 77 (plainElem Tryz.prog 2) b W.heap.size nn D left cnt∧ss.length+cnt≤Maps.size D∧zce D left ss∧J ss wr) (fun _ wr=>wr.rangeLeft b W.heap.size)
 case atStart=>exact ⟨_,_,[],hrg0,by simp,zce.start D,hJ [] W w0 none h0 hg0 (fun r e=>by cases e)⟩
 case round =>
  obtain ⟨left,cnt,ss,hrg,hcs,hC,hJs⟩:=hrel
  gi_wp2_with (first
   | (gi_at_next;refine wpListIn_next_ranges _ rfl _ rfl 77 ze5 (plainElem Tryz.prog 2) (fun x:Row=>.agg #[.int .i64 x.1,.int .i64 x.2.1,.int .i64 x.2.2]) (Value.int .i64) zq3 znz b W.heap.size nn D left cnt rfl hrg ?_ ?_)
   | gi_in)
  ·intro _ hl0
   gi_wp2
   go_end0
   exact ⟨⟨_,rfl⟩,.inl ⟨ss,⟨hC.wf,hC.apart,fun r hr=>by rw [hC.mem r hr,hl0]⟩,hJs⟩⟩
  ·intro x1 x2 x3 c kl y1 y2 w1 cnt1 hkey hlk hv hat hrg1 hlt hg1 hs1 hen
   obtain ⟨hwx,hkl,hc⟩:=came hrep (x:=(x1,x2,x3)) (y:=(y1,y2)) hkey hv hat
   have hhas:Maps.has D (zaz (x1,x2,x3))=true:=by rw [← hkl];exact has_true_of_atKey hat
   have hJ1:J ss w1:=hJ ss wr w1 (some W.heap.size) hJs hg1 (fun r e=>by cases e;exact ⟨Nat.le_refl _,hrg.iter_walk⟩)
   have hJ2:J ss (w1.alloc (.cells #[.int .i64 x1,.int .i64 x2,.int .i64 x3] 77)):=hJ ss w1 _ none hJ1 (World.grownBy_alloc _ _ none) (fun r e=>by cases e)
   obtain ⟨fn,tmps,assign,body,hy,hR⟩:=hY ss (x1,x2,x3) _ hJ2 (by omega)
   rw [hkl] at hlk hrg1
   have hC2:=hC.step hwx hhas hlk
   have hrg2:=hrg1.alloc (.cells #[.int .i64 x1,.int .i64 x2,.int .i64 x3] 77)
   dsimp only at hy
   clear hkey hv hat hs1 hc hkl
   gi_wp2
   refine hR.mono ?_
   rintro e W3 (⟨rfl,hJ3,hk3⟩|⟨rfl,hJx3⟩)
   ·gi_wp2
    have hrg3:=hrg2.of_walks hk3
    go_roundw
    case rel=>exact ⟨_,cnt1,ss ++ [(x1,x2,x3)],hrg3,by simp;omega,hC2,hJ3⟩
    case measure=>rw [hrg3.left_eq,hrg.left_eq];exact hlt
   ·gi_wp2
    refine bodyPost_ret (results_none rfl _ _ _) rfl ?_
    exact ⟨⟨_,rfl⟩,.inr ⟨ss ++ [(x1,x2,x3)],trivial,hJx3⟩⟩
attribute [local go_sem] Oper.semAt_some
theorem Tryz.info77:(Tryz.prog.info? 77).map (fun i=>(i.zero,i.size,i.bytes))=some (some (.agg #[.int .i64 0,.int .i64 0,.int .i64 0]),3,24):=by kernel_rfl
def zfe (xs:List Row):List Value:=xs.flatMap encR
set_option maxRecDepth 100000 in
set_option maxHeartbeats 2000000 in
theorem zhc (n:Nat) (hn:3≤n) (Bm b nn:Nat) (D:DataW Unit) (g:Row→Int) (hrep:Rep D g) (w:World) (hm:w.cell? ⟨Bm,0,none⟩=some (.map (some b))) (hown:w.ownsMap Tryz.prog 77 (plainElem Tryz.prog 2) b nn D) (hnn:nn≤1000000000) :
  CallsIn Fence.wide n Tryz.prog 205 #[.slice none 0 0,.func (.func 162) #[] #[.pointer (some ⟨Bm,0,none⟩)]] w fun e w'=>∃ v xs,e=.returned v∧zce D (fun _=>false) xs∧w'.ownsRow w.heap.size 77 3 v xs.length (zfe xs)∧Below w.heap.size w w':=by
 have h1:1≤n:=by omega
 refine callsIn_of_wp_marks Tryz.func205 rfl trivial ?_ rfl
 simp only [Tryz.ntmps205,List.size_toArray,List.length_cons,List.length_nil,Nat.reduceAdd,Nat.reduceSub,Array.replicate_succ,Array.replicate_zero,List.push_toArray,List.append_toArray,List.nil_append,List.cons_append]
 gi_wp2
 have bS0:=Boxed.new w 200 (.slice none 0 0)
 have hB0:Below w.heap.size w (w.alloc (.cells #[.slice none 0 0] 200)):=(Below.refl _ w).alloc (Nat.le_refl _) _
 have hm0:(w.alloc (.cells #[.slice none 0 0] 200)).cell? ⟨Bm,0,none⟩=some (.map (some b)):=(hB0.cell (p:=⟨Bm,0,none⟩) (World.block_lt_of_cell? w _ hm)).trans hm
 have hBm:Bm<w.heap.size:=World.block_lt_of_cell? w _ hm
 have hown0:=hown.alloc (.cells #[.slice none 0 0] 200)
 have hsz:(w.alloc (.cells #[.slice none 0 0] 200)).heap.size=w.heap.size+1:=by simp
 obtain ⟨W0,hW0⟩:∃ W0,w.alloc (.cells #[.slice none 0 0] 200)=W0:=⟨_,rfl⟩
 rw [hW0] at bS0 hB0 hm0 hown0 hsz ⊢
 clear hW0
 have hsD:Maps.size D≤nn:=hown.size_le
 have hseq:SeqStopsK Fence.wide (n - 1) Tryz.prog 162 #[.pointer (some ⟨Bm,0,none⟩)] (fun x:Row=>#[Value.agg #[.int .i64 x.1,.int .i64 x.2.1,.int .i64 x.2.2]]) KeepsWalks (zce D (fun _=>false)) (fun _=>True) (Maps.size D) W0:=fun l J Jx W hW hJ _ hY h0=>by
  refine zp1 (n - 1) (by omega) l Bm b nn D g hrep J Jx hY W hJ ((hW.cell (p:=⟨Bm,0,none⟩) (show Bm<_ by omega)).trans hm0) ?_ h0
  have hbl:=hown0.lt
  obtain ⟨es,clock,hb,Ft,hs,hD⟩:=hown0
  exact ⟨es,clock,(hW.block b hbl).trans hb,Ft,hs,hD⟩
 obtain ⟨i60,hi,hz0,hz1,hz2⟩:=info_parts Tryz.info77
 refine wpIn_rangeFunc_ownH rfl h1 (gf:=162) (lb:=#[.pointer (some ⟨Bm,0,none⟩)]) rfl trivial (enters_of Tryz.func162 (by kernel_rfl) rfl) hseq walksK_t walksK_b (Below.refl _ _) (fun _=>rfl)
  (fun pre W=>(∃ v,Boxed W w.heap.size 200 v∧W.ownsRow w.heap.size 77 3 v pre.length (zfe pre)∧True)∧Below w.heap.size w W)
  (fun _ _ _=>False)
  (OwnFrom.and (Own.from (holdsRow_own w.heap.size w.heap.size 200 77 3 (fun pre:List Row=>pre.length) zfe (fun _ _=>True)) _) (ownFrom_below (Nat.le_refl _) (by omega)))
  (fun _ _ _ _ _ hs _ _=>hs)
  ⟨⟨_,bS0,World.ownsRow_nil _ _ _ _,trivial⟩,hB0⟩
  (fun x a' W=>∃ Bx,w.heap.size<Bx∧W.heap[Bx]? = some (.cells #[.int .i64 x.1,.int .i64 x.2.1,.int .i64 x.2.2] 77 (0,0)) ∧
   a'={ tmps:=#[.slice none 0 0,.func (.func 162) #[] #[.pointer (some ⟨Bm,0,none⟩)],.pointer (some ⟨w.heap.size,0,none⟩),undef,.slice none 0 0,.pointer (some ⟨Bx,0,none⟩),.func (.func 162) #[] #[.pointer (some ⟨Bm,0,none⟩)],.agg #[.int .i64 x.1,.int .i64 x.2.1,.int .i64 x.2.2],undef,undef,undef,undef,undef],defers:=[] })
  (fun x a' _ X Y row hs hg hr=>by
   obtain ⟨Bx,h1,h2,h3⟩:=hs
   refine ⟨Bx,h1,(hg.block Bx (Array.getElem?_eq_some_iff.1 h2).1 (fun e=>?_)).trans h2,h3⟩
   obtain ⟨_,o,ho,hc⟩:=hr Bx e.symm
   rw [h2] at ho
   cases ho
   cases hc)
  ?assign ?body ?done ?stop
 case assign =>
  rintro l pre x W K ⟨⟨v,bS,hrow,_⟩,hB⟩ hK
  gi_wp2
  exact hK _ _ ((KeepsOthers.alloc _ _).from _) (KeepsWalks.alloc _ _) ⟨⟨v,bS.alloc _,hrow.alloc _,trivial⟩,hB.alloc hB.size _⟩ ⟨W.heap.size,bS.lt,zad _ _ _ rfl,rfl⟩
 case body =>
  rintro l pre x a' W hl ⟨r,hr⟩ ⟨⟨v,bS,hrow,_⟩,hB⟩ ⟨Bx,hBx,hX,rfl⟩ hlt
  obtain ⟨x1,x2,x3⟩:=x
  dsimp only at hX ⊢
  have c0:W.cell? ⟨Bx,0,none⟩=some (.int .i64 x1):=zab hX 0
  have c1:W.cell? ⟨Bx,1,none⟩=some (.int .i64 x2):=zab hX 1
  have c2:W.cell? ⟨Bx,2,none⟩=some (.int .i64 x3):=zab hX 2
  have cS:=bS.cell
  have hBs:=hB.size
  have hnew:=zoi W (.int .i64 x1) (.int .i64 x2) (.int .i64 x3) 77
  gi_wp2_with (first
   | (gi_at_builtin;refine wpListIn_append_own _ rfl _ _ 200 rfl w.heap.size 77 i60 _ 3 24 Tryz.underlying200 hi hz0 hz1 hz2 rfl (by decide) _ _ _ rfl (hrow.alloc _) ⟨W.heap.size,0,none⟩ 1 1 [.int .i64 x1,.int .i64 x2,.int .i64 x3] rfl rfl hnew (by simp [Value.oneCell']) (by unfold maxLen;omega) (by omega) (by simp;omega) ?_;intro v' w1 hown' hgrow _;obtain ⟨g',cap',rfl⟩:=zfo hown';obtain ⟨hv1,hv2,hr2,hk2,hb2⟩:=bS.appended (by decide) hrow hB.size (Nat.le_refl _) hown' hgrow;have hc1:=hv1.cell;have hf1:=hv1.frozen))
  refine ⟨hk2.from _,⟨hk2.size,fun k o hk ho=>hk2.same k o hk (Obj.not_cells_of_walk ho)⟩,⟨_,hv2,?_,trivial⟩,hB.trans hb2⟩
  have e:zfe (pre ++ [(x1,x2,x3)])=zfe pre ++ [.int .i64 x1,.int .i64 x2,.int .i64 x3]:=by simp [zfe,encR]
  rw [e]
  simpa using hr2
 case done =>
  rintro D ys W hD hS ⟨⟨v,bS,hrow,_⟩,hB⟩ hK
  have cS:=bS.cell
  gi_wp2
  refine ⟨by simp,.inl ⟨_,_,rfl,run_takeDeferred hK,?_⟩⟩
  exact ⟨_,results_tmp rfl _ _ _,v,ys,rfl,hS,ownsRow_putObj hrow _ hK rfl,hB.trans (belowK_b (w:=w) (Nat.le_refl _) W D _ _ (by omega) hK rfl rfl)⟩
 case stop =>
  rintro D c pre W _ _ h _
  exact h.elim
theorem zgi (Bm b nn:Nat) (D:DataW Unit) (g:Row→Int) (hrep:Rep D g) (w:World) (hm:w.cell? ⟨Bm,0,none⟩=some (.map (some b))) (hown:w.ownsMap Tryz.prog 77 (plainElem Tryz.prog 2) b nn D) (hnn:nn≤1000000000) :
  Calls Tryz.prog 160 #[.func (.func 162) #[] #[.pointer (some ⟨Bm,0,none⟩)]] w fun e w'=>∃ v xs,e=.returned v∧zce D (fun _=>false) xs∧w'.ownsRow w.heap.size 77 3 v xs.length (zfe xs)∧RowKit.Below w.heap.size w w':=by
 have H:=hide ((callsIn_wide (n:=3)).1 (zhc 3 (by omega) Bm b nn D g hrep w hm hown hnn))
 clear hrep hm hown
 go_enter Tryz.func160,Tryz.ntmps160
 go_wp2_with fail
 refine (zaa H).mono ?_
 rintro e w1 ⟨v,xs,rfl,hK,ho,hb⟩
 clear H
 go_wp2
 go_ret
 exact ⟨v,xs,rfl,hK,ho,hb⟩
theorem zfn (b:Nat) (w:World):Calls Tryz.prog 113 #[.map (some b)] w fun e w'=>e=.returned (.func (.func 162) #[] #[.pointer (some ⟨w.heap.size,0,none⟩)])∧w'=w.alloc (.cells #[.map (some b)] 127):=by
 go_enter Tryz.func113,Tryz.ntmps113
 go_wp2
 go_ret
 exact ⟨rfl,rfl⟩
theorem zhn (w:World) (blk n:Nat) (d:Array Row) (os:Array Obj):w.grownBy (sortWorldK encR 3 w blk 0 n d os) (some blk):=by
 refine ⟨rfl,rfl,rfl,by simp [sortWorldK,grow,putRowK,putRow,mapBlock,Sort.ahead],fun k hk hne=>?_⟩
 have hk':k≠blk:=fun e=>hne (by rw [e])
 simp only [sortWorldK,grow,putRowK,putRow,mapBlock,Sort.ahead]
 rw [Array.getElem?_append_left (by simpa using hk),Array.getElem?_modify,if_neg (fun e=>hk' e.symm)]
def zgn (w:World) (v:Value) (ys:List Row):Prop:=
 ∃ a cap,v=.slice a ys.length cap∧∀ i,i<ys.length→∃ b,a=some ⟨b,0,none⟩∧w.cell? ⟨b,i*3,none⟩=some (.int .i64 (ys[i]?.getD (0,0,0)).1) ∧
  w.cell? ⟨b,i*3+1,none⟩=some (.int .i64 (ys[i]?.getD (0,0,0)).2.1)∧w.cell? ⟨b,i*3+2,none⟩=some (.int .i64 (ys[i]?.getD (0,0,0)).2.2)
theorem zp2 (xs:List Row) (i j:Nat) (hi:i<xs.length) (hj:j<3):(zfe xs)[i*3+j]? = (encR xs[i])[j]?:=by
 induction xs generalizing i with
 | nil=>simp at hi
 | cons p ps ih =>
  have hl:(encR p).length=3:=rfl
  have e:zfe (p :: ps)=encR p ++ zfe ps:=rfl
  rw [e]
  cases i with
  | zero=>rw [List.getElem?_append_left (by rw [hl];omega)];simp
  | succ i =>
   have h2:(i+1)*3+j - 3=i*3+j:=by omega
   rw [List.getElem?_append_right (by rw [hl];omega),hl,h2,ih i (by simpa using hi)]
   simp
theorem zfm {w:World} {base g cap:Nat} {xs:List Row} (h:w.ownsRow base 77 3 (.slice (some ⟨g,0,none⟩) xs.length cap) xs.length (zfe xs)):HoldsK encR 3 w g 0 xs.toArray:=by
 intro j hj
 rw [size_flatK] at hj
 have hj':j<xs.length*3:=by simpa using hj
 rw [get_flatK _ _ _ _ hj,Nat.zero_add,h.cellAt j hj',h.frozenAt j]
 refine ⟨?_,rfl⟩
 have hd:j / 3<xs.length:=by omega
 have hm:j % 3<3:=Nat.mod_lt _ (by omega)
 have e:j=j / 3*3+j % 3:=by omega
 have:=zp2 xs (j / 3) (j % 3) hd hm
 rw [← e] at this
 rw [this]
 have e2:xs.toArray[j / 3]! = xs[j / 3]:=by simp [hd]
 rw [e2]
 have hl:j % 3<(encR xs[j / 3]).length:=by simp [encR];omega
 simp [hl]
theorem zej {w:World} {g cap:Nat} {d:Array Row} (h:HoldsK encR 3 w g 0 d):zgn w (.slice (some ⟨g,0,none⟩) d.size cap) d.toList:=by
 refine ⟨some ⟨g,0,none⟩,cap,by simp,fun i hi=>⟨g,rfl,?_⟩⟩
 have hi':i<d.size:=by simpa using hi
 have e:d.toList[i]?.getD (0,0,0)=d[i]!:=by simp [hi']
 rw [e]
 have h0:=(h.cell (i:=i) (c:=0) hi' (by omega)).1
 have h1:=(h.cell (i:=i) (c:=1) hi' (by omega)).1
 have h2:=(h.cell (i:=i) (c:=2) hi' (by omega)).1
 simp only [Nat.zero_add,Nat.add_zero] at h0 h1 h2
 exact ⟨h0,h1,h2⟩
def zjt (ys:List Row):Prop:=ys.Pairwise ltR
theorem zi7 (x y:Row) (h:¬ ltR y x) (hne:x≠y):ltR x y:=by
 unfold ltR at *
 by_cases h1:x.1=y.1
 ·by_cases h2:x.2.1=y.2.1
  ·by_cases h3:x.2.2=y.2.2
   ·exact absurd (Prod.ext h1 (Prod.ext h2 h3)) hne
   ·omega
  ·omega
 ·omega
theorem zdc {d:Array Row} (h:SortedIn (ltOf cmpR) 0 d.size d) (hp:d.toList.Pairwise (·≠·)):zjt d.toList:=by
 unfold zjt
 rw [List.pairwise_iff_getElem] at hp ⊢
 intro i j hi hj hij
 have h1:=h i j (Nat.zero_le _) hij (by simpa using hj)
 rw [zch] at h1
 have e1:d[i]! = d.toList[i]:=by simp at hi;simp [hi]
 have e2:d[j]! = d.toList[j]:=by simp at hj;simp [hj]
 rw [e1,e2] at h1
 exact zi7 _ _ h1 (hp i j hi hj hij)
end Go.Proofs.YtoifcnidhfnapaaGreatDoor
namespace Go.Proofs.YtoifcnidhfnapaaGreatDoor.Sim
open Go
abbrev Tn:=List (Nat×List Nat)
def zba (T:List Nat):Operand→Bool
 | .tmp t=>!T.contains t
 | _=>true
def zdd (T:List Nat) (o:Oper):Bool:=
 match o.dst with
 | some d=>!T.contains d
 | none=>true
def argsOK (T T':List Nat) (args:Array Operand):Bool:=
 (List.range args.size).all fun j=>match args[j]? with
  | some x=>(zba T x) == !(T'.contains j)
  | none=>true
def opOK (tn:Tn) (T:List Nat) (o:Oper):Bool:=
 match o.op with
 | .move x | .assign x=>if zba T x then zdd T o else !(zdd T o)
 | .call c=>zdd T o && (match c.callee with
   | .builtin .len=>c.args.all (zba T)
   | .value (.func f)=>match tn.lookup f with
    | some T'=>argsOK T T' c.args
    | none=>false
   | .value (.tmp t)=>T.contains t && c.args.all (zba T) && c.args.size == 2
   | _=>false)
 | .pick .. | .alloc .. | .box .. | .load .. | .store .. | .nilCheck .. | .binOp .. | .unOp .. | .convert .. | .extract .. | .index .. | .indexAddr .. | .slice .. | .field .. | .fieldAddr ..=>zdd T o && o.op.operands.all (zba T)
 | _=>false
def zev (tn:Tn) (T:List Nat):Code→Bool
 | .skip | .ret | .exit _ | .label _=>true
 | .region _ ops _=>ops.all (opOK tn T)
 | .seq a b=>zev tn T a && zev tn T b
 | .cond c a b=>zba T c && zev tn T a && zev tn T b
 | .block _ b=>zev tn T b
 | .loop b=>zev tn T b
 | _=>false
def zzc (T:List Nat):ResultVar→Bool
 | .tmp t=>!T.contains t
 | .cell a _=>!T.contains a
def fnOK (P:Program) (tn:Tn) (x:Nat×List Nat):Bool:=
 match P.funcs[x.1]? with
 | some fn=>fn.name != "runtime.NumGoroutine" && fn.results.all (zzc x.2) && (match fn.body with
   | some c=>zev tn x.2 c
   | none=>false)
 | none=>false
def zd8 (tn:Tn) (T:List Nat):Item→Bool
 | .code c=>zev tn T c
 | .inBlock _=>true
 | .inLoop c=>zev tn T c
 | .inRegion ops _=>ops.all (opOK tn T)
 | _=>false
section
variable (V1 V2:Value)
def VR (T:List Nat) (i:Nat) (x y:Value):Prop:=(i ∉ T→x=y)∧(i∈T→(x=undef∧y=undef)∨(x=V1∧y=V2))
structure TRel (T:List Nat) (a b:Array Value):Prop where
 size:a.size=b.size
 each:∀ i,VR V1 V2 T i (a.getD i undef) (b.getD i undef)
end
variable {V1 V2:Value} {T:List Nat} {a b:Array Value}
theorem zvn (a:Array Value) (d i:Nat) (v:Value):(a.setIfInBounds d v).getD i undef=if d=i∧d<a.size then v else a.getD i undef:=by
 simp only [Array.getD_eq_getD_getElem?,Array.getElem?_setIfInBounds]
 by_cases h:d=i
 ·subst h
  by_cases h2:d<a.size
  ·simp [h2]
  ·simp [h2]
 ·simp [h]
theorem TRel.set (h:TRel V1 V2 T a b) {d:Nat} {v v':Value} (hv:VR V1 V2 T d v v'):TRel V1 V2 T (a.setIfInBounds d v) (b.setIfInBounds d v'):=by
 refine ⟨by simp [h.size],fun i=>?_⟩
 rw [zvn,zvn,← h.size]
 by_cases e:d=i∧d<a.size
 ·rw [if_pos e,if_pos e,← e.1];exact hv
 ·rw [if_neg e,if_neg e];exact h.each i
theorem VR.refl_undef (V1 V2:Value) (T:List Nat) (i:Nat):VR V1 V2 T i undef undef:=⟨fun _=>rfl,fun _=>.inl ⟨rfl,rfl⟩⟩
theorem VR.of_clean {i:Nat} {v:Value} (h:i ∉ T):VR V1 V2 T i v v:=⟨fun _=>rfl,fun hi=>absurd hi h⟩
theorem TRel.clean (h:TRel V1 V2 T a b) {i:Nat} (hi:i ∉ T):a.getD i undef=b.getD i undef:=(h.each i).1 hi
theorem TRel.opt (h:TRel V1 V2 T a b) {i:Nat} (hi:i ∉ T):a[i]? = b[i]?:=by
 have h1:=h.clean hi
 have h2:=h.size
 by_cases hl:i<a.size
 ·have hl':i<b.size:=by omega
  simp only [Array.getD_eq_getD_getElem?,Array.getElem?_eq_getElem hl,Array.getElem?_eq_getElem hl',Option.getD_some] at h1
  rw [Array.getElem?_eq_getElem hl,Array.getElem?_eq_getElem hl',h1]
 ·rw [Array.getElem?_eq_none (by omega),Array.getElem?_eq_none (by omega)]
def zqn (V:Value):Prop:=∀ b,V≠.bool b
theorem TRel.yielded (h:TRel V1 V2 T a b) (n1:zqn V1) (n2:zqn V2) (ops:Array Oper):yielded ops a=yielded ops b:=by
 funext j
 unfold Go.yielded
 cases hd:(ops[j]?).bind (·.dst) with
 | none=>rfl
 | some d =>
  simp only [Option.bind_some]
  by_cases hi:d∈T
  ·have key:∀ (x:Array Value) (V:Value),zqn V→(x.getD d undef=undef∨x.getD d undef=V)→(match x[d]? with|some (.bool b)=>some b|_=>none)=(none:Option Bool):=by
    intro x V hV hx
    cases hg:x[d]? with
    | none=>rfl
    | some v =>
     have hv:x.getD d undef=v:=by simp [Array.getD_eq_getD_getElem?,hg]
     rw [hv] at hx
     rcases hx with rfl|rfl
     ·rfl
     ·cases v <;> first|rfl|exact absurd rfl (hV _)
   rcases (h.each d).2 hi with ⟨h1,h2⟩|⟨h1,h2⟩
   ·exact (key a V1 n1 (.inl h1)).trans (key b V2 n2 (.inl h2)).symm
   ·exact (key a V1 n1 (.inr h1)).trans (key b V2 n2 (.inr h2)).symm
  ·rw [h.opt hi]
theorem zq7 {ρ ρ':Operand→Value} (xs:Array Operand) (h:∀ x∈xs,ρ x=ρ' x):xs.map ρ=xs.map ρ':=Array.map_congr_left h
theorem zq6 {ρ ρ':Operand→Value} (tn:Tn) (T:List Nat) (o:Oper) (hok:opOK tn T o=true) (h:∀ x∈o.op.operands,ρ x=ρ' x) (hc:∀ c,o.op≠.call c):execOp ρ o=execOp ρ' o:=by
 obtain ⟨dst,op,ty,pos,af,gd⟩:=o
 cases op <;> simp only [opOK,Bool.false_eq_true] at hok <;> (try exact absurd rfl (hc _))
 case pick c x y =>
  simp only [execOp]
  rw [h c (by simp [Op.operands]),h x (by simp [Op.operands]),h y (by simp [Op.operands])]
 case slice t x l hi m =>
  simp only [execOp]
  have hl:∀ (z:Option Operand),(∀ y∈z.toArray,ρ y=ρ' y)→z.map ρ=z.map ρ':=by
   intro z hz
   cases z with
   | none=>rfl
   | some y=>simp;exact hz y (by simp)
  rw [h x (by simp [Op.operands]),hl l (fun y hy=>h y (by simp only [Op.operands,Array.mem_append];exact .inl (.inl (.inr hy)))),hl hi (fun y hy=>h y (by simp only [Op.operands,Array.mem_append];exact .inl (.inr hy))),hl m (fun y hy=>h y (by simp only [Op.operands,Array.mem_append];exact .inr hy))]
 case store t x y =>
  simp only [execOp]
  rw [h x (by simp [Op.operands]),h y (by simp [Op.operands])]
 case binOp q t x y t' =>
  simp only [execOp]
  rw [h x (by simp [Op.operands]),h y (by simp [Op.operands])]
 case index t x y =>
  simp only [execOp]
  rw [h x (by simp [Op.operands]),h y (by simp [Op.operands])]
 case indexAddr t x y =>
  simp only [execOp]
  rw [h x (by simp [Op.operands]),h y (by simp [Op.operands])]
 all_goals (simp only [execOp])
 all_goals (rw [h _ (by simp only [Op.operands];exact Array.mem_singleton.2 rfl)])
theorem zun {ρ:Operand→Value} (tn:Tn) (T:List Nat) (P:Program) (w w':World) (o:Oper) (nx:Next) (hok:opOK tn T o=true) (hc:∀ c,o.op≠.call c) (h:(execOp ρ o).run P w=.ok nx w'):(∃ v,nx=.value v)∨nx=.skip:=by
 have hv:∀ s:Sem Value,((do let x ← s;pure (Next.value x)):Sem Next).run P w=.ok nx w'→∃ v,nx=.value v:=by
  intro s hs
  rw [Sem.run_bind] at hs
  cases hr:s.run P w with
  | ok x w2=>rw [hr] at hs;simp at hs;exact ⟨x,hs.1.symm⟩
  | halt x w2=>rw [hr] at hs;simp [Result.andThen] at hs
 have hu:∀ s:Sem Unit,((do s;pure Next.skip):Sem Next).run P w=.ok nx w'→nx=.skip:=by
  intro s hs
  rw [Sem.run_bind] at hs
  cases hr:s.run P w with
  | ok x w2=>rw [hr] at hs;simp at hs;exact hs.1.symm
  | halt x w2=>rw [hr] at hs;simp [Result.andThen] at hs
 obtain ⟨dst,op,ty,pos,af,gd⟩:=o
 cases op <;> simp only [opOK,Bool.false_eq_true] at hok <;> (try exact absurd rfl (hc _))
 case move x=>simp [execOp] at h;exact .inl ⟨_,h.1.symm⟩
 case assign x=>simp [execOp] at h;exact .inl ⟨_,h.1.symm⟩
 case pick c x y=>exact .inl (by
  simp only [execOp] at h
  rw [Sem.run_bind] at h
  cases hr:(asBool (ρ c)).run P w with
  | ok b w2=>rw [hr] at h;simp at h;exact ⟨_,h.1.symm⟩
  | halt x w2=>rw [hr] at h;simp [Result.andThen] at h)
 case store t x y=>exact .inr (hu _ h)
 case nilCheck x =>
  refine .inl ?_
  have hB:∀ {α:Type} (s:Sem α) (k:α→Sem Next) (w1:World),(∀ a w2,(k a).run P w2=.ok nx w'→∃ v,nx=.value v)→(s >>= k).run P w1=.ok nx w'→∃ v,nx=.value v:=by
   intro α s k w1 hk hs
   rw [Sem.run_bind] at hs
   cases hr:s.run P w1 with
   | ok x w2=>rw [hr] at hs;exact hk _ _ hs
   | halt x w2=>rw [hr] at hs;simp [Result.andThen] at hs
  have hp:∀ w1,(runtimePanic .nilDeref:Sem Next).run P w1=.ok nx w'→∃ v,nx=.value v:=by
   intro w1 hs
   unfold runtimePanic at hs
   refine hB _ _ _ (fun p w2 h2=>?_) hs
   simp [goPanic] at h2
  have hpu:∀ w1 v,(pure (Next.value v):Sem Next).run P w1=.ok nx w'→∃ v,nx=.value v:=by
   intro w1 v hs
   simp at hs
   exact ⟨v,hs.1.symm⟩
  simp only [execOp] at h
  split at h
  ·exact hp _ h
  ·exact hp _ h
  ·exact hp _ h
  ·split at h
   ·exact hp _ h
   ·refine hB _ _ _ (fun a w2 h2=>?_) h
    refine hB _ _ _ (fun a w3 h3=>?_) h2
    split at h3
    ·refine hB _ _ _ (fun a w4 h4=>?_) h3
     exact hpu _ _ h4
    ·exact hpu _ _ h3
   ·exact hpu _ _ h
  ·exact hpu _ _ h
 all_goals exact .inl (hv _ h)
end Go.Proofs.YtoifcnidhfnapaaGreatDoor.Sim
namespace Go.Proofs.YtoifcnidhfnapaaGreatDoor.Sim
open Go
variable {P:Program} {tn:Tn} {V1 V2:Value}
structure FR (P:Program) (tn:Tn) (V1 V2:Value) (fr fr':Frame) (T:List Nat):Prop where
 fn:fr'.fn=fr.fn
 look:tn.lookup fr.fn=some T
 tm:TRel V1 V2 T fr.tmps fr'.tmps
 todo:fr'.todo=fr.todo
 ok:∀ x∈fr.todo,zd8 tn T x=true
 d:fr.defers=[]
 d':fr'.defers=[]
 mode:fr'.mode=fr.mode
 kind:fr.kind=.normal
 kind':fr'.kind=.normal
 rnd:fr.roundOf=none
 rnd':fr'.roundOf=none
def Waits (fr:Frame) (T:List Nat):Prop:=fr.mode=.run∧∃ ops i rest k,fr.todo=.inRegion ops (i :: rest) :: k∧∀ d,(ops[i]?).bind (·.dst)=some d→d ∉ T
inductive SR (P:Program) (tn:Tn) (V1 V2:Value):List Frame→List Frame→Prop
 | nil:SR P tn V1 V2 [] []
 | cons {fr fr':Frame} {T:List Nat} {l l':List Frame}:FR P tn V1 V2 fr fr' T→Waits fr T→SR P tn V1 V2 l l'→SR P tn V1 V2 (fr :: l) (fr' :: l')
def Last:Frame:={ fn:=0,tmps:=#[],todo:=[],defers:=[{ target:=.nil,args:=#[] }],mode:=.panicking [],kind:=.normal,roundOf:=none }
def Gone (m:Machine):Prop:=∃ fr w chain,m=lone fr [] w∧fr.mode=.panicking chain∧fr.defers=[{ target:=.nil,args:=#[] }]
theorem ybd {m m':Machine} (h:Gone m):step P m≠.next m':=by
 obtain ⟨fr,w,chain,rfl,hm,hd⟩:=h
 intro hs
 have:∃ o,step P (lone fr [] w)=.ended o w:=by
  exact ⟨.unsupported (.noEntry "machine/Return: a deferred call of a nil function value, made while the frame is unwinding") (({ fr with defers:=[] }:Frame).pos P),step_lone_ended (by simp [stepG,hm,unwind,hd,callDeferred])⟩
 obtain ⟨o,ho⟩:=this
 rw [ho] at hs
 cases hs
def Dead (m:Machine):Prop:=∃ g w,m={ world:=w,gs:=#[g],rest:={ timers:=#[],alone:=none,slice:=none } } ∧
 ((g.status=.blocked∨g.status=.waiting)∨∃ d f,g.status=.running∧g.dying=some d∧d.calling=false∧d.fatal=some f)
theorem zoz {m:Machine} (h:Dead m) (fr:Frame) (cs:List Frame) (w:World):m≠lone fr cs w:=by
 obtain ⟨g,w2,rfl,h⟩:=h
 intro e
 simp [lone] at e
 obtain ⟨_,rfl⟩:=e
 rcases h with (h|h)|⟨d,f,_,h,_⟩ <;> simp at h
theorem zj3 {fr fr':Frame} {T:List Nat} (h:FR P tn V1 V2 fr fr' T) {v v':Value} (hv:∀ ops i rest k d,fr.todo=.inRegion ops (i :: rest) :: k→(ops[i]?).bind (·.dst)=some d→VR V1 V2 T d v v') :
  FR P tn V1 V2 (fr.finish v) (fr'.finish v') T:=by
 obtain ⟨f,tm,todo,df,md,kd,rd⟩:=fr
 obtain ⟨f',tm',todo',df',md',kd',rd'⟩:=fr'
 obtain ⟨h1,h2,h3,h4,h5,h6,h7,h8,h9,h10,h11,h12⟩:=h
 dsimp only at *
 subst h4
 cases todo' with
 | nil=>exact ⟨h1,h2,h3,rfl,h5,h6,h7,h8,h9,h10,h11,h12⟩
 | cons x k =>
  cases x with
  | inRegion ops l =>
   cases l with
   | nil=>exact ⟨h1,h2,h3,rfl,h5,h6,h7,h8,h9,h10,h11,h12⟩
   | cons i rest =>
    simp only [Frame.finish]
    refine ⟨h1,h2,?_,rfl,?_,h6,h7,h8,h9,h10,h11,h12⟩
    ·dsimp only
     cases hd:(ops[i]?).bind (·.dst) with
     | none=>exact h3
     | some d=>exact h3.set (hv ops i rest k d rfl hd)
    ·intro x hx
     dsimp only at hx
     rcases List.mem_cons.1 hx with rfl|hx
     ·have:=h5 _ (List.mem_cons_self ..)
      simpa [zd8] using this
     ·exact h5 _ (List.mem_cons_of_mem _ hx)
  | _=>first
   | exact ⟨h1,h2,h3,rfl,h5,h6,h7,h8,h9,h10,h11,h12⟩
   | (have:=h5 _ (List.mem_cons_self ..);simp [zd8] at this)
theorem zlr {fr fr':Frame} {T:List Nat} (h:FR P tn V1 V2 fr fr' T) (vs:List PanicEntry):FR P tn V1 V2 (fr.raise vs) (fr'.raise vs) T:=by
 obtain ⟨f,tm,todo,df,md,kd,rd⟩:=fr
 obtain ⟨f',tm',todo',df',md',kd',rd'⟩:=fr'
 obtain ⟨h1,h2,h3,h4,h5,h6,h7,h8,h9,h10,h11,h12⟩:=h
 dsimp only at *
 subst h8
 unfold Frame.raise
 cases md' <;> exact ⟨h1,h2,h3,h4,h5,h6,h7,rfl,h9,h10,h11,h12⟩
theorem zvh {fr fr':Frame} {T:List Nat} (h:FR P tn V1 V2 fr fr' T) (k:List Item) (hk:∀ x∈k,zd8 tn T x=true):FR P tn V1 V2 { fr with todo:=k } { fr' with todo:=k } T:=
 ⟨h.fn,h.look,h.tm,rfl,hk,h.d,h.d',h.mode,h.kind,h.kind',h.rnd,h.rnd'⟩
theorem ret_rel {fr fr':Frame} {T:List Nat} (h:FR P tn V1 V2 fr fr' T):FR P tn V1 V2 { fr with mode:=.returning } { fr' with mode:=.returning } T:=
 ⟨h.fn,h.look,h.tm,h.todo,h.ok,h.d,h.d',rfl,h.kind,h.kind',h.rnd,h.rnd'⟩
theorem zxp {id:Nat} {k k':List Item} (h:exitTo id k=some k'):∀ x∈k',x∈k:=by
 induction k with
 | nil=>simp [exitTo] at h
 | cons y k ih =>
  cases y with
  | inBlock id' =>
   simp only [exitTo] at h
   split at h
   ·cases h;exact fun x hx=>List.mem_cons_of_mem _ hx
   ·exact fun x hx=>List.mem_cons_of_mem _ (ih h x hx)
  | _=>exact fun x hx=>List.mem_cons_of_mem _ (ih (by simpa [exitTo] using h) x hx)
def zed (P:Program) (tn:Tn) (V1 V2:Value) (cs:List Frame) (m':Machine) (m1:Machine):Prop:=
 (∃ fr frs fr' frs' w T,m1=lone fr (frs ++ [Last]) w∧step P m'=.next (lone fr' (frs' ++ cs) w)∧FR P tn V1 V2 fr fr' T∧SR P tn V1 V2 frs frs')∨Gone m1∨Dead m1
end Go.Proofs.YtoifcnidhfnapaaGreatDoor.Sim
