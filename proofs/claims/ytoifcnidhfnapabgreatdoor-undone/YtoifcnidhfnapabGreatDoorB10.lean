import Derived.Test.YtoifcnidhfnapabGreatDoorB09
import Derived.Test.YtoifcnidhfnapabGreatDoorB05
import Derived.Test.YtoifcnidhfnapabGreatDoorB01
import Derived.Laws.CopyRow
set_option linter.unusedVariables false
set_option linter.unusedSimpArgs false
set_option maxRecDepth 100000
set_option maxHeartbeats 16000000
namespace Go.Proofs.YtoifcnidhfnapabGreatDoor
open Go.RowKit Go.Maps Go.Sort Go.Shelf
attribute [local go_sem] Oper.semAt_some
theorem Tryz.info51:(Tryz.prog.info? 51).map (fun i=>(i.zero,i.size,i.bytes))=some (some (.agg #[.slice none 0 0,.int .i64 0]),2,32):=by kernel_rfl
theorem zkl (mb:Nat) (w:World):Calls Tryz.prog 128 #[.map (some mb)] w fun e w'=>e=.returned (.func (.func 153) #[] #[.pointer (some ⟨w.heap.size,0,none⟩)])∧w'=w.alloc (.cells #[.map (some mb)] 102):=by
 go_enter Tryz.func128,Tryz.ntmps128
 go_wp2
 go_ret
 exact ⟨rfl,rfl⟩
theorem yi7 (rb ar mb:Nat) (w:World) (h:w.heap[rb]? = some (.cells #[.int .i64 ar,.map (some mb)] 104 (0,0))):Calls Tryz.prog 91 #[.pointer (some ⟨rb,0,none⟩)] w fun e w'=>e=.returned (.func (.func 153) #[] #[.pointer (some ⟨w.heap.size,0,none⟩)])∧w'=w.alloc (.cells #[.map (some mb)] 102):=by
 have c1:w.cell? ⟨rb,1,none⟩=some (.map (some mb)):=zab h 1
 clear h
 go_enter Tryz.func91,Tryz.ntmps91
 go_wp2_with fail
 refine (zkl mb w).mono ?_
 rintro e w' ⟨rfl,rfl⟩
 go_wp2
 go_ret
 exact ⟨rfl,rfl⟩
def zcp (ar:Nat) (xs:List ((Row×Int)×Nat)):List Value:=xs.flatMap fun p=>[.slice (some ⟨p.2,0,none⟩) ar ar,.int .i64 p.1.2]
def zdu (W:World) (B ar:Nat) (xs:List ((Row×Int)×Nat)):Prop:=(xs.Pairwise fun p q=>p.2<q.2)∧∀ p∈xs,W.heap[p.2]? = some (.cells (zhv ar p.1.1).toArray 2 (0,0))∧B≤p.2
def zp8 (w:World) (ar Br g cap Bp rb:Nat) (pre:List (Row×Int)) (W:World):Prop:=
 ∃ xs,xs.map (·.1)=pre∧Boxed W Br 35 (.slice (some ⟨g,0,none⟩) pre.length cap)∧W.ownsRow w.heap.size 51 2 (.slice (some ⟨g,0,none⟩) pre.length cap) pre.length (zcp ar xs)∧zdu W w.heap.size ar xs ∧
  Boxed W Bp 75 (.pointer (some ⟨rb,0,none⟩))∧Below w.heap.size w W
theorem zdu.kept {W W':World} {B ar:Nat} {xs:List ((Row×Int)×Nat)} {row:Option Nat} (h:zdu W B ar xs) (hg:W.grownBy W' row) (hrow:∀ j,row=some j→∀ cur,W.heap[j]?≠some (.cells cur 2 (0,0))):zdu W' B ar xs:=⟨h.1,fun p hp=>by
 obtain ⟨h1,h2⟩:=h.2 p hp
 refine ⟨(hg.block p.2 (Array.getElem?_eq_some_iff.1 h1).1 (fun e=>?_)).trans h1,h2⟩
 exact hrow p.2 e.symm _ h1⟩
theorem zp8.own (w:World) (ar Br g cap Bp rb B:Nat) (hB:w.heap.size≤B):OwnFrom B (zp8 w ar Br g cap Bp rb):=by
 rintro pre W W' row ⟨xs,hm,b1,ho,hv,b2,hb⟩ hg hr
 have hno:∀ k cs t,W.heap[k]? = some (.cells cs t (0,0))→some k≠row:=fun k cs t hk e=>by
  obtain ⟨_,o,h1,h2⟩:=hr k e.symm
  rw [hk] at h1;cases h1;cases h2
 refine ⟨xs,hm,b1.kept hg (hno _ _ _ b1),ho.kept hg (.inr ?_),hv.kept hg (fun j e cur hj=>hno j _ _ hj e.symm),b2.kept hg (hno _ _ _ b2),hb.grown hg hb.size (fun k e=>Nat.le_trans hB (hr k e).1)⟩
 rcases ho.2 with ⟨h,_⟩|⟨g',cap',cur,h,_,hgh,_⟩
 ·cases h
 ·simp at h
  obtain ⟨rfl,_⟩:=h
  exact fun e=>hno _ _ _ hgh (by simpa [Value.ownBlock] using e)
theorem zq0 {w W w2 w3:World} {ar Br g cap Bp rb B vb:Nat} {pre:List (Row×Int)} {x:Row×Int} {xs:List ((Row×Int)×Nat)} {tmp:Obj}
  (hm:xs.map (·.1)=pre) (bS:Boxed W Br 35 (.slice (some ⟨g,0,none⟩) pre.length cap)) (hrow:W.ownsRow w.heap.size 51 2 (.slice (some ⟨g,0,none⟩) pre.length cap) pre.length (zcp ar xs)) (hvs:zdu W w.heap.size ar xs)
  (bP:Boxed W Bp 75 (.pointer (some ⟨rb,0,none⟩))) (hB:Below w.heap.size w W) (hg2:W.grownBy w2 none) (hv2:w2.heap[vb]? = some (.cells (zhv ar x.1).toArray 2 (0,0)))
  (hrow3:w3.ownsRow w.heap.size 51 2 (.slice (some ⟨g,0,none⟩) (pre.length+1) cap) (pre.length+1) (zcp ar xs ++ [.slice (some ⟨vb,0,none⟩) ar ar,.int .i64 x.2])) (hg3:(w2.alloc tmp).grownBy w3 (some g))
  (hgB:g<B) (hBB:Br<B) (hwg:w.heap.size≤g) (hwB:w.heap.size≤Br) (hvb:W.heap.size≤vb) :
  KeepsFrom B W (w3.setCell ⟨Br,0,none⟩ (.slice (some ⟨g,0,none⟩) (pre.length+1) cap))∧zas (fun k=>k=Br∨k=g) W (w3.setCell ⟨Br,0,none⟩ (.slice (some ⟨g,0,none⟩) (pre.length+1) cap)) ∧
   zp8 w ar Br g cap Bp rb (pre ++ [x]) (w3.setCell ⟨Br,0,none⟩ (.slice (some ⟨g,0,none⟩) (pre.length+1) cap)):=by
 have hA:W.grownBy (w2.alloc tmp) none:=hg2.trans (World.grownBy_alloc _ _ none)
 have hC:=grownBy_setCell' w3 Br (.slice (some ⟨g,0,none⟩) (pre.length+1) cap)
 obtain ⟨cur,hgh⟩:∃ cur,W.heap[g]? = some (.cells cur 51 (0,0)):=by
  rcases hrow.2 with ⟨h,_⟩|⟨g',cap',cur,h,_,hgh,_⟩
  ·cases h
  ·simp at h;obtain ⟨rfl,_⟩:=h;exact ⟨cur,hgh⟩
 have hne:Br≠g:=fun e=>by rw [e] at bS;rw [show W.heap[g]? = _ from bS] at hgh;simp at hgh
 have hnP:Bp≠g:=fun e=>by rw [e] at bP;rw [show W.heap[g]? = _ from bP] at hgh;simp at hgh
 have hnP2:Bp≠Br:=fun e=>by rw [e] at bP;have h9:W.heap[Br]? = _:=bS;rw [show W.heap[Br]? = _ from bP] at h9;simp at h9
 have bS3:Boxed w3 Br 35 (.slice (some ⟨g,0,none⟩) pre.length cap):=(bS.kept hA (by simp)).kept hg3 (by simp [hne])
 have hghA:(w2.alloc tmp).heap[g]? = some (.cells cur 51 (0,0)):=(hA.block g (Array.getElem?_eq_some_iff.1 hgh).1 (by simp)).trans hgh
 refine ⟨((KeepsFrom.of_grownBy hA (fun j e=>by cases e)).trans (KeepsFrom.of_grownBy hg3 (fun j e=>by cases e;exact hgB))).trans (KeepsFrom.of_grownBy hC (fun j e=>by cases e;exact hBB)),
  ((zas.of_grown hA (fun j e=>by cases e)).trans (zas.of_grown hg3 (fun j e=>by cases e;exact .inr rfl))).trans (zas.of_grown hC (fun j e=>by cases e;exact .inl rfl)),?_⟩
 have hl:(pre ++ [x]).length=pre.length+1:=by simp
 refine ⟨xs ++ [(x,vb)],by simp [hm],?_,?_,?_,?_,?_⟩
 ·rw [hl];exact bS3.set _
 ·rw [hl]
  have e:zcp ar (xs ++ [(x,vb)])=zcp ar xs ++ [.slice (some ⟨vb,0,none⟩) ar ar,.int .i64 x.2]:=by simp [zcp]
  rw [e]
  exact hrow3.kept hC (.inr (by simp [Value.ownBlock];omega))
 ·have h2:zdu w2 w.heap.size ar (xs ++ [(x,vb)]):=by
   refine ⟨List.pairwise_append.2 ⟨hvs.1,List.pairwise_singleton _ _,fun p hp q hq=>?_⟩,fun p hp=>?_⟩
   ·simp at hq;subst hq;exact Nat.lt_of_lt_of_le (Array.getElem?_eq_some_iff.1 (hvs.2 p hp).1).1 hvb
   ·rcases List.mem_append.1 hp with hp|hp
    ·exact (hvs.kept hg2 (fun j e=>by cases e)).2 p hp
    ·simp at hp;subst hp;exact ⟨hv2,Nat.le_trans hB.size hvb⟩
  refine ((h2.kept (World.grownBy_alloc _ tmp none) (fun j e=>by cases e)).kept hg3 (fun j e c hj=>?_)).kept hC (fun j e c hj=>?_)
  ·cases e;rw [hghA] at hj;simp at hj
  ·cases e;rw [show w3.heap[Br]? = _ from bS3] at hj;simp at hj
 ·exact ((bP.kept hA (by simp)).kept hg3 (by simp [hnP])).kept hC (by simp [hnP2])
 ·refine ((hB.grown hA hB.size (fun k e=>by cases e)).grown hg3 (Nat.le_trans hB.size hA.size) (fun k e=>by cases e;exact hwg)).grown hC (Nat.le_trans (Nat.le_trans hB.size hA.size) hg3.size) (fun k e=>by cases e;exact hwB)
theorem zl9 (W:World) (a b:Value) (t:TypeId):∀ j u,[a,b][j]? = some u→(W.alloc (.cells #[a,b] t)).cell? ((⟨W.heap.size,0,none⟩:Addr).add j)=some u:=by
 intro j u hj
 match j,hj with
 | 0,hj=>cases hj;exact zab (zae _ _ _ rfl) 0
 | 1,hj=>cases hj;exact zab (zae _ _ _ rfl) 1
theorem zy7 (W:World) {Bx:Nat} {cs:Array Value} (h:W.heap[Bx]? = some (.cells cs 150 (0,0))):Bx<W.heap.size:=(Array.getElem?_eq_some_iff.1 h).1
theorem ye5 (ar:Nat) (har:ar=1∨ar=2∨ar=3) (Bx:Nat) (q:World):(Instr.sliceAt 150 (.pointer (some ⟨Bx,0,none⟩)) none (some (.int .i64 ar)) none).run Tryz.prog q=.ok (.slice (some ⟨Bx,0,none⟩) ar 3) q:=by
 rcases har with rfl|rfl|rfl <;> kernel_rfl
theorem ym0 {W w2:World} (h:W.drew.grownBy w2 none):W.grownBy w2 none:=⟨h.os,h.tape,h.output,h.size,h.block⟩
def zjz (ts:Array TypeId) (ty:TypeId) (args:Array Value):Sem Value:=Builtin.append_ ts ty args
theorem zgw (ts:Array TypeId) (ty:TypeId) (args:Array Value):Builtin.append_ ts ty args=zjz ts ty args:=rfl
theorem yk6 {w W w2:World} {g cap k:Nat} {xs:List Value} {i62:TypeInfo} (hrow:W.ownsRow w.heap.size 51 2 (.slice (some ⟨g,0,none⟩) k cap) k xs) (hg2:W.grownBy w2 none) (hi:Tryz.prog.info? 51=some i62) (hz1:i62.size=2) (vb ar:Nat) (xw:Int) (b1:k+1≤cap) :
  ∃ w3,(zjz #[35,35] 35 #[.slice (some ⟨g,0,none⟩) k cap,.slice (some ⟨w2.heap.size,0,none⟩) 1 1]).run Tryz.prog (w2.alloc (.cells #[.slice (some ⟨vb,0,none⟩) ar ar,.int .i64 xw] 51))=.ok (.slice (some ⟨g,0,none⟩) (k+1) cap) w3 ∧
   w3.ownsRow w.heap.size 51 2 (.slice (some ⟨g,0,none⟩) (k+1) cap) (k+1) (xs ++ [.slice (some ⟨vb,0,none⟩) ar ar,.int .i64 xw])∧(w2.alloc (.cells #[.slice (some ⟨vb,0,none⟩) ar ar,.int .i64 xw] 51)).grownBy w3 (some g):=by
 have hrow2:=hrow.kept hg2 (.inr (by simp [Value.ownBlock]))
 obtain ⟨w3,hrun,r1,r2⟩:=run_append_fits (P:=Tryz.prog) (w2.alloc (.cells #[.slice (some ⟨vb,0,none⟩) ar ar,.int .i64 xw] 51)) w.heap.size 35 35 51 i62 2 Tryz.underlying35 hi hz1 g k cap xs (hrow2.alloc _) ⟨w2.heap.size,0,none⟩ 1 1 [.slice (some ⟨vb,0,none⟩) ar ar,.int .i64 xw] rfl (zl9 w2 _ _ 51) (by simp [Value.oneCell']) (by omega)
 exact ⟨w3,hrun,r1,r2⟩
section
attribute [local go_sem ↓] zgw
end
def za0 (ar:Nat) (y:Row):List Int:=[y.1,y.2.1,y.2.2].take ar
theorem zn6 (ar:Nat) (y:Row):zhv ar y=(za0 ar y).map (Value.int .i64):=by simp [zhv,za0,zev]
theorem zky (ar:Nat) (xs:List ((Row×Int)×Nat)) (i j:Nat) (hi:i<xs.length) (hj:j<2):(zcp ar xs)[i*2+j]? = [Value.slice (some ⟨xs[i].2,0,none⟩) ar ar,.int .i64 xs[i].1.2][j]?:=by
 induction xs generalizing i with
 | nil=>simp at hi
 | cons p ps ih =>
  have e:zcp ar (p :: ps)=[Value.slice (some ⟨p.2,0,none⟩) ar ar,.int .i64 p.1.2] ++ zcp ar ps:=rfl
  rw [e]
  cases i with
  | zero=>rw [List.getElem?_append_left (by simp;omega)];simp
  | succ i =>
   have h2:(i+1)*2+j - 2=i*2+j:=by omega
   rw [List.getElem?_append_right (by simp;omega)]
   simp only [List.length_cons,List.length_nil,Nat.zero_add,Nat.reduceAdd,h2]
   rw [ih i (by simpa using hi)]
   simp
theorem zki {w:World} {m ar:Nat} {v:Value} {xs:List ((Row×Int)×Nat)} (har:ar≤3) (h:w.ownsRow m 51 2 v xs.length (zcp ar xs)) (hr:zdu w m ar xs):zc3 w v (xs.map fun p=>(za0 ar p.1.1,p.1.2)):=by
 rcases h.2 with ⟨rfl,h0⟩|⟨g,cap,cur,rfl,_,hg,_,_,_,ht⟩
 ·have:xs=[]:=List.eq_nil_of_length_eq_zero h0
  subst this
  exact ⟨none,0,rfl,fun i hi=>by simp at hi⟩
 ·refine ⟨some ⟨g,0,none⟩,cap,by simp,fun i hi=>?_⟩
  have hi':i<xs.length:=by simpa using hi
  have hx:((xs.map fun p=>(za0 ar p.1.1,p.1.2))[i]?.getD ([],0))=(za0 ar xs[i].1.1,xs[i].1.2):=by simp [hi']
  rw [hx]
  have hcell:∀ j,j<2→cur[i*2+j]? = [Value.slice (some ⟨xs[i].2,0,none⟩) ar ar,.int .i64 xs[i].1.2][j]?:=by
   intro j hj
   rw [← zky ar xs i j hi' hj,← ht,List.getElem?_take_of_lt (by omega)]
   simp
  refine ⟨g,0,.slice (some ⟨xs[i].2,0,none⟩) ar ar,rfl,?_,?_,?_⟩
  ·rw [zab hg,Nat.zero_add];exact hcell 0 (by omega)
  ·have hb:=(hr.2 _ (List.getElem_mem hi')).1
   rw [zn6] at hb
   have hl:(za0 ar xs[i].1.1).length=ar:=by simp [za0];omega
   have:=zeh hb ar
   rwa [hl] at this
  ·rw [zab hg,Nat.zero_add];exact hcell 1 (by omega)
structure zhf (f:Row→Int) (ys:List Row):Prop where
 rising:ze4 ys
 wf:∀ y∈ys,zaw y
 mem:∀ r,zaw r→(r∈ys↔f r≠0)
def zcc (ar:Nat) (f:Row→Int) (ys:List Row):List (List Int×Int):=ys.map fun y=>(za0 ar y,f y)
end Go.Proofs.YtoifcnidhfnapabGreatDoor
namespace Go.Proofs.YtoifcnidhfnapabGreatDoor
open Go.RowKit Go.Maps
structure Raw where
 a:Option Addr
 n:Nat
 cap:Nat
 wt:Int
def kept (rs:List Raw):List Raw:=rs.filter fun r=>decide (r.wt≠0)
theorem zmu {P:Program} (w:World) {ops:Array Oper} {rest:List Oper} {o:Oper} {a:Act} {Q:Exit→Act→World→Prop} (hgd:o.guard=none) (s x:Operand) (t:TypeId)
  (ho:o.op=.call { callee:=.builtin .append,args:=#[s,x],argTypes:=#[t,t] })
  (base:Nat) (e:TypeId) (i:TypeInfo) (z:Value) (size bytes:Nat) (ht:P.underlying t=some (.slice e)) (hi:P.info? e=some i) (hz:i.zero=some z)
  (hsize:i.size=size) (hby:i.bytes=bytes) (hzs:z.cells.size=size) (hsz:0<size)
  (v:Value) (n:Nat) (xs:List Value) (hs:a.eval s=v) (hown:w.ownsRow base e size v n xs)
  (p:Option Addr) (m c:Nat) (news:List Value) (hx:a.eval x=.slice p m c) (hp:p=none→m=0∧c=0) (hl:news.length=m*size) (hnews:∀ ad,p=some ad→∀ j u,news[j]? = some u→w.cell? (ad.add j)=some u) (h1:∀ u∈news,u.oneCell'=true)
  (h63:n+m≤maxLen) (hbytes:(n+m)*bytes≤140737488355328) (hbase:base≤w.heap.size)
  (h:∀ v' w',w'.ownsRow base e size v' (n+m) (xs ++ news)→w.grownBy w' v.ownBlock→wpList P ops Q rest (a.put o.dst v') w') :
  wpList P ops Q (o :: rest) a w:=by
 cases p with
 | some ad=>exact wpList_append_own_at w hgd s x t ho base e i z size bytes ht hi hz hsize hby hzs hsz v n xs hs hown ad m c news hx hl (hnews ad rfl) h1 h63 hbytes hbase (fun v' w' h1 h2 _ _=>h v' w' h1 h2)
 | none =>
  obtain ⟨rfl,rfl⟩:=hp rfl
  have hr:=run_append_owned_none (P:=P) (w:=w) base t o.type e i size ht hi v n xs hown
  have hn:news=[]:=List.eq_nil_of_length_eq_zero (by omega)
  subst hn
  refine wpList_plain hgd fun K hK=>?_
  unfold Oper.wp execOp
  simp only [ho,resolve,invoke,builtin,Sem.run_bind,Sem.run_pure,Result.andThen_ok,List.map_toArray,List.map_cons,List.map_nil,hs,hx,hr]
  exact hK _ _ (h v w (by simpa using hown) ⟨rfl,rfl,rfl,Nat.le_refl _,fun _ _ _=>rfl⟩)
theorem zan {w:World} {base:Nat} {e:TypeId} {size:Nat} {v:Value} {n:Nat} {xs:List Value} (h:w.ownsRow base e size v n xs):∃ p c,v=.slice p n c∧n≤c∧(p=none→n=0∧c=0)∧(∀ ad,p=some ad→∃ g,ad=⟨g,0,none⟩∧base≤g∧g<w.heap.size∧∀ j,j<n*size→w.cell? ⟨g,j,none⟩=xs[j]?):=by
 have h0:=h
 rcases h.2 with ⟨rfl,rfl⟩|⟨g,c,cur,rfl,hb,hg,hc,_⟩
 ·exact ⟨none,0,rfl,Nat.le_refl _,fun _=>⟨rfl,rfl⟩,fun ad e=>by cases e⟩
 ·exact ⟨_,c,rfl,hc,(fun e=>by cases e),fun ad e=>by cases e;exact ⟨g,rfl,hb,(Array.getElem?_eq_some_iff.1 hg).1,fun j hj=>by rw [h0.cellAt j hj]⟩⟩
end Go.Proofs.YtoifcnidhfnapabGreatDoor
namespace Go.Proofs.YtoifcnidhfnapabGreatDoor
open Go.RowKit Go.Maps Go.Sort Go.Shelf
theorem Tryz.info197:(Tryz.prog.info? 197).map (fun i=>(i.zero,i.size,i.bytes))=some (some (.slice none 0 0),1,24):=by kernel_rfl
theorem yeo {w:World} {base B n:Nat} {sv:Value} {xs:List Value} {cs:Array Value} (h:w.ownsRow base 197 1 sv n xs) (hB:w.heap[B]? = some (.cells cs 124 (0,0))):sv.ownBlock≠some B:=by
 rcases h.2 with ⟨h,_⟩|⟨g,cap,cur,h,_,hgh,_⟩
 ·rw [h];simp [Value.ownBlock]
 ·rw [h]
  simp only [Value.ownBlock]
  intro e
  injection e with e
  rw [e,hB] at hgh
  simp at hgh
theorem zho {w:World} {base n g:Nat} {sv:Value} {xs:List Value} (h:w.ownsRow base 197 1 sv n xs) (hg:sv.ownBlock=some g):base≤g:=by
 rcases h.2 with ⟨h,_⟩|⟨g',cap,cur,h,hb,_⟩
 ·rw [h] at hg;simp [Value.ownBlock] at hg
 ·rw [h] at hg
  simp only [Value.ownBlock] at hg
  injection hg with e
  omega
theorem zek {w:World} {base n:Nat} {sv:Value} {xs:List Value} (h:w.ownsRow base 197 1 sv n xs):∃ a cap,sv=.slice a n cap:=by
 rcases h.2 with ⟨h,h0⟩|⟨g',cap,cur,h,_⟩
 ·rw [h,h0];exact ⟨none,0,rfl⟩
 ·exact ⟨_,cap,h⟩
theorem ztb {w:World} {B:Nat} {x y v:Value} {t:TypeId} (h:w.heap[B]? = some (.cells #[x,y] t (0,0))):(w.setCell ⟨B,0,none⟩ v).heap[B]? = some (.cells #[v,y] t (0,0)):=by
 simp only [World.setCell]
 rw [Array.getElem?_modify,if_pos rfl,h]
 rfl
def zt2 (vals:List Value) (n:Nat) (v:Value):List Value:=if n=0 then vals else vals ++ [v]
theorem zs4 (B:Nat) (sv:Value) (vals:List Value) (c:Int) (b o n cp base:Nat) (W:World) (hB:W.heap[B]? = some (.cells #[sv,.int .i64 c] 124 (0,0))) (ho:W.ownsRow base 197 1 sv vals.length vals) (hb:base≤B+1) (hl:vals.length≤1000000000) (hn:n≤1000000000000) :
  Calls Tryz.prog 129 #[.pointer (some ⟨B,0,none⟩),.slice (some ⟨b,o,none⟩) n cp] W fun e w'=>e=.returned (.tuple #[])∧∃ sv',w'.heap[B]? = some (.cells #[sv',.int .i64 c] 124 (0,0)) ∧
   w'.ownsRow base 197 1 sv' (zt2 vals n (.slice (some ⟨b,o,none⟩) n cp)).length (zt2 vals n (.slice (some ⟨b,o,none⟩) n cp))∧W.heap.size≤w'.heap.size∧(∀ k,k<W.heap.size→k≠B→sv.ownBlock≠some k→w'.heap[k]? = W.heap[k]?)∧w'.os=W.os∧w'.tape=W.tape∧w'.output=W.output:=by
 obtain ⟨i,hi,hz0,hz1,hz2⟩:=info_parts Tryz.info197
 have hBl:B<W.heap.size:=(Array.getElem?_eq_some_iff.1 hB).1
 have c0:W.cell? ⟨B,0,none⟩=some sv:=zab hB 0
 by_cases hz:n=0
 ·subst hz
  have HB:=zac hB
  have Ho:=zac ho
  clear hB ho
  go_enter Tryz.func129,Tryz.ntmps129
  go_wp2
  go_end0
  exact ⟨rfl,sv,zaa HB,by simpa [zt2] using zaa Ho,Nat.le_refl _,fun _ _ _ _=>rfl,rfl,rfl,rfl⟩
 ·have hn0:(0:Int)<(n:Int):=by omega
  have hBA:(W.alloc (.cells #[.slice (some ⟨b,o,none⟩) n cp] 197)).heap[B]? = some (.cells #[sv,.int .i64 c] 124 (0,0)):=(Below.heap_alloc _ _ _ hBl).trans hB
  have cA:(W.alloc (.cells #[.slice (some ⟨b,o,none⟩) n cp] 197)).cell? ⟨B,0,none⟩=some sv:=zab hBA 0
  have hoA:=ho.alloc (.cells #[.slice (some ⟨b,o,none⟩) n cp] 197)
  have hne:=yeo hoA hBA
  have hbs:base≤W.heap.size:=by omega
  have hnew:∀ j u,[Value.slice (some ⟨b,o,none⟩) n cp][j]? = some u→(W.alloc (.cells #[.slice (some ⟨b,o,none⟩) n cp] 197)).cell? ((⟨W.heap.size,0,none⟩:Addr).add j)=some u:=by
   intro j u hj
   match j,hj with
   | 0,hj=>cases hj;exact zab (zae _ _ _ rfl) 0
  have HBA:=zac hBA
  have HoA:=zac hoA
  have Hnew:=zac hnew
  have Hne:=zac hne
  clear hB ho hoA hBA hnew hne
  go_enter Tryz.func129,Tryz.ntmps129
  go_wp2_with (first
   | (refine zmu _ rfl (.tmp 11) (.tmp 13) 122 rfl base 197 i _ 1 24 Tryz.underlying122 hi hz0 hz1 hz2 rfl (by decide) sv vals.length vals rfl (zaa HoA) (some ⟨W.heap.size,0,none⟩) 1 1 [.slice (some ⟨b,o,none⟩) n cp] rfl (fun e=>by cases e) rfl (fun ad e=>by cases e;exact zaa Hnew) (by simp [Value.oneCell']) (by unfold maxLen;omega) (by omega) (by simp;omega) ?_;intro sv' w3 hrow3 hg3;have hB3:=(hg3.block B (by simp;omega) (fun e=>(zaa Hne) e.symm)).trans (zaa HBA);have c3:w3.cell? ⟨B,0,none⟩=some sv:=zab hB3 0;have f3:w3.frozen? ⟨B,0,none⟩=false:=zad hB3 0;have Hrow3:=zac hrow3;have Hg3:=zac hg3;have HB3:=zac hB3;obtain ⟨a',cap',rfl⟩:=zek hrow3;clear hrow3 hg3 hB3))
  go_end0
  have hC:=grownBy_setCell' w3 B (.slice a' (vals.length+1) cap')
  have hne3:=yeo (zaa Hrow3) (zaa HB3)
  have e:zt2 vals n (.slice (some ⟨b,o,none⟩) n cp)=vals ++ [.slice (some ⟨b,o,none⟩) n cp]:=by unfold zt2;rw [if_neg hz]
  refine ⟨rfl,_,ztb (zaa HB3),?_,?_,fun k hk h1 h2=>?_,hC.os.trans (zaa Hg3).os,hC.tape.trans (zaa Hg3).tape,hC.output.trans (zaa Hg3).output⟩
  ·rw [e]
   have:=(zaa Hrow3).kept hC (.inr hne3)
   simpa using this
  ·have h1:=(zaa Hg3).size
   have h2:=hC.size
   simp at h1
   omega
  ·exact (hC.block k (by have:=(zaa Hg3).size;simp at this;omega) (by simp;exact h1)).trans (((zaa Hg3).block k (by simp;omega) (fun e=>h2 e.symm)).trans (Below.heap_alloc _ _ _ hk))
def zxx (c:Nat) (z:Int) (r:List zai):List zai:=zqs c z (zfc c z r)
def zcz (c:Nat) (z:Int) (rs:List (List zai)):List (List zai):=(rs.map (zxx c z)).filter fun r=>!r.isEmpty
theorem zu5 (c:Nat) (z:Int) (rs:List (List zai)) (k:Nat) (hk:k<rs.length):zcz c z (rs.take (k+1))=if zxx c z (rs[k]?.getD [])=[] then zcz c z (rs.take k) else zcz c z (rs.take k) ++ [zxx c z (rs[k]?.getD [])]:=by
 unfold zcz
 rw [List.take_succ_eq_append_getElem hk,List.map_append,List.filter_append]
 have e:rs[k]?.getD []=rs[k]:=by simp [hk]
 rw [e]
 by_cases h:zxx c z rs[k]=[]
 ·simp [h]
 ·simp [h]
def zdz (W:World) (vals:List Value) (rs:List (List zai)):Prop:=vals.length=rs.length∧∀ i,i<rs.length→∃ b o cp,b<W.heap.size∧vals[i]? = some (.slice (some ⟨b,o,none⟩) (rs[i]?.getD []).length cp)∧zb1 W (.slice (some ⟨b,o,none⟩) (rs[i]?.getD []).length cp) (rs[i]?.getD [])
theorem zdz.add {W:World} {vals:List Value} {rs:List (List zai)} (h:zdz W vals rs) {r:List zai} {b o cp:Nat} (hr:zb1 W (.slice (some ⟨b,o,none⟩) r.length cp) r):zdz W (zt2 vals r.length (.slice (some ⟨b,o,none⟩) r.length cp)) (if r=[] then rs else rs ++ [r]):=by
 by_cases he:r=[]
 ·subst he
  simpa [zt2] using h
 ·have hl:r.length≠0:=fun e=>he (List.eq_nil_of_length_eq_zero e)
  rw [if_neg he]
  unfold zt2
  rw [if_neg hl]
  have hb:b<W.heap.size:=by
   obtain ⟨a,cap,e,_,hx⟩:=id hr
   obtain ⟨b',o',e',x0,_⟩:=hx 0 (by omega)
   injection e with e1 e2 e3
   have e4:=e1.trans e'
   injection e4 with e4
   injection e4 with e5 e6
   subst e5
   exact World.block_lt_of_cell? W _ x0
  obtain ⟨h1,h2⟩:=h
  refine ⟨by simp [h1],fun i hi=>?_⟩
  simp at hi
  by_cases hlt:i<rs.length
  ·obtain ⟨b',o',cp',x0,x1,x2⟩:=h2 i hlt
   refine ⟨b',o',cp',x0,?_,?_⟩
   ·rw [List.getElem?_append_left (by omega),List.getElem?_append_left hlt];exact x1
   ·rw [List.getElem?_append_left hlt];exact x2
  ·have hie:i=rs.length:=by omega
   subst hie
   refine ⟨b,o,cp,hb,?_,?_⟩
   ·rw [← h1];simp [h1]
   ·simpa using hr
theorem zb1.back {w W:World} {b o n cp:Nat} {es:List zai} (h:zb1 w (.slice (some ⟨b,o,none⟩) n cp) es) (hb:w.heap[b]? = W.heap[b]?):zb1 W (.slice (some ⟨b,o,none⟩) n cp) es:=by
 obtain ⟨a,cap,e,hc,hx⟩:=h
 refine ⟨a,cap,e,hc,fun i hi=>?_⟩
 obtain ⟨b',o',e',x0,x1,x2,x3⟩:=hx i hi
 injection e with e1 e2 e3
 have e4:=e1.trans e'
 injection e4 with e4
 injection e4 with e5 e6
 subst e5 e6
 have key:∀ q,W.cell? ⟨b,q,none⟩=w.cell? ⟨b,q,none⟩:=fun q=>World.cell?_of_block (w:=w) (a:=⟨b,q,none⟩) hb.symm
 obtain ⟨x3,cs,x4⟩:=x3
 exact ⟨b,o,e',(key _).trans x0,(key _).trans x1,(key _).trans x2,(key _).trans x3,cs,hb.symm.trans x4⟩
theorem zb1.blk {W:World} {b o n cp:Nat} {es:List zai} (h:zb1 W (.slice (some ⟨b,o,none⟩) n cp) es) (he:es≠[]):b<W.heap.size:=by
 obtain ⟨a,cap,e,_,hx⟩:=h
 obtain ⟨b',o',e',x0,_⟩:=hx 0 (by cases es with|nil=>exact absurd rfl he|cons=>simp)
 injection e with e1 e2 e3
 have e4:=e1.trans e'
 injection e4 with e4
 injection e4 with e5 e6
 subst e5
 exact World.block_lt_of_cell? W _ x0
theorem zs0 {w:World} {base B n:Nat} {sv:Value} {xs:List Value} {cs:Array Value} (h:w.ownsRow base 197 1 sv n xs) (hB:w.heap[B]? = some (.cells cs 124 (0,0))):sv.ownBlock≠some B:=yeo h hB
theorem zar (n:Nat) (w:World):Below n w w.drew:=⟨rfl,rfl,rfl,Nat.le_refl _,fun _ _=>rfl⟩
theorem yma {w w':World} {base n:Nat} {v:Value} {xs:List Value} (h:w.ownsRow base 197 1 v n xs) (hb:Below w.heap.size w w'):w'.ownsRow base 197 1 v n xs:=by
 obtain ⟨a,cap,rfl⟩:=zek h
 exact h.kept (row:=none) ⟨hb.os,hb.tape,hb.output,hb.size,fun k hk _=>hb.block k hk⟩ (by cases a with|none=>exact .inl rfl|some x=>exact .inr (by simp [Value.ownBlock]))
theorem zlh {w W:World} {base:Nat} {sv:Value} {vals:List Value} {rs:List (List zai)} (ho:w.ownsRow base 197 1 sv vals.length vals) (hv:zdz W vals rs) (hb:Below W.heap.size W w):zay w sv rs:=by
 obtain ⟨h1,h2⟩:=hv
 obtain ⟨a,cap,rfl⟩:=zek ho
 refine ⟨a,cap,by rw [h1],fun i hi=>?_⟩
 obtain ⟨b,o,cp,x0,x1,x2⟩:=h2 i hi
 rcases ho.2 with ⟨e,e0⟩|⟨g,cap',cur,e,_⟩
 ·injection e with e1 e2 e3
  omega
 ·injection e with e1 e2 e3
  subst e1 e3
  refine ⟨g,0,b,o,cp,rfl,?_,x2.below hb⟩
  have:=ho.cellAt i (by rw [h1];omega)
  rw [x1] at this
  simpa using this
theorem zrh (rs:List (List zai)) (c:Nat) (z:Int) (sv:Value) (W:World) (h:zay W sv rs) (hs:∀ r∈rs,zbk c r) (hc:c<3) (hn:∀ r∈rs,r.length≤1000000000000) (hl:rs.length≤100000000) :
  Calls Tryz.prog 130 #[.agg #[sv,.int .i64 c],.int .i64 z] W fun e w'=>∃ sv',e=.returned (.agg #[sv',.int .i64 ((c+1:Nat):Int)])∧zay w' sv' (zcz c z rs)∧Below W.heap.size W w'∧∀ g,sv'.ownBlock=some g→W.heap.size<g:=by
 obtain ⟨a,cap,rfl,hx⟩:=h
 obtain ⟨W3,hW3⟩:∃ W3,W3=((W.alloc (.cells #[.slice a rs.length cap,.int .i64 c] 124)).alloc (.cells #[.slice none 0 0,.int .i64 0] 124)).alloc (.cells #[.slice none 0 0,.int .i64 (c+1)] 124):=⟨_,rfl⟩
 have hb3:Below W.heap.size W W3:=by rw [hW3];exact (((Below.refl _ _).alloc (Nat.le_refl _) _).alloc (by simp) _).alloc (by simp;omega) _
 have hsz:W3.heap.size=W.heap.size+3:=by rw [hW3];simp
 have hB0:W3.heap[W.heap.size]? = some (.cells #[.slice a rs.length cap,.int .i64 c] 124 (0,0)):=by
  rw [hW3]
  exact (Below.heap_alloc _ _ _ (by simp;omega)).trans ((Below.heap_alloc _ _ _ (by simp)).trans (zae _ _ _ rfl))
 have hB1:W3.heap[W.heap.size+1]? = some (.cells #[.slice none 0 0,.int .i64 0] 124 (0,0)):=by
  rw [hW3]
  exact (Below.heap_alloc _ _ _ (by simp)).trans (zae _ _ _ (by simp))
 have hB2:W3.heap[W.heap.size+2]? = some (.cells #[.slice none 0 0,.int .i64 (c+1)] 124 (0,0)):=by
  rw [hW3]
  exact zae _ _ _ (by simp)
 have c0:W3.cell? ⟨W.heap.size,0,none⟩=some (.slice a rs.length cap):=zab hB0 0
 have Hb3:=zac hb3
 have Hsz:=zac hsz
 have HB0:=zac hB0
 have HB1:=zac hB1
 have HB2:=zac hB2
 have Hs:=zac hs
 have Hn:=zac hn
 have Hx:=zac hx
 clear hb3 hsz hB0 hB1 hB2 hs hn hx
 go_enter Tryz.func130,Tryz.ntmps130
 go_wp2
 rw [← hW3]
 clear hW3
 try go_wp2
 go_loopw [15] (fun i wr=>∃ (k:Nat) (svk:Value) (vals:List Value),k≤rs.length∧i=.int .i64 k∧wr.heap[W.heap.size+2]? = some (.cells #[svk,.int .i64 (c+1)] 124 (0,0))∧wr.ownsRow (W.heap.size+3) 197 1 svk vals.length vals∧vals.length≤k ∧
   zdz W vals (zcz c z (rs.take k))∧W3.heap.size≤wr.heap.size∧(∀ q,q<W3.heap.size→q≠W.heap.size+2→wr.heap[q]? = W3.heap[q]?)∧(wr.os=W3.os∧wr.tape=W3.tape∧wr.output=W3.output)) (fun i _=>rs.length - (intOf i).toNat)
 case atStart=>exact ⟨0,.slice none 0 0,[],Nat.zero_le _,rfl,zaa HB2,World.ownsRow_nil _ _ _ _,Nat.le_refl _,⟨rfl,fun i hi=>by simp [zcz] at hi⟩,Nat.le_refl _,fun _ _ _=>rfl,rfl,rfl,rfl⟩
 case round =>
  obtain ⟨k,svk,vals,hk,rfl,hR,hO,hvl,hV,hS,hF,hT⟩:=hrel
  by_cases hlt:k<rs.length
  ·have hkx:(k:Int)<(rs.length:Int):=by omega
   obtain ⟨g,q,b,o,cp,rfl,d0,hr⟩:=(zaa Hx) k hlt
   have hmem:rs[k]?.getD []∈rs:=by simp [hlt]
   have hso:=(zaa Hs) _ hmem
   have hle:=(zaa Hn) _ hmem
   have hsucc:=zu5 c z rs k hlt
   have hgl:=World.block_lt_of_cell? W _ d0
   have hold:∀ q,q<W.heap.size→wr.heap[q]? = W.heap[q]?:=fun q hq=>(hF q (by rw [zaa Hsz];omega) (by omega)).trans ((zaa Hb3).block q hq)
   have d0':wr.cell? ⟨g,q+k,none⟩=_:=(World.cell?_of_block (w:=W) (a:=⟨g,q+k,none⟩) (hold g hgl)).trans d0
   have hB0r:wr.heap[W.heap.size]? = some (.cells #[.slice (some ⟨g,q,none⟩) rs.length cap,.int .i64 c] 124 (0,0)):=(hF _ (by rw [zaa Hsz];omega) (by omega)).trans (zaa HB0)
   have c1:wr.cell? ⟨W.heap.size,1,none⟩=some (.int .i64 c):=zab hB0r 1
   obtain ⟨r,hre⟩:∃ r,r=rs[k]?.getD []:=⟨_,rfl⟩
   rw [← hre] at hr hso hle hsucc d0'
   have hrr:zb1 wr.drew (.slice (some ⟨b,o,none⟩) r.length cp) r:=by
    by_cases he:r=[]
    ·subst he
     exact ⟨_,cp,rfl,hr.cap,fun i hi=>by simp at hi⟩
    ·exact hr.back ((hold b (hr.blk he)).symm)
   have hback:∀ (w4:World) (o2 cp2:Nat) (s:List zai),Below wr.heap.size wr w4→(s≠[]→r≠[])→zb1 w4 (.slice (some ⟨b,o2,none⟩) s.length cp2) s→zb1 W (.slice (some ⟨b,o2,none⟩) s.length cp2) s:=by
    intro w4 o2 cp2 s hb4 hsr h4
    by_cases he:s=[]
    ·subst he
     exact ⟨_,cp2,rfl,h4.cap,fun i hi=>by simp at hi⟩
    ·have hbl:=hr.blk (hsr he)
     refine h4.back ((hb4.block b (Nat.lt_of_lt_of_le hbl ?_)).trans (hold b hbl))
     have:=hS;have:=zaa Hsz;omega
   have hlf:(zfc c z r).length≤1000000000000:=by unfold zfc;rw [List.length_drop];omega
   have hls:(zxx c z r).length≤1000000000000:=by unfold zxx zqs;rw [List.length_take];omega
   have hsf:zbk c (zfc c z r):=by rw [zsd hso];exact hso.filter _
   have hsr:zxx c z r≠[]→r≠[]:=by
    intro h1 h2
    subst h2
    exact h1 rfl
   have hwl:W.heap.size+3≤wr.heap.size:=by have:=zaa Hsz;omega
   have Hrr:=zac hrr
   have Hback:=zac hback
   have Hso:=zac hso
   have Hsf:=zac hsf
   have Hsucc:=zac hsucc
   have HR:=zac hR
   have HO:=zac hO
   have HV:=zac hV
   have HF:=zac hF
   have HT:=zac hT
   have Hsr:=zac hsr
   have Hhold:=zac hold
   have hbd:Below wr.heap.size wr wr.drew:=zar _ _
   have Hbd:=zac hbd
   clear hrr hback hso hsf hsucc hR hO hV hF hT hsr hold hbd hr hre hmem d0 hB0r
   go_wp2_with fail
   go_region_with (first
    | (go_at_call 156;refine (zyp r b o cp c z _ (by exact zaa Hrr) hc (zaa Hso) hle).mono ?_;rintro e w4 ⟨o',cap',rfl,hr4,hb4⟩;have Hb4:=zac ((zaa Hbd).trans hb4);have Hr4:=zac (hr4.below hb4);have c4:w4.cell? ⟨W.heap.size,1,none⟩=some (.int .i64 c):=((zaa Hb4).cell (p:=⟨W.heap.size,1,none⟩) (World.block_lt_of_cell? _ _ c1)).trans c1;clear hr4 hb4)
    | (go_at_call 157;refine (yii (zfc c z r) b o' cap' c z w4 (zaa Hr4) hc (zaa Hsf) hlf).mono ?_;rintro e w5 ⟨o2,cap2,rfl,hr5,hb5⟩;have Hr5:=zac ((zaa Hback) w4 o2 cap2 (zxx c z r) (zaa Hb4) (zaa Hsr) hr5);have Hb5:=zac ((zaa Hb4).trans (hb5.mono (zaa Hb4).size));clear hr5 hb5)
    | (go_at_call 129;refine (zs4 (W.heap.size+2) svk vals (c+1) b o2 (zxx c z r).length cap2 (W.heap.size+3) w5 (((zaa Hb5).block _ (by omega)).trans (zaa HR)) (yma (zaa HO) (zaa Hb5)) (by omega) (by omega) hls).mono ?_;rintro e w6 ⟨rfl,sv6,hR6,hO6,hs6,hk6,hos6⟩))
   all_goals
    have hrel:∃ (k2:Nat) (svk:Value) (vals2:List Value),k2≤rs.length∧(k:Int)+1=(k2:Int)∧w6.heap[W.heap.size+2]? = some (.cells #[svk,.int .i64 (c+1)] 124 (0,0))∧w6.ownsRow (W.heap.size+3) 197 1 svk vals2.length vals2∧vals2.length≤k2 ∧
      zdz W vals2 (zcz c z (rs.take k2))∧W3.heap.size≤w6.heap.size∧(∀ q,q<W3.heap.size→q≠W.heap.size+2→w6.heap[q]? = W3.heap[q]?)∧(w6.os=W3.os∧w6.tape=W3.tape∧w6.output=W3.output):=by
     have hb5:=zaa Hb5
     have hs5:=hb5.size
     refine ⟨k+1,sv6,_,by omega,by simp,hR6,hO6,?_,?_,by omega,fun q hq hne=>?_,?_⟩
     ·unfold zt2
      split
      ·omega
      ·simp;omega
     ·rw [zaa Hsucc]
      exact (zaa HV).add (zaa Hr5)
     ·have hlt5:q<wr.heap.size:=by omega
      refine (hk6 q (by omega) hne (fun e=>?_)).trans ((hb5.block q hlt5).trans ((zaa HF) q hq hne))
      have:=zho (zaa HO) e
      have:=zaa Hsz
      omega
     ·exact ⟨hos6.1.trans (hb5.os.trans (zaa HT).1),hos6.2.1.trans (hb5.tape.trans (zaa HT).2.1),hos6.2.2.trans (hb5.output.trans (zaa HT).2.2)⟩
    have Hrel:=zac hrel
    clear hrel hR6 hO6 hs6 hk6 hos6
    go_wp2
    obtain ⟨k2,sv2,vals2,y1,y2,y3⟩:=zaa Hrel
    refine ⟨⟨k2,sv2,vals2,y1,by rw [y2],y3⟩,by simp [intOf];omega⟩
  ·have hke:k=rs.length:=by omega
   subst hke
   rw [List.take_length] at hV
   obtain ⟨a2,cap2,rfl⟩:=zek hO
   have hB1r:wr.heap[W.heap.size+1]? = some (.cells #[.slice none 0 0,.int .i64 0] 124 (0,0)):=(hF _ (by rw [zaa Hsz];omega) (by omega)).trans (zaa HB1)
   have e0:wr.cell? ⟨W.heap.size+2,0,none⟩=some (.slice a2 vals.length cap2):=zab hR 0
   have e1:wr.cell? ⟨W.heap.size+2,1,none⟩=some (.int .i64 (c+1)):=zab hR 1
   have g0:wr.cell? ⟨W.heap.size+1,0,none⟩=some (.slice none 0 0):=zab hB1r 0
   have g1:wr.cell? ⟨W.heap.size+1,1,none⟩=some (.int .i64 0):=zab hB1r 1
   have f0:wr.frozen? ⟨W.heap.size+1,0,none⟩=false:=zad hB1r 0
   have f1:wr.frozen? ⟨W.heap.size+1,1,none⟩=false:=zad hB1r 1
   have hbw:Below W.heap.size W wr:=⟨hT.1.trans (zaa Hb3).os,hT.2.1.trans (zaa Hb3).tape,hT.2.2.trans (zaa Hb3).output,Nat.le_trans (zaa Hb3).size hS,fun q hq=>(hF q (by rw [zaa Hsz];omega) (by omega)).trans ((zaa Hb3).block q hq)⟩
   have hO2:=zs0 hO hB1r
   have HO:=zac hO
   have HV:=zac hV
   have Hbw:=zac hbw
   have HO2:=zac hO2
   clear hO hV hF hT hbw hR hB1r hO2
   go_wp2
   have hga:=za6 wr ⟨W.heap.size+1,0,none⟩ (.slice a2 vals.length cap2)
   have hgb:=za6 (wr.setCell ⟨W.heap.size+1,0,none⟩ (.slice a2 vals.length cap2)) ⟨W.heap.size+1,1,none⟩ (.int .i64 (c+1))
   have hgs:=hga.trans hgb
   have hb9:=(zaa Hbw).grown hgs (zaa Hbw).size (fun k e=>by cases e;simp)
   have hr9:=zlh ((zaa HO).kept hgs (.inr (zaa HO2))) (zaa HV) hb9
   refine bodyPost_ret (v:=.agg #[.slice a2 vals.length cap2,.int .i64 (c+1)]) (by simp [results,Tryz.results130,go_sem,g0,g1,f0,f1]) rfl ⟨.slice a2 vals.length cap2,by simp,hr9,hb9,fun g hg=>by have:=zho (zaa HO) hg;omega⟩
end Go.Proofs.YtoifcnidhfnapabGreatDoor
