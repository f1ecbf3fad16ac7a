import Derived.Test.YtoifcnidhfnapaaGreatDoorP01
import Derived.Test.YtoifcnidhfnapaaGreatDoorP02
import Derived.Test.YtoifcnidhfnapaaGreatDoorP03
import Derived.Test.YtoifcnidhfnapaaGreatDoorP04
import Derived.Test.YtoifcnidhfnapaaGreatDoorP05
import Derived.Test.YtoifcnidhfnapaaGreatDoorP06
import Derived.Test.YtoifcnidhfnapaaGreatDoorP07
import Derived.Test.YtoifcnidhfnapaaGreatDoorP08
import Derived.Test.YtoifcnidhfnapaaGreatDoorP09
import Derived.Test.YtoifcnidhfnapaaGreatDoorP10
import Derived.Test.YtoifcnidhfnapaaGreatDoorP11
import Derived.Test.YtoifcnidhfnapaaGreatDoorP12
import Derived.Test.YtoifcnidhfnapaaGreatDoorP13
import Derived.Test.YtoifcnidhfnapaaGreatDoorP14
import Derived.Test.YtoifcnidhfnapaaGreatDoorP15
import Derived.Test.YtoifcnidhfnapaaGreatDoorP16
import Derived.Test.YtoifcnidhfnapaaGreatDoorP17
import Derived.Test.YtoifcnidhfnapaaGreatDoorP18
import Derived.Test.YtoifcnidhfnapaaGreatDoorP19
import Derived.Test.YtoifcnidhfnapaaGreatDoorP20
import Derived.Test.YtoifcnidhfnapaaGreatDoorP21
import Derived.Test.YtoifcnidhfnapaaGreatDoorP22
import Derived.Test.YtoifcnidhfnapaaGreatDoorP23
import Derived.Test.YtoifcnidhfnapaaGreatDoorP24
import Derived.Test.YtoifcnidhfnapaaGreatDoorP25
import Derived.Test.YtoifcnidhfnapaaGreatDoorP26
import Derived.Test.YtoifcnidhfnapaaGreatDoorP27
import Derived.Test.YtoifcnidhfnapaaGreatDoorP28
import Derived.Test.YtoifcnidhfnapaaGreatDoorP29
import Derived.Test.YtoifcnidhfnapaaGreatDoorP30
import Derived.Test.YtoifcnidhfnapaaGreatDoorP31
import Derived.Test.YtoifcnidhfnapaaGreatDoorP32
import Derived.Test.YtoifcnidhfnapaaGreatDoorP33
import Derived.Test.YtoifcnidhfnapaaGreatDoorP34
import Derived.Test.YtoifcnidhfnapaaGreatDoorP35
import Derived.Test.YtoifcnidhfnapaaGreatDoorP36
import Derived.Test.YtoifcnidhfnapaaGreatDoorP37
import Derived.Test.YtoifcnidhfnapaaGreatDoorP38
import Derived.Test.YtoifcnidhfnapaaGreatDoorP39
import Derived.Test.YtoifcnidhfnapaaGreatDoorP40
import Derived.Test.YtoifcnidhfnapaaGreatDoorP41
import Derived.Test.YtoifcnidhfnapaaGreatDoorP42
import Derived.Test.YtoifcnidhfnapaaGreatDoorP43
import Derived.Test.YtoifcnidhfnapaaGreatDoorP44
import Derived.Test.YtoifcnidhfnapaaGreatDoorP45
import Derived.Test.YtoifcnidhfnapaaGreatDoorP46
import Derived.Test.YtoifcnidhfnapaaGreatDoorP47
import Derived.Test.YtoifcnidhfnapaaGreatDoorP48
import Derived.Test.YtoifcnidhfnapaaGreatDoorP49
import Derived.Test.YtoifcnidhfnapaaGreatDoorP50
import Derived.Laws.CopyRow
set_option linter.unusedVariables false
set_option linter.unusedSimpArgs false
namespace Go.Proofs.YtoifcnidhfnapaaGreatDoor
open Go.RowKit Go.Maps Go.Sort Go.Shelf
attribute [local go_sem] Oper.semAt_some
section
attribute [local go_sem ↓] zkw
end
theorem rising_unique:∀ (xs ys:List Row),zjt xs→zjt ys→(∀ r,r∈xs↔r∈ys)→xs=ys
 | [],[],_,_,_=>rfl
 | [],y :: ys,_,_,h=>by have:=(h y).2 (by simp);simp at this
 | x :: xs,[],_,_,h=>by have:=(h x).1 (by simp);simp at this
 | x :: xs,y :: ys,hx,hy,h=>by
  have hx1:=List.pairwise_cons.1 hx
  have hy1:=List.pairwise_cons.1 hy
  have irr:∀ a:Row,¬ ltR a a:=fun a h=>by unfold ltR at h;omega
  have asym:∀ a b:Row,ltR a b→ltR b a→False:=fun a b h1 h2=>by unfold ltR at *;omega
  have e:x=y:=by
   rcases List.mem_cons.1 ((h x).1 (by simp)) with e|e
   ·exact e
   ·rcases List.mem_cons.1 ((h y).2 (by simp)) with e2|e2
    ·exact e2.symm
    ·exact (asym _ _ (hy1.1 x e) (hx1.1 y e2)).elim
  subst e
  congr 1
  refine rising_unique xs ys hx1.2 hy1.2 (fun r=>⟨fun hr=>?_,fun hr=>?_⟩)
  ·rcases List.mem_cons.1 ((h r).1 (List.mem_cons_of_mem _ hr)) with e|e
   ·subst e;exact (irr _ (hx1.1 _ hr)).elim
   ·exact e
  ·rcases List.mem_cons.1 ((h r).2 (List.mem_cons_of_mem _ hr)) with e|e
   ·subst e;exact (irr _ (hy1.1 _ hr)).elim
   ·exact e
end Go.Proofs.YtoifcnidhfnapaaGreatDoor

namespace Go.Proofs.YtoifcnidhfnapaaGreatDoor
open Go.RowKit Go.Maps Go.Sort Go.Shelf
def Own (fix:Nat→Prop) (db:Nat) (st:St) (ixs:IxS) (vws:VwS) (q:Nat):Prop:=fix q∨q=db∨q=db+1∨q=db+2∨EngX st ixs vws q
section
variable {W W':World} {fix:Nat→Prop} {eb db nD nI nV N:Nat} {st:St} {ixs:IxS} {vws:VwS}
theorem EngV.ownlt (h:EngV W fix eb db nD nI nV N st ixs vws) {q:Nat} (hq:Own fix db st ixs vws q):q<W.heap.size:=by
 have h3:=h.eb3
 have hel:=h.flt _ h.feb
 rcases hq with hq|rfl|rfl|rfl|hq
 ·exact h.flt q hq
 ·omega
 ·omega
 ·omega
 ·exact h.xlt q hq
theorem EngV.asideX (h:EngV W fix eb db nD nI nV N st ixs vws) {X:Nat→Prop} (hk:KeepX X W W') (hX:∀ q,X q→¬ Own fix db st ixs vws q) (hE:∀ q,X q→¬ zcy W q):EngV W' fix eb db nD nI nV N st ixs vws:=by
 have blk:∀ q,Own fix db st ixs vws q→W'.heap[q]? = W.heap[q]?:=fun q hq=>hk.blk q (h.ownlt hq) fun hx=>hX q hx hq
 have hf:∀ k,fix k→W'.heap[k]? = W.heap[k]?:=fun k hk=>blk k (.inl hk)
 have hx:∀ q,EngX st ixs vws q→W'.heap[q]? = W.heap[q]?:=fun q hq=>blk q (.inr (.inr (.inr (.inr hq))))
 refine ⟨(h.rep.keptW hk.size (hf _ h.feb) (blk db (.inr (.inl rfl))) fun nm R hR=>⟨hf _ (h.frb nm R hR).1,hx _ (.inl ⟨nm,R,hR,rfl⟩)⟩).topW,fun k hk'=>Nat.lt_of_lt_of_le (h.flt k hk') hk.size,h.feb,h.frb,h.fdb,?_,fun k x hxk=>?_,h.iap,?_,fun nm v hv=>?_,h.vap,h.vrel⟩
 ·obtain ⟨D,h1,h2⟩:=h.imap
  exact ⟨D,zaw h1 (blk _ (.inr (.inr (.inl rfl)))),h2⟩
 ·obtain ⟨a,b,R,c,d⟩:=h.idx k x hxk
  exact ⟨a,b,R,c,d.kept hk hE (fun hq=>hX _ hq (.inr (.inr (.inr (.inr (.inr (.inl ⟨k,x,hxk,.inl rfl⟩))))))) fun g hg hq=>hX _ hq (.inr (.inr (.inr (.inr (.inr (.inl ⟨k,x,hxk,.inr hg⟩))))))⟩
 ·obtain ⟨D,h1,h2⟩:=h.vmap
  exact ⟨D,zaw h1 (blk _ (.inr (.inr (.inr (.inl rfl))))),h2⟩
 ·obtain ⟨a,b⟩:=h.vw nm v hv
  exact ⟨a.kept hf (hx _ (.inr (.inr ⟨nm,v,hv,rfl⟩))),b⟩
end
end Go.Proofs.YtoifcnidhfnapaaGreatDoor

namespace Go.Proofs.YtoifcnidhfnapaaGreatDoor
namespace K
open Go.RowKit Go.Maps Go.Sort Go.Shelf
theorem zs3.trans {a b c:World} (h:zs3 a b) (k:zs3 b c):zs3 a c:=
 ⟨Nat.le_trans h.size k.size,fun q cs t p hq h1 h2=>(k.blk q cs t p ((h.blk q cs t p hq h1 h2).trans hq) h1 h2).trans (h.blk q cs t p hq h1 h2)⟩
theorem zwr.keep {w w':World} {v:Value} {bs:List (List Ent)} (h:zwr w v bs) (hk:zs3 w w'):zwr w' v bs:=fun w2 h2=>h w2 (hk.trans h2)
end K
end Go.Proofs.YtoifcnidhfnapaaGreatDoor

namespace Go.Proofs.YtoifcnidhfnapaaGreatDoor
open Go.RowKit Go.Maps Go.Sort Go.Shelf
attribute [local go_sem] Oper.semAt_some
namespace H
section
attribute [local go_sem ↓] zkw
end
theorem rising_unique:∀ (xs ys:List H4),zjt xs→zjt ys→(∀ r,r∈xs↔r∈ys)→xs=ys
 | [],[],_,_,_=>rfl
 | [],y :: ys,_,_,h=>by have:=(h y).2 (by simp);simp at this
 | x :: xs,[],_,_,h=>by have:=(h x).1 (by simp);simp at this
 | x :: xs,y :: ys,hx,hy,h=>by
  have hx1:=List.pairwise_cons.1 hx
  have hy1:=List.pairwise_cons.1 hy
  have irr:∀ a:H4,¬ ltR a a:=fun a h=>by unfold ltR at h;omega
  have asym:∀ a b:H4,ltR a b→ltR b a→False:=fun a b h1 h2=>by unfold ltR at *;omega
  have e:x=y:=by
   rcases List.mem_cons.1 ((h x).1 (by simp)) with e|e
   ·exact e
   ·rcases List.mem_cons.1 ((h y).2 (by simp)) with e2|e2
    ·exact e2.symm
    ·exact (asym _ _ (hy1.1 x e) (hx1.1 y e2)).elim
  subst e
  congr 1
  refine rising_unique xs ys hx1.2 hy1.2 (fun r=>⟨fun hr=>?_,fun hr=>?_⟩)
  ·rcases List.mem_cons.1 ((h r).1 (List.mem_cons_of_mem _ hr)) with e|e
   ·subst e;exact (irr _ (hx1.1 _ hr)).elim
   ·exact e
  ·rcases List.mem_cons.1 ((h r).2 (List.mem_cons_of_mem _ hr)) with e|e
   ·subst e;exact (irr _ (hy1.1 _ hr)).elim
   ·exact e
end H
end Go.Proofs.YtoifcnidhfnapaaGreatDoor

namespace Go.Proofs.YtoifcnidhfnapaaGreatDoor
namespace K
open Go.RowKit Go.Maps
theorem zdb {α:Type} (l:List α):bsum l (fun _=>0#64)=0#64:=by
 induction l with
 | nil=>rfl
 | cons a l ih=>simp only [bsum,ih];rfl
theorem zga {α:Type} (d:α) (L:Nat→List α):∀ n,tsum d L n (fun _=>0#64)=0#64
 | 0=>rfl
 | n+1=>by simp only [tsum,zga d L n,zdb]
theorem zzn {α:Type} (d:α) (L:Nat→List α) (n:Nat) (f:(Nat→α)→B64) (h:tsum d L n f≠0#64):∃ g,(∀ i,i<n→g i∈L i)∧f g≠0#64:=by
 refine Classical.byContradiction fun hn=>h ?_
 rw [zct d L n f (fun _=>0#64) fun g hg=>Classical.byContradiction fun hf=>hn ⟨g,hg,hf⟩]
 exact zga d L n
theorem zrj {A:List (List Trm)} {H:List Nat} {L:Nat→List REnt} {h:H4} (hv:vval A H L h≠0#64):∃ r:Nat→Row,(∀ i,i<A.length→∃ e∈L i,e.1=r i)∧zno A r (zkk A r)∧zja H (zkk A r)=h:=by
 unfold vval jsum at hv
 obtain ⟨g,hg,hf⟩:=zzn _ _ _ _ hv
 refine ⟨fun i=>(g i).1,fun i hi=>⟨g i,hg i hi,rfl⟩,?_⟩
 refine Classical.byContradiction fun hn=>hf ?_
 unfold fitQ
 rw [if_neg hn]
 exact BitVec.zero_mul
theorem zhi:(0:Int)∈nums:=by simp [nums]
theorem zmn {r:Row} (h:r∈zdt) (j:Nat):zah r j∈nums:=by
 simp only [zdt,List.mem_flatMap,List.mem_map] at h
 obtain ⟨a,ha,b,hb,rfl⟩:=h
 unfold zah
 split
 ·exact ha
 ·exact hb
 ·exact zhi
theorem zmy {r:Row} (h:r∈zhz) (j:Nat):zah r j∈nums:=by
 simp only [zhz,List.mem_map] at h
 obtain ⟨a,ha,rfl⟩:=h
 unfold zah
 split
 ·exact ha
 ·exact zhi
 ·exact zhi
theorem zkm {A:List (List Trm)} {r:Nat→Row} (hr:∀ i,i<A.length→∀ j,zah (r i) j∈nums) (v:Nat):∀ n,n≤A.length→zj0 A r v n∈nums
 | 0,_=>zhi
 | n+1,hn=>by
  simp only [zj0]
  cases zlo (A[n]?.getD []) v with
  | some j=>exact hr n (by omega) j
  | none=>exact zkm hr v n (by omega)
def zxj:List H4:=nums.flatMap fun a=>nums.flatMap fun b=>nums.flatMap fun c=>nums.map fun d=>(a,b,c,d)
theorem yaz:zxj.length=256:=by decide +kernel
theorem yah {a b c d:Int} (ha:a∈nums) (hb:b∈nums) (hc:c∈nums) (hd:d∈nums):((a,b,c,d):H4)∈zxj:=
 List.mem_flatMap.2 ⟨a,ha,List.mem_flatMap.2 ⟨b,hb,List.mem_flatMap.2 ⟨c,hc,List.mem_map.2 ⟨d,hd,rfl⟩⟩⟩⟩
theorem zwi {H:List Nat} {asg:Nat→Int} (h:∀ v,asg v∈nums):zja H asg∈zxj:=by
 unfold zja
 have:∀ q,(if q<H.length then asg (H[q]?.getD 0) else 0)∈nums:=fun q=>by
  split
  ·exact h _
  ·exact zhi
 exact yah (this 0) (this 1) (this 2) (this 3)
theorem ybb {A:List (List Trm)} {H:List Nat} {L:Nat→List REnt} {h:H4} (hL:∀ i,i<A.length→∀ e∈L i,e.1∈zdt∨e.1∈zhz) (hv:vval A H L h≠0#64):h∈zxj:=by
 obtain ⟨r,hr,_,rfl⟩:=zrj hv
 refine zwi fun v=>zkm (fun i hi j=>?_) v _ (Nat.le_refl _)
 obtain ⟨e,he,h1⟩:=hr i hi
 rw [← h1]
 rcases hL i hi e he with h|h
 ·exact zmn h j
 ·exact zmy h j
theorem zek {α β:Type} (g:α→β) (f:β→B64):∀ l:List α,bsum (l.map g) f=bsum l (fun a=>f (g a))
 | []=>rfl
 | a :: l=>by simp only [List.map_cons,bsum,zek g f l]
theorem za5 {α:Type} (f:α→B64):∀ l m:List α,bsum (l ++ m) f=bsum l f+bsum m f
 | [],m=>by simp [bsum]
 | a :: l,m=>by simp only [List.cons_append,bsum,za5 f l m,BitVec.add_assoc]
theorem zgl {α:Type} [DecidableEq α] (f:α→B64) (x:α):∀ l:List α,l.Nodup→x∈l→bsum l (fun a=>if a=x then f a else 0#64)=f x
 | [],_,h=>by cases h
 | a :: l,hn,h=>by
  simp only [bsum]
  rw [List.nodup_cons] at hn
  by_cases e:a=x
  ·subst e
   rw [if_pos rfl,zat (g:=fun _=>0#64) (fun b hb=>if_neg fun (e:b=a)=>hn.1 (e ▸ hb)),zdb,BitVec.add_zero]
  ·rw [if_neg e,zgl f x l hn.2 ((List.mem_cons.1 h).resolve_left (fun h=>e h.symm)),BitVec.zero_add]
theorem eqv_grid {f:Row→Int} {xs G:List Row} (ha:xs.Pairwise (·≠·)) (hG:G.Nodup) (hx:∀ x∈xs,x∈G) (hm:∀ x∈G,x ∉ xs→f x=0):Eqv (za3 f xs) (za3 f G):=by
 intro ψ
 unfold za3
 rw [zek,zek]
 dsimp only
 have key:∀ (ys:List Row),ys.Pairwise (·≠·)→(∀ y∈ys,y∈G)→bsum ys (fun a=>ψ a*wtB (a,f a))=bsum G (fun a=>if a∈ys then ψ a*wtB (a,f a) else 0#64):=by
  intro ys
  induction ys with
  | nil=>intro _ _;simp only [bsum,List.not_mem_nil,if_false,zdb]
  | cons y ys ih =>
   intro hp hy
   rw [List.pairwise_cons] at hp
   have h1:=ih hp.2 fun z hz=>hy z (by simp [hz])
   have h2:=zgl (fun a=>ψ a*wtB (a,f a)) y G hG (hy y (by simp))
   simp only [bsum]
   rw [h1,← h2,← zle]
   refine zat fun a _=>?_
   by_cases e:a=y
   ·subst e
    have:a ∉ ys:=fun h=>hp.1 a h rfl
    simp [this]
   ·simp [e]
 rw [key xs ha hx]
 refine zat fun a haG=>?_
 by_cases h:a∈xs
 ·rw [if_pos h]
 ·rw [if_neg h,hm a haG h]
  simp [wtB]
def zer:List (List Trm):=[[(88,0),(89,0)],[(89,0),(90,0)]]
def zhe:List Nat:=[88,90]
theorem zwk {r:Nat→Row}:zno zer r (zkk zer r)↔(r 0).2.1=(r 1).1:=by
 have e1:zkk zer r 88=(r 0).1:=rfl
 have e2:zkk zer r 89=(r 1).1:=rfl
 have e3:zkk zer r 90=(r 1).2.1:=rfl
 constructor
 ·intro h
  have:=h 0 (by decide) 1 (by decide)
  exact this
 ·intro h i hi j hj
  have hi2:i<2:=hi
  match i,hi2 with
  | 0,_ =>
   have hj2:j<2:=hj
   match j,hj2 with
   | 0,_=>rfl
   | 1,_=>exact h
  | 1,_ =>
   have hj2:j<2:=hj
   match j,hj2 with
   | 0,_=>rfl
   | 1,_=>rfl
theorem zoa {r:Nat→Row}:zja zhe (zkk zer r)=((r 0).1,(r 1).2.1,0,0):=rfl
theorem zgm:zdt.Nodup:=by decide +kernel
end K
end Go.Proofs.YtoifcnidhfnapaaGreatDoor

namespace Go.Proofs.YtoifcnidhfnapaaGreatDoor
namespace K
open Go.RowKit Go.Maps
theorem ziu (n:Nat) (F:H4→Int) (ys:List H4):zfd (H.zbz n F ys):=by
 intro r hr
 obtain ⟨y,_,rfl⟩:=List.mem_map.1 hr
 show (H.zcn n y).length≤1000000000
 unfold H.zcn
 exact Nat.le_trans (List.length_take_le' _ _) (by simp)
theorem zml {x y:Int} (hx:-9223372036854775808≤x∧x≤9223372036854775807) (hy:-9223372036854775808≤y∧y≤9223372036854775807) (h:BitVec.ofInt 64 x=BitVec.ofInt 64 y):x=y:=by
 have:=congrArg BitVec.toInt h
 rw [BitVec.toInt_ofInt,BitVec.toInt_ofInt] at this
 have e1:x.bmod (2 ^ 64)=x:=Int.bmod_eq_of_le (by omega) (by omega)
 have e2:y.bmod (2 ^ 64)=y:=Int.bmod_eq_of_le (by omega) (by omega)
 omega
end K
end Go.Proofs.YtoifcnidhfnapaaGreatDoor

namespace Go.Proofs.YtoifcnidhfnapaaGreatDoor
namespace K
open Go.RowKit Go.Maps Go.Sort Go.Shelf
theorem _root_.Go.Proofs.YtoifcnidhfnapaaGreatDoor.EngV.start {w:World} {eb db nD S E:Nat} {st:St} (h:zay w eb db nD S E st) (hn:NoVs w db):EngV w (fun q=>q=eb∨∃ nm R,st nm=some R∧q=R.rb) eb db nD 0 0 1 st (fun _=>none) (fun _=>none):=by
 have notc:∀ q es cl,w.heap[q]? = some (.map es cl)→¬ (q=eb∨∃ nm R,st nm=some R∧q=R.rb):=by
  rintro q es cl hq (rfl|⟨nm,R,hR,rfl⟩)
  ·obtain ⟨xs,h1,_⟩:=h.eng
   rw [hq] at h1;cases h1
  ·have:=(h.rel nm R hR).1
   rw [hq] at this;cases this
 have htop:=h.top
 have hinn:=h.inn
 obtain ⟨D,⟨es,cl,hd,_⟩,_⟩:=h.dir
 obtain ⟨es1,cl1,h1,_⟩:=id hn.1
 obtain ⟨es2,cl2,h2,_⟩:=id hn.2
 refine ⟨⟨h.eng,h.dir,h.rel,h.apart,⟨Nat.zero_le _,by omega,Nat.zero_le _,by omega⟩,fun nm R hR=>(by have:=h.inr nm R hR;omega),Nat.le_refl _⟩,?_,.inl rfl,fun nm R hR=>⟨.inr ⟨nm,R,hR,rfl⟩,?_⟩,⟨notc _ _ _ hd,notc _ _ _ h1,notc _ _ _ h2⟩,⟨.map [],hn.1,fun k _=>rfl,fun k x hx=>(by cases hx),fun l hl=>(by simp [Maps.has] at hl)⟩,fun k x hx=>(by cases hx),fun k k' x x' hx=>(by cases hx),⟨.map [],hn.2,rfl,fun _ _=>rfl,fun nm v hv=>(by cases hv)⟩,fun nm v hv=>(by cases hv),fun nm nm' v v' hv=>(by cases hv),fun nm v hv=>(by cases hv)⟩
 ·rintro k (rfl|⟨nm,R,hR,rfl⟩)
  ·omega
  ·have:=h.inr nm R hR
   omega
 ·obtain ⟨D',⟨es',cl',hm,_⟩,_⟩:=(h.rel nm R hR).2
  exact notc _ _ _ hm
theorem zxc {R S T:Rel} (h1:znb R 2) (h2:znb S 2) (h3:znb T 1):zqb R S T 0:=⟨Tame.start h1 _,Tame.start h2 _,Tame.start h3 _⟩
def stF (R S T:Rel) (fl:List Ent):St:=st3 (zao R fl nmR) (zao S fl nmS) (zao T fl nmT)
structure Stg (B0:Nat) (W:World) (fix:Nat→Prop) (eb db nI nV M:Nat) (fl:List Ent) (R S T:Rel) (ixs:IxS) (vws:VwS):Prop where
 eng:EngV W fix eb db 3 nI nV (1+2*fl.length) (stF R S T fl) ixs vws
 fr:znb R 2
 fs:znb S 2
 ft:znb T 1
 fine:∀ x∈fl,Fine x
 len:fl.length≤400
 most:zf4 M vws
 low:∀ q,EngX (stF R S T fl) ixs vws q→B0≤q
 db0:B0≤db
 fix0:∀ q,fix q→B0≤q
section
variable {B0:Nat} {W:World} {fix:Nat→Prop} {eb db nI nV M:Nat} {fl:List Ent} {R S T:Rel} {ixs:IxS} {vws:VwS}
theorem Stg.three (h:Stg B0 W fix eb db nI nV M fl R S T ixs vws):zqb (zao R fl nmR) (zao S fl nmS) (zao T fl nmT) fl.length:=by
 have:=(zxc h.fr h.fs h.ft).add h.fine
 rwa [Nat.zero_add] at this
theorem Stg.below (h:Stg B0 W fix eb db nI nV M fl R S T ixs vws) {W':World} (hb:Below W.heap.size W W'):Stg B0 W' fix eb db nI nV M fl R S T ixs vws:=
 ⟨h.eng.below hb,h.fr,h.fs,h.ft,h.fine,h.len,h.most,h.low,h.db0,h.fix0⟩
theorem zlg {nm:ByteArray} {Q:Rel} (h:stF R S T fl nm=some Q):(nm=nmR∧Q=zao R fl nmR)∨(nm=nmS∧Q=zao S fl nmS)∨(nm=nmT∧Q=zao T fl nmT):=zv2 h
theorem Stg.rn (h:Stg B0 W fix eb db nI nV M fl R S T ixs vws):∀ nm Q,stF R S T fl nm=some Q→Q.n≤1+2*fl.length:=by
 intro nm Q hQ
 have:=h.three
 rcases zlg hQ with ⟨_,rfl⟩|⟨_,rfl⟩|⟨_,rfl⟩
 ·have:=this.r.n_;omega
 ·have:=this.s.n_;omega
 ·have:=this.t.n_;omega
end
theorem zyl (w:World):Calls Tryz.prog 14 #[] w fun e w'=>∃ eb,e=.returned (.pointer (some ⟨eb,0,none⟩))∧(∃ fix db R S T,Stg w.heap.size w' fix eb db 0 0 0 [] R S T (fun _=>none) (fun _=>none))∧Below w.heap.size w w':=by
 refine (yaj w).mono ?_
 rintro e w' ⟨eb,db,R,S,T,rfl,hE,hN,h1,h2,h3,hb⟩
 refine ⟨eb,rfl,⟨fun q=>q=eb∨∃ nm Q,st3 R S T nm=some Q∧q=Q.rb,db,R,S,T,?_,h1,h2,h3,fun x hx=>(by cases hx),by simp,fun nm v hv=>(by cases hv),?_,hE.inn.2.2.1,?_⟩,hb⟩
 ·unfold stF
  rw [zeg,zeg,zeg]
  exact EngV.start hE hN
 ·unfold stF
  rw [zeg,zeg,zeg]
  rintro q (⟨nm,Q,hQ,rfl⟩|⟨k,x,hx,_⟩|⟨nm,v,hv,_⟩)
  ·exact (hE.inr nm Q hQ).2.2.1
  ·cases hx
  ·cases hv
 ·rintro q (rfl|⟨nm,Q,hQ,rfl⟩)
  ·exact hE.inn.1
  ·exact (hE.inr nm Q hQ).1
set_option maxHeartbeats 1000000 in
theorem zxr (nm s o:ByteArray) (hs:List (Nat×Nat)) (ats:List zcb) (W:World) {B0:Nat} {fix:Nat→Prop} {eb db nI nV M:Nat} {fl:List Ent} {R S T:Rel} {ixs:IxS} {vws:VwS} (h:Stg B0 W fix eb db nI nV M fl R S T ixs vws) (hB0:B0≤W.heap.size) (hn:zge nm=true) (hn8:nm.size≤8) (hx:vws nm=none) (hnV:nV≤5) (hsz:s.size≤300)
  (hp:zfj s=.ok (hs,ats)) (hF:zda (stF R S T fl) hs (ats.map zcb.q)) (hL:LetB (ats.map zcb.q)) (ho:o=⟨#[]⟩∨(zbr o).Perm (zbo ((ats.map zcb.q).map (·.ts)))) (hnI:nI≤100000) :
  Calls Tryz.prog 16 #[.pointer (some ⟨eb,0,none⟩),.string nm,.string s,.string o] W fun e w'=>e=.returned (.bool true)∧∃ fix' ixs' nI' v,Stg B0 w' fix' eb db nI' (nV+1) (M+1000000000000) fl R S T ixs' (zil vws nm v)∧v.H=hs∧v.B=ats.map zcb.q∧nI'≤nI+4∧KeepX (fun q=>q=db+1∨q=db+2) W w'∧(∀ q,fix q→fix' q)∧(∀ q,fix' q→fix q∨W.heap.size≤q)∧∀ q,EngX (stF R S T fl) ixs' (zil vws nm v) q→EngX (stF R S T fl) ixs vws q∨W.heap.size≤q:=by
 have hl:=h.len
 have H:=hide (zue nm s o hs ats W h.eng hn hn8 hx hnV hsz hp hF hL ho h.rn (by omega) (by omega) hnI)
 have Hs:=hide h
 clear h hF hL ho hp hn
 go_enter Tryz.func16,Tryz.ntmps16
 go_wp2_with fail
 refine (zaa H).mono ?_
 rintro e w1 ⟨rfl,⟨fix',ixk,nIk,v,h1,h2,h3,h4,h5,h6,h7,h8⟩,h9⟩
 have hv7:v.n≤1000000000000:=by
  have:(1+2*fl.length) ^ 4≤801 ^ 4:=pow4 (by omega)
  have e:(801:Nat) ^ 4≤900000000000:=by decide
  omega
 have hS:=zaa Hs
 have HF:=hide (show ∃ fix' ixs' nI' v,Stg B0 w1 fix' eb db nI' (nV+1) (M+1000000000000) fl R S T ixs' (zil vws nm v)∧v.H=hs∧v.B=ats.map zcb.q∧nI'≤nI+4∧KeepX (fun q=>q=db+1∨q=db+2) W w1∧(∀ q,fix q→fix' q)∧(∀ q,fix' q→fix q∨W.heap.size≤q)∧∀ q,EngX (stF R S T fl) ixs' (zil vws nm v) q→EngX (stF R S T fl) ixs vws q∨W.heap.size≤q from
  ⟨fix',ixk,nIk,v,⟨h1,hS.fr,hS.fs,hS.ft,hS.fine,hS.len,fun m u hu=>by
   by_cases e:m=nm
   ·subst e
    rw [zbu] at hu
    cases hu
    omega
   ·rw [zbd e] at hu
    have:=hS.most m u hu
    omega,fun q hq=>(h8 q hq).elim (hS.low q) (fun h=>by omega),hS.db0,fun q hq=>(h4 q hq).elim (hS.fix0 q) (fun h=>by omega)⟩,h5,h6,h2,h9,h3,h4,h8⟩)
 clear h1 h2 h3 h4 h5 h6 h7 h8 h9 hS H hv7
 go_wp2
 go_ret
 exact ⟨rfl,zaa HF⟩
theorem zwb (R S T:Rel) (fl gl:List Ent):st3 (zao (zao R fl nmR) gl nmR) (zao (zao S fl nmS) gl nmS) (zao (zao T fl nmT) gl nmT)=stF R S T (fl ++ gl):=by
 unfold stF
 rw [zc6,zc6,zc6]
theorem ztf (u:Value) (bs:List (List Ent)) (W:World) {B0:Nat} {fix:Nat→Prop} {eb db nI nV M:Nat} {fl:List Ent} {R S T:Rel} {ixs:IxS} {vws:VwS} (h:Stg B0 W fix eb db nI nV M fl R S T ixs vws) (hB0:B0≤W.heap.size) (hv:zwr W u bs) (hl:∀ b∈bs,b.length≤12) (hf:∀ b∈bs,∀ x∈b,Fine x) (hc:fl.length+bs.flatten.length≤400) (hbl:bs.length≤1000) (hM:M≤4000000000000000000) :
  Calls Tryz.prog 17 #[.pointer (some ⟨eb,0,none⟩),u] W fun e w'=>e=.returned (.bool true)∧∃ ixs' vws',Stg B0 w' fix eb db nI nV (M+bs.length*4000000000000) (fl ++ bs.flatten) R S T ixs' vws'∧zeo vws vws'∧KeepX (EngX (stF R S T fl) ixs vws) W w'∧∀ q,EngX (stF R S T (fl ++ bs.flatten)) ixs' vws' q→EngX (stF R S T fl) ixs vws q∨W.heap.size≤q:=by
 refine (zsx u bs W h.eng h.three hv hl hf hc hbl (by omega) (by omega) h.most hM).mono ?_
 rintro e w' ⟨rfl,hk,ixs',vws',h1,h2,h3,h4,h5⟩
 rw [zwb] at h1 h5
 refine ⟨rfl,ixs',vws',⟨?_,h.fr,h.fs,h.ft,fun x hx=>?_,by rw [List.length_append];omega,h3,fun q hq=>(h5 q hq).elim (h.low q) (fun h=>by omega),h.db0,h.fix0⟩,h2,hk,h5⟩
 ·have e:1+2*(fl ++ bs.flatten).length=1+2*fl.length+2*bs.flatten.length:=by rw [List.length_append];omega
  rw [e]
  exact h1
 ·rcases List.mem_append.1 hx with hx|hx
  ·exact h.fine x hx
  ·obtain ⟨b,hb,hxb⟩:=List.mem_flatten.1 hx
   exact hf b hb x hxb
theorem zgz {Q:Rel} {ar cnt:Nat} {G:List Row} (h:Tame Q ar cnt G) (hG:G.Nodup) (hw:∀ y∈G,zav y):zlc Q.f (G.filter fun r=>decide (Q.f r≠0))∧Eqv (za3 Q.f (G.filter fun r=>decide (Q.f r≠0))) (za3 Q.f G):=by
 refine ⟨⟨fun x hx=>hw x (List.mem_filter.1 hx).1,hG.filter _,fun r hr=>?_⟩,eqv_grid (hG.filter _) hG (fun x hx=>(List.mem_filter.1 hx).1) fun x hx hn=>?_⟩
 ·rw [List.mem_filter,decide_eq_true_eq]
  exact ⟨fun h=>h.2,fun h0=>⟨h.supp r hr h0,h0⟩⟩
 ·refine Classical.byContradiction fun h0=>hn ?_
  rw [List.mem_filter,decide_eq_true_eq]
  exact ⟨hx,h0⟩
theorem zln:∀ y∈zdt,zav y:=by
 intro y h
 simp only [zdt,List.mem_flatMap,List.mem_map] at h
 obtain ⟨a,ha,b,hb,rfl⟩:=h
 exact ⟨zb1 ha,zb1 hb,zca⟩
theorem zuj:zhz.Nodup:=by decide +kernel
def zgv (st:St) (B:List zbe) (i:Nat):List REnt:=match st (B[i]?.getD zar).nm with|none=>[]|some Q=>za3 Q.f ((if Q.ar=1 then zhz else zdt).filter fun r=>decide (Q.f r≠0))
section
variable {B0:Nat} {W:World} {fix:Nat→Prop} {eb db nI nV M:Nat} {fl:List Ent} {R S T:Rel} {ixs:IxS} {vws:VwS}
theorem Stg.rowsL (h:Stg B0 W fix eb db nI nV M fl R S T ixs vws) {nm:ByteArray} {Q:Rel} (hQ:stF R S T fl nm=some Q):zng Q.f (za3 Q.f ((if Q.ar=1 then zhz else zdt).filter fun r=>decide (Q.f r≠0))):=by
 have h3:=h.three
 refine ⟨_,?_,rfl⟩
 rcases zlg hQ with ⟨_,rfl⟩|⟨_,rfl⟩|⟨_,rfl⟩
 ·rw [if_neg (by rw [h3.r.ar_];decide)];exact (zgz h3.r zgm zln).1
 ·rw [if_neg (by rw [h3.s.ar_];decide)];exact (zgz h3.s zgm zln).1
 ·rw [if_pos h3.t.ar_];exact (zgz h3.t zuj wf_grid1).1
theorem Stg.val (h:Stg B0 W fix eb db nI nV M fl R S T ixs vws) {nm:ByteArray} {v:ze3} (hv:vws nm=some v) (q:H4):BitVec.ofInt 64 (v.f q)=vval (v.B.map (·.ts)) (v.H.map (·.1)) (zgv (stF R S T fl) v.B) q:=by
 obtain ⟨hV,hH⟩:=h.eng.vw nm v hv
 refine hH _ (fun i hi=>?_) q
 have hmem:v.B[i]?.getD zar∈v.B:=by simp [hi]
 obtain ⟨Q,hQ,_⟩:=hV.fit.rel _ hmem
 refine ⟨Q,hQ,?_⟩
 unfold zgv
 rw [hQ]
 exact h.rowsL hQ
theorem zir {st:St} {B:List zbe} {i:Nat}:∀ e∈zgv st B i,e.1∈zdt∨e.1∈zhz:=by
 intro e he
 unfold zgv at he
 split at he
 ·cases he
 ·obtain ⟨r,hr,rfl⟩:=List.mem_map.1 he
  have:=(List.mem_filter.1 hr).1
  split at this
  ·exact .inr this
  ·exact .inl this
theorem Stg.range (h:Stg B0 W fix eb db nI nV M fl R S T ixs vws) {nm:ByteArray} {v:ze3} (hv:vws nm=some v) {q:H4} (hq:WfH q):-9223372036854775808≤v.f q∧v.f q≤9223372036854775807:=(h.eng.vw nm v hv).1.map.range hq
theorem Stg.supp (h:Stg B0 W fix eb db nI nV M fl R S T ixs vws) {nm:ByteArray} {v:ze3} (hv:vws nm=some v):∀ q,WfH q→v.f q≠0→q∈zxj:=by
 intro q hq h0
 refine ybb (L:=zgv (stF R S T fl) v.B) (A:=v.B.map (·.ts)) (H:=v.H.map (·.1)) (fun i _=>zir) fun hz=>h0 ?_
 rw [← h.val hv q] at hz
 exact zml (h.range hv hq) (by omega) hz
theorem Stg.map256 (h:Stg B0 W fix eb db nI nV M fl R S T ixs vws) {nm:ByteArray} {v:ze3} (hv:vws nm=some v):HMap W v.mb 256 v.f:=by
 have:=(h.eng.vw nm v hv).1.map.tight zxj (h.supp hv)
 rwa [yaz] at this
end
theorem stg_read (nm:ByteArray) (W:World) {B0:Nat} {fix:Nat→Prop} {eb db nI nV M:Nat} {fl:List Ent} {R S T:Rel} {ixs:IxS} {vws:VwS} (h:Stg B0 W fix eb db nI nV M fl R S T ixs vws) {v:ze3} (hv:vws nm=some v) :
  Calls Tryz.prog 20 #[.pointer (some ⟨eb,0,none⟩),.string nm] W fun e w'=>∃ o ys,e=.returned (.tuple #[o,.int .i64 0])∧H.zh0 v.f ys∧zdm w' o (H.zbz v.H.length v.f ys)∧ys.length≤256∧Below W.heap.size W w':=by
 refine (zy8 W h.eng nm v hv 256 (by omega) (h.map256 hv)).mono ?_
 rintro e w' ⟨o,ys,xs,rfl,h1,_,_,_,h2,h3,h4⟩
 exact ⟨o,ys,rfl,h1,h2,h3,h4⟩
end K
end Go.Proofs.YtoifcnidhfnapaaGreatDoor

namespace Go.Proofs.YtoifcnidhfnapaaGreatDoor
namespace K
open Go.RowKit Go.Maps
def nmV:ByteArray:=⟨#[118]⟩
def noO:ByteArray:=⟨#[]⟩
end K
end Go.Proofs.YtoifcnidhfnapaaGreatDoor

namespace Go.Proofs.YtoifcnidhfnapaaGreatDoor
namespace K
open Go.RowKit Go.Maps Go.Sort Go.Shelf
def fitB (H:List (Nat×Nat)) (B:List zbe):Bool:=
 decide (H.length≤4) && decide (B.length≤4) && B.all (fun a=>decide (a.ts.length≤3)) && H.all (fun x=>decide (x.1<256)) && B.all (fun a=>a.ts.all fun t=>decide (t.1<256)) && !B.isEmpty &&
  B.all (fun a=>(decide (a.nm=nmR) && decide (a.ts.length=2)) || (decide (a.nm=nmS) && decide (a.ts.length=2)) || (decide (a.nm=nmT) && decide (a.ts.length=1))) &&
  H.all (fun x=>decide (x.1≠0) && B.any fun a=>a.ts.any fun t=>decide (t.1=x.1)) && B.all (fun a=>a.ts.all fun t=>decide (LetOK t.1))
theorem fit_of {H:List (Nat×Nat)} {B:List zbe} (h:fitB H B=true) {st:St} (hR:∃ R,st nmR=some R∧R.ar=2) (hS:∃ R,st nmS=some R∧R.ar=2) (hT:∃ R,st nmT=some R∧R.ar=1):zda st H B∧LetB B:=by
 unfold fitB at h
 simp only [Bool.and_eq_true,Bool.or_eq_true,Bool.not_eq_true',decide_eq_true_eq,List.all_eq_true,List.any_eq_true] at h
 obtain ⟨⟨⟨⟨⟨⟨⟨⟨h1,h2⟩,h3⟩,h4⟩,h5⟩,h6⟩,h7⟩,h8⟩,h9⟩:=h
 refine ⟨⟨⟨h1,h2,h3,h4,h5⟩,fun e=>(by rw [e] at h6;cases h6),fun a ha=>?_,fun a ha=>?_,fun x hx=>⟨(h8 x hx).1,?_⟩⟩,h9⟩
 ·rcases h7 a ha with (⟨e,_⟩|⟨e,_⟩)|⟨e,_⟩ <;> rw [e] <;> decide
 ·rcases h7 a ha with (⟨e,e2⟩|⟨e,e2⟩)|⟨e,e2⟩
  ·obtain ⟨R,r1,r2⟩:=hR;exact ⟨R,by rw [e];exact r1,by rw [e2,r2]⟩
  ·obtain ⟨R,r1,r2⟩:=hS;exact ⟨R,by rw [e];exact r1,by rw [e2,r2]⟩
  ·obtain ⟨R,r1,r2⟩:=hT;exact ⟨R,by rw [e];exact r1,by rw [e2,r2]⟩
 ·obtain ⟨a,ha,t,ht,e⟩:=(h8 x hx).2
  exact zee.2 ⟨a.ts,List.mem_map.2 ⟨a,ha,rfl⟩,t,ht,e⟩
theorem qry_fitB (c:Int):fitB (qryP (zcm c 8)).1 ((qryP (zcm c 8)).2.map zcb.q)=true:=eight (P:=fun k=>fitB (qryP k).1 ((qryP k).2.map zcb.q)=true) (by decide +kernel) (by decide +kernel) (by decide +kernel) (by decide +kernel) (by decide +kernel) (by decide +kernel) (by decide +kernel) (by decide +kernel) c
theorem qry_size (c:Int):(qryT (zcm c 8)).size≤300:=eight (P:=fun k=>(qryT k).size≤300) (by decide) (by decide) (by decide) (by decide) (by decide) (by decide) (by decide) (by decide) c
theorem Stg.fit {B0:Nat} {W:World} {fix:Nat→Prop} {eb db nI nV M:Nat} {fl:List Ent} {R S T:Rel} {ixs:IxS} {vws:VwS} (h:Stg B0 W fix eb db nI nV M fl R S T ixs vws) {H:List (Nat×Nat)} {B:List zbe} (hf:fitB H B=true):zda (stF R S T fl) H B∧LetB B:=
 fit_of hf ⟨_,zsj _ _ _,h.three.r.ar_⟩ ⟨_,zrr _ _ _,h.three.s.ar_⟩ ⟨_,zyc _ _ _,h.three.t.ar_⟩
theorem nameV:zge nmV=true:=by decide
theorem zod {B:Nat} {w W W':World} {X:Nat→Prop} (h:Below B w W) (hB:B≤W.heap.size) (k:KeepX X W W') (hX:∀ q,X q→B≤q):Below B w W':=
 h.trans ⟨k.os,k.tape,k.output,k.size,fun q hq=>k.blk q (by omega) (fun hx=>by have:=hX q hx;omega)⟩
theorem yaf (codes:List Int):(zfr codes).length≤401:=by
 have h:=(zps (codes.take 400)).2
 have h2:(codes.take 400).length≤400:=by simp;omega
 unfold zfr
 split
 ·rw [List.length_append];simp;omega
 ·omega
theorem zxw (codes:List Int):(zfr codes).flatten.length≤400:=by
 rw [zow,List.length_map]
 simp
 omega
end K
end Go.Proofs.YtoifcnidhfnapaaGreatDoor

namespace Go.Proofs.YtoifcnidhfnapaaGreatDoor
namespace K
open Go.RowKit Go.Maps Go.Sort Go.Shelf
structure ES where
 fix:Nat→Prop
 eb:Nat
 db:Nat
 nI:Nat
 nV:Nat
 M:Nat
 fl:List Ent
 R:Rel
 S:Rel
 T:Rel
 ixs:IxS
 vws:VwS
def ES.At (s:ES) (B0:Nat) (W:World):Prop:=Stg B0 W s.fix s.eb s.db s.nI s.nV s.M s.fl s.R s.S s.T s.ixs s.vws
def ES.own (s:ES) (q:Nat):Prop:=Own s.fix s.db (stF s.R s.S s.T s.fl) s.ixs s.vws q
def ES.apart (s t:ES):Prop:=∀ q,s.own q→¬ t.own q
theorem ES.apart.symm {s t:ES} (h:s.apart t):t.apart s:=fun q h1 h2=>h q h2 h1
theorem ES.At.lt {s:ES} {B0:Nat} {W:World} (h:s.At B0 W) {q:Nat} (hq:s.own q):q<W.heap.size:=h.eng.ownlt hq
theorem ES.At.ge {s:ES} {B0:Nat} {W:World} (h:s.At B0 W) {q:Nat} (hq:s.own q):B0≤q:=by
 have hdb:=h.db0
 rcases hq with hq|rfl|rfl|rfl|hq
 ·exact h.fix0 q hq
 ·omega
 ·omega
 ·omega
 ·exact h.low q hq
theorem ES.At.below {s:ES} {B0:Nat} {W W':World} (h:s.At B0 W) (hb:Below W.heap.size W W'):s.At B0 W':=Stg.below h hb
theorem ES.At.mono {s:ES} {B0 B1:Nat} {W:World} (h:s.At B0 W) (hB:B1≤B0):s.At B1 W:=
 ⟨h.eng,h.fr,h.fs,h.ft,h.fine,h.len,h.most,fun q hq=>Nat.le_trans hB (h.low q hq),Nat.le_trans hB h.db0,fun q hq=>Nat.le_trans hB (h.fix0 q hq)⟩
structure Turns (s s':ES) (W w':World):Prop where
 ex:∃ X:Nat→Prop,KeepX X W w'∧(∀ q,X q→s.own q)∧(∀ q,X q→∀ cs t p,W.heap[q]? = some (Obj.cells cs t p)→t=144∨t=141)
 new:∀ q,s'.own q→s.own q∨W.heap.size≤q
theorem Turns.keepC {s s':ES} {W w':World} (h:Turns s s' W w'):zs3 W w':=by
 obtain ⟨X,hk,_,hX⟩:=h.ex
 exact ⟨hk.size,fun q cs t p hq h1 h2=>hk.blk q (Array.getElem?_eq_some_iff.1 hq).1 fun hx=>(hX q hx cs t p hq).elim h1 h2⟩
theorem Turns.other {s s' t:ES} {W w':World} (h:Turns s s' W w') {B1:Nat} (ht:t.At B1 W) (ha:s.apart t):t.At B1 w'∧s'.apart t:=by
 obtain ⟨X,hk,hX,hT⟩:=h.ex
 refine ⟨⟨ht.eng.asideX hk (fun q hq=>ha q (hX q hq)) (fun q hq ⟨cs,hcs⟩=>by rcases hT q hq _ _ _ hcs with h|h <;> cases h),ht.fr,ht.fs,ht.ft,ht.fine,ht.len,ht.most,ht.low,ht.db0,ht.fix0⟩,fun q hq hq'=>?_⟩
 rcases h.new q hq with h1|h1
 ·exact ha q h1 hq'
 ·have:=ht.lt hq'
  omega
theorem Turns.below {s s':ES} {w W w':World} (h:Turns s s' W w') {B0:Nat} (hs:s.At B0 W) (hb:Below B0 w W) (hB:B0≤W.heap.size):Below B0 w w':=by
 obtain ⟨X,hk,hX,_⟩:=h.ex
 exact zod hb hB hk fun q hq=>hs.ge (hX q hq)
def ES.has (s:ES) (nm:ByteArray) (H:List (Nat×Nat)) (B:List zbe):Prop:=∃ v,s.vws nm=some v∧v.H=H∧v.B=B
theorem es_begun (w:World):Calls Tryz.prog 14 #[] w fun e w'=>∃ s:ES,e=.returned (.pointer (some ⟨s.eb,0,none⟩))∧s.At w.heap.size w'∧s.fl=[]∧s.nI=0∧s.nV=0∧s.M=0∧s.vws=(fun _=>none)∧Below w.heap.size w w':=by
 refine (zyl w).mono ?_
 rintro e w' ⟨eb,rfl,⟨fix,db,R,S,T,hS⟩,hb⟩
 exact ⟨⟨fix,eb,db,0,0,0,[],R,S,T,_,_⟩,rfl,hS,rfl,rfl,rfl,rfl,rfl,hb⟩
theorem es_viewed (nm qt o:ByteArray) (hs:List (Nat×Nat)) (ats:List zcb) (W:World) {s:ES} {B0:Nat} (h:s.At B0 W) (hB0:B0≤W.heap.size) (hn:zge nm=true) (hn8:nm.size≤8) (hx:s.vws nm=none) (hnV:s.nV≤5) (hsz:qt.size≤300)
  (hp:zfj qt=.ok (hs,ats)) (hf:fitB hs (ats.map zcb.q)=true) (ho:o=⟨#[]⟩∨(zbr o).Perm (zbo ((ats.map zcb.q).map (·.ts)))) (hnI:s.nI≤100000) :
  Calls Tryz.prog 16 #[.pointer (some ⟨s.eb,0,none⟩),.string nm,.string qt,.string o] W fun e w'=>e=.returned (.bool true)∧∃ s':ES,s'.At B0 w'∧Turns s s' W w'∧s'.eb=s.eb∧s'.fl=s.fl∧s'.nI≤s.nI+4∧s'.nV=s.nV+1∧s'.M=s.M+1000000000000∧(∃ v,s'.vws=zil s.vws nm v∧v.H=hs∧v.B=ats.map zcb.q):=by
 have hF:=Stg.fit h hf
 refine (zxr nm qt o hs ats W h hB0 hn hn8 hx hnV hsz hp hF.1 hF.2 ho hnI).mono ?_
 rintro e w' ⟨rfl,fix',ixs',nI',v,hS,h1,h2,h3,h4,h5,h6,h7⟩
 refine ⟨rfl,⟨fix',s.eb,s.db,nI',s.nV+1,s.M+1000000000000,s.fl,s.R,s.S,s.T,ixs',_⟩,hS,⟨⟨_,h4,fun q hq=>?_,fun q hq cs t p hc=>?_⟩,fun q hq=>?_⟩,rfl,rfl,h3,rfl,rfl,v,rfl,h1,h2⟩
 ·rcases hq with rfl|rfl
  ·exact .inr (.inr (.inl rfl))
  ·exact .inr (.inr (.inr (.inl rfl)))
 ·rcases hq with rfl|rfl
  ·obtain ⟨D,⟨es,cl,hm,_⟩,_⟩:=h.eng.imap
   rw [hm] at hc;cases hc
  ·obtain ⟨D,⟨es,cl,hm,_⟩,_⟩:=h.eng.vmap
   rw [hm] at hc;cases hc
 ·rcases hq with hq|rfl|rfl|rfl|hq
  ·exact (h6 q hq).imp (fun h=>.inl h) id
  ·exact .inl (.inr (.inl rfl))
  ·exact .inl (.inr (.inr (.inl rfl)))
  ·exact .inl (.inr (.inr (.inr (.inl rfl))))
  ·exact (h7 q hq).imp (fun h=>.inr (.inr (.inr (.inr h)))) id
theorem es_applies (u:Value) (bs:List (List Ent)) (W:World) {s:ES} {B0:Nat} (h:s.At B0 W) (hB0:B0≤W.heap.size) (hv:zwr W u bs) (hl:∀ b∈bs,b.length≤12) (hf:∀ b∈bs,∀ x∈b,Fine x) (hc:s.fl.length+bs.flatten.length≤400) (hbl:bs.length≤1000) (hM:s.M≤4000000000000000000) :
  Calls Tryz.prog 17 #[.pointer (some ⟨s.eb,0,none⟩),u] W fun e w'=>e=.returned (.bool true)∧∃ s':ES,s'.At B0 w'∧Turns s s' W w'∧s'.eb=s.eb∧s'.fl=s.fl ++ bs.flatten∧s'.nI=s.nI∧s'.nV=s.nV∧s'.M=s.M+bs.length*4000000000000∧zeo s.vws s'.vws:=by
 refine (ztf u bs W h hB0 hv hl hf hc hbl hM).mono ?_
 rintro e w' ⟨rfl,ixs',vws',hS,h1,h2,h3⟩
 refine ⟨rfl,⟨s.fix,s.eb,s.db,s.nI,s.nV,_,_,s.R,s.S,s.T,ixs',vws'⟩,hS,⟨⟨_,h2,fun q hq=>.inr (.inr (.inr (.inr hq))),fun q hq=>h.eng.xtype q hq⟩,fun q hq=>?_⟩,rfl,rfl,rfl,rfl,rfl,h1⟩
 rcases hq with hq|hq|hq|hq|hq
 ·exact .inl (.inl hq)
 ·exact .inl (.inr (.inl hq))
 ·exact .inl (.inr (.inr (.inl hq)))
 ·exact .inl (.inr (.inr (.inr (.inl hq))))
 ·exact (h3 q hq).imp (fun h=>.inr (.inr (.inr (.inr h)))) id
theorem zeo.has {s s':ES} (h:zeo s.vws s'.vws) {nm:ByteArray} {H:List (Nat×Nat)} {B:List zbe} (hv:s.has nm H B):s'.has nm H B:=by
 obtain ⟨v,h1,h2,h3⟩:=hv
 obtain ⟨n,f,h4⟩:=h.2 nm v h1
 exact ⟨_,h4,h2,h3⟩
theorem rowsOf_eq {s t:ES} {B0 B1:Nat} {W W':World} (hs:s.At B0 W) (ht:t.At B1 W') (he:∀ nm r,sumE s.fl nm r=sumE t.fl nm r) (B:List zbe):zgv (stF s.R s.S s.T s.fl) B=zgv (stF t.R t.S t.T t.fl) B:=by
 have hR:(zao s.R s.fl nmR).f=(zao t.R t.fl nmR).f:=by funext r;simp only [zao];rw [hs.fr.2.2,ht.fr.2.2,he]
 have hS:(zao s.S s.fl nmS).f=(zao t.S t.fl nmS).f:=by funext r;simp only [zao];rw [hs.fs.2.2,ht.fs.2.2,he]
 have hT:(zao s.T s.fl nmT).f=(zao t.T t.fl nmT).f:=by funext r;simp only [zao];rw [hs.ft.2.2,ht.ft.2.2,he]
 have aR:(zao s.R s.fl nmR).ar=(zao t.R t.fl nmR).ar:=hs.fr.1.trans ht.fr.1.symm
 have aS:(zao s.S s.fl nmS).ar=(zao t.S t.fl nmS).ar:=hs.fs.1.trans ht.fs.1.symm
 have aT:(zao s.T s.fl nmT).ar=(zao t.T t.fl nmT).ar:=hs.ft.1.trans ht.ft.1.symm
 funext i
 unfold zgv stF
 generalize (B[i]?.getD zar).nm=nm
 by_cases h1:nm=nmR
 ·subst h1;rw [zsj,zsj];dsimp only;rw [hR,aR]
 ·by_cases h2:nm=nmS
  ·subst h2;rw [zrr,zrr];dsimp only;rw [hS,aS]
  ·by_cases h3:nm=nmT
   ·subst h3;rw [zyc,zyc];dsimp only;rw [hT,aT]
   ·rw [zo0 h1 h2 h3,zo0 h1 h2 h3]
theorem view_eq {s t:ES} {B0 B1:Nat} {W W':World} (hs:s.At B0 W) (ht:t.At B1 W') (he:∀ nm r,sumE s.fl nm r=sumE t.fl nm r) {n m:ByteArray} {v u:ze3} (hv:s.vws n=some v) (hu:t.vws m=some u) (hH:v.H=u.H) (hB:v.B=u.B) {q:H4} (hq:WfH q):v.f q=u.f q:=by
 refine zml (Stg.range hs hv hq) (Stg.range ht hu hq) ?_
 rw [Stg.val hs hv q,Stg.val ht hu q,hH,hB,rowsOf_eq hs ht he]
theorem rowsF_eq {f g:H4→Int} (h:∀ q,WfH q→f q=g q) {ys zs:List H4} (hy:H.zh0 f ys) (hz:H.zh0 g zs) (n:Nat):H.zbz n f ys=H.zbz n g zs:=by
 have e:ys=zs:=H.rising_unique ys zs hy.rising hz.rising fun r=>by
  constructor
  ·intro hr
   have hw:=hy.wf r hr
   exact (hz.mem r hw).2 (by rw [← h r hw];exact (hy.mem r hw).1 hr)
  ·intro hr
   have hw:=hz.wf r hr
   exact (hy.mem r hw).2 (by rw [h r hw];exact (hz.mem r hw).1 hr)
 subst e
 unfold H.zbz
 exact List.map_congr_left fun y hy'=>by rw [h y (hy.wf y hy')]
set_option maxRecDepth 100000 in
set_option maxHeartbeats 1000000 in
theorem es_alike (n m:ByteArray) (W:World) {s t:ES} {B0 B1:Nat} (hs:s.At B0 W) (ht:t.At B1 W) (he:∀ nm r,sumE s.fl nm r=sumE t.fl nm r) {Hq:List (Nat×Nat)} {B:List zbe} (hv:s.has n Hq B) (hu:t.has m Hq B) :
  Calls Tryz.prog 26 #[.pointer (some ⟨s.eb,0,none⟩),.string n,.pointer (some ⟨t.eb,0,none⟩),.string m] W fun e w'=>e=.returned (.bool true)∧Below W.heap.size W w':=by
 obtain ⟨v,v1,v2,v3⟩:=hv
 obtain ⟨u,u1,u2,u3⟩:=hu
 have hfe:∀ q,WfH q→v.f q=u.f q:=fun q hq=>view_eq hs ht he v1 u1 (v2.trans u2.symm) (v3.trans u3.symm) hq
 have hHl:v.H.length=u.H.length:=by rw [v2,u2]
 have H1:=hide (stg_read n W hs v1)
 have H2:∀ W',Below W.heap.size W W'→Hid _:=fun W' hb=>hide (stg_read m W' (ht.below hb) u1)
 have Hfe:=hide hfe
 have HHl:=hide hHl
 clear hs ht he v1 v2 v3 u1 u2 u3 hfe hHl
 go_enter Tryz.func26,Tryz.ntmps26
 go_wp2_with fail
 refine (zaa H1).mono ?_
 rintro e w1 ⟨o,ys,rfl,r1,r2,r3,b1⟩
 have H3:=H2 w1 b1
 have Hr:=hide (And.intro r1 r2)
 have Hb1:=hide b1
 clear H1 H2 r1 r2 b1
 go_wp2_with fail
 refine (zaa H3).mono ?_
 rintro e w2 ⟨o',zs,rfl,s1,s2,s3,b2⟩
 have hrows:=rowsF_eq (zaa Hfe) (zaa Hr).1 s1 v.H.length
 rw [← zaa HHl,← hrows] at s2
 have hlen:(H.zbz v.H.length v.f ys).length≤1000000000:=by simp [H.zbz];omega
 have H4:=hide (ztq o o' (H.zbz v.H.length v.f ys) w2 ((zaa Hr).2.below b2) s2 hlen (ziu _ _ _))
 have Hb2:=hide ((zaa Hb1).trans (b2.mono (zaa Hb1).size))
 clear H3 s1 s2 b2 hrows hlen
 go_wp2_with fail
 refine (zaa H4).mono ?_
 rintro e w3 ⟨rfl,hd⟩
 have Hb3:=hide ((zaa Hb2).trans (hd.below _))
 clear hd H4
 go_wp2
 go_ret
 exact ⟨rfl,zaa Hb3⟩
end K
end Go.Proofs.YtoifcnidhfnapaaGreatDoor

namespace Go.Proofs.YtoifcnidhfnapaaGreatDoor
namespace K
open Go.RowKit Go.Maps Go.Sort Go.Shelf
def wkQ:ByteArray:=⟨#[40,88,44,90,41,58,45,114,40,88,44,89,41,44,114,40,89,44,90,41]⟩
def wkO:ByteArray:=⟨#[89,88,90]⟩
def wkP:List (Nat×Nat)×List zcb:=([(88,1),(90,3)],[⟨nmR,7,[(88,0),(89,0)]⟩,⟨nmR,14,[(89,0),(90,0)]⟩])
theorem wk_read:zfj wkQ=.ok wkP:=by kernel_rfl
theorem wk_fit:fitB wkP.1 (wkP.2.map zcb.q)=true:=by decide +kernel
theorem wk_ord:(zbr wkO).Perm (zbo ((wkP.2.map zcb.q).map (·.ts))):=by decide +kernel
def wkE:List Ent:=[⟨nmR,[1,2],1⟩,⟨nmR,[2,3],2⟩]
def wkR:List Row:=[(1,2,0),(2,3,0)]
theorem wk_sum (r:Row):sumE wkE nmR r=(if (1,2,0)=r then 1 else 0)+(if (2,3,0)=r then 2 else 0):=by
 simp [sumE,wkE,zbx]
theorem wk_sumS (r:Row):sumE wkE nmS r=0:=by
 simp [sumE,wkE,nmRS]
theorem wk_sumT (r:Row):sumE wkE nmT r=0:=by
 simp [sumE,wkE,nmRT]
theorem wk_wf:∀ y∈wkR,zav y:=by
 intro y hy
 simp only [wkR,List.mem_cons,List.not_mem_nil,or_false] at hy
 rcases hy with rfl|rfl <;> exact ⟨zoj (by decide),zoj (by decide),zoj (by decide)⟩
theorem wk_rows {f:Row→Int} (hf:∀ r,f r=(if (1,2,0)=r then 1 else 0)+(if (2,3,0)=r then 2 else 0)):zlc f wkR:=by
 refine ⟨wk_wf,by decide,fun r _=>?_⟩
 rw [hf]
 simp only [wkR,List.mem_cons,List.not_mem_nil,or_false]
 by_cases h1:(1,2,0)=r
 ·subst h1;decide
 ·by_cases h2:(2,3,0)=r
  ·subst h2;decide
  ·rw [if_neg h1,if_neg h2]
   constructor
   ·rintro (h|h)
    ·exact absurd h.symm h1
    ·exact absurd h.symm h2
   ·intro h;exact absurd rfl h
theorem wk_val:vval zer zhe (fun _=>[((1,2,0),1),((2,3,0),2)]) (1,3,0,0)=2#64:=by decide +kernel
theorem wk_view {F:H4→Int} (hF:∀ q,BitVec.ofInt 64 (F q)=vval zer zhe (fun _=>[((1,2,0),1),((2,3,0),2)]) q) (hr:∀ q,WfH q→-9223372036854775808≤F q∧F q≤9223372036854775807):F (1,3,0,0)=2∧∀ q,WfH q→F q≠0→q=(1,3,0,0):=by
 refine ⟨zml (hr _ ⟨zoj (by decide),zoj (by decide),zoj (by decide),zoj (by decide)⟩) (by omega) ((hF _).trans wk_val),fun q hq h0=>?_⟩
 have hz:vval zer zhe (fun _=>[((1,2,0),1),((2,3,0),2)]) q≠0#64:=fun hz=>h0 (zml (hr q hq) (by omega) ((hF q).trans hz))
 obtain ⟨r,hrr,hfit,rfl⟩:=zrj hz
 rw [zwk] at hfit
 rw [zoa]
 obtain ⟨x0,hx0,e0⟩:=hrr 0 (by decide)
 obtain ⟨x1,hx1,e1⟩:=hrr 1 (by decide)
 simp only [List.mem_cons,List.not_mem_nil,or_false] at hx0 hx1
 rw [← e0,← e1] at hfit
 rw [← e0,← e1]
 rcases hx0 with rfl|rfl <;> rcases hx1 with rfl|rfl
 ·exact absurd hfit (by decide)
 ·rfl
 ·exact absurd hfit (by decide)
 ·exact absurd hfit (by decide)
end K
end Go.Proofs.YtoifcnidhfnapaaGreatDoor

namespace Go.Proofs.YtoifcnidhfnapaaGreatDoor
namespace K
open Go.RowKit Go.Maps Go.Sort Go.Shelf
section
variable {s:ES} {B0:Nat} {W:World}
theorem wk_small (h:s.At B0 W) (hfl:s.fl=[]) {nm:ByteArray} {Q:Rel} (hQ:stF s.R s.S s.T s.fl nm=some Q):Q.n=0∧∀ r,Q.f r=0:=by
 rw [hfl] at hQ
 rcases zlg hQ with ⟨_,rfl⟩|⟨_,rfl⟩|⟨_,rfl⟩
 ·rw [zeg];exact ⟨h.fr.2.1,fun r=>by rw [h.fr.2.2]⟩
 ·rw [zeg];exact ⟨h.fs.2.1,fun r=>by rw [h.fs.2.2]⟩
 ·rw [zeg];exact ⟨h.ft.2.1,fun r=>by rw [h.ft.2.2]⟩
theorem wk_sum_small (nm:ByteArray) (hn:nm=nmR∨nm=nmS∨nm=nmT) (r:Row):-1000≤sumE wkE nm r∧sumE wkE nm r≤1000∧(sumE wkE nm r≠0→r∈wkR):=by
 rcases hn with rfl|rfl|rfl
 ·rw [wk_sum]
  by_cases h1:(1,2,0)=r
  ·subst h1;decide
  ·by_cases h2:(2,3,0)=r
   ·subst h2;decide
   ·rw [if_neg h1,if_neg h2];exact ⟨by omega,by omega,fun h=>absurd rfl h⟩
 ·rw [wk_sumS];exact ⟨by omega,by omega,fun h=>absurd rfl h⟩
 ·rw [wk_sumT];exact ⟨by omega,by omega,fun h=>absurd rfl h⟩
set_option maxRecDepth 100000 in
set_option maxHeartbeats 1000000 in
theorem wk_apply (h:s.At B0 W) (hfl:s.fl=[]) (v:Value) (hv:zh4 W v wkE) (hM:s.M≤8000000000000000000) :
  Calls Tryz.prog 28 #[.pointer (some ⟨s.eb,0,none⟩),v] W fun e w'=>e=.returned (.bool true)∧KeepX (EngX (stF s.R s.S s.T s.fl) s.ixs s.vws) W w'∧∃ ixs' vws',EngV w' s.fix s.eb s.db 3 s.nI s.nV 5 (zw4 (stF s.R s.S s.T s.fl) wkE) ixs' vws'∧zeo s.vws vws':=by
 have hlen:s.fl.length=0:=by rw [hfl];rfl
 have hE:=h.eng
 have hN:1+2*s.fl.length=1:=by omega
 rw [hN] at hE
 have hQR:stF s.R s.S s.T s.fl nmR=some (zao s.R s.fl nmR):=zsj _ _ _
 have har:(zao s.R s.fl nmR).ar=2:=h.three.r.ar_
 have hnm:∀ nm Q,stF s.R s.S s.T s.fl nm=some Q→nm=nmR∨nm=nmS∨nm=nmT:=fun nm Q hQ=>by
  rcases zlg hQ with ⟨e,_⟩|⟨e,_⟩|⟨e,_⟩
  ·exact .inl e
  ·exact .inr (.inl e)
  ·exact .inr (.inr e)
 have hmem:∀ x∈wkE,x=⟨nmR,[1,2],1⟩∨x=⟨nmR,[2,3],2⟩:=fun x hx=>by simpa [wkE] using hx
 have hW:∀ nm Q,stF s.R s.S s.T s.fl nm=some Q→zk4 Q.f (sumE wkE nm):=fun nm Q hQ r hr _=>by
  rw [(wk_small h hfl hQ).2 r,Int.zero_add]
  have:=wk_sum_small nm (hnm nm Q hQ) r
  exact ⟨this.1,this.2.1⟩
 have hR:∀ nm Q,stF s.R s.S s.T s.fl nm=some Q→zv6 wkE nm Q.f:=fun nm Q hQ _=>⟨wkR,by decide,fun r hr h0=>by
  rw [(wk_small h hfl hQ).2 r,Int.zero_add] at h0
  exact (wk_sum_small nm (hnm nm Q hQ) r).2.2 h0⟩
 have H:=hide ((zxi v wkE W hE hv (by decide) (fun x hx=>by
   rcases hmem x hx with rfl|rfl
   ·exact ⟨by decide,by simp,⟨zoj (by decide),zoj (by decide),zoj (by decide)⟩,by simp,by simp⟩
   ·exact ⟨by decide,by simp,⟨zoj (by decide),zoj (by decide),zoj (by decide)⟩,by simp,by simp⟩) (fun i hi=>by
   have hx:wkE[i]?.getD zg0∈wkE:=by simp [hi]
   rcases hmem _ hx with e|e
   ·rw [e];exact zyv (by decide) hQR (by simp) (by rw [har];rfl) (by simp)
   ·rw [e];exact zyv (by decide) hQR (by simp) (by rw [har];rfl) (by simp)) (fun x hx=>by
   rcases hmem x hx with rfl|rfl
   ·show stF s.R s.S s.T s.fl nmR≠none;rw [hQR];simp
   ·show stF s.R s.S s.T s.fl nmR≠none;rw [hQR];simp) (fun nm Q hQ=>by
   obtain ⟨h1,h2⟩:=wk_small h hfl hQ
   exact ⟨by rw [h1];decide,fun r _=>by rw [h2 r];omega⟩) (by omega) (by omega) (fun nm u hu=>by
   have:=h.most nm u hu
   have e:4*(1+2*wkE.length) ^ 4=2500:=by decide
   omega)).mono (R':=fun e w'=>e=.returned (.tuple #[.int .i64 0,.int .i64 0])∧KeepX (EngX (stF s.R s.S s.T s.fl) s.ixs s.vws) W w'∧∃ ixs' vws',EngV w' s.fix s.eb s.db 3 s.nI s.nV 5 (zw4 (stF s.R s.S s.T s.fl) wkE) ixs' vws'∧zeo s.vws vws') (by
  rintro e w' ⟨c,rfl,hk,⟨rfl,h1,_⟩|⟨rfl,_,h1,_⟩|⟨rfl,_,_,ixs',vws',h1,h2,h4,h5⟩⟩
  ·exact absurd hW h1
  ·exact absurd hR h1
  ·exact ⟨rfl,hk,ixs',vws',h1,zeo.ofKept h2⟩))
 clear h hv hE hW hR
 go_enter Tryz.func28,Tryz.ntmps28
 go_wp2_with fail
 refine (zaa H).mono ?_
 rintro e w1 ⟨rfl,h1⟩
 have H1:=hide h1
 clear h1 H
 go_wp2
 go_ret
 exact ⟨rfl,zaa H1⟩
theorem wk_read20 {ixs':IxS} {vws':VwS} (h:s.At B0 W) (hfl:s.fl=[]) {w':World} (hE:EngV w' s.fix s.eb s.db 3 s.nI s.nV 5 (zw4 (stF s.R s.S s.T s.fl) wkE) ixs' vws') {v:ze3} (hv:vws' nmV=some v) (hH:v.H=wkP.1) (hB:v.B=wkP.2.map zcb.q) :
  Calls Tryz.prog 20 #[.pointer (some ⟨s.eb,0,none⟩),.string nmV] w' fun e w2=>∃ o,e=.returned (.tuple #[o,.int .i64 0])∧zdm w2 o [([1,3],2)]∧Below w'.heap.size w' w2:=by
 obtain ⟨hV,hHo⟩:=hE.vw nmV v hv
 obtain ⟨Q,hst,hQf⟩:∃ Q,zw4 (stF s.R s.S s.T s.fl) wkE nmR=some Q∧Q.f=fun r=>(zao s.R s.fl nmR).f r+sumE wkE nmR r:=by
  unfold zw4
  rw [show stF s.R s.S s.T s.fl nmR=some (zao s.R s.fl nmR) from zsj _ _ _]
  exact ⟨_,rfl,rfl⟩
 have hf:∀ r,(zao s.R s.fl nmR).f r+sumE wkE nmR r=(if (1,2,0)=r then 1 else 0)+(if (2,3,0)=r then 2 else 0):=fun r=>by
  rw [(wk_small h hfl (show stF s.R s.S s.T s.fl nmR=some (zao s.R s.fl nmR) from zsj _ _ _)).2 r,Int.zero_add,wk_sum]
 have hL:za3 (fun r=>(zao s.R s.fl nmR).f r+sumE wkE nmR r) wkR=[((1,2,0),1),((2,3,0),2)]:=by
  unfold za3
  simp only [hf]
  rfl
 have hval:∀ q,BitVec.ofInt 64 (v.f q)=vval zer zhe (fun _=>[((1,2,0),1),((2,3,0),2)]) q:=fun q=>by
  have:=hHo (fun _=>[((1,2,0),1),((2,3,0),2)]) (fun i hi=>⟨Q,?_,wkR,by rw [hQf];exact wk_rows hf,by rw [hQf];exact hL.symm⟩) q
  ·rw [hH,hB] at this
   exact this
  ·rw [hB] at hi ⊢
   have hi2:i<2:=hi
   match i,hi2 with
   | 0,_=>exact hst
   | 1,_=>exact hst
 obtain ⟨h2,hs⟩:=wk_view hval fun q hq=>hV.map.range hq
 have hM:=hV.map.tight [(1,3,0,0)] fun q hq h0=>by simp [hs q hq h0]
 refine (zy8 w' hE nmV v hv 1 (by omega) hM).mono ?_
 rintro e w2 ⟨o,ys,xs,rfl,r1,_,_,_,r2,r3,b⟩
 refine ⟨o,rfl,?_,b⟩
 have hw:WfH (1,3,0,0):=⟨zoj (by decide),zoj (by decide),zoj (by decide),zoj (by decide)⟩
 have hin:((1,3,0,0):H4)∈ys:=(r1.mem _ hw).2 (by rw [h2];decide)
 have hys:ys=[(1,3,0,0)]:=by
  match ys,hin,r3 with
  | [y],hin,_=>simp at hin;rw [hin]
 rw [hys] at r2
 have hl:v.H.length=2:=by rw [hH];rfl
 rw [hl] at r2
 have e:H.zbz 2 v.f [(1,3,0,0)]=[([1,3],2)]:=by unfold H.zbz;simp [H.zcn,h2]
 rw [e] at r2
 exact r2
end
end K
end Go.Proofs.YtoifcnidhfnapaaGreatDoor

namespace Go.Proofs.YtoifcnidhfnapaaGreatDoor
namespace K
open Go.RowKit Go.Maps Go.Sort Go.Shelf
set_option maxRecDepth 100000 in
set_option maxHeartbeats 4000000 in
theorem woken_any (w:World):Calls Tryz.prog 24 #[] w fun e w'=>e=.returned (.bool true)∧Below w.heap.size w w':=by
 go_enter Tryz.func24,Tryz.ntmps24
 go_wp2_with fail
 refine (es_begun w).mono ?_
 rintro e w1 ⟨s,rfl,hs,hfl,hnI,hnV,hM,hvw,hb⟩
 have Hv:=hide (es_viewed nmV wkQ wkO wkP.1 wkP.2 w1 hs hb.size nameV (by decide) (by rw [hvw]) (by omega) (by decide) wk_read wk_fit (.inr wk_ord) (by omega))
 have Hb:=hide hb
 have Hs:=hide hs
 have Hfl:=hide hfl
 have HM:=hide hM
 clear hs hfl hnI hnV hM hvw hb
 go_wp2_with fail
 refine (zaa Hv).mono ?_
 rintro e w2 ⟨rfl,s2,hs2,ht,heb,hfl2,_,_,hM2,v,hvw,hH,hB⟩
 have hb2:=ht.below (zaa Hs) (zaa Hb) (zaa Hb).size
 have hfl2':s2.fl=[]:=hfl2.trans (zaa Hfl)
 have hM3:s2.M≤8000000000000000000:=by rw [hM2,zaa HM];omega
 obtain ⟨w3,hw3⟩:∃ w3,w3=((w2.alloc (.cells #[.int .i64 1,.int .i64 2] 2)).alloc (.cells #[.int .i64 2,.int .i64 3] 2)).alloc (.cells #[.string nmR,.slice (some ⟨w2.heap.size,0,none⟩) 2 2,.int .i64 1,.string nmR,.slice (some ⟨w2.heap.size+1,0,none⟩) 2 2,.int .i64 2] 64):=⟨_,rfl⟩
 have hb3:Below w2.heap.size w2 w3:=by rw [hw3];exact (((Below.refl _ _).alloc (Nat.le_refl _) _).alloc (by simp) _).alloc (by simp;omega) _
 have g0:w3.heap[w2.heap.size]? = some (.cells #[.int .i64 1,.int .i64 2] 2 (0,0)):=by rw [hw3,Below.heap_alloc _ _ _ (by simp;omega),Below.heap_alloc _ _ _ (by simp)];exact zad _ _ _ rfl
 have g1:w3.heap[w2.heap.size+1]? = some (.cells #[.int .i64 2,.int .i64 3] 2 (0,0)):=by rw [hw3,Below.heap_alloc _ _ _ (by simp)];exact zad _ _ _ (by simp)
 have g2:w3.heap[w2.heap.size+2]? = some (.cells #[.string nmR,.slice (some ⟨w2.heap.size,0,none⟩) 2 2,.int .i64 1,.string nmR,.slice (some ⟨w2.heap.size+1,0,none⟩) 2 2,.int .i64 2] 64 (0,0)):=by rw [hw3];exact zad _ _ _ (by simp)
 have hents:zh4 w3 (.slice (some ⟨w2.heap.size+2,0,none⟩) 2 2) wkE:=⟨some ⟨w2.heap.size+2,0,none⟩,2,rfl,fun i hi=>by
  have hi2:i<2:=hi
  match i,hi2 with
  | 0,_=>exact ⟨_,0,_,rfl,zab g2 0,zab g2 1,zez (zs:=[1,2]) g0 2,zab g2 2⟩
  | 1,_=>exact ⟨_,0,_,rfl,zab g2 3,zab g2 4,zez (zs:=[2,3]) g1 2,zab g2 5⟩⟩
 have hs3:=hs2.below hb3
 have ha:=wk_apply hs3 hfl2' _ hents hM3
 rw [heb] at ha
 have Heb:=hide heb
 have Ha:=hide ha
 have hel:s.eb<w3.heap.size:=by rw [← heb];exact hs3.eng.flt _ hs3.eng.feb
 have hb3':=hb2.trans (hb3.mono hb2.size)
 have Hb3:=hide hb3'
 have Hs3:=hide hs3
 have Hfl2:=hide hfl2'
 have Hhas:=hide (show s2.has nmV wkP.1 (wkP.2.map zcb.q) from ⟨v,by rw [hvw];exact zbu _ _ _,hH,hB⟩)
 clear hs2 ht hfl2 hfl2' hM2 hM3 hvw hH hB hb2 hb3 hb3' g0 g1 g2 hents hs3 Hv Hs Hfl HM Hb ha heb hel
 subst hw3
 go_wp2_with fail
 refine (zaa Ha).mono ?_
 rintro e w4 ⟨rfl,hk,ixs',vws',hE,hsame⟩
 obtain ⟨v0,hv0,hH0,hB0⟩:=zaa Hhas
 obtain ⟨n',f',hv'⟩:=hsame.2 nmV v0 hv0
 have hr:Calls Tryz.prog 20 #[.pointer (some ⟨s.eb,0,none⟩),.string nmV] w4 fun e w2=>∃ o,e=.returned (.tuple #[o,.int .i64 0])∧zdm w2 o [([1,3],2)]∧Below w4.heap.size w4 w2:=by
  rw [← zaa Heb] at hE ⊢
  exact wk_read20 (zaa Hs3) (zaa Hfl2) hE hv' hH0 hB0
 have Hr:=hide hr
 have Hb4:=hide (zod (zaa Hb3) (zaa Hb3).size hk (zaa Hs3).low)
 clear hk hE hsame hv0 hH0 hB0 hv' hr Ha Hhas Hs3 Hb3
 go_wp2_with fail
 refine (zaa Hr).mono ?_
 rintro e w5 ⟨o,rfl,hrows,hb5⟩
 have Hb5:=hide ((zaa Hb4).trans (hb5.mono (zaa Hb4).size))
 obtain ⟨a,cap,rfl,hc⟩:=hrows
 obtain ⟨b,o,sv,rfl,c0,hi,c1⟩:=hc 0 (by decide)
 obtain ⟨a2,cap2,rfl,hi⟩:=hi
 obtain ⟨b2,o2,rfl,i0⟩:=hi 0 (by decide)
 obtain ⟨b3,o3,hbo,i1⟩:=hi 1 (by decide)
 cases hbo
 simp only [Nat.zero_mul,Nat.add_zero,List.length_cons,List.length_nil,Nat.zero_add,List.getElem?_cons_zero,Option.getD_some] at c0 c1 i0
 have i1':w5.cell? ⟨b2,o2+1,none⟩=some (.int .i64 3):=i1
 clear hc hi hb5 i1 Hb4 Hr
 go_wp2
 go_ret
 exact ⟨rfl,zaa Hb5⟩
end K
end Go.Proofs.YtoifcnidhfnapaaGreatDoor
