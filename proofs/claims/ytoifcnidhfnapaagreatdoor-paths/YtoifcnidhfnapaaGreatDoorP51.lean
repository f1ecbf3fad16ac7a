import Derived.Test.YtoifcnidhfnapaaGreatDoorP31
import Derived.Test.YtoifcnidhfnapaaGreatDoorP11
import Derived.Test.YtoifcnidhfnapaaGreatDoorP50
import Derived.Test.YtoifcnidhfnapaaGreatDoorP42
set_option linter.unusedVariables false
set_option linter.unusedSimpArgs false
namespace Go.Proofs.YtoifcnidhfnapaaGreatDoor
namespace K
open Go.RowKit Go.Maps
theorem zdb {α:Type} (l:List α):bsum l (fun _=>0#64)=0#64:=by
 induction l with
 | nil=>rfl
 | cons a l ih=>simp only [bsum,ih];rfl
theorem zga {α:Type} (d:α) (L:Nat→List α):∀ n,tsum d L n (fun _=>0#64)=0#64
 | 0=>rfl
 | n+1=>by simp only [tsum,zga d L n,zdb]
theorem zzn {α:Type} (d:α) (L:Nat→List α) (n:Nat) (f:(Nat→α)→B64) (h:tsum d L n f≠0#64):∃ g,(∀ i,i<n→g i∈L i)∧f g≠0#64:=by
 refine Classical.byContradiction fun hn=>h ?_
 rw [zct d L n f (fun _=>0#64) fun g hg=>Classical.byContradiction fun hf=>hn ⟨g,hg,hf⟩]
 exact zga d L n
theorem zrj {A:List (List Trm)} {H:List Nat} {L:Nat→List REnt} {h:H4} (hv:vval A H L h≠0#64):∃ r:Nat→Row,(∀ i,i<A.length→∃ e∈L i,e.1=r i)∧zno A r (zkk A r)∧zja H (zkk A r)=h:=by
 unfold vval jsum at hv
 obtain ⟨g,hg,hf⟩:=zzn _ _ _ _ hv
 refine ⟨fun i=>(g i).1,fun i hi=>⟨g i,hg i hi,rfl⟩,?_⟩
 refine Classical.byContradiction fun hn=>hf ?_
 unfold fitQ
 rw [if_neg hn]
 exact BitVec.zero_mul
theorem zhi:(0:Int)∈nums:=by simp [nums]
theorem zmn {r:Row} (h:r∈zdt) (j:Nat):zah r j∈nums:=by
 simp only [zdt,List.mem_flatMap,List.mem_map] at h
 obtain ⟨a,ha,b,hb,rfl⟩:=h
 unfold zah
 split
 ·exact ha
 ·exact hb
 ·exact zhi
theorem zmy {r:Row} (h:r∈zhz) (j:Nat):zah r j∈nums:=by
 simp only [zhz,List.mem_map] at h
 obtain ⟨a,ha,rfl⟩:=h
 unfold zah
 split
 ·exact ha
 ·exact zhi
 ·exact zhi
theorem zkm {A:List (List Trm)} {r:Nat→Row} (hr:∀ i,i<A.length→∀ j,zah (r i) j∈nums) (v:Nat):∀ n,n≤A.length→zj0 A r v n∈nums
 | 0,_=>zhi
 | n+1,hn=>by
  simp only [zj0]
  cases zlo (A[n]?.getD []) v with
  | some j=>exact hr n (by omega) j
  | none=>exact zkm hr v n (by omega)
def zxj:List H4:=nums.flatMap fun a=>nums.flatMap fun b=>nums.flatMap fun c=>nums.map fun d=>(a,b,c,d)
theorem yaz:zxj.length=256:=by decide +kernel
theorem yah {a b c d:Int} (ha:a∈nums) (hb:b∈nums) (hc:c∈nums) (hd:d∈nums):((a,b,c,d):H4)∈zxj:=
 List.mem_flatMap.2 ⟨a,ha,List.mem_flatMap.2 ⟨b,hb,List.mem_flatMap.2 ⟨c,hc,List.mem_map.2 ⟨d,hd,rfl⟩⟩⟩⟩
theorem zwi {H:List Nat} {asg:Nat→Int} (h:∀ v,asg v∈nums):zja H asg∈zxj:=by
 unfold zja
 have:∀ q,(if q<H.length then asg (H[q]?.getD 0) else 0)∈nums:=fun q=>by
  split
  ·exact h _
  ·exact zhi
 exact yah (this 0) (this 1) (this 2) (this 3)
theorem ybb {A:List (List Trm)} {H:List Nat} {L:Nat→List REnt} {h:H4} (hL:∀ i,i<A.length→∀ e∈L i,e.1∈zdt∨e.1∈zhz) (hv:vval A H L h≠0#64):h∈zxj:=by
 obtain ⟨r,hr,_,rfl⟩:=zrj hv
 refine zwi fun v=>zkm (fun i hi j=>?_) v _ (Nat.le_refl _)
 obtain ⟨e,he,h1⟩:=hr i hi
 rw [← h1]
 rcases hL i hi e he with h|h
 ·exact zmn h j
 ·exact zmy h j
theorem zek {α β:Type} (g:α→β) (f:β→B64):∀ l:List α,bsum (l.map g) f=bsum l (fun a=>f (g a))
 | []=>rfl
 | a :: l=>by simp only [List.map_cons,bsum,zek g f l]
theorem za5 {α:Type} (f:α→B64):∀ l m:List α,bsum (l ++ m) f=bsum l f+bsum m f
 | [],m=>by simp [bsum]
 | a :: l,m=>by simp only [List.cons_append,bsum,za5 f l m,BitVec.add_assoc]
theorem zqs {α β:Type} (g:α→List β) (f:β→B64):∀ l:List α,bsum (l.flatMap g) f=bsum l (fun a=>bsum (g a) f)
 | []=>rfl
 | a :: l=>by rw [List.flatMap_cons,za5,zqs g f l];rfl
theorem zgl {α:Type} [DecidableEq α] (f:α→B64) (x:α):∀ l:List α,l.Nodup→x∈l→bsum l (fun a=>if a=x then f a else 0#64)=f x
 | [],_,h=>by cases h
 | a :: l,hn,h=>by
  simp only [bsum]
  rw [List.nodup_cons] at hn
  by_cases e:a=x
  ·subst e
   rw [if_pos rfl,zat (g:=fun _=>0#64) (fun b hb=>if_neg fun (e:b=a)=>hn.1 (e ▸ hb)),zdb,BitVec.add_zero]
  ·rw [if_neg e,zgl f x l hn.2 ((List.mem_cons.1 h).resolve_left (fun h=>e h.symm)),BitVec.zero_add]
theorem eqv_grid {f:Row→Int} {xs G:List Row} (ha:xs.Pairwise (·≠·)) (hG:G.Nodup) (hx:∀ x∈xs,x∈G) (hm:∀ x∈G,x ∉ xs→f x=0):Eqv (za3 f xs) (za3 f G):=by
 intro ψ
 unfold za3
 rw [zek,zek]
 dsimp only
 have key:∀ (ys:List Row),ys.Pairwise (·≠·)→(∀ y∈ys,y∈G)→bsum ys (fun a=>ψ a*wtB (a,f a))=bsum G (fun a=>if a∈ys then ψ a*wtB (a,f a) else 0#64):=by
  intro ys
  induction ys with
  | nil=>intro _ _;simp only [bsum,List.not_mem_nil,if_false,zdb]
  | cons y ys ih =>
   intro hp hy
   rw [List.pairwise_cons] at hp
   have h1:=ih hp.2 fun z hz=>hy z (by simp [hz])
   have h2:=zgl (fun a=>ψ a*wtB (a,f a)) y G hG (hy y (by simp))
   simp only [bsum]
   rw [h1,← h2,← zle]
   refine zat fun a _=>?_
   by_cases e:a=y
   ·subst e
    have:a ∉ ys:=fun h=>hp.1 a h rfl
    simp [this]
   ·simp [e]
 rw [key xs ha hx]
 refine zat fun a haG=>?_
 by_cases h:a∈xs
 ·rw [if_pos h]
 ·rw [if_neg h,hm a haG h]
  simp [wtB]
def zer:List (List Trm):=[[(88,0),(89,0)],[(89,0),(90,0)]]
def zhe:List Nat:=[88,90]
theorem zwk {r:Nat→Row}:zno zer r (zkk zer r)↔(r 0).2.1=(r 1).1:=by
 have e1:zkk zer r 88=(r 0).1:=rfl
 have e2:zkk zer r 89=(r 1).1:=rfl
 have e3:zkk zer r 90=(r 1).2.1:=rfl
 constructor
 ·intro h
  have:=h 0 (by decide) 1 (by decide)
  exact this
 ·intro h i hi j hj
  have hi2:i<2:=hi
  match i,hi2 with
  | 0,_ =>
   have hj2:j<2:=hj
   match j,hj2 with
   | 0,_=>rfl
   | 1,_=>exact h
  | 1,_ =>
   have hj2:j<2:=hj
   match j,hj2 with
   | 0,_=>rfl
   | 1,_=>rfl
theorem zoa {r:Nat→Row}:zja zhe (zkk zer r)=((r 0).1,(r 1).2.1,0,0):=rfl
theorem zz4 {r:Nat→Row} (a c:Int):fitQ zer zhe (a,c,0,0) r=if (r 0).2.1=(r 1).1∧(r 0).1=a∧(r 1).2.1=c then 1#64 else 0#64:=by
 unfold fitQ
 have h1:zja zhe (zkk zer r)=(a,c,0,0)↔(r 0).1=a∧(r 1).2.1=c:=by rw [zoa];simp
 simp only [zwk,h1]
theorem zn2 (φ:Row→B64):bsum zdt φ=bsum nums fun a=>bsum nums fun b=>φ (a,b,0):=by
 unfold zdt
 rw [zqs]
 exact zat fun a _=>zek _ _ _
theorem zkd:nums.Nodup:=by decide
theorem zgm:zdt.Nodup:=by decide +kernel
theorem zy1 {f g:Row→Int} {L:Nat→List REnt} (h0:Eqv (L 0) (za3 f zdt)) (h1:Eqv (L 1) (za3 g zdt)) {a c:Int} (ha:a∈nums) (hc:c∈nums) :
  vval zer zhe L (a,c,0,0)=bsum nums fun y=>BitVec.ofInt 64 (f (a,y,0))*BitVec.ofInt 64 (g (y,c,0)):=by
 unfold vval
 rw [show zer.length=2 from rfl,zd1,h1 fun r=>jsum L 1 (fun q=>fitQ zer zhe (a,c,0,0) (updF q 1 r))]
 unfold za3
 rw [zek,zn2]
 dsimp only
 refine zat fun y hy=>?_
 have inner:∀ z,z∈nums→jsum L 1 (fun q=>fitQ zer zhe (a,c,0,0) (updF q 1 (y,z,0)))=if z=c then BitVec.ofInt 64 (f (a,y,0)) else 0#64:=by
  intro z hz
  rw [zd1,h0 fun r=>jsum L 0 (fun q=>fitQ zer zhe (a,c,0,0) (updF (updF q 0 r) 1 (y,z,0)))]
  unfold za3
  rw [zek,zn2]
  have e:∀ x u:Int,jsum L 0 (fun q=>fitQ zer zhe (a,c,0,0) (updF (updF q 0 (x,u,0)) 1 (y,z,0)))=if u=y∧x=a∧z=c then 1#64 else 0#64:=by
   intro x u
   show fitQ _ _ _ _*_=_
   rw [zz4]
   show (if u=y∧x=a∧z=c then 1#64 else 0#64)*1#64=_
   rw [BitVec.mul_one]
  simp only [e]
  by_cases hzc:z=c
  ·rw [if_pos hzc]
   rw [zat (g:=fun x=>if x=a then BitVec.ofInt 64 (f (x,y,0)) else 0#64) fun x hx=>?_]
   ·exact zgl (fun x=>BitVec.ofInt 64 (f (x,y,0))) a nums zkd ha
   ·by_cases hxa:x=a
    ·rw [if_pos hxa,zat (g:=fun u=>if u=y then BitVec.ofInt 64 (f (x,u,0)) else 0#64) fun u hu=>?_]
     ·exact zgl (fun u=>BitVec.ofInt 64 (f (x,u,0))) y nums zkd hy
     ·by_cases huy:u=y
      ·rw [if_pos ⟨huy,hxa,hzc⟩,if_pos huy,BitVec.one_mul];rfl
      ·rw [if_neg (fun h=>huy h.1),if_neg huy,BitVec.zero_mul]
    ·rw [if_neg hxa,zat (g:=fun _=>0#64) fun u hu=>by rw [if_neg (fun h=>hxa h.2.1),BitVec.zero_mul],zdb]
  ·rw [if_neg hzc,zat (g:=fun _=>0#64) fun x hx=>?_,zdb]
   rw [zat (g:=fun _=>0#64) fun u hu=>by rw [if_neg (fun h=>hzc h.2.2),BitVec.zero_mul],zdb]
 rw [zat (g:=fun z=>if z=c then BitVec.ofInt 64 (f (a,y,0))*BitVec.ofInt 64 (g (y,z,0)) else 0#64) fun z hz=>?_]
 ·exact zgl (fun z=>BitVec.ofInt 64 (f (a,y,0))*BitVec.ofInt 64 (g (y,z,0))) c nums zkd hc
 ·rw [inner z hz]
  by_cases hzc:z=c
  ·rw [if_pos hzc,if_pos hzc];rfl
  ·rw [if_neg hzc,if_neg hzc,BitVec.zero_mul]
theorem zkq {F:H4→Int} (a c:Int):∀ (ys:List H4),(∀ y∈ys,y.2.2=(0,0))→zbi (H.zbz 2 F ys) [a,c]=if ((a,c,0,0):H4)∈ys then F (a,c,0,0) else 0
 | [],_=>by simp [H.zbz,zbi]
 | y :: ys,hy=>by
  have ih:=zkq (F:=F) a c ys (fun z hz=>hy z (List.mem_cons_of_mem _ hz))
  have hy0:=hy y List.mem_cons_self
  have e:H.zbz 2 F (y :: ys)=(H.zcn 2 y,F y) :: H.zbz 2 F ys:=rfl
  rw [e]
  obtain ⟨y1,y2,y34⟩:=y
  dsimp only at hy0
  subst hy0
  have en:H.zcn 2 (y1,y2,0,0)=[y1,y2]:=rfl
  rw [en]
  simp only [zbi]
  by_cases e1:[y1,y2]=[a,c]
  ·rw [if_pos e1]
   cases e1
   simp
  ·rw [if_neg e1,ih]
   have e2:((a,c,0,0):H4)≠(y1,y2,0,0):=fun e2=>e1 (by cases e2;rfl)
   simp [e2]
theorem zyb {F:H4→Int} {a c:Int} {ys:List H4} (hy:∀ y∈ys,y.2.2=(0,0)) (hR:H.zh0 F ys) (hw:WfH (a,c,0,0)):zbi (H.zbz 2 F ys) [a,c]=F (a,c,0,0):=by
 rw [zkq a c ys hy]
 by_cases e:((a,c,0,0):H4)∈ys
 ·rw [if_pos e]
 ·rw [if_neg e]
  have:¬ F (a,c,0,0)≠0:=fun h=>e ((hR.mem _ hw).2 h)
  omega
theorem risesH {F:H4→Int} {ys:List H4} (hy:∀ y∈ys,y.2.2=(0,0)) (hR:H.zh0 F ys):Rises (H.zbz 2 F ys):=by
 have hlen:(H.zbz 2 F ys).length=ys.length:=by simp [H.zbz]
 have hat:∀ i (hi:i<ys.length),(H.zbz 2 F ys)[i]?.getD ([],0)=(H.zcn 2 ys[i],F ys[i]):=fun i hi=>by simp [H.zbz,hi]
 refine ⟨fun i hi=>?_,fun i hi=>?_⟩
 ·rw [hlen] at hi
  rw [hat i hi]
  exact (hR.mem _ (hR.wf _ (List.getElem_mem hi))).1 (List.getElem_mem hi)
 ·rw [hlen] at hi
  rw [hat i (by omega),hat (i+1) hi]
  have hlt:H.ltR ys[i] ys[i+1]:=List.pairwise_iff_getElem.1 hR.rising i (i+1) (by omega) hi (by omega)
  have h1:=hy _ (List.getElem_mem (show i<ys.length by omega))
  have h2:=hy _ (List.getElem_mem hi)
  generalize ys[i]=y at hlt h1
  generalize ys[i+1]=z at hlt h2
  obtain ⟨y1,y2,y3,y4⟩:=y
  obtain ⟨z1,z2,z3,z4⟩:=z
  unfold H.ltR at hlt
  dsimp only at hlt h1 h2
  cases h1
  cases h2
  by_cases e:y1<z1
  ·refine ⟨0,?_⟩
   simp [zzi,H.zcn]
   omega
  ·refine ⟨1,?_⟩
   simp [zzi,H.zcn]
   omega
theorem ziu (n:Nat) (F:H4→Int) (ys:List H4):zfd (H.zbz n F ys):=by
 intro r hr
 obtain ⟨y,_,rfl⟩:=List.mem_map.1 hr
 show (H.zcn n y).length≤1000000000
 unfold H.zcn
 exact Nat.le_trans (List.length_take_le' _ _) (by simp)
def psum (f g:Row→Int) (a c:Int):Nat→Int
 | 0=>0
 | j+1=>psum f g a c j+f (a,numZ j,0)*g (numZ j,c,0)
theorem zmv {x y:Int} (hx:-1000≤x∧x≤1000) (hy:-1000≤y∧y≤1000):-1000000≤x*y∧x*y≤1000000:=by
 have h:(x*y).natAbs≤1000*1000:=by
  rw [Int.natAbs_mul]
  exact Nat.mul_le_mul (by omega) (by omega)
 omega
theorem zhq {f g:Row→Int} (hf:∀ r,zav r→-1000≤f r∧f r≤1000) (hg:∀ r,zav r→-1000≤g r∧g r≤1000) {a c:Int} (ha:a∈nums) (hc:c∈nums):∀ j:Nat,-(1000000*(j:Int))≤psum f g a c j∧psum f g a c j≤1000000*(j:Int)
 | 0=>by simp [psum]
 | j+1=>by
  have ih:=zhq hf hg ha hc j
  have h1:=hf (a,numZ j,0) ⟨zb1 ha,zb1 (zbj _),zca⟩
  have h2:=hg (numZ j,c,0) ⟨zb1 (zbj _),zb1 hc,zca⟩
  have:=zmv h1 h2
  simp only [psum]
  push_cast
  omega
theorem zml {x y:Int} (hx:-9223372036854775808≤x∧x≤9223372036854775807) (hy:-9223372036854775808≤y∧y≤9223372036854775807) (h:BitVec.ofInt 64 x=BitVec.ofInt 64 y):x=y:=by
 have:=congrArg BitVec.toInt h
 rw [BitVec.toInt_ofInt,BitVec.toInt_ofInt] at this
 have e1:x.bmod (2 ^ 64)=x:=Int.bmod_eq_of_le (by omega) (by omega)
 have e2:y.bmod (2 ^ 64)=y:=Int.bmod_eq_of_le (by omega) (by omega)
 omega
theorem zy9 {f g:Row→Int} (hf:∀ r,zav r→-1000≤f r∧f r≤1000) (hg:∀ r,zav r→-1000≤g r∧g r≤1000) {L:Nat→List REnt} (h0:Eqv (L 0) (za3 f zdt)) (h1:Eqv (L 1) (za3 g zdt)) {a c:Int} (ha:a∈nums) (hc:c∈nums) {x:Int} (hx:-9223372036854775808≤x∧x≤9223372036854775807)
  (he:BitVec.ofInt 64 x=vval zer zhe L (a,c,0,0)):x=psum f g a c 4:=by
 rw [zy1 h0 h1 ha hc] at he
 refine zml hx (by have:=zhq hf hg ha hc 4;omega) (he.trans ?_)
 have n0:numZ ((0:Nat):Int)=0:=by decide
 have n1:numZ ((1:Nat):Int)=1:=by decide
 have n2:numZ ((2:Nat):Int)=top:=by decide
 have n3:numZ ((3:Nat):Int)=bot:=by decide
 simp only [psum,n0,n1,n2,n3,nums,bsum,BitVec.ofInt_add,BitVec.ofInt_mul]
 simp only [BitVec.add_zero,BitVec.ofInt_ofNat,BitVec.zero_add]
 grind
def rowH (i:Nat):H4:=(numZ i,numZ ((i:Int) / 4),0,0)
def zmk:List H4:=nums.flatMap fun b=>nums.map fun a=>(a,b,0,0)
theorem rowH_all:(List.range 16).map rowH=zmk:=by decide +kernel
theorem zs9:zmk.Pairwise (·≠·):=by decide +kernel
theorem zsi {F:H4→Int} {ys:List H4} (hR:H.zh0 F ys) (hG:∀ y∈ys,y∈zmk) (hwf:∀ y∈zmk,WfH y):zef (fun i=>decide (F (rowH i)≠0)) 16=ys.length:=by
 rw [zlp]
 have e:((List.range 16).filter fun i=>decide (F (rowH i)≠0)).length=(zmk.filter fun y=>decide (F y≠0)).length:=by
  rw [← rowH_all,List.filter_map,List.length_map]
  rfl
 rw [e]
 have hp:(zmk.filter fun y=>decide (F y≠0)).Perm ys:=by
  refine (List.perm_ext_iff_of_nodup ?_ ?_).2 fun y=>?_
  ·exact (zs9.imp fun h=>h).filter _
  ·exact hR.rising.imp fun {x y} h e=>by subst e;unfold H.ltR at h;omega
  ·rw [List.mem_filter,decide_eq_true_eq]
   constructor
   ·rintro ⟨h1,h2⟩
    exact (hR.mem y (hwf y h1)).2 h2
   ·intro h
    exact ⟨hG y h,(hR.mem y (hR.wf y h)).1 h⟩
 exact hp.length_eq
end K
end Go.Proofs.YtoifcnidhfnapaaGreatDoor
namespace Go.Proofs.YtoifcnidhfnapaaGreatDoor
namespace K
open Go.RowKit Go.Maps Go.Sort Go.Shelf
theorem _root_.Go.Proofs.YtoifcnidhfnapaaGreatDoor.EngV.start {w:World} {eb db nD S E:Nat} {st:St} (h:zay w eb db nD S E st) (hn:NoVs w db):EngV w (fun q=>q=eb∨∃ nm R,st nm=some R∧q=R.rb) eb db nD 0 0 1 st (fun _=>none) (fun _=>none):=by
 have notc:∀ q es cl,w.heap[q]? = some (.map es cl)→¬ (q=eb∨∃ nm R,st nm=some R∧q=R.rb):=by
  rintro q es cl hq (rfl|⟨nm,R,hR,rfl⟩)
  ·obtain ⟨xs,h1,_⟩:=h.eng
   rw [hq] at h1;cases h1
  ·have:=(h.rel nm R hR).1
   rw [hq] at this;cases this
 have htop:=h.top
 have hinn:=h.inn
 obtain ⟨D,⟨es,cl,hd,_⟩,_⟩:=h.dir
 obtain ⟨es1,cl1,h1,_⟩:=id hn.1
 obtain ⟨es2,cl2,h2,_⟩:=id hn.2
 refine ⟨⟨h.eng,h.dir,h.rel,h.apart,⟨Nat.zero_le _,by omega,Nat.zero_le _,by omega⟩,fun nm R hR=>(by have:=h.inr nm R hR;omega),Nat.le_refl _⟩,?_,.inl rfl,fun nm R hR=>⟨.inr ⟨nm,R,hR,rfl⟩,?_⟩,⟨notc _ _ _ hd,notc _ _ _ h1,notc _ _ _ h2⟩,⟨.map [],hn.1,fun k _=>rfl,fun k x hx=>(by cases hx),fun l hl=>(by simp [Maps.has] at hl)⟩,fun k x hx=>(by cases hx),fun k k' x x' hx=>(by cases hx),⟨.map [],hn.2,rfl,fun _ _=>rfl,fun nm v hv=>(by cases hv)⟩,fun nm v hv=>(by cases hv),fun nm nm' v v' hv=>(by cases hv),fun nm v hv=>(by cases hv)⟩
 ·rintro k (rfl|⟨nm,R,hR,rfl⟩)
  ·omega
  ·have:=h.inr nm R hR
   omega
 ·obtain ⟨D',⟨es',cl',hm,_⟩,_⟩:=(h.rel nm R hR).2
  exact notc _ _ _ hm
theorem zxc {R S T:Rel} (h1:znb R 2) (h2:znb S 2) (h3:znb T 1):zqb R S T 0:=⟨Tame.start h1 _,Tame.start h2 _,Tame.start h3 _⟩
def stF (R S T:Rel) (fl:List Ent):St:=st3 (zao R fl nmR) (zao S fl nmS) (zao T fl nmT)
structure Stg (B0:Nat) (W:World) (fix:Nat→Prop) (eb db nI nV M:Nat) (fl:List Ent) (R S T:Rel) (ixs:IxS) (vws:VwS):Prop where
 eng:EngV W fix eb db 3 nI nV (1+2*fl.length) (stF R S T fl) ixs vws
 fr:znb R 2
 fs:znb S 2
 ft:znb T 1
 fine:∀ x∈fl,Fine x
 len:fl.length≤400
 most:zf4 M vws
 low:∀ q,EngX (stF R S T fl) ixs vws q→B0≤q
 db0:B0≤db
 fix0:∀ q,fix q→B0≤q
section
variable {B0:Nat} {W:World} {fix:Nat→Prop} {eb db nI nV M:Nat} {fl:List Ent} {R S T:Rel} {ixs:IxS} {vws:VwS}
theorem Stg.three (h:Stg B0 W fix eb db nI nV M fl R S T ixs vws):zqb (zao R fl nmR) (zao S fl nmS) (zao T fl nmT) fl.length:=by
 have:=(zxc h.fr h.fs h.ft).add h.fine
 rwa [Nat.zero_add] at this
theorem Stg.below (h:Stg B0 W fix eb db nI nV M fl R S T ixs vws) {W':World} (hb:Below W.heap.size W W'):Stg B0 W' fix eb db nI nV M fl R S T ixs vws:=
 ⟨h.eng.below hb,h.fr,h.fs,h.ft,h.fine,h.len,h.most,h.low,h.db0,h.fix0⟩
theorem zlg {nm:ByteArray} {Q:Rel} (h:stF R S T fl nm=some Q):(nm=nmR∧Q=zao R fl nmR)∨(nm=nmS∧Q=zao S fl nmS)∨(nm=nmT∧Q=zao T fl nmT):=zv2 h
theorem Stg.rn (h:Stg B0 W fix eb db nI nV M fl R S T ixs vws):∀ nm Q,stF R S T fl nm=some Q→Q.n≤1+2*fl.length:=by
 intro nm Q hQ
 have:=h.three
 rcases zlg hQ with ⟨_,rfl⟩|⟨_,rfl⟩|⟨_,rfl⟩
 ·have:=this.r.n_;omega
 ·have:=this.s.n_;omega
 ·have:=this.t.n_;omega
end
theorem zyl (w:World):Calls Tryz.prog 14 #[] w fun e w'=>∃ eb,e=.returned (.pointer (some ⟨eb,0,none⟩))∧(∃ fix db R S T,Stg w.heap.size w' fix eb db 0 0 0 [] R S T (fun _=>none) (fun _=>none))∧Below w.heap.size w w':=by
 refine (yaj w).mono ?_
 rintro e w' ⟨eb,db,R,S,T,rfl,hE,hN,h1,h2,h3,hb⟩
 refine ⟨eb,rfl,⟨fun q=>q=eb∨∃ nm Q,st3 R S T nm=some Q∧q=Q.rb,db,R,S,T,?_,h1,h2,h3,fun x hx=>(by cases hx),by simp,fun nm v hv=>(by cases hv),?_,hE.inn.2.2.1,?_⟩,hb⟩
 ·unfold stF
  rw [zeg,zeg,zeg]
  exact EngV.start hE hN
 ·unfold stF
  rw [zeg,zeg,zeg]
  rintro q (⟨nm,Q,hQ,rfl⟩|⟨k,x,hx,_⟩|⟨nm,v,hv,_⟩)
  ·exact (hE.inr nm Q hQ).2.2.1
  ·cases hx
  ·cases hv
 ·rintro q (rfl|⟨nm,Q,hQ,rfl⟩)
  ·exact hE.inn.1
  ·exact (hE.inr nm Q hQ).1
set_option maxHeartbeats 1000000 in
theorem zxr (nm s o:ByteArray) (hs:List (Nat×Nat)) (ats:List zcb) (W:World) {B0:Nat} {fix:Nat→Prop} {eb db nI nV M:Nat} {fl:List Ent} {R S T:Rel} {ixs:IxS} {vws:VwS} (h:Stg B0 W fix eb db nI nV M fl R S T ixs vws) (hB0:B0≤W.heap.size) (hn:zge nm=true) (hn8:nm.size≤8) (hx:vws nm=none) (hnV:nV≤5) (hsz:s.size≤300)
  (hp:zfj s=.ok (hs,ats)) (hF:zda (stF R S T fl) hs (ats.map zcb.q)) (hL:LetB (ats.map zcb.q)) (ho:o=⟨#[]⟩∨(zbr o).Perm (zbo ((ats.map zcb.q).map (·.ts)))) (hnI:nI≤100000) :
  Calls Tryz.prog 16 #[.pointer (some ⟨eb,0,none⟩),.string nm,.string s,.string o] W fun e w'=>e=.returned (.bool true)∧∃ fix' ixs' nI' v,Stg B0 w' fix' eb db nI' (nV+1) (M+1000000000000) fl R S T ixs' (zil vws nm v)∧v.H=hs∧v.B=ats.map zcb.q∧nI'≤nI+4∧KeepX (fun q=>q=db+1∨q=db+2) W w'∧(∀ q,fix q→fix' q)∧(∀ q,fix' q→fix q∨W.heap.size≤q)∧∀ q,EngX (stF R S T fl) ixs' (zil vws nm v) q→EngX (stF R S T fl) ixs vws q∨W.heap.size≤q:=by
 have hl:=h.len
 have H:=hide (zue nm s o hs ats W h.eng hn hn8 hx hnV hsz hp hF hL ho h.rn (by omega) (by omega) hnI)
 have Hs:=hide h
 clear h hF hL ho hp hn
 go_enter Tryz.func16,Tryz.ntmps16
 go_wp2_with fail
 refine (zaa H).mono ?_
 rintro e w1 ⟨rfl,⟨fix',ixk,nIk,v,h1,h2,h3,h4,h5,h6,h7,h8⟩,h9⟩
 have hv7:v.n≤1000000000000:=by
  have:(1+2*fl.length) ^ 4≤801 ^ 4:=pow4 (by omega)
  have e:(801:Nat) ^ 4≤900000000000:=by decide
  omega
 have hS:=zaa Hs
 have HF:=hide (show ∃ fix' ixs' nI' v,Stg B0 w1 fix' eb db nI' (nV+1) (M+1000000000000) fl R S T ixs' (zil vws nm v)∧v.H=hs∧v.B=ats.map zcb.q∧nI'≤nI+4∧KeepX (fun q=>q=db+1∨q=db+2) W w1∧(∀ q,fix q→fix' q)∧(∀ q,fix' q→fix q∨W.heap.size≤q)∧∀ q,EngX (stF R S T fl) ixs' (zil vws nm v) q→EngX (stF R S T fl) ixs vws q∨W.heap.size≤q from
  ⟨fix',ixk,nIk,v,⟨h1,hS.fr,hS.fs,hS.ft,hS.fine,hS.len,fun m u hu=>by
   by_cases e:m=nm
   ·subst e
    rw [zbu] at hu
    cases hu
    omega
   ·rw [zbd e] at hu
    have:=hS.most m u hu
    omega,fun q hq=>(h8 q hq).elim (hS.low q) (fun h=>by omega),hS.db0,fun q hq=>(h4 q hq).elim (hS.fix0 q) (fun h=>by omega)⟩,h5,h6,h2,h9,h3,h4,h8⟩)
 clear h1 h2 h3 h4 h5 h6 h7 h8 h9 hS H hv7
 go_wp2
 go_ret
 exact ⟨rfl,zaa HF⟩
theorem zwb (R S T:Rel) (fl gl:List Ent):st3 (zao (zao R fl nmR) gl nmR) (zao (zao S fl nmS) gl nmS) (zao (zao T fl nmT) gl nmT)=stF R S T (fl ++ gl):=by
 unfold stF
 rw [zc6,zc6,zc6]
theorem ztf (u:Value) (bs:List (List Ent)) (W:World) {B0:Nat} {fix:Nat→Prop} {eb db nI nV M:Nat} {fl:List Ent} {R S T:Rel} {ixs:IxS} {vws:VwS} (h:Stg B0 W fix eb db nI nV M fl R S T ixs vws) (hB0:B0≤W.heap.size) (hv:zwr W u bs) (hl:∀ b∈bs,b.length≤12) (hf:∀ b∈bs,∀ x∈b,Fine x) (hc:fl.length+bs.flatten.length≤400) (hbl:bs.length≤1000) (hM:M≤4000000000000000000) :
  Calls Tryz.prog 17 #[.pointer (some ⟨eb,0,none⟩),u] W fun e w'=>e=.returned (.bool true)∧∃ ixs' vws',Stg B0 w' fix eb db nI nV (M+bs.length*4000000000000) (fl ++ bs.flatten) R S T ixs' vws'∧zeo vws vws'∧KeepX (EngX (stF R S T fl) ixs vws) W w'∧∀ q,EngX (stF R S T (fl ++ bs.flatten)) ixs' vws' q→EngX (stF R S T fl) ixs vws q∨W.heap.size≤q:=by
 refine (zsx u bs W h.eng h.three hv hl hf hc hbl (by omega) (by omega) h.most hM).mono ?_
 rintro e w' ⟨rfl,hk,ixs',vws',h1,h2,h3,h4,h5⟩
 rw [zwb] at h1 h5
 refine ⟨rfl,ixs',vws',⟨?_,h.fr,h.fs,h.ft,fun x hx=>?_,by rw [List.length_append];omega,h3,fun q hq=>(h5 q hq).elim (h.low q) (fun h=>by omega),h.db0,h.fix0⟩,h2,hk,h5⟩
 ·have e:1+2*(fl ++ bs.flatten).length=1+2*fl.length+2*bs.flatten.length:=by rw [List.length_append];omega
  rw [e]
  exact h1
 ·rcases List.mem_append.1 hx with hx|hx
  ·exact h.fine x hx
  ·obtain ⟨b,hb,hxb⟩:=List.mem_flatten.1 hx
   exact hf b hb x hxb
theorem zvy (nm:ByteArray) (W:World) {B0:Nat} {fix:Nat→Prop} {eb db nI nV M:Nat} {fl:List Ent} {R S T Q:Rel} {ixs:IxS} {vws:VwS} (h:Stg B0 W fix eb db nI nV M fl R S T ixs vws) (hQ:stF R S T fl nm=some Q) :
  Calls Tryz.prog 19 #[.pointer (some ⟨eb,0,none⟩),.string nm] W fun e w'=>∃ v ys,e=.returned (.tuple #[v,.int .i64 0])∧zh0 Q.f ys∧zdm w' v (zbz Q.ar Q.f ys)∧ys.length≤1000000∧Below W.heap.size W w':=by
 have hn:=h.rn nm Q hQ
 have hl:=h.len
 have h3:=h.three
 have hnm:nm.size≤maxLen:=by
  rcases zlg hQ with ⟨rfl,_⟩|⟨rfl,_⟩|⟨rfl,_⟩ <;> decide
 have har:Q.ar=1∨Q.ar=2∨Q.ar=3:=by
  rcases zlg hQ with ⟨_,rfl⟩|⟨_,rfl⟩|⟨_,rfl⟩
  ·exact .inr (.inl h3.r.ar_)
  ·exact .inr (.inl h3.s.ar_)
  ·exact .inl h3.t.ar_
 refine (zur nm W h.eng.rep hnm hQ har (by omega)).mono ?_
 rintro e w' ⟨v,ys,rfl,h1,h2,h4,h5⟩
 exact ⟨v,ys,rfl,h1,h2,by omega,h5⟩
theorem zgz {Q:Rel} {ar cnt:Nat} {G:List Row} (h:Tame Q ar cnt G) (hG:G.Nodup) (hw:∀ y∈G,zav y):zlc Q.f (G.filter fun r=>decide (Q.f r≠0))∧Eqv (za3 Q.f (G.filter fun r=>decide (Q.f r≠0))) (za3 Q.f G):=by
 refine ⟨⟨fun x hx=>hw x (List.mem_filter.1 hx).1,hG.filter _,fun r hr=>?_⟩,eqv_grid (hG.filter _) hG (fun x hx=>(List.mem_filter.1 hx).1) fun x hx hn=>?_⟩
 ·rw [List.mem_filter,decide_eq_true_eq]
  exact ⟨fun h=>h.2,fun h0=>⟨h.supp r hr h0,h0⟩⟩
 ·refine Classical.byContradiction fun h0=>hn ?_
  rw [List.mem_filter,decide_eq_true_eq]
  exact ⟨hx,h0⟩
theorem zln:∀ y∈zdt,zav y:=by
 intro y h
 simp only [zdt,List.mem_flatMap,List.mem_map] at h
 obtain ⟨a,ha,b,hb,rfl⟩:=h
 exact ⟨zb1 ha,zb1 hb,zca⟩
theorem zuj:zhz.Nodup:=by decide +kernel
def zgv (st:St) (B:List zbe) (i:Nat):List REnt:=match st (B[i]?.getD zar).nm with|none=>[]|some Q=>za3 Q.f ((if Q.ar=1 then zhz else zdt).filter fun r=>decide (Q.f r≠0))
section
variable {B0:Nat} {W:World} {fix:Nat→Prop} {eb db nI nV M:Nat} {fl:List Ent} {R S T:Rel} {ixs:IxS} {vws:VwS}
theorem Stg.rowsL (h:Stg B0 W fix eb db nI nV M fl R S T ixs vws) {nm:ByteArray} {Q:Rel} (hQ:stF R S T fl nm=some Q):zng Q.f (za3 Q.f ((if Q.ar=1 then zhz else zdt).filter fun r=>decide (Q.f r≠0))):=by
 have h3:=h.three
 refine ⟨_,?_,rfl⟩
 rcases zlg hQ with ⟨_,rfl⟩|⟨_,rfl⟩|⟨_,rfl⟩
 ·rw [if_neg (by rw [h3.r.ar_];decide)];exact (zgz h3.r zgm zln).1
 ·rw [if_neg (by rw [h3.s.ar_];decide)];exact (zgz h3.s zgm zln).1
 ·rw [if_pos h3.t.ar_];exact (zgz h3.t zuj wf_grid1).1
theorem Stg.val (h:Stg B0 W fix eb db nI nV M fl R S T ixs vws) {nm:ByteArray} {v:ze3} (hv:vws nm=some v) (q:H4):BitVec.ofInt 64 (v.f q)=vval (v.B.map (·.ts)) (v.H.map (·.1)) (zgv (stF R S T fl) v.B) q:=by
 obtain ⟨hV,hH⟩:=h.eng.vw nm v hv
 refine hH _ (fun i hi=>?_) q
 have hmem:v.B[i]?.getD zar∈v.B:=by simp [hi]
 obtain ⟨Q,hQ,_⟩:=hV.fit.rel _ hmem
 refine ⟨Q,hQ,?_⟩
 unfold zgv
 rw [hQ]
 exact h.rowsL hQ
theorem zir {st:St} {B:List zbe} {i:Nat}:∀ e∈zgv st B i,e.1∈zdt∨e.1∈zhz:=by
 intro e he
 unfold zgv at he
 split at he
 ·cases he
 ·obtain ⟨r,hr,rfl⟩:=List.mem_map.1 he
  have:=(List.mem_filter.1 hr).1
  split at this
  ·exact .inr this
  ·exact .inl this
theorem Stg.range (h:Stg B0 W fix eb db nI nV M fl R S T ixs vws) {nm:ByteArray} {v:ze3} (hv:vws nm=some v) {q:H4} (hq:WfH q):-9223372036854775808≤v.f q∧v.f q≤9223372036854775807:=(h.eng.vw nm v hv).1.map.range hq
theorem Stg.supp (h:Stg B0 W fix eb db nI nV M fl R S T ixs vws) {nm:ByteArray} {v:ze3} (hv:vws nm=some v):∀ q,WfH q→v.f q≠0→q∈zxj:=by
 intro q hq h0
 refine ybb (L:=zgv (stF R S T fl) v.B) (A:=v.B.map (·.ts)) (H:=v.H.map (·.1)) (fun i _=>zir) fun hz=>h0 ?_
 rw [← h.val hv q] at hz
 exact zml (h.range hv hq) (by omega) hz
theorem Stg.map256 (h:Stg B0 W fix eb db nI nV M fl R S T ixs vws) {nm:ByteArray} {v:ze3} (hv:vws nm=some v):HMap W v.mb 256 v.f:=by
 have:=(h.eng.vw nm v hv).1.map.tight zxj (h.supp hv)
 rwa [yaz] at this
end
theorem stg_read (nm:ByteArray) (W:World) {B0:Nat} {fix:Nat→Prop} {eb db nI nV M:Nat} {fl:List Ent} {R S T:Rel} {ixs:IxS} {vws:VwS} (h:Stg B0 W fix eb db nI nV M fl R S T ixs vws) {v:ze3} (hv:vws nm=some v) :
  Calls Tryz.prog 20 #[.pointer (some ⟨eb,0,none⟩),.string nm] W fun e w'=>∃ o ys,e=.returned (.tuple #[o,.int .i64 0])∧H.zh0 v.f ys∧zdm w' o (H.zbz v.H.length v.f ys)∧ys.length≤256∧Below W.heap.size W w':=by
 refine (zy8 W h.eng nm v hv 256 (by omega) (h.map256 hv)).mono ?_
 rintro e w' ⟨o,ys,xs,rfl,h1,_,_,_,h2,h3,h4⟩
 exact ⟨o,ys,rfl,h1,h2,h3,h4⟩
end K
end Go.Proofs.YtoifcnidhfnapaaGreatDoor
