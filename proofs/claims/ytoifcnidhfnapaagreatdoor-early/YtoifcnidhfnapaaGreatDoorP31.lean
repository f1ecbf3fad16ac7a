import Derived.Test.YtoifcnidhfnapaaGreatDoorP30
set_option linter.unusedVariables false
set_option linter.unusedSimpArgs false
namespace Go.Proofs.YtoifcnidhfnapaaGreatDoor
def zlo (ts:List Trm) (v:Nat):Option Nat:=(zai ts v)[0]?
def zj0 (A:List (List Trm)) (r:Nat→Row) (v:Nat):Nat→Int
 | 0=>0
 | n+1=>match zlo (A[n]?.getD []) v with|some j=>zah (r n) j|none=>zj0 A r v n
def zkk (A:List (List Trm)) (r:Nat→Row) (v:Nat):Int:=zj0 A r v A.length
instance (A:List (List Trm)) (r:Nat→Row) (asg:Nat→Int):Decidable (zno A r asg):=by unfold zno;exact inferInstance
def fitQ (A:List (List Trm)) (H:List Nat) (h:H4) (r:Nat→Row):B64:=if zno A r (zkk A r)∧zja H (zkk A r)=h then 1#64 else 0#64
theorem za6 {ts:List Trm} {v j:Nat}:j∈zai ts v↔j<ts.length∧zbs ts j=v:=by
 unfold zai
 simp
theorem zkp {A:List (List Trm)} {r:Nat→Row} {asg:Nat→Int} {v:Nat} (h0:v≠0) (hf:zno A r asg):∀ n,n≤A.length→(∃ i,i<n∧zai (A[i]?.getD []) v≠[])→zj0 A r v n=asg v
 | 0,_,⟨i,hi,_⟩=>absurd hi (Nat.not_lt_zero _)
 | n+1,hn,⟨i,hi,hne⟩=>by
  simp only [zj0]
  cases hc:zlo (A[n]?.getD []) v with
  | some j =>
   dsimp only
   have hj:j∈zai (A[n]?.getD []) v:=List.mem_of_getElem? hc
   obtain ⟨h1,h2⟩:=za6.1 hj
   have:=hf n (by omega) j h1
   rw [h2,if_neg h0] at this
   exact this
  | none =>
   dsimp only
   have hnil:zai (A[n]?.getD []) v=[]:=by
    unfold zlo at hc
    rw [List.getElem?_eq_none_iff] at hc
    exact List.eq_nil_of_length_eq_zero (by omega)
   refine zkp h0 hf n (by omega) ⟨i,?_,hne⟩
   rcases Nat.lt_or_ge i n with h|h
   ·exact h
   ·have:i=n:=by omega
    subst this
    exact absurd hnil hne
theorem zov {A:List (List Trm)} {r:Nat→Row} {asg:Nat→Int} {v:Nat} (h0:v≠0) (hf:zno A r asg) (hb:zg2 A v):zkk A r v=asg v:=zkp h0 hf _ (Nat.le_refl _) hb
theorem zto {H:List Nat} {f g:Nat→Int} (h:∀ v∈H,f v=g v):zja H f=zja H g:=by
 unfold zja
 have:∀ q,(if q<H.length then f (H[q]?.getD 0) else 0)=(if q<H.length then g (H[q]?.getD 0) else 0):=by
  intro q
  by_cases hq:q<H.length
  ·rw [if_pos hq,if_pos hq];exact h _ (by simp [hq])
  ·rw [if_neg hq,if_neg hq]
 simp only [this]
theorem fitQ_iff {A:List (List Trm)} {H:List Nat} (hH:∀ v∈H,v≠0∧zg2 A v) (h:H4) (r:Nat→Row):(zno A r (zkk A r)∧zja H (zkk A r)=h)↔∃ asg,zno A r asg∧zja H asg=h:=by
 constructor
 ·exact fun k=>⟨_,k⟩
 ·rintro ⟨asg,hf,rfl⟩
  refine ⟨fun i hi j hj=>?_,zto fun v hv=>zov (hH v hv).1 hf (hH v hv).2⟩
  rw [hf i hi j hj]
  by_cases h0:zbs (A[i]?.getD []) j=0
  ·rw [if_pos h0,if_pos h0]
  ·rw [if_neg h0,if_neg h0,zov h0 hf]
   exact ⟨i,hi,fun e=>by
    have:j∈zai (A[i]?.getD []) (zbs (A[i]?.getD []) j):=za6.2 ⟨hj,rfl⟩
    rw [e] at this
    cases this⟩
def vval (A:List (List Trm)) (H:List Nat) (L:Nat→List REnt) (h:H4):B64:=jsum L A.length (fitQ A H h)
structure OrdQ (A:List (List Trm)) (vs:List Nat):Prop where
 nd:vs.Nodup
 nz:∀ v∈vs,v≠0
 inb:∀ v∈vs,zg2 A v
 all:∀ i,i<A.length→∀ j,j<(A[i]?.getD []).length→zbs (A[i]?.getD []) j≠0→zbs (A[i]?.getD []) j∈vs
def zfb (ts:List Trm) (vs:List Nat):List Nat:=zgt ts vs ++ (List.range 3).drop ts.length
theorem zjq (ts:List Trm) (v:Nat):(zai ts v).Nodup:=List.Pairwise.filter _ List.nodup_range
theorem zog (ts:List Trm):∀ vs:List Nat,vs.Nodup→(vs.flatMap (zai ts)).Nodup
 | [],_=>List.nodup_nil
 | v :: vs,h=>by
  rw [List.nodup_cons] at h
  rw [List.flatMap_cons,List.nodup_append]
  refine ⟨zjq _ _,zog ts vs h.2,fun a ha b hb e=>?_⟩
  subst e
  obtain ⟨u,hu,hb⟩:=List.mem_flatMap.1 hb
  have:u=v:=(za6.1 hb).2.symm.trans (za6.1 ha).2
  subst this
  exact h.1 hu
theorem zt5 {ts:List Trm} {vs:List Nat} (hn:vs.Nodup) (h0:∀ v∈vs,v≠0):(zgt ts vs).Nodup:=by
 unfold zgt
 rw [List.nodup_append]
 refine ⟨zjq _ _,zog ts vs hn,?_⟩
 intro a ha b hb e
 subst e
 obtain ⟨v,hv,hb⟩:=List.mem_flatMap.1 hb
 exact h0 v hv ((za6.1 hb).2.symm.trans (za6.1 ha).2)
theorem yao {ts:List Trm} {vs:List Nat} (hall:∀ j,j<ts.length→zbs ts j≠0→zbs ts j∈vs) (j:Nat):j∈zgt ts vs↔j<ts.length:=by
 unfold zgt
 rw [List.mem_append,List.mem_flatMap]
 constructor
 ·rintro (h|⟨v,_,h⟩) <;> exact (za6.1 h).1
 ·intro h
  by_cases h0:zbs ts j=0
  ·exact .inl (za6.2 ⟨h,h0⟩)
  ·exact .inr ⟨_,hall j h h0,za6.2 ⟨h,rfl⟩⟩
theorem zxx {l m:List Nat} (hl:l.Nodup) (hm:m.Nodup) (h:∀ x,x∈l↔x∈m):l.Perm m:=(List.perm_ext_iff_of_nodup hl hm).2 h
theorem zn5 {ts:List Trm} {vs:List Nat} (hn:vs.Nodup) (h0:∀ v∈vs,v≠0) (hall:∀ j,j<ts.length→zbs ts j≠0→zbs ts j∈vs):(zgt ts vs).Perm (List.range ts.length):=
 zxx (zt5 hn h0) List.nodup_range fun x=>by rw [yao hall,List.mem_range]
theorem zw6 {ts:List Trm} {vs:List Nat} (h3:ts.length≤3) (hn:vs.Nodup) (h0:∀ v∈vs,v≠0) (hall:∀ j,j<ts.length→zbs ts j≠0→zbs ts j∈vs):(zfb ts vs).Perm (List.range 3):=by
 have h:=(zn5 hn h0 hall).append_right ((List.range 3).drop ts.length)
 have e:List.range ts.length ++ (List.range 3).drop ts.length=List.range 3:=by
  have:List.range ts.length=(List.range 3).take ts.length:=by rw [List.take_range];congr 1;omega
  rw [this,List.take_append_drop]
 rw [e] at h
 exact h
theorem zmf {ts:List Trm} {vs:List Nat} (h3:ts.length≤3) (hn:vs.Nodup) (h0:∀ v∈vs,v≠0) (hall:∀ j,j<ts.length→zbs ts j≠0→zbs ts j∈vs):∃ c0 c1 c2,zfb ts vs=[c0,c1,c2]∧zk8 c0 c1 c2:=by
 have hp:=zw6 h3 hn h0 hall
 have hl:(zfb ts vs).length=3:=by rw [hp.length_eq];rfl
 have hnd:(zfb ts vs).Nodup:=(hp.nodup_iff).2 List.nodup_range
 have hm:∀ x∈zfb ts vs,x<3:=fun x hx=>List.mem_range.1 (hp.mem_iff.1 hx)
 match hc:zfb ts vs,hl with
 | [c0,c1,c2],_ =>
  rw [hc] at hnd hm
  simp at hnd hm
  exact ⟨c0,c1,c2,rfl,⟨⟨hm.1,hm.2.1,hm.2.2⟩,hnd.1.1,hnd.1.2,hnd.2⟩⟩
theorem zy0 (c0 c1 c2:Nat) (r:Row) (k:Nat) (hk:k<3):zah (arrR c0 c1 c2 r) k=zah r ([c0,c1,c2][k]?.getD 0):=by
 match k,hk with|0,_=>rfl|1,_=>rfl|2,_=>rfl
theorem zka {ts:List Trm} {vs:List Nat} {c0 c1 c2:Nat} (hc:zfb ts vs=[c0,c1,c2]) (r:Row) (k:Nat) (hk:k<(zgt ts vs).length):zah (arrR c0 c1 c2 r) k=zah r ((zgt ts vs)[k]?.getD 0):=by
 have hl:(zgt ts vs).length≤3:=by
  have:=congrArg List.length hc
  unfold zfb at this
  simp at this
  omega
 rw [zy0 _ _ _ _ _ (by omega),← hc]
 unfold zfb
 rw [List.getElem?_append_left hk]
theorem zs4 (ts:List Trm) (a b:List Nat):offS ts (a ++ b)=offS ts a+offS ts b:=by simp [offS]
theorem ztb (ts:List Trm) (vs:List Nat):(vs.flatMap (zai ts)).length=offS ts vs:=by
 unfold offS
 rw [List.length_flatMap]
theorem zjb (ts:List Trm) (vs:List Nat):(zgt ts vs).length=(zai ts 0).length+offS ts vs:=by
 unfold zgt
 rw [List.length_append,ztb]
theorem colsQ_at {ts:List Trm} {pre post:List Nat} {v k:Nat} (hk:k<(zai ts v).length):(zgt ts (pre ++ v :: post))[(zai ts 0).length+offS ts pre+k]? = (zai ts v)[k]?:=by
 unfold zgt
 rw [List.getElem?_append_right (by omega),List.flatMap_append,List.flatMap_cons,List.getElem?_append_right (by rw [ztb];omega),ztb,List.getElem?_append_left (by omega)]
 congr 1
 omega
theorem zsy {ts:List Trm} {vs:List Nat} {k:Nat} (hk:k<(zai ts 0).length):(zgt ts vs)[k]? = (zai ts 0)[k]?:=by
 unfold zgt
 rw [List.getElem?_append_left hk]
theorem zm9:∀ (zs:List Int) (c:Nat) (e:REnt),zcx zs c e=true↔∀ k,k<zs.length→zah e.1 (c+k)=zs[k]?.getD 0
 | [],c,e=>by simp [zcx]
 | z :: zs,c,e=>by
  simp only [zcx,Bool.and_eq_true,decide_eq_true_eq,zm9 zs (c+1) e]
  constructor
  ·rintro ⟨h1,h2⟩ k hk
   cases k with
   | zero=>simpa using h1
   | succ k =>
    have:=h2 k (by simpa using hk)
    rw [show c+(k+1)=c+1+k by omega,this]
    simp
  ·intro h
   refine ⟨by simpa using h 0 (by simp),fun k hk=>?_⟩
   have:=h (k+1) (by simpa using hk)
   rw [show c+1+k=c+(k+1) by omega,this]
   simp
theorem zvc {ts:List Trm} {k:Nat} (hk:k<(zai ts 0).length):(zcc ts)[k]?.getD 0=(ts[(zai ts 0)[k]?.getD 0]?.getD (0,0)).2:=by
 unfold zcc zgb
 rw [List.getElem?_map]
 have e:((List.range ts.length).filter fun i=>decide (zbs ts i=0))=zai ts 0:=rfl
 rw [e,List.getElem?_eq_getElem hk]
 rfl
theorem fitP_Q {A:List (List Trm)} {H vs:List Nat} (hO:OrdQ A vs) (hH4:H.length≤4) (hH:∀ v∈H,v∈vs) {cols:Nat→Nat×Nat×Nat} (hc:∀ i,i<A.length→zfb (A[i]?.getD []) vs=[(cols i).1,(cols i).2.1,(cols i).2.2]) (h:H4) (r:Nat→Row) :
  fitP A.length (A.map zcc) (vs.map (ze4 A H)) h (fun i=>arrR (cols i).1 (cols i).2.1 (cols i).2.2 (r i))=fitQ A H h r:=by
 have hnq:∀ i,i<A.length→(A.map zcc)[i]?.getD []=zcc (A[i]?.getD []):=fun i hi=>by simp [hi]
 have hlen:∀ i,i<A.length→((A.map zcc)[i]?.getD []).length=(zai (A[i]?.getD []) 0).length:=fun i hi=>by rw [hnq i hi,zl3]
 have hnum:(allN A.length fun i=>zcx ((A.map zcc)[i]?.getD []) 0 (arrR (cols i).1 (cols i).2.1 (cols i).2.2 (r i),0))=true↔∀ i,i<A.length→∀ j∈zai (A[i]?.getD []) 0,zah (r i) j=((A[i]?.getD [])[j]?.getD (0,0)).2:=by
  rw [zei]
  refine forall_congr' fun i=>imp_congr_right fun hi=>?_
  rw [zm9,hnq i hi,zl3]
  constructor
  ·intro hk j hj
   obtain ⟨k,hk',rfl⟩:=List.getElem_of_mem hj
   have h1:=hk k hk'
   rw [Nat.zero_add,zka (hc i hi) _ _ (by rw [zjb];omega),zsy hk',zvc hk'] at h1
   simpa [hk'] using h1
  ·intro hj k hk'
   rw [Nat.zero_add,zka (hc i hi) _ _ (by rw [zjb];omega),zsy hk',zvc hk']
   exact hj _ (by simp [hk'])
 have hmatch:=zlz A H r (fun i=>arrR (cols i).1 (cols i).2.1 (cols i).2.2 (r i)) vs (fun i=>((A.map zcc)[i]?.getD []).length) (0,0,0,0) h hO.nd hO.inb (fun pre v post e i hi k hk=>by
  rw [hlen i hi,zka (hc i hi) _ _ (by rw [zjb,e,zs4];simp only [offS,List.map_cons,List.sum_cons] at *;omega),e,colsQ_at hk])
 have hiff:((∀ i,i<A.length→∀ j∈zai (A[i]?.getD []) 0,zah (r i) j=((A[i]?.getD [])[j]?.getD (0,0)).2)∧∃ asg:Nat→Int,(∀ v∈vs,∀ i,i<A.length→∀ j∈zai (A[i]?.getD []) v,zah (r i) j=asg v)∧zr9 H vs asg (0,0,0,0)=h)↔∃ asg,zno A r asg∧zja H asg=h:=by
  constructor
  ·rintro ⟨h1,asg,h2,h3⟩
   rw [zvj hH4 hH] at h3
   refine ⟨asg,fun i hi j hj=>?_,h3⟩
   by_cases h0:zbs (A[i]?.getD []) j=0
   ·rw [if_pos h0];exact h1 i hi j (za6.2 ⟨hj,h0⟩)
   ·rw [if_neg h0];exact h2 _ (hO.all i hi j hj h0) i hi j (za6.2 ⟨hj,rfl⟩)
  ·rintro ⟨asg,h1,h2⟩
   refine ⟨fun i hi j hj=>?_,asg,fun v hv i hi j hj=>?_,by rw [zvj hH4 hH];exact h2⟩
   ·obtain ⟨a,b⟩:=za6.1 hj
    have:=h1 i hi j a
    rwa [if_pos b] at this
   ·obtain ⟨a,b⟩:=za6.1 hj
    have:=h1 i hi j a
    rw [b,if_neg (hO.nz v hv)] at this
    exact this
 unfold fitP fitQ
 have hfq:=fitQ_iff (fun v hv=>⟨hO.nz v (hH v hv),hO.inb v (hH v hv)⟩) h r
 by_cases hn:(allN A.length fun i=>zcx ((A.map zcc)[i]?.getD []) 0 (arrR (cols i).1 (cols i).2.1 (cols i).2.2 (r i),0))=true
 ·rw [if_pos hn]
  unfold fitB
  by_cases hm:zd7 (vs.map (ze4 A H)) (fun i=>((A.map zcc)[i]?.getD []).length) (0,0,0,0) (zf1 fun i=>arrR (cols i).1 (cols i).2.1 (cols i).2.2 (r i))=some h
  ·rw [if_pos hm,if_pos (hfq.2 (hiff.1 ⟨hnum.1 hn,hmatch.1 hm⟩))]
  ·rw [if_neg hm,if_neg (fun k=>hm (hmatch.2 (hiff.2 (hfq.1 k)).2))]
 ·rw [if_neg hn,if_neg (fun k=>hn (hnum.2 (hiff.2 (hfq.1 k)).1))]
theorem zvf (t:Nat→Row→Row):∀ (n:Nat) (L:Nat→List REnt) (φ:(Nat→Row)→B64),jsum (fun i=>(L i).map fun e=>(t i e.1,e.2)) n φ=jsum L n (fun r=>φ (fun i=>if i<n then t i (r i) else zcg.1))
 | 0,L,φ=>rfl
 | n+1,L,φ=>by
  rw [zd1,zd1,zek]
  refine zat fun e _=>?_
  rw [zvf t n L]
  show _*wtB (t n e.1,e.2)=_*wtB e
  congr 1
  refine congrArg (jsum L n) ?_
  funext r
  congr 1
  funext i
  unfold updF
  dsimp only
  by_cases h:i=n
  ·subst h;simp
  ·rw [if_neg h]
   by_cases h2:i<n
   ·rw [if_pos h2,if_pos (by omega),if_neg h]
   ·rw [if_neg h2,if_neg (by omega)]
theorem zx2 {na:Nat} {nss:List (List Int)} {sts:List Stp} {h:H4} {r r':Nat→Row} (hs:∀ st∈sts,∀ u∈st.us,u.1<na) (e:∀ i,i<na→r i=r' i):fitP na nss sts h r=fitP na nss sts h r':=by
 have hm:∀ (sts:List Stp) (cs:Nat→Nat) (row:H4),(∀ st∈sts,∀ u∈st.us,u.1<na)→zd7 sts cs row (zf1 r)=zd7 sts cs row (zf1 r'):=by
  intro sts
  induction sts with
  | nil=>intro _ _ _;rfl
  | cons st sts ih =>
   intro cs row hs
   have hu:=hs st (List.mem_cons_self ..)
   have hz:zOf st.us cs (zf1 r)=zOf st.us cs (zf1 r'):=by
    unfold zOf
    cases hus:st.us with
    | nil=>rfl
    | cons u us =>
     dsimp only
     show zah (r u.1) _=zah (r' u.1) _
     rw [e u.1 (hu u (by rw [hus];exact List.mem_cons_self ..))]
   have ha:∀ z,zco st.us cs (zf1 r) z=zco st.us cs (zf1 r') z:=by
    intro z
    unfold zco
    rw [Bool.eq_iff_iff,List.all_eq_true,List.all_eq_true]
    refine forall_congr' fun u=>imp_congr_right fun h=>?_
    show zdz z _ _ (r u.1,0)=true↔zdz z _ _ (r' u.1,0)=true
    rw [e u.1 (hu u h)]
   simp only [zd7]
   rw [hz,ha,ih _ _ fun s hs'=>hs s (List.mem_cons_of_mem _ hs')]
 unfold fitP fitB
 rw [hm sts _ _ hs]
 have:(allN na fun i=>zcx (nss[i]?.getD []) 0 (r i,0))=allN na fun i=>zcx (nss[i]?.getD []) 0 (r' i,0):=by
  rw [Bool.eq_iff_iff,zei,zei]
  exact forall_congr' fun i=>imp_congr_right fun hi=>by rw [e i hi]
 rw [this]
theorem zl1 {A:List (List Trm)} {H vs:List Nat} (hO:OrdQ A vs) (hH4:H.length≤4) (hH:∀ v∈H,v∈vs) {cols:Nat→Nat×Nat×Nat} (hc:∀ i,i<A.length→zfb (A[i]?.getD []) vs=[(cols i).1,(cols i).2.1,(cols i).2.2])
  {S:Nat→Src} (hP:POK A.length (A.map zcc) (vs.map (ze4 A H)) S) (hc0:∀ i,(S i).c=0) {L:Nat→List REnt} (hE:∀ i,i<A.length→Eqv (zb8 S i) ((L i).map (arrE (cols i).1 (cols i).2.1 (cols i).2.2))) (h:H4) :
  pval A.length (A.map zcc) (vs.map (ze4 A H)) S h=vval A H L h:=by
 rw [zjg hP (by simp) hc0,zlk _ _ hE]
 unfold vval
 have hm:=zvf (fun i=>arrR (cols i).1 (cols i).2.1 (cols i).2.2) A.length L (fitP A.length (A.map zcc) (vs.map (ze4 A H)) h)
 have e:(fun i=>(L i).map (arrE (cols i).1 (cols i).2.1 (cols i).2.2))=fun i=>(L i).map fun e=>(arrR (cols i).1 (cols i).2.1 (cols i).2.2 e.1,e.2):=rfl
 rw [e,hm]
 congr 1
 funext r
 rw [← fitP_Q hO hH4 hH hc h r]
 refine zx2 (fun st hst u hu=>?_) fun i hi=>if_pos hi
 obtain ⟨v,hv,rfl⟩:=List.mem_map.1 hst
 exact ((zlh (hO.inb v hv) hH4).at4 u hu).1
theorem zzj (A:List (List Trm)) (H:List Nat) (i:Nat) (hi:i<A.length):∀ vs:List Nat,zjj (vs.map (ze4 A H)) i=offS (A[i]?.getD []) vs
 | []=>rfl
 | v :: vs=>by
  show zjj (vs.map (ze4 A H)) i+cntU (zb3 A v) i=_
  rw [zzj A H i hi vs,zsc A v i hi]
  simp only [offS,List.map_cons,List.sum_cons]
  omega
def zul (κ:Nat→Int) (l:List Nat):Prop:=l.Pairwise fun a b=>κ a≤κ b
def insF (κ:Nat→Int) (l:List Nat) (x:Nat):List Nat:=(l.filter fun y=>decide (κ y≤κ x)) ++ x :: (l.filter fun y=>decide (κ x<κ y))
def stS (κ:Nat→Int) (xs:List Nat):List Nat:=xs.foldl (insF κ) []
theorem zpk (κ:Nat→Int) (xs:List Nat) (x:Nat):stS κ (xs ++ [x])=insF κ (stS κ xs) x:=by simp [stS]
theorem zs2 (κ:Nat→Int) (x:Nat) (l:List Nat):((l.filter fun y=>decide (κ y≤κ x)) ++ (l.filter fun y=>decide (κ x<κ y))).Perm l:=by
 have e:(fun y=>decide (κ x<κ y))=fun y=>!decide (κ y≤κ x):=by
  funext y
  by_cases h:κ y≤κ x
  ·simp [h,Int.not_lt.2 h]
  ·simp [h,Int.not_le.1 h]
 rw [e]
 exact List.filter_append_perm _ l
theorem zzf (κ:Nat→Int) (l:List Nat) (x:Nat):(insF κ l x).Perm (x :: l):=
 List.perm_middle.trans ((zs2 κ x l).cons x)
theorem yaa {κ:Nat→Int} {l:List Nat} {x:Nat} (h:zul κ l):zul κ (insF κ l x):=by
 unfold insF zul
 refine List.pairwise_append.2 ⟨h.sublist List.filter_sublist,List.pairwise_cons.2 ⟨fun y hy=>?_,h.sublist List.filter_sublist⟩,fun a ha b hb=>?_⟩
 ·have:=(List.mem_filter.1 hy).2
  simp at this
  omega
 ·have h1:=(List.mem_filter.1 ha).2
  simp at h1
  rcases List.mem_cons.1 hb with rfl|hb
  ·exact h1
  ·have h2:=(List.mem_filter.1 hb).2
   simp at h2
   omega
theorem zlq (κ:Nat→Int) (xs:List Nat):(stS κ xs).Perm xs:=by
 have:∀ (xs l:List Nat),(xs.foldl (insF κ) l).Perm (l ++ xs):=by
  intro xs
  induction xs with
  | nil=>intro l;simp
  | cons x xs ih =>
   intro l
   refine (ih _).trans (((zzf κ l x).append_right xs).trans ?_)
   rw [List.cons_append]
   exact List.perm_middle.symm
 have h:=this xs []
 rwa [List.nil_append] at h
theorem zo4 (κ:Nat→Int) (xs:List Nat):(stS κ xs).length=xs.length:=(zlq κ xs).length_eq
theorem zu8 (κ:Nat→Int) (xs:List Nat):zul κ (stS κ xs):=by
 have:∀ (xs l:List Nat),zul κ l→zul κ (xs.foldl (insF κ) l):=by
  intro xs
  induction xs with
  | nil=>intro l h;exact h
  | cons x xs ih=>intro l h;exact ih _ (yaa h)
 exact this xs [] List.Pairwise.nil
theorem zo8 {κ:Nat→Int} {pre post:List Nat} {x:Nat} (h:zul κ (pre ++ post)) (hp:∀ y∈post,κ x<κ y) (hl:pre=[]∨∃ p y,pre=p ++ [y]∧κ y≤κ x):pre ++ x :: post=insF κ (pre ++ post) x:=by
 obtain ⟨h1,h2,h3⟩:=List.pairwise_append.1 h
 have hpre:∀ y∈pre,κ y≤κ x:=by
  rcases hl with rfl|⟨p,y,rfl,hy⟩
  ·intro y hy;cases hy
  ·intro z hz
   rcases List.mem_append.1 hz with hz|hz
   ·exact Int.le_trans ((List.pairwise_append.1 h1).2.2 z hz y (by simp)) hy
   ·simp at hz;subst hz;exact hy
 unfold insF
 rw [List.filter_append,List.filter_append,List.filter_eq_self.2 (fun y hy=>by simpa using hpre y hy),List.filter_eq_nil_iff.2 (fun y hy=>by have:=hp y hy;simp;omega),List.filter_eq_nil_iff.2 (fun y hy=>by have:=hpre y hy;simp;omega),List.filter_eq_self.2 (fun y hy=>by simpa using hp y hy)]
 simp
theorem zik (κ:Nat→Int) (xs:List Nat) (p:Nat→Bool) (q:Int→Bool) (hpq:∀ y,p y=q (κ y)):∀ K:List Int,(K.flatMap fun k=>xs.filter fun y=>decide (κ y=k)).filter p=(K.filter q).flatMap fun k=>xs.filter fun y=>decide (κ y=k)
 | []=>rfl
 | k :: K=>by
  rw [List.flatMap_cons,List.filter_append,zik κ xs p q hpq K,List.filter_cons]
  by_cases h:q k=true
  ·rw [if_pos h,List.flatMap_cons]
   congr 1
   rw [List.filter_eq_self]
   intro y hy
   have:=(List.mem_filter.1 hy).2
   simp at this
   rw [hpq,this]
   exact h
  ·rw [if_neg h]
   have:(xs.filter fun y=>decide (κ y=k)).filter p=[]:=by
    rw [List.filter_eq_nil_iff]
    intro y hy
    have:=(List.mem_filter.1 hy).2
    simp at this
    rw [hpq,this]
    exact h
   rw [this]
   rfl
theorem zvt (κ:Nat→Int) (K:List Int) (hK:K.Pairwise (· < ·)):∀ (n:Nat) (xs:List Nat),xs.length=n→(∀ x∈xs,κ x∈K)→stS κ xs=K.flatMap fun k=>xs.filter fun y=>decide (κ y=k)
 | 0,xs,hn,_=>by
  have:xs=[]:=List.eq_nil_of_length_eq_zero hn
  subst this
  have:∀ K:List Int,(K.flatMap fun k=>([]:List Nat).filter fun y=>decide (κ y=k))=[]:=by
   intro K
   induction K with
   | nil=>rfl
   | cons k K ih=>rw [List.flatMap_cons,ih];rfl
  rw [this]
  rfl
 | n+1,xs,hn,hm=>by
  obtain ⟨ys,x,rfl⟩:∃ ys x,xs=ys ++ [x]:=⟨xs.dropLast,xs.getLast (by intro e;subst e;simp at hn),(List.dropLast_concat_getLast _).symm⟩
  have ih:=zvt κ K hK n ys (by simpa using hn) (fun y hy=>hm y (List.mem_append_left _ hy))
  obtain ⟨K1,K2,rfl⟩:=List.append_of_mem (hm x (by simp))
  obtain ⟨p1,p2,p3⟩:=List.pairwise_append.1 hK
  obtain ⟨p4,p5⟩:=List.pairwise_cons.1 p2
  have g1:∀ k∈K1,k<κ x:=fun k hk=>p3 k hk _ (by simp)
  rw [zpk,ih]
  unfold insF
  rw [zik κ ys _ (fun k=>decide (k≤κ x)) (fun _=>rfl),zik κ ys _ (fun k=>decide (κ x<k)) (fun _=>rfl)]
  have e1:(K1 ++ κ x :: K2).filter (fun k=>decide (k≤κ x))=K1 ++ [κ x]:=by
   rw [List.filter_append,List.filter_cons,if_pos (by simp),List.filter_eq_self.2 (fun k hk=>by have:=g1 k hk;simp;omega),List.filter_eq_nil_iff.2 (fun k hk=>by have:=p4 k hk;simp;omega)]
  have e2:(K1 ++ κ x :: K2).filter (fun k=>decide (κ x<k))=K2:=by
   rw [List.filter_append,List.filter_cons,if_neg (by simp),List.filter_eq_nil_iff.2 (fun k hk=>by have:=g1 k hk;simp;omega),List.filter_eq_self.2 (fun k hk=>by simpa using p4 k hk)]
   rfl
  have e3:∀ K':List Int,(∀ k∈K',k≠κ x)→(K'.flatMap fun k=>(ys ++ [x]).filter fun y=>decide (κ y=k))=K'.flatMap fun k=>ys.filter fun y=>decide (κ y=k):=by
   intro K'
   induction K' with
   | nil=>intro _;rfl
   | cons k K' ih =>
    intro hk
    rw [List.flatMap_cons,List.flatMap_cons,ih fun q hq=>hk q (List.mem_cons_of_mem _ hq),List.filter_append]
    have hne:¬ κ x=k:=fun e=>hk k (List.mem_cons_self ..) e.symm
    simp [hne]
  rw [e1,e2,List.flatMap_append,List.flatMap_append,List.flatMap_cons,List.flatMap_cons,e3 K1 (fun k hk=>by have:=g1 k hk;omega),e3 K2 (fun k hk=>by have:=p4 k hk;omega),List.filter_append]
  simp
def idxL (vs:List Nat) (c:Nat):Int:=match vs.findIdx? (fun v=>decide (v=c)) with|some i=>i|none=>-1
theorem zol (vs:List Nat) (c:Nat):-1≤idxL vs c∧idxL vs c<vs.length:=by
 unfold idxL
 cases h:vs.findIdx? (fun v=>decide (v=c)) with
 | none=>dsimp only;omega
 | some i =>
  dsimp only
  have:=(List.findIdx?_eq_some_iff_getElem.1 h).1
  omega
theorem zl6 {vs:List Nat} {c:Nat}:idxL vs c=-1↔c ∉ vs:=by
 unfold idxL
 cases h:vs.findIdx? (fun v=>decide (v=c)) with
 | none =>
  rw [List.findIdx?_eq_none_iff] at h
  refine ⟨fun _ hc=>by simpa using h c hc,fun _=>rfl⟩
 | some i =>
  obtain ⟨hi,h1,_⟩:=List.findIdx?_eq_some_iff_getElem.1 h
  simp at h1
  refine ⟨fun e=>by dsimp only at e;omega,fun hc=>absurd (h1 ▸ List.getElem_mem hi) hc⟩
theorem idxL_at {vs:List Nat} (hn:vs.Nodup) {p:Nat} (hp:p<vs.length) (c:Nat):idxL vs c=p↔c=vs[p]:=by
 unfold idxL
 cases h:vs.findIdx? (fun v=>decide (v=c)) with
 | none =>
  rw [List.findIdx?_eq_none_iff] at h
  refine ⟨fun e=>by dsimp only at e;omega,fun e=>?_⟩
  have:=h vs[p] (List.getElem_mem hp)
  simp [e] at this
 | some i =>
  obtain ⟨hi,h1,_⟩:=List.findIdx?_eq_some_iff_getElem.1 h
  simp at h1
  dsimp only
  constructor
  ·intro e
   have:i=p:=by omega
   subst this
   exact h1.symm
  ·intro e
   have:=(List.getElem_inj (h₀:=hi) (h₁:=hp) hn).1 (h1.trans e)
   omega
theorem stS_cols {ts:List Trm} {vs:List Nat} (hn:vs.Nodup) (h0:0 ∉ vs) (hall:∀ j,j<ts.length→zbs ts j≠0→zbs ts j∈vs):stS (fun j=>idxL vs (zbs ts j)) (List.range ts.length)=zgt ts vs:=by
 have hK:((-1:Int) :: (List.range vs.length).map fun (p:Nat)=>(p:Int)).Pairwise (· < ·):=by
  refine List.pairwise_cons.2 ⟨fun k hk=>?_,?_⟩
  ·obtain ⟨p,_,rfl⟩:=List.mem_map.1 hk
   omega
  ·rw [List.pairwise_map]
   exact List.pairwise_lt_range.imp fun h=>by omega
 rw [zvt _ _ hK _ _ rfl (fun j _=>?_)]
 ·unfold zgt
  rw [List.flatMap_cons]
  congr 1
  ·unfold zai
   refine List.filter_congr fun j hj=>?_
   rw [decide_eq_decide,zl6]
   have hj':=List.mem_range.1 hj
   constructor
   ·intro hc
    by_cases h:zbs ts j=0
    ·exact h
    ·exact absurd (hall j hj' h) hc
   ·intro e;rw [e];exact h0
  ·have key:∀ (n:Nat),n≤vs.length→((List.range n).map fun (p:Nat)=>(p:Int)).flatMap (fun k=>(List.range ts.length).filter fun j=>decide (idxL vs (zbs ts j)=k))=(vs.take n).flatMap (zai ts):=by
    intro n
    induction n with
    | zero=>intro _;simp
    | succ n ih =>
     intro hn'
     rw [List.range_succ,List.map_append,List.flatMap_append,ih (by omega),List.take_succ_eq_append_getElem (by omega),List.flatMap_append]
     congr 1
     simp only [List.map_cons,List.map_nil,List.flatMap_cons,List.flatMap_nil,List.append_nil]
     unfold zai
     refine List.filter_congr fun j _=>?_
     rw [decide_eq_decide,idxL_at hn (by omega)]
   have:=key vs.length (Nat.le_refl _)
   rwa [List.take_length] at this
 ·have:=zol vs (zbs ts j)
  by_cases h:idxL vs (zbs ts j)=-1
  ·rw [h];exact List.mem_cons_self ..
  ·refine List.mem_cons_of_mem _ (List.mem_map.2 ⟨(idxL vs (zbs ts j)).toNat,List.mem_range.2 (by omega),by omega⟩)
end Go.Proofs.YtoifcnidhfnapaaGreatDoor
