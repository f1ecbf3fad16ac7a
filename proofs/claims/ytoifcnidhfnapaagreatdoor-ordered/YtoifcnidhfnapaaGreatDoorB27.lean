import Derived.Test.YtoifcnidhfnapaaGreatDoorB26
set_option linter.unusedVariables false
set_option linter.unusedSimpArgs false
set_option maxRecDepth 100000
set_option maxHeartbeats 16000000
namespace Go.Proofs.YtoifcnidhfnapaaGreatDoor
open Go.RowKit Go.Maps Go.Sort Go.Shelf
def zhj (ts:List Trm) (j:Nat):List Int:=((List.range j).filter fun i=>decide (zb4 ts i=0)).map fun i=>(ts[i]?.getD (0,0)).2
def zcr (ts:List Trm):List Int:=zhj ts ts.length
theorem zxl (ts:List Trm) (j:Nat):zhj ts (j+1)=zhj ts j ++ (if zb4 ts j=0 then [(ts[j]?.getD (0,0)).2] else []):=by
 unfold zhj
 rw [List.range_succ,List.filter_append,List.map_append]
 congr 1
 by_cases h:zb4 ts j=0 <;> simp [h]
theorem yaz (ts:List Trm) (j:Nat):(zhj ts j).length≤j:=by
 unfold zhj
 rw [List.length_map]
 exact Nat.le_trans (List.length_filter_le _ _) (by simp)
theorem zoy (ts:List Trm):(zcr ts).length=(zam ts 0).length:=by
 unfold zcr zhj zam
 rw [List.length_map]
theorem zxm {w:World} {base:Nat} {v:Value} {zs:List Int} (h:w.ownsRow base 2 1 v zs.length (zp1 zs)):∃ a cap,v=.slice a zs.length cap∧yhy w a zs:=by
 obtain ⟨p,c,rfl,hle,hn,hs⟩:=zak h
 refine ⟨p,c,rfl,fun j hj=>?_⟩
 cases p with
 | none=>have:=(hn rfl).1;omega
 | some ad =>
  obtain ⟨g,rfl,_,_,hc⟩:=hs ad rfl
  exact ⟨g,0,rfl,by rw [Nat.zero_add,hc _ (by omega)];simp [zp1,hj]⟩
theorem zk6 (nm:ByteArray) (pl:Int) (tv:Value) (ts:List Trm) (W:World) (hT:zhr W tv ts) (h3:ts.length≤3) (hl:∀ t∈ts,t.1<256) :
  Calls Tryz.prog 152 #[.agg #[.string nm,.int .i64 pl,tv]] W fun e w'=>∃ nv,e=.returned nv∧w'.ownsRow W.heap.size 2 1 nv (zcr ts).length (zp1 (zcr ts))∧Below W.heap.size W w':=by
 obtain ⟨ta,tcap,rfl,htx⟩:=hT
 obtain ⟨i,hi,hz0,hz1,hz2⟩:=info_parts Tryz.info2'
 obtain ⟨W1,hW1⟩:∃ W1,W1=W.alloc (.cells #[.string nm,.int .i64 pl,.slice ta ts.length tcap] 268):=⟨_,rfl⟩
 have hb1:Below W.heap.size W W1:=by rw [hW1];exact (Below.refl _ _).alloc (Nat.le_refl _) _
 have g2:W1.cell? ⟨W.heap.size,2,none⟩=some (.slice ta ts.length tcap):=by rw [hW1];exact zab (zae _ _ _ rfl) 2
 have Hb1:=zac hb1
 have Htx:=zac htx
 have Hl:=zac hl
 clear hb1 htx hl
 rw [hW1] at g2
 go_enter Tryz.func152,Tryz.ntmps152
 go_wp2
 rw [← hW1]
 clear hW1 g2
 try go_wp2
 go_loopw [3,9] (fun nv i wr=>∃ j:Nat,j≤ts.length∧i=.int .i64 j∧wr.ownsRow W.heap.size 2 1 nv (zhj ts j).length (zp1 (zhj ts j))∧Below W.heap.size W wr) (fun _ i _=>ts.length - (intOf i).toNat)
 case atStart=>exact ⟨0,Nat.zero_le _,rfl,by simpa [zhj,zp1] using World.ownsRow_nil W1 W.heap.size 2 1,zaa Hb1⟩
 case round =>
  obtain ⟨j,hj,rfl,hown,hlow⟩:=hrel
  by_cases hlt:j<ts.length
  ·have hjx:(j:Int)<(ts.length:Int):=by omega
   obtain ⟨tb,to,rfl,t0,t1⟩:=(zaa Htx) j hlt
   have htb:tb<W.heap.size:=World.block_lt_of_cell? W _ t0
   have t0':=(hlow.cell (p:=⟨tb,to+j*2,none⟩) htb).trans t0
   have t1':=(hlow.cell (p:=⟨tb,to+j*2+1,none⟩) htb).trans t1
   obtain ⟨l,hl⟩:∃ l,l=zb4 ts j:=⟨_,rfl⟩
   have hls:=zxl ts j
   rw [← hl] at hls
   have hl256:l<256:=by rw [hl];exact (zaa Hl) _ (by simp [hlt])
   rw [show (ts[j]?.getD (0,0)).1=l from hl.symm] at t0'
   generalize (ts[j]?.getD (0,0)).2=tz at t1' hls
   have hnl:=yaz ts j
   obtain ⟨w3,hw3⟩:∃ w3,w3=wr.alloc (.cells #[.int .u8 l,.int .i64 tz] 327):=⟨_,rfl⟩
   have n0:w3.cell? ⟨wr.heap.size,0,none⟩=some (.int .u8 l):=by rw [hw3];exact zab (zae _ _ _ rfl) 0
   have n1:w3.cell? ⟨wr.heap.size,1,none⟩=some (.int .i64 tz):=by rw [hw3];exact zab (zae _ _ _ rfl) 1
   have hown3:=hown.alloc (.cells #[.int .u8 l,.int .i64 tz] 327)
   rw [← hw3] at hown3
   have hlow3:Below W.heap.size W w3:=by rw [hw3];exact hlow.alloc hlow.size _
   have hs3:w3.heap.size=wr.heap.size+1:=by rw [hw3];simp
   by_cases hlv:l=0
   ·subst hlv
    replace hw3:w3=wr.alloc (.cells #[.int .u8 0,.int .i64 tz] 327):=hw3
    replace t0':wr.cell? ⟨tb,to+j*2,none⟩=some (.int .u8 0):=t0'
    replace n0:w3.cell? ⟨wr.heap.size,0,none⟩=some (.int .u8 0):=n0
    obtain ⟨w4,hw4⟩:∃ w4,w4=w3.alloc (.cells #[.int .i64 tz] 2):=⟨_,rfl⟩
    have hnew:∀ j u,[Value.int .i64 tz][j]? = some u→w4.cell? ((⟨wr.heap.size+1,0,none⟩:Addr).add j)=some u:=by rw [← hs3,hw4];exact zg6 w3 _ 2
    have hown4:=hown3.alloc (.cells #[.int .i64 tz] 2)
    rw [← hw4] at hown4
    have hlow4:Below W.heap.size W w4:=by rw [hw4];exact hlow3.alloc hlow3.size _
    have hbs:=hlow4.size
    obtain ⟨pa,pc,rfl,_⟩:=zak hown
    have Hown4:=zac hown4
    have Hlow4:=zac hlow4
    have Hnew:=zac hnew
    have Hls:=zac hls
    clear hown hlow hown3 hlow3 hown4 hlow4 hnew hls t0 t1 hl
    rw [hw3] at n0 n1
    go_wp2_with (first
     | (rw [← hw3,← hw4];refine zby _ rfl (.tmp 16) (.tmp 19) 41 rfl W.heap.size 2 i _ 1 8 Tryz.underlying41 hi hz0 hz1 hz2 rfl (by decide) _ _ _ rfl (zaa Hown4) ⟨wr.heap.size+1,0,none⟩ 1 [.int .i64 tz] rfl rfl (zaa Hnew) (by simp [Value.oneCell']) (by unfold maxLen;omega) (by omega) hbs ?_;intro sv' w5 hrow5 hg5 hsh5))
    refine ⟨⟨j+1,by omega,by simp,?_,(zaa Hlow4).grown hg5 hbs (fun q hq=>zb6 (zaa Hown4) hq)⟩,by simp [intOf];omega⟩
    rw [zaa Hls,if_pos rfl,List.length_append]
    have e:zp1 (zhj ts j ++ [tz])=zp1 (zhj ts j) ++ [.int .i64 tz]:=by simp [zp1]
    rw [e]
    exact hrow5
   ·have hne:¬ (l:Int)=0:=by omega
    obtain ⟨pa,pc,rfl,_⟩:=zak hown
    have Hown3:=zac hown3
    have Hlow3:=zac hlow3
    have Hls:=zac hls
    clear hown hlow hown3 hlow3 hls t0 t1 hl
    rw [hw3] at n0 n1
    go_wp2
    rw [← hw3]
    refine ⟨⟨j+1,by omega,by simp,?_,zaa Hlow3⟩,by simp [intOf];omega⟩
    rw [zaa Hls,if_neg hlv,List.append_nil]
    exact zaa Hown3
  ·have hke:j=ts.length:=by omega
   subst hke
   obtain ⟨p,c,rfl,_⟩:=zak hown
   have Hown:=zac hown
   have Hlow:=zac hlow
   clear hown hlow
   go_wp2
   go_ret
   exact ⟨_,rfl,zaa Hown,zaa Hlow⟩
end Go.Proofs.YtoifcnidhfnapaaGreatDoor
namespace Go.Proofs.YtoifcnidhfnapaaGreatDoor
def zno (ts:List Trm) (v:Nat):Option Nat:=(zam ts v)[0]?
def zlv (A:List (List Trm)) (r:Nat→Row) (v:Nat):Nat→Int
 | 0=>0
 | n+1=>match zno (A[n]?.getD []) v with|some j=>zal (r n) j|none=>zlv A r v n
def zlw (A:List (List Trm)) (r:Nat→Row) (v:Nat):Int:=zlv A r v A.length
def dcF (A:List (List Trm)) (r:Nat→Row) (asg:Nat→Int):Decidable (zpq A r asg):=by unfold zpq;exact inferInstance
def yc7 (A:List (List Trm)) (H:List Nat) (h:H4) (r:Nat→Row):B64:=@ite B64 (zpq A r (zlw A r)∧zkx H (zlw A r)=h) (@instDecidableAnd _ _ (dcF A r (zlw A r)) _) 1#64 0#64
theorem zbg {ts:List Trm} {v j:Nat}:j∈zam ts v↔j<ts.length∧zb4 ts j=v:=by
 unfold zam
 simp
theorem zmv {A:List (List Trm)} {r:Nat→Row} {asg:Nat→Int} {v:Nat} (h0:v≠0) (hf:zpq A r asg):∀ n,n≤A.length→(∃ i,i<n∧zam (A[i]?.getD []) v≠[])→zlv A r v n=asg v
 | 0,_,⟨i,hi,_⟩=>absurd hi (Nat.not_lt_zero _)
 | n+1,hn,⟨i,hi,hne⟩=>by
  simp only [zlv]
  cases hc:zno (A[n]?.getD []) v with
  | some j =>
   dsimp only
   have hj:j∈zam (A[n]?.getD []) v:=List.mem_of_getElem? hc
   obtain ⟨h1,h2⟩:=zbg.1 hj
   have:=hf n (by omega) j h1
   rw [h2,if_neg h0] at this
   exact this
  | none =>
   dsimp only
   have hnil:zam (A[n]?.getD []) v=[]:=by
    unfold zno at hc
    rw [List.getElem?_eq_none_iff] at hc
    exact List.eq_nil_of_length_eq_zero (by omega)
   refine zmv h0 hf n (by omega) ⟨i,?_,hne⟩
   rcases Nat.lt_or_ge i n with h|h
   ·exact h
   ·have:i=n:=by omega
    subst this
    exact absurd hnil hne
theorem zqf {A:List (List Trm)} {r:Nat→Row} {asg:Nat→Int} {v:Nat} (h0:v≠0) (hf:zpq A r asg) (hb:zie A v):zlw A r v=asg v:=zmv h0 hf _ (Nat.le_refl _) hb
theorem zw0 {H:List Nat} {f g:Nat→Int} (h:∀ v∈H,f v=g v):zkx H f=zkx H g:=by
 unfold zkx
 have:∀ q,(if q<H.length then f (H[q]?.getD 0) else 0)=(if q<H.length then g (H[q]?.getD 0) else 0):=by
  intro q
  by_cases hq:q<H.length
  ·rw [if_pos hq,if_pos hq];exact h _ (by simp [hq])
  ·rw [if_neg hq,if_neg hq]
 simp only [this]
theorem ygc {A:List (List Trm)} {H:List Nat} (hH:∀ v∈H,v≠0∧zie A v) (h:H4) (r:Nat→Row):(zpq A r (zlw A r)∧zkx H (zlw A r)=h)↔∃ asg,zpq A r asg∧zkx H asg=h:=by
 constructor
 ·exact fun k=>⟨_,k⟩
 ·rintro ⟨asg,hf,rfl⟩
  refine ⟨fun i hi j hj=>?_,zw0 fun v hv=>zqf (hH v hv).1 hf (hH v hv).2⟩
  rw [hf i hi j hj]
  by_cases h0:zb4 (A[i]?.getD []) j=0
  ·rw [if_pos h0,if_pos h0]
  ·rw [if_neg h0,if_neg h0,zqf h0 hf]
   exact ⟨i,hi,fun e=>by
    have:j∈zam (A[i]?.getD []) (zb4 (A[i]?.getD []) j):=zbg.2 ⟨hj,rfl⟩
    rw [e] at this
    cases this⟩
def zpj (A:List (List Trm)) (H:List Nat) (L:Nat→List zaj) (h:H4):B64:=zhy L A.length (yc7 A H h)
structure zv7 (A:List (List Trm)) (vs:List Nat):Prop where
 nd:vs.Nodup
 nz:∀ v∈vs,v≠0
 inb:∀ v∈vs,zie A v
 all:∀ i,i<A.length→∀ j,j<(A[i]?.getD []).length→zb4 (A[i]?.getD []) j≠0→zb4 (A[i]?.getD []) j∈vs
def zf7 (ts:List Trm) (vs:List Nat):List Nat:=zh8 ts vs ++ (List.range 3).drop ts.length
theorem zk2 (ts:List Trm) (v:Nat):(zam ts v).Nodup:=List.Pairwise.filter _ List.nodup_range
theorem zqn (ts:List Trm):∀ vs:List Nat,vs.Nodup→(vs.flatMap (zam ts)).Nodup
 | [],_=>List.nodup_nil
 | v :: vs,h=>by
  rw [List.nodup_cons] at h
  rw [List.flatMap_cons,List.nodup_append]
  refine ⟨zk2 _ _,zqn ts vs h.2,fun a ha b hb e=>?_⟩
  subst e
  obtain ⟨u,hu,hb⟩:=List.mem_flatMap.1 hb
  have:u=v:=(zbg.1 hb).2.symm.trans (zbg.1 ha).2
  subst this
  exact h.1 hu
theorem zwq {ts:List Trm} {vs:List Nat} (hn:vs.Nodup) (h0:∀ v∈vs,v≠0):(zh8 ts vs).Nodup:=by
 unfold zh8
 rw [List.nodup_append]
 refine ⟨zk2 _ _,zqn ts vs hn,?_⟩
 intro a ha b hb e
 subst e
 obtain ⟨v,hv,hb⟩:=List.mem_flatMap.1 hb
 exact h0 v hv ((zbg.1 hb).2.symm.trans (zbg.1 ha).2)
theorem ycw {ts:List Trm} {vs:List Nat} (hall:∀ j,j<ts.length→zb4 ts j≠0→zb4 ts j∈vs) (j:Nat):j∈zh8 ts vs↔j<ts.length:=by
 unfold zh8
 rw [List.mem_append,List.mem_flatMap]
 constructor
 ·rintro (h|⟨v,_,h⟩) <;> exact (zbg.1 h).1
 ·intro h
  by_cases h0:zb4 ts j=0
  ·exact .inl (zbg.2 ⟨h,h0⟩)
  ·exact .inr ⟨_,hall j h h0,zbg.2 ⟨h,rfl⟩⟩
theorem yay {l m:List Nat} (hl:l.Nodup) (hm:m.Nodup) (h:∀ x,x∈l↔x∈m):l.Perm m:=(List.perm_ext_iff_of_nodup hl hm).2 h
theorem zqm {ts:List Trm} {vs:List Nat} (hn:vs.Nodup) (h0:∀ v∈vs,v≠0) (hall:∀ j,j<ts.length→zb4 ts j≠0→zb4 ts j∈vs):(zh8 ts vs).Perm (List.range ts.length):=
 yay (zwq hn h0) List.nodup_range fun x=>by rw [ycw hall,List.mem_range]
theorem zz2 {ts:List Trm} {vs:List Nat} (h3:ts.length≤3) (hn:vs.Nodup) (h0:∀ v∈vs,v≠0) (hall:∀ j,j<ts.length→zb4 ts j≠0→zb4 ts j∈vs):(zf7 ts vs).Perm (List.range 3):=by
 have h:=(zqm hn h0 hall).append_right ((List.range 3).drop ts.length)
 have e:List.range ts.length ++ (List.range 3).drop ts.length=List.range 3:=by
  have:List.range ts.length=(List.range 3).take ts.length:=by rw [List.take_range];congr 1;omega
  rw [this,List.take_append_drop]
 rw [e] at h
 exact h
theorem zof {ts:List Trm} {vs:List Nat} (h3:ts.length≤3) (hn:vs.Nodup) (h0:∀ v∈vs,v≠0) (hall:∀ j,j<ts.length→zb4 ts j≠0→zb4 ts j∈vs):∃ c0 c1 c2,zf7 ts vs=[c0,c1,c2]∧zm9 c0 c1 c2:=by
 have hp:=zz2 h3 hn h0 hall
 have hl:(zf7 ts vs).length=3:=by rw [hp.length_eq];rfl
 have hnd:(zf7 ts vs).Nodup:=(hp.nodup_iff).2 List.nodup_range
 have hm:∀ x∈zf7 ts vs,x<3:=fun x hx=>List.mem_range.1 (hp.mem_iff.1 hx)
 match hc:zf7 ts vs,hl with
 | [c0,c1,c2],_ =>
  rw [hc] at hnd hm
  simp at hnd hm
  exact ⟨c0,c1,c2,rfl,⟨⟨hm.1,hm.2.1,hm.2.2⟩,hnd.1.1,hnd.1.2,hnd.2⟩⟩
theorem ycv (c0 c1 c2:Nat) (r:Row) (k:Nat) (hk:k<3):zal (zpx c0 c1 c2 r) k=zal r ([c0,c1,c2][k]?.getD 0):=by
 match k,hk with|0,_=>rfl|1,_=>rfl|2,_=>rfl
theorem zl2 {ts:List Trm} {vs:List Nat} {c0 c1 c2:Nat} (hc:zf7 ts vs=[c0,c1,c2]) (r:Row) (k:Nat) (hk:k<(zh8 ts vs).length):zal (zpx c0 c1 c2 r) k=zal r ((zh8 ts vs)[k]?.getD 0):=by
 have hl:(zh8 ts vs).length≤3:=by
  have:=congrArg List.length hc
  unfold zf7 at this
  simp at this
  omega
 rw [ycv _ _ _ _ _ (by omega),← hc]
 unfold zf7
 rw [List.getElem?_append_left hk]
theorem zxn (ts:List Trm) (a b:List Nat):zy9 ts (a ++ b)=zy9 ts a+zy9 ts b:=by simp [zy9]
theorem zwv (ts:List Trm) (vs:List Nat):(vs.flatMap (zam ts)).length=zy9 ts vs:=by
 unfold zy9
 rw [List.length_flatMap]
theorem zkw (ts:List Trm) (vs:List Nat):(zh8 ts vs).length=(zam ts 0).length+zy9 ts vs:=by
 unfold zh8
 rw [List.length_append,zwv]
theorem yf6 {ts:List Trm} {pre post:List Nat} {v k:Nat} (hk:k<(zam ts v).length):(zh8 ts (pre ++ v :: post))[(zam ts 0).length+zy9 ts pre+k]? = (zam ts v)[k]?:=by
 unfold zh8
 rw [List.getElem?_append_right (by omega),List.flatMap_append,List.flatMap_cons,List.getElem?_append_right (by rw [zwv];omega),zwv,List.getElem?_append_left (by omega)]
 congr 1
 omega
theorem zt4 {ts:List Trm} {vs:List Nat} {k:Nat} (hk:k<(zam ts 0).length):(zh8 ts vs)[k]? = (zam ts 0)[k]?:=by
 unfold zh8
 rw [List.getElem?_append_left hk]
theorem zox:∀ (zs:List Int) (c:Nat) (e:zaj),zdd zs c e=true↔∀ k,k<zs.length→zal e.1 (c+k)=zs[k]?.getD 0
 | [],c,e=>by simp [zdd]
 | z :: zs,c,e=>by
  simp only [zdd,Bool.and_eq_true,decide_eq_true_eq,zox zs (c+1) e]
  constructor
  ·rintro ⟨h1,h2⟩ k hk
   cases k with
   | zero=>simpa using h1
   | succ k =>
    have:=h2 k (by simpa using hk)
    rw [show c+(k+1)=c+1+k by omega,this]
    simp
  ·intro h
   refine ⟨by simpa using h 0 (by simp),fun k hk=>?_⟩
   have:=h (k+1) (by simpa using hk)
   rw [show c+1+k=c+(k+1) by omega,this]
   simp
theorem zy8 {ts:List Trm} {k:Nat} (hk:k<(zam ts 0).length):(zcr ts)[k]?.getD 0=(ts[(zam ts 0)[k]?.getD 0]?.getD (0,0)).2:=by
 unfold zcr zhj
 rw [List.getElem?_map]
 have e:((List.range ts.length).filter fun i=>decide (zb4 ts i=0))=zam ts 0:=rfl
 rw [e,List.getElem?_eq_getElem hk]
 rfl
theorem ykg {A:List (List Trm)} {H vs:List Nat} (hO:zv7 A vs) (hH4:H.length≤4) (hH:∀ v∈H,v∈vs) {cols:Nat→Nat×Nat×Nat} (hc:∀ i,i<A.length→zf7 (A[i]?.getD []) vs=[(cols i).1,(cols i).2.1,(cols i).2.2]) (h:H4) (r:Nat→Row) :
  ygb A.length (A.map zcr) (vs.map (zfy A H)) h (fun i=>zpx (cols i).1 (cols i).2.1 (cols i).2.2 (r i))=yc7 A H h r:=by
 have hnq:∀ i,i<A.length→(A.map zcr)[i]?.getD []=zcr (A[i]?.getD []):=fun i hi=>by simp [hi]
 have hlen:∀ i,i<A.length→((A.map zcr)[i]?.getD []).length=(zam (A[i]?.getD []) 0).length:=fun i hi=>by rw [hnq i hi,zoy]
 have hnum:(ztc A.length fun i=>zdd ((A.map zcr)[i]?.getD []) 0 (zpx (cols i).1 (cols i).2.1 (cols i).2.2 (r i),0))=true↔∀ i,i<A.length→∀ j∈zam (A[i]?.getD []) 0,zal (r i) j=((A[i]?.getD [])[j]?.getD (0,0)).2:=by
  rw [ze4]
  refine forall_congr' fun i=>imp_congr_right fun hi=>?_
  rw [zox,hnq i hi,zoy]
  constructor
  ·intro hk j hj
   obtain ⟨k,hk',rfl⟩:=List.getElem_of_mem hj
   have h1:=hk k hk'
   rw [Nat.zero_add,zl2 (hc i hi) _ _ (by rw [zkw];omega),zt4 hk',zy8 hk'] at h1
   simpa [hk'] using h1
  ·intro hj k hk'
   rw [Nat.zero_add,zl2 (hc i hi) _ _ (by rw [zkw];omega),zt4 hk',zy8 hk']
   exact hj _ (by simp [hk'])
 have hmatch:=zor A H r (fun i=>zpx (cols i).1 (cols i).2.1 (cols i).2.2 (r i)) vs (fun i=>((A.map zcr)[i]?.getD []).length) (0,0,0,0) h hO.nd hO.inb (fun pre v post e i hi k hk=>by
  rw [hlen i hi,zl2 (hc i hi) _ _ (by rw [zkw,e,zxn];simp only [zy9,List.map_cons,List.sum_cons] at *;omega),e,yf6 hk])
 have hiff:((∀ i,i<A.length→∀ j∈zam (A[i]?.getD []) 0,zal (r i) j=((A[i]?.getD [])[j]?.getD (0,0)).2)∧∃ asg:Nat→Int,(∀ v∈vs,∀ i,i<A.length→∀ j∈zam (A[i]?.getD []) v,zal (r i) j=asg v)∧zug H vs asg (0,0,0,0)=h)↔∃ asg,zpq A r asg∧zkx H asg=h:=by
  constructor
  ·rintro ⟨h1,asg,h2,h3⟩
   rw [zyy hH4 hH] at h3
   refine ⟨asg,fun i hi j hj=>?_,h3⟩
   by_cases h0:zb4 (A[i]?.getD []) j=0
   ·rw [if_pos h0];exact h1 i hi j (zbg.2 ⟨hj,h0⟩)
   ·rw [if_neg h0];exact h2 _ (hO.all i hi j hj h0) i hi j (zbg.2 ⟨hj,rfl⟩)
  ·rintro ⟨asg,h1,h2⟩
   refine ⟨fun i hi j hj=>?_,asg,fun v hv i hi j hj=>?_,by rw [zyy hH4 hH];exact h2⟩
   ·obtain ⟨a,b⟩:=zbg.1 hj
    have:=h1 i hi j a
    rwa [if_pos b] at this
   ·obtain ⟨a,b⟩:=zbg.1 hj
    have:=h1 i hi j a
    rw [b,if_neg (hO.nz v hv)] at this
    exact this
 unfold ygb yc7
 have hfq:=ygc (fun v hv=>⟨hO.nz v (hH v hv),hO.inb v (hH v hv)⟩) h r
 by_cases hn:(ztc A.length fun i=>zdd ((A.map zcr)[i]?.getD []) 0 (zpx (cols i).1 (cols i).2.1 (cols i).2.2 (r i),0))=true
 ·rw [if_pos hn]
  unfold zwu
  by_cases hm:zeu (vs.map (zfy A H)) (fun i=>((A.map zcr)[i]?.getD []).length) (0,0,0,0) (zg4 fun i=>zpx (cols i).1 (cols i).2.1 (cols i).2.2 (r i))=some h
  ·rw [if_pos hm,if_pos (hfq.2 (hiff.1 ⟨hnum.1 hn,hmatch.1 hm⟩))]
  ·rw [if_neg hm,if_neg (fun k=>hm (hmatch.2 (hiff.2 (hfq.1 k)).2))]
 ·rw [if_neg hn,if_neg (fun k=>hn (hnum.2 (hiff.2 (hfq.1 k)).1))]
theorem zy2 (t:Nat→Row→Row):∀ (n:Nat) (L:Nat→List zaj) (φ:(Nat→Row)→B64),zhy (fun i=>(L i).map fun e=>(t i e.1,e.2)) n φ=zhy L n (fun r=>φ (fun i=>if i<n then t i (r i) else zcy.1))
 | 0,L,φ=>rfl
 | n+1,L,φ=>by
  rw [zei,zei,ze5]
  refine zax fun e _=>?_
  rw [zy2 t n L]
  show _*wtB (t n e.1,e.2)=_*wtB e
  congr 1
  refine congrArg (zhy L n) ?_
  funext r
  congr 1
  funext i
  unfold zhn
  dsimp only
  by_cases h:i=n
  ·subst h;simp
  ·rw [if_neg h]
   by_cases h2:i<n
   ·rw [if_pos h2,if_pos (by omega),if_neg h]
   ·rw [if_neg h2,if_neg (by omega)]
theorem zz8 {na:Nat} {nss:List (List Int)} {sts:List Stp} {h:H4} {r r':Nat→Row} (hs:∀ st∈sts,∀ u∈st.us,u.1<na) (e:∀ i,i<na→r i=r' i):ygb na nss sts h r=ygb na nss sts h r':=by
 have hm:∀ (sts:List Stp) (cs:Nat→Nat) (row:H4),(∀ st∈sts,∀ u∈st.us,u.1<na)→zeu sts cs row (zg4 r)=zeu sts cs row (zg4 r'):=by
  intro sts
  induction sts with
  | nil=>intro _ _ _;rfl
  | cons st sts ih =>
   intro cs row hs
   have hu:=hs st (List.mem_cons_self ..)
   have hz:zOf st.us cs (zg4 r)=zOf st.us cs (zg4 r'):=by
    unfold zOf
    cases hus:st.us with
    | nil=>rfl
    | cons u us =>
     dsimp only
     show zal (r u.1) _=zal (r' u.1) _
     rw [e u.1 (hu u (by rw [hus];exact List.mem_cons_self ..))]
   have ha:∀ z,zc7 st.us cs (zg4 r) z=zc7 st.us cs (zg4 r') z:=by
    intro z
    unfold zc7
    rw [Bool.eq_iff_iff,List.all_eq_true,List.all_eq_true]
    refine forall_congr' fun u=>imp_congr_right fun h=>?_
    show zeg z _ _ (r u.1,0)=true↔zeg z _ _ (r' u.1,0)=true
    rw [e u.1 (hu u h)]
   simp only [zeu]
   rw [hz,ha,ih _ _ fun s hs'=>hs s (List.mem_cons_of_mem _ hs')]
 unfold ygb zwu
 rw [hm sts _ _ hs]
 have:(ztc na fun i=>zdd (nss[i]?.getD []) 0 (r i,0))=ztc na fun i=>zdd (nss[i]?.getD []) 0 (r' i,0):=by
  rw [Bool.eq_iff_iff,ze4,ze4]
  exact forall_congr' fun i=>imp_congr_right fun hi=>by rw [e i hi]
 rw [this]
theorem zo2 {A:List (List Trm)} {H vs:List Nat} (hO:zv7 A vs) (hH4:H.length≤4) (hH:∀ v∈H,v∈vs) {cols:Nat→Nat×Nat×Nat} (hc:∀ i,i<A.length→zf7 (A[i]?.getD []) vs=[(cols i).1,(cols i).2.1,(cols i).2.2])
  {S:Nat→Src} (hP:POK A.length (A.map zcr) (vs.map (zfy A H)) S) (hc0:∀ i,(S i).c=0) {L:Nat→List zaj} (hE:∀ i,i<A.length→Eqv (zcn S i) ((L i).map (zku (cols i).1 (cols i).2.1 (cols i).2.2))) (h:H4) :
  zte A.length (A.map zcr) (vs.map (zfy A H)) S h=zpj A H L h:=by
 rw [zk9 hP (by simp) hc0,znq _ _ hE]
 unfold zpj
 have hm:=zy2 (fun i=>zpx (cols i).1 (cols i).2.1 (cols i).2.2) A.length L (ygb A.length (A.map zcr) (vs.map (zfy A H)) h)
 have e:(fun i=>(L i).map (zku (cols i).1 (cols i).2.1 (cols i).2.2))=fun i=>(L i).map fun e=>(zpx (cols i).1 (cols i).2.1 (cols i).2.2 e.1,e.2):=rfl
 rw [e,hm]
 congr 1
 funext r
 rw [← ykg hO hH4 hH hc h r]
 refine zz8 (fun st hst u hu=>?_) fun i hi=>if_pos hi
 obtain ⟨v,hv,rfl⟩:=List.mem_map.1 hst
 exact ((zns (hO.inb v hv) hH4).at4 u hu).1
theorem yd0 (A:List (List Trm)) (H:List Nat) (i:Nat) (hi:i<A.length):∀ vs:List Nat,zk5 (vs.map (zfy A H)) i=zy9 (A[i]?.getD []) vs
 | []=>rfl
 | v :: vs=>by
  show zk5 (vs.map (zfy A H)) i+zmy (zci A v) i=_
  rw [yd0 A H i hi vs,zt1 A v i hi]
  simp only [zy9,List.map_cons,List.sum_cons]
  omega
def zwc (κ:Nat→Int) (l:List Nat):Prop:=l.Pairwise fun a b=>κ a≤κ b
def yfl (κ:Nat→Int) (l:List Nat) (x:Nat):List Nat:=(l.filter fun y=>decide (κ y≤κ x)) ++ x :: (l.filter fun y=>decide (κ x<κ y))
def stS (κ:Nat→Int) (xs:List Nat):List Nat:=xs.foldl (yfl κ) []
theorem zs4 (κ:Nat→Int) (xs:List Nat) (x:Nat):stS κ (xs ++ [x])=yfl κ (stS κ xs) x:=by simp [stS]
theorem zud (κ:Nat→Int) (x:Nat) (l:List Nat):((l.filter fun y=>decide (κ y≤κ x)) ++ (l.filter fun y=>decide (κ x<κ y))).Perm l:=by
 have e:(fun y=>decide (κ x<κ y))=fun y=>!decide (κ y≤κ x):=by
  funext y
  by_cases h:κ y≤κ x
  ·simp [h,Int.not_lt.2 h]
  ·simp [h,Int.not_le.1 h]
 rw [e]
 exact List.filter_append_perm _ l
theorem ydh (κ:Nat→Int) (l:List Nat) (x:Nat):(yfl κ l x).Perm (x :: l):=
 List.perm_middle.trans ((zud κ x l).cons x)
theorem ydi {κ:Nat→Int} {l:List Nat} {x:Nat} (h:zwc κ l):zwc κ (yfl κ l x):=by
 unfold yfl zwc
 refine List.pairwise_append.2 ⟨h.sublist List.filter_sublist,List.pairwise_cons.2 ⟨fun y hy=>?_,h.sublist List.filter_sublist⟩,fun a ha b hb=>?_⟩
 ·have:=(List.mem_filter.1 hy).2
  simp at this
  omega
 ·have h1:=(List.mem_filter.1 ha).2
  simp at h1
  rcases List.mem_cons.1 hb with rfl|hb
  ·exact h1
  ·have h2:=(List.mem_filter.1 hb).2
   simp at h2
   omega
theorem znr (κ:Nat→Int) (xs:List Nat):(stS κ xs).Perm xs:=by
 have:∀ (xs l:List Nat),(xs.foldl (yfl κ) l).Perm (l ++ xs):=by
  intro xs
  induction xs with
  | nil=>intro l;simp
  | cons x xs ih =>
   intro l
   refine (ih _).trans (((ydh κ l x).append_right xs).trans ?_)
   rw [List.cons_append]
   exact List.perm_middle.symm
 have h:=this xs []
 rwa [List.nil_append] at h
theorem zs3 (κ:Nat→Int) (xs:List Nat):(stS κ xs).length=xs.length:=(znr κ xs).length_eq
theorem zzj (κ:Nat→Int) (xs:List Nat):zwc κ (stS κ xs):=by
 have:∀ (xs l:List Nat),zwc κ l→zwc κ (xs.foldl (yfl κ) l):=by
  intro xs
  induction xs with
  | nil=>intro l h;exact h
  | cons x xs ih=>intro l h;exact ih _ (ydi h)
 exact this xs [] List.Pairwise.nil
theorem zr5 {κ:Nat→Int} {pre post:List Nat} {x:Nat} (h:zwc κ (pre ++ post)) (hp:∀ y∈post,κ x<κ y) (hl:pre=[]∨∃ p y,pre=p ++ [y]∧κ y≤κ x):pre ++ x :: post=yfl κ (pre ++ post) x:=by
 obtain ⟨h1,h2,h3⟩:=List.pairwise_append.1 h
 have hpre:∀ y∈pre,κ y≤κ x:=by
  rcases hl with rfl|⟨p,y,rfl,hy⟩
  ·intro y hy;cases hy
  ·intro z hz
   rcases List.mem_append.1 hz with hz|hz
   ·exact Int.le_trans ((List.pairwise_append.1 h1).2.2 z hz y (by simp)) hy
   ·simp at hz;subst hz;exact hy
 unfold yfl
 rw [List.filter_append,List.filter_append,List.filter_eq_self.2 (fun y hy=>by simpa using hpre y hy),List.filter_eq_nil_iff.2 (fun y hy=>by have:=hp y hy;simp;omega),List.filter_eq_nil_iff.2 (fun y hy=>by have:=hpre y hy;simp;omega),List.filter_eq_self.2 (fun y hy=>by simpa using hp y hy)]
 simp
theorem zj3 (κ:Nat→Int) (xs:List Nat) (p:Nat→Bool) (q:Int→Bool) (hpq:∀ y,p y=q (κ y)):∀ K:List Int,(K.flatMap fun k=>xs.filter fun y=>decide (κ y=k)).filter p=(K.filter q).flatMap fun k=>xs.filter fun y=>decide (κ y=k)
 | []=>rfl
 | k :: K=>by
  rw [List.flatMap_cons,List.filter_append,zj3 κ xs p q hpq K,List.filter_cons]
  by_cases h:q k=true
  ·rw [if_pos h,List.flatMap_cons]
   congr 1
   rw [List.filter_eq_self]
   intro y hy
   have:=(List.mem_filter.1 hy).2
   simp at this
   rw [hpq,this]
   exact h
  ·rw [if_neg h]
   have:(xs.filter fun y=>decide (κ y=k)).filter p=[]:=by
    rw [List.filter_eq_nil_iff]
    intro y hy
    have:=(List.mem_filter.1 hy).2
    simp at this
    rw [hpq,this]
    exact h
   rw [this]
   rfl
theorem zzi (κ:Nat→Int) (K:List Int) (hK:K.Pairwise (· < ·)):∀ (n:Nat) (xs:List Nat),xs.length=n→(∀ x∈xs,κ x∈K)→stS κ xs=K.flatMap fun k=>xs.filter fun y=>decide (κ y=k)
 | 0,xs,hn,_=>by
  have:xs=[]:=List.eq_nil_of_length_eq_zero hn
  subst this
  have:∀ K:List Int,(K.flatMap fun k=>([]:List Nat).filter fun y=>decide (κ y=k))=[]:=by
   intro K
   induction K with
   | nil=>rfl
   | cons k K ih=>rw [List.flatMap_cons,ih];rfl
  rw [this]
  rfl
 | n+1,xs,hn,hm=>by
  obtain ⟨ys,x,rfl⟩:∃ ys x,xs=ys ++ [x]:=⟨xs.dropLast,xs.getLast (by intro e;subst e;simp at hn),(List.dropLast_concat_getLast _).symm⟩
  have ih:=zzi κ K hK n ys (by simpa using hn) (fun y hy=>hm y (List.mem_append_left _ hy))
  obtain ⟨K1,K2,rfl⟩:=List.append_of_mem (hm x (by simp))
  obtain ⟨p1,p2,p3⟩:=List.pairwise_append.1 hK
  obtain ⟨p4,p5⟩:=List.pairwise_cons.1 p2
  have g1:∀ k∈K1,k<κ x:=fun k hk=>p3 k hk _ (by simp)
  rw [zs4,ih]
  unfold yfl
  rw [zj3 κ ys _ (fun k=>decide (k≤κ x)) (fun _=>rfl),zj3 κ ys _ (fun k=>decide (κ x<k)) (fun _=>rfl)]
  have e1:(K1 ++ κ x :: K2).filter (fun k=>decide (k≤κ x))=K1 ++ [κ x]:=by
   rw [List.filter_append,List.filter_cons,if_pos (by simp),List.filter_eq_self.2 (fun k hk=>by have:=g1 k hk;simp;omega),List.filter_eq_nil_iff.2 (fun k hk=>by have:=p4 k hk;simp;omega)]
  have e2:(K1 ++ κ x :: K2).filter (fun k=>decide (κ x<k))=K2:=by
   rw [List.filter_append,List.filter_cons,if_neg (by simp),List.filter_eq_nil_iff.2 (fun k hk=>by have:=g1 k hk;simp;omega),List.filter_eq_self.2 (fun k hk=>by simpa using p4 k hk)]
   rfl
  have e3:∀ K':List Int,(∀ k∈K',k≠κ x)→(K'.flatMap fun k=>(ys ++ [x]).filter fun y=>decide (κ y=k))=K'.flatMap fun k=>ys.filter fun y=>decide (κ y=k):=by
   intro K'
   induction K' with
   | nil=>intro _;rfl
   | cons k K' ih =>
    intro hk
    rw [List.flatMap_cons,List.flatMap_cons,ih fun q hq=>hk q (List.mem_cons_of_mem _ hq),List.filter_append]
    have hne:¬ κ x=k:=fun e=>hk k (List.mem_cons_self ..) e.symm
    simp [hne]
  rw [e1,e2,List.flatMap_append,List.flatMap_append,List.flatMap_cons,List.flatMap_cons,e3 K1 (fun k hk=>by have:=g1 k hk;omega),e3 K2 (fun k hk=>by have:=p4 k hk;omega),List.filter_append]
  simp
def zl8 (vs:List Nat) (c:Nat):Int:=match vs.findIdx? (fun v=>decide (v=c)) with|some i=>i|none=>-1
theorem zqr (vs:List Nat) (c:Nat):-1≤zl8 vs c∧zl8 vs c<vs.length:=by
 unfold zl8
 cases h:vs.findIdx? (fun v=>decide (v=c)) with
 | none=>dsimp only;omega
 | some i =>
  dsimp only
  have:=(List.findIdx?_eq_some_iff_getElem.1 h).1
  omega
theorem zol {vs:List Nat} {c:Nat}:zl8 vs c=-1↔c ∉ vs:=by
 unfold zl8
 cases h:vs.findIdx? (fun v=>decide (v=c)) with
 | none =>
  rw [List.findIdx?_eq_none_iff] at h
  refine ⟨fun _ hc=>by simpa using h c hc,fun _=>rfl⟩
 | some i =>
  obtain ⟨hi,h1,_⟩:=List.findIdx?_eq_some_iff_getElem.1 h
  simp at h1
  refine ⟨fun e=>by dsimp only at e;omega,fun hc=>absurd (h1 ▸ List.getElem_mem hi) hc⟩
theorem yiu {vs:List Nat} (hn:vs.Nodup) {p:Nat} (hp:p<vs.length) (c:Nat):zl8 vs c=p↔c=vs[p]:=by
 unfold zl8
 cases h:vs.findIdx? (fun v=>decide (v=c)) with
 | none =>
  rw [List.findIdx?_eq_none_iff] at h
  refine ⟨fun e=>by dsimp only at e;omega,fun e=>?_⟩
  have:=h vs[p] (List.getElem_mem hp)
  simp [e] at this
 | some i =>
  obtain ⟨hi,h1,_⟩:=List.findIdx?_eq_some_iff_getElem.1 h
  simp at h1
  dsimp only
  constructor
  ·intro e
   have:i=p:=by omega
   subst this
   exact h1.symm
  ·intro e
   have:=(List.getElem_inj (h₀:=hi) (h₁:=hp) hn).1 (h1.trans e)
   omega
theorem yhg {ts:List Trm} {vs:List Nat} (hn:vs.Nodup) (h0:0 ∉ vs) (hall:∀ j,j<ts.length→zb4 ts j≠0→zb4 ts j∈vs):stS (fun j=>zl8 vs (zb4 ts j)) (List.range ts.length)=zh8 ts vs:=by
 have hK:((-1:Int) :: (List.range vs.length).map fun (p:Nat)=>(p:Int)).Pairwise (· < ·):=by
  refine List.pairwise_cons.2 ⟨fun k hk=>?_,?_⟩
  ·obtain ⟨p,_,rfl⟩:=List.mem_map.1 hk
   omega
  ·rw [List.pairwise_map]
   exact List.pairwise_lt_range.imp fun h=>by omega
 rw [zzi _ _ hK _ _ rfl (fun j _=>?_)]
 ·unfold zh8
  rw [List.flatMap_cons]
  congr 1
  ·unfold zam
   refine List.filter_congr fun j hj=>?_
   rw [decide_eq_decide,zol]
   have hj':=List.mem_range.1 hj
   constructor
   ·intro hc
    by_cases h:zb4 ts j=0
    ·exact h
    ·exact absurd (hall j hj' h) hc
   ·intro e;rw [e];exact h0
  ·have key:∀ (n:Nat),n≤vs.length→((List.range n).map fun (p:Nat)=>(p:Int)).flatMap (fun k=>(List.range ts.length).filter fun j=>decide (zl8 vs (zb4 ts j)=k))=(vs.take n).flatMap (zam ts):=by
    intro n
    induction n with
    | zero=>intro _;simp
    | succ n ih =>
     intro hn'
     rw [List.range_succ,List.map_append,List.flatMap_append,ih (by omega),List.take_succ_eq_append_getElem (by omega),List.flatMap_append]
     congr 1
     simp only [List.map_cons,List.map_nil,List.flatMap_cons,List.flatMap_nil,List.append_nil]
     unfold zam
     refine List.filter_congr fun j _=>?_
     rw [decide_eq_decide,yiu hn (by omega)]
   have:=key vs.length (Nat.le_refl _)
   rwa [List.take_length] at this
 ·have:=zqr vs (zb4 ts j)
  by_cases h:zl8 vs (zb4 ts j)=-1
  ·rw [h];exact List.mem_cons_self ..
  ·refine List.mem_cons_of_mem _ (List.mem_map.2 ⟨(zl8 vs (zb4 ts j)).toNat,List.mem_range.2 (by omega),by omega⟩)
end Go.Proofs.YtoifcnidhfnapaaGreatDoor
