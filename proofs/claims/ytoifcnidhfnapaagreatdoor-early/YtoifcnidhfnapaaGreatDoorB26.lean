import Derived.Test.YtoifcnidhfnapaaGreatDoorB25
set_option linter.unusedVariables false
set_option linter.unusedSimpArgs false
set_option maxRecDepth 100000
set_option maxHeartbeats 16000000
namespace Go.Proofs.YtoifcnidhfnapaaGreatDoor
open Go.RowKit Go.Maps Go.Sort Go.Shelf
def zhr (w:World) (v:Value) (ts:List Trm):Prop:=
 ∃ a cap,v=.slice a ts.length cap∧∀ i,i<ts.length→∃ b o,a=some ⟨b,o,none⟩∧w.cell? ⟨b,o+i*2,none⟩=some (.int .u8 ((ts[i]?.getD (0,0)).1:Nat))∧w.cell? ⟨b,o+i*2+1,none⟩=some (.int .i64 (ts[i]?.getD (0,0)).2)
structure zbb where
 nm:ByteArray
 pl:Nat
 ts:List Trm
def zat:zbb:=⟨ByteArray.empty,0,[]⟩
def ztg (w:World) (v:Value) (B:List zbb):Prop:=
 ∃ a cap,v=.slice a B.length cap∧∀ i,i<B.length→∃ b o tv,a=some ⟨b,o,none⟩∧w.cell? ⟨b,o+i*3,none⟩=some (.string (B[i]?.getD zat).nm)∧w.cell? ⟨b,o+i*3+1,none⟩=some (.int .i64 ((B[i]?.getD zat).pl:Nat))∧w.cell? ⟨b,o+i*3+2,none⟩=some tv∧zhr w tv (B[i]?.getD zat).ts
def ztj (w:World) (v:Value) (H:List (Nat×Nat)):Prop:=
 ∃ a cap,v=.slice a H.length cap∧∀ i,i<H.length→∃ b o,a=some ⟨b,o,none⟩∧w.cell? ⟨b,o+i*2,none⟩=some (.int .u8 ((H[i]?.getD (0,0)).1:Nat))∧w.cell? ⟨b,o+i*2+1,none⟩=some (.int .i64 ((H[i]?.getD (0,0)).2:Nat))
structure zii (w:World) (QB:Nat) (H:List (Nat×Nat)) (B:List zbb):Prop where
 blk:∃ hv bv,w.heap[QB]? = some (.cells #[hv,bv] 188 (0,0))∧ztj w hv H∧ztg w bv B
theorem zhr.below {w w':World} {v:Value} {ts:List Trm} (h:zhr w v ts) (hb:Below w.heap.size w w'):zhr w' v ts:=by
 obtain ⟨a,cap,rfl,hx⟩:=h
 refine ⟨a,cap,rfl,fun i hi=>?_⟩
 obtain ⟨b,o,e,h0,h1⟩:=hx i hi
 exact ⟨b,o,e,(hb.cell (World.block_lt_of_cell? w _ h0)).trans h0,(hb.cell (World.block_lt_of_cell? w _ h1)).trans h1⟩
theorem ztg.below {w w':World} {v:Value} {B:List zbb} (h:ztg w v B) (hb:Below w.heap.size w w'):ztg w' v B:=by
 obtain ⟨a,cap,rfl,hx⟩:=h
 refine ⟨a,cap,rfl,fun i hi=>?_⟩
 obtain ⟨b,o,tv,e,h0,h1,h2,h3⟩:=hx i hi
 exact ⟨b,o,tv,e,(hb.cell (World.block_lt_of_cell? w _ h0)).trans h0,(hb.cell (World.block_lt_of_cell? w _ h1)).trans h1,(hb.cell (World.block_lt_of_cell? w _ h2)).trans h2,h3.below hb⟩
theorem ztj.below {w w':World} {v:Value} {H:List (Nat×Nat)} (h:ztj w v H) (hb:Below w.heap.size w w'):ztj w' v H:=by
 obtain ⟨a,cap,rfl,hx⟩:=h
 refine ⟨a,cap,rfl,fun i hi=>?_⟩
 obtain ⟨b,o,e,h0,h1⟩:=hx i hi
 exact ⟨b,o,e,(hb.cell (World.block_lt_of_cell? w _ h0)).trans h0,(hb.cell (World.block_lt_of_cell? w _ h1)).trans h1⟩
theorem zii.below {w w':World} {QB:Nat} {H:List (Nat×Nat)} {B:List zbb} (h:zii w QB H B) (hb:Below w.heap.size w w'):zii w' QB H B:=by
 obtain ⟨hv,bv,h1,h2,h3⟩:=h.blk
 exact ⟨hv,bv,zan hb h1,h2.below hb,h3.below hb⟩
structure zpt (H:List (Nat×Nat)) (B:List zbb):Prop where
 h4:H.length≤4
 b4:B.length≤4
 t3:∀ a∈B,a.ts.length≤3
 hl:∀ x∈H,x.1<256
 tl:∀ a∈B,∀ t∈a.ts,t.1<256
theorem zlk (v k:Nat) (ts:List Trm) (A:List (List Trm)):zb0 v k (ts :: A)=if (zam ts v).length=0 then zb0 v (k+1) A else (k,(zam ts v).length) :: zb0 v (k+1) A:=rfl
theorem zi0 (v:Nat):∀ (k:Nat) (A B:List (List Trm)),zb0 v k (A ++ B)=zb0 v k A ++ zb0 v (k+A.length) B
 | k,[],B=>by simp [zb0]
 | k,ts :: A,B=>by
  have ih:=zi0 v (k+1) A B
  rw [List.cons_append,zlk,zlk,ih,show k+1+A.length=k+(ts :: A).length by simp;omega]
  split <;> simp
def zey (ts:List Trm) (v j:Nat):Nat:=((List.range j).filter fun i=>decide (zb4 ts i=v)).length
theorem zz1 (ts:List Trm) (v j:Nat):zey ts v (j+1)=zey ts v j+(if zb4 ts j=v then 1 else 0):=by
 unfold zey
 rw [List.range_succ,List.filter_append,List.length_append]
 by_cases h:zb4 ts j=v
 ·simp [h]
 ·simp [h]
theorem zyt (ts:List Trm) (v j:Nat):zey ts v j≤j:=by
 unfold zey
 exact Nat.le_trans (List.length_filter_le _ _) (by simp)
def yfa (u:Nat×Nat):List Value:=[.int .i64 u.1,.int .i64 u.2]
def ziz (us:List (Nat×Nat)):List Value:=us.flatMap yfa
theorem Tryz.info357:(Tryz.prog.info? 357).map (fun i=>(i.zero,i.size,i.bytes))=some (some (.agg #[.int .i64 0,.int .i64 0]),2,16):=by kernel_rfl
theorem zk8 {α:Type} (c:α→List Value) (hc:∀ x,(c x).length=2):∀ (xs:List α) (i j:Nat) (hi:i<xs.length),j<2→(xs.flatMap c)[i*2+j]? = (c xs[i])[j]?
 | [],i,j,hi,_=>by simp at hi
 | x :: xs,0,j,_,hj=>by
  rw [List.flatMap_cons,Nat.zero_mul,Nat.zero_add,List.getElem?_append_left (by rw [hc];exact hj)]
  rfl
 | x :: xs,i+1,j,hi,hj=>by
  rw [List.flatMap_cons,List.getElem?_append_right (by rw [hc];omega),hc]
  have:(i+1)*2+j - 2=i*2+j:=by omega
  rw [this,zk8 c hc xs i j (by simpa using hi) hj]
  rfl
theorem zya {w:World} {base:Nat} {v:Value} {us:List (Nat×Nat)} (h:w.ownsRow base 357 2 v us.length (ziz us)):zmu w v us:=by
 obtain ⟨p,c,rfl,hle,hn,hs⟩:=zak h
 refine ⟨p,c,rfl,fun j hj=>?_⟩
 cases p with
 | none=>have:=(hn rfl).1;omega
 | some ad =>
  obtain ⟨g,rfl,_,_,hc⟩:=hs ad rfl
  refine ⟨g,0,rfl,?_,?_⟩
  ·rw [Nat.zero_add,hc _ (by omega)]
   have:=zk8 yfa (fun _=>rfl) us j 0 hj (by omega)
   rw [Nat.add_zero] at this
   rw [show ziz us=us.flatMap yfa from rfl,this]
   simp [yfa,hj]
  ·rw [Nat.zero_add,hc _ (by omega)]
   have:=zk8 yfa (fun _=>rfl) us j 1 hj (by omega)
   rw [show ziz us=us.flatMap yfa from rfl,this]
   simp [yfa,hj]
theorem zqa (A:List (List Trm)) (v k:Nat) (hk:k<A.length):zci (A.take (k+1)) v=zci (A.take k) v ++ (if (zam (A[k]?.getD []) v).length=0 then [] else [(k,(zam (A[k]?.getD []) v).length)]):=by
 unfold zci
 rw [List.take_succ_eq_append_getElem hk,zi0,List.length_take,Nat.min_eq_left (by omega),Nat.zero_add]
 congr 1
 have e:A[k]?.getD []=A[k]:=by simp [hk]
 rw [e]
 unfold zb0
 split <;> rfl
theorem zjt {w:World} {B:Nat} {x y v:Value} {t:TypeId} (h:w.heap[B]? = some (.cells #[x,y] t (0,0))):(w.setCell ⟨B,1,none⟩ v).heap[B]? = some (.cells #[x,v] t (0,0)):=by
 simp only [World.setCell]
 rw [Array.getElem?_modify,if_pos rfl,h]
 rfl
theorem zcc {X:Nat→Prop} {W W':World} {base:Nat} {e:TypeId} {size:Nat} {v:Value} {n:Nat} {xs:List Value} (h:W.ownsRow base e size v n xs) (hk:KeepX X W W') (hx:∀ g,v.ownBlock=some g→¬ X g):W'.ownsRow base e size v n xs:=by
 refine ⟨h.1,?_⟩
 rcases h.2 with h2|⟨g,cap,cur,rfl,hb,hg,r⟩
 ·exact .inl h2
 ·exact .inr ⟨g,cap,cur,rfl,hb,(hk.blk g (Array.getElem?_eq_some_iff.1 hg).1 (hx g rfl)).trans hg,r⟩
theorem zu1 {W:World} {base:Nat} {e:TypeId} {size:Nat} {v:Value} {n:Nat} {xs:List Value} (h:W.ownsRow base e size v n xs) {g:Nat} (hg:v.ownBlock=some g):g<W.heap.size:=by
 rcases h.2 with ⟨rfl,_⟩|⟨g',cap,cur,rfl,hb,hgh,r⟩
 ·cases hg
 ·simp only [Value.ownBlock] at hg
  injection hg with hg
  rw [← hg]
  exact (Array.getElem?_eq_some_iff.1 hgh).1
theorem zmp (QB v:Nat) (H:List (Nat×Nat)) (B:List zbb) (W:World) (hQ:zii W QB H B) (hO:zpt H B) (hv:v<256) :
  Calls Tryz.prog 195 #[.pointer (some ⟨QB,0,none⟩),.int .u8 v] W fun e w'=>∃ uv,e=.returned uv∧w'.ownsRow W.heap.size 357 2 uv (zci (B.map (·.ts)) v).length (ziz (zci (B.map (·.ts)) v))∧Below W.heap.size W w':=by
 obtain ⟨hdv,bv,hblk,_,hbody⟩:=hQ.blk
 obtain ⟨ba,bcap,rfl,hb⟩:=hbody
 obtain ⟨i,hi,hz0,hz1,hz2⟩:=info_parts Tryz.info357
 have c1:W.cell? ⟨QB,1,none⟩=some (.slice ba B.length bcap):=zab hblk 1
 have hB4:=hO.b4
 have Hb:=zac hb
 have HO:=zac hO
 clear hb hO hQ hblk
 go_enter Tryz.func195,Tryz.ntmps195
 go_wp2
 go_loopw [5,16] (fun uv i wr=>∃ k:Nat,k≤B.length∧i=.int .i64 k∧wr.ownsRow W.heap.size 357 2 uv (zci ((B.map (·.ts)).take k) v).length (ziz (zci ((B.map (·.ts)).take k) v))∧Below W.heap.size W wr) (fun _ i _=>B.length - (intOf i).toNat)
 case atStart=>exact ⟨0,Nat.zero_le _,rfl,World.ownsRow_nil _ _ _ _,Below.refl _ _⟩
 case round =>
  obtain ⟨k,hk,rfl,hown,hlow⟩:=hrel
  obtain ⟨wo,ewo⟩:∃ wo,wo=wr:=⟨_,rfl⟩
  subst ewo
  by_cases hlt:k<B.length
  ·have hkx:(k:Int)<(B.length:Int):=by omega
   obtain ⟨b,o,tv,rfl,d0,d1,d2,dt⟩:=(zaa Hb) k hlt
   have hbl:b<W.heap.size:=World.block_lt_of_cell? W _ d0
   have e0:=(hlow.cell (p:=⟨b,o+k*3,none⟩) hbl).trans d0
   have e1:=(hlow.cell (p:=⟨b,o+k*3+1,none⟩) hbl).trans d1
   have e2:=(hlow.cell (p:=⟨b,o+k*3+2,none⟩) hbl).trans d2
   have hmem:B[k]?.getD zat∈B:=by simp [hlt]
   obtain ⟨at_,hat⟩:∃ at_,at_=B[k]?.getD zat:=⟨_,rfl⟩
   have hA:(B.map (·.ts))[k]?.getD []=at_.ts:=by rw [hat];simp [hlt]
   rw [← hat] at e0 e1 dt hmem
   have ht3:=(zaa HO).t3 _ hmem
   have htl:=(zaa HO).tl _ hmem
   have hsucc:=zqa (B.map (·.ts)) v k (by simpa using hlt)
   rw [hA] at hsucc
   obtain ⟨nm,pl,ts⟩:=at_
   dsimp only at *
   obtain ⟨ta,tcap,rfl,htx⟩:=dt
   obtain ⟨w1,hw1⟩:∃ w1,w1=(wo.alloc (.cells #[.string nm,.int .i64 pl,.slice ta ts.length tcap] 268)).alloc (.cells #[.int .i64 k,.int .i64 0] 357):=⟨_,rfl⟩
   have hb1:Below wo.heap.size wo w1:=by rw [hw1];exact ((Below.refl _ _).alloc (Nat.le_refl _) _).alloc (by simp) _
   have hs1:w1.heap.size=wo.heap.size+2:=by rw [hw1];simp
   have hF:w1.heap[wo.heap.size+1]? = some (.cells #[.int .i64 k,.int .i64 0] 357 (0,0)):=by rw [hw1];exact zae _ _ _ (by simp)
   have hG:w1.heap[wo.heap.size]? = some (.cells #[.string nm,.int .i64 pl,.slice ta ts.length tcap] 268 (0,0)):=by rw [hw1];exact (Below.heap_alloc _ _ _ (by simp)).trans (zae _ _ _ rfl)
   have g2:w1.cell? ⟨wo.heap.size,2,none⟩=some (.slice ta ts.length tcap):=zab hG 2
   have Hown:=zac hown
   have Hlow:=zac hlow
   have Htx:=zac htx
   have Hb1:=zac hb1
   have HF:=zac hF
   have Hsucc:=zac hsucc
   have Htl:=zac htl
   have hwsz:W.heap.size≤wo.heap.size:=hlow.size
   clear hown hlow htx hb1 hF hG hsucc htl hat hA hmem d0 d1 d2
   rw [hw1] at g2
   go_wp2
   rw [← hw1]
   clear hw1 g2 e0 e1 e2
   try go_wp2
   go_loopw [26] (fun i wr=>∃ j:Nat,j≤ts.length∧i=.int .i64 j∧wr.heap[wo.heap.size+1]? = some (.cells #[.int .i64 k,.int .i64 (zey ts v j)] 357 (0,0))∧KeepX (fun q=>q=wo.heap.size+1) w1 wr) (fun i _=>ts.length - (intOf i).toNat)
   case atStart=>exact ⟨0,Nat.zero_le _,rfl,by simpa [zey] using zaa HF,KeepX.refl _ _⟩
   case round =>
    obtain ⟨j,hj,rfl,hF2,hK2⟩:=hrel
    by_cases hjl:j<ts.length
    ·have hjx:(j:Int)<(ts.length:Int):=by omega
     obtain ⟨tb,to,rfl,t0,t1⟩:=(zaa Htx) j hjl
     have htb:tb<W.heap.size:=World.block_lt_of_cell? W _ t0
     have hbb:Below W.heap.size W wr:=(zaa Hlow).trans (((zaa Hb1).mono hwsz).trans (hK2.below (by omega) (fun q hq=>by omega)))
     have t0':=(hbb.cell (p:=⟨tb,to+j*2,none⟩) htb).trans t0
     have t1':=(hbb.cell (p:=⟨tb,to+j*2+1,none⟩) htb).trans t1
     obtain ⟨l,hl⟩:∃ l,l=zb4 ts j:=⟨_,rfl⟩
     have hls:=zz1 ts v j
     rw [← hl] at hls
     have hl256:l<256:=by rw [hl];exact (zaa Htl) _ (by simp [hjl])
     rw [show (ts[j]?.getD (0,0)).1=l from hl.symm] at t0'
     generalize (ts[j]?.getD (0,0)).2=tz at t1'
     obtain ⟨w3,hw3⟩:∃ w3,w3=wr.alloc (.cells #[.int .u8 l,.int .i64 tz] 327):=⟨_,rfl⟩
     have hF3:w3.heap[wo.heap.size+1]? = some (.cells #[.int .i64 k,.int .i64 (zey ts v j)] 357 (0,0)):=by rw [hw3];exact (Below.heap_alloc _ _ _ (Array.getElem?_eq_some_iff.1 hF2).1).trans hF2
     have hK3:KeepX (fun q=>q=wo.heap.size+1) w1 w3:=by rw [hw3];exact hK2.trans (KeepX.ofBelow ((Below.refl _ _).alloc (Nat.le_refl _) _))
     have n0:w3.cell? ⟨wr.heap.size,0,none⟩=some (.int .u8 l):=by rw [hw3];exact zab (zae _ _ _ rfl) 0
     have m1:w3.cell? ⟨wo.heap.size+1,1,none⟩=some (.int .i64 (zey ts v j)):=zab hF3 1
     have f1:w3.frozen? ⟨wo.heap.size+1,1,none⟩=false:=zad hF3 1
     have hcj:=zyt ts v j
     have HF3:=zac hF3
     have HK3:=zac hK3
     have Hls:=zac hls
     clear hF3 hK3 hls hF2 hK2 hbb t0 t1 hl
     rw [hw3] at n0 m1 f1
     by_cases hlv:l=v
     ·subst hlv
      go_wp2
      rw [← hw3]
      have hC:=zai w3 (wo.heap.size+1) 1 (.int .i64 ((zey ts l j:Int)+1))
      refine ⟨⟨j+1,by omega,by simp,?_,(zaa HK3).trans ⟨hC.os,hC.tape,hC.output,hC.size,fun q hq hx=>hC.block q hq (fun e=>hx (by injection e))⟩⟩,by simp [intOf];omega⟩
      rw [zaa Hls,if_pos rfl]
      have:=zjt (v:=.int .i64 ((zey ts l j:Int)+1)) (zaa HF3)
      simpa using this
     ·have hne:¬ (l:Int)=(v:Int):=by omega
      go_wp2
      rw [← hw3]
      refine ⟨⟨j+1,by omega,by simp,?_,zaa HK3⟩,by simp [intOf];omega⟩
      rw [zaa Hls,if_neg hlv]
      exact zaa HF3
    ·have hje:j=ts.length:=by omega
     subst hje
     have ec:zey ts v ts.length=(zam ts v).length:=rfl
     rw [ec] at hF2
     have m0:wr.cell? ⟨wo.heap.size+1,0,none⟩=some (.int .i64 k):=zab hF2 0
     have m1:wr.cell? ⟨wo.heap.size+1,1,none⟩=some (.int .i64 (zam ts v).length):=zab hF2 1
     have hcl:(zam ts v).length≤ts.length:=zyt ts v ts.length
     have hbb:Below W.heap.size W wr:=(zaa Hlow).trans (((zaa Hb1).mono hwsz).trans (hK2.below (by omega) (fun q hq=>by omega)))
     have hown2:wr.ownsRow W.heap.size 357 2 u5 (zci ((B.map (·.ts)).take k) v).length (ziz (zci ((B.map (·.ts)).take k) v)):=
      zcc (zcc (zaa Hown) (X:=fun _=>False) (KeepX.ofBelow (zaa Hb1)) (fun _ _ h=>h)) hK2 (fun g hg e=>by have:=zu1 (zaa Hown) hg;omega)
     by_cases hz:(zam ts v).length=0
     ·obtain ⟨p,c,rfl,_⟩:=zak hown2
      have Hown2:=zac hown2
      have Hbb:=zac hbb
      rw [hz] at m1
      clear hown2 hbb hK2 hF2
      go_wp2
      refine ⟨⟨k+1,by omega,by simp,?_,zaa Hbb⟩,by simp [intOf];omega⟩
      rw [zaa Hsucc,if_pos hz,List.append_nil]
      exact zaa Hown2
     ·have hz0':(0:Int)<((zam ts v).length:Int):=by omega
      have hul:(zci ((B.map (·.ts)).take k) v).length≤k:=by
       have:=zi1 v 0 ((B.map (·.ts)).take k)
       rw [List.length_take] at this
       exact Nat.le_trans this (Nat.min_le_left _ _)
      obtain ⟨w3,hw3⟩:∃ w3,w3=wr.alloc (.cells #[.int .i64 k,.int .i64 (zam ts v).length] 357):=⟨_,rfl⟩
      have hnew:∀ j u,(yfa (k,(zam ts v).length))[j]? = some u→w3.cell? ((⟨wr.heap.size,0,none⟩:Addr).add j)=some u:=by rw [hw3];exact zl1 wr _ _ 357
      have hown3:w3.ownsRow W.heap.size 357 2 u5 (zci ((B.map (·.ts)).take k) v).length (ziz (zci ((B.map (·.ts)).take k) v)):=by rw [hw3];exact hown2.alloc _
      have hbb3:Below W.heap.size W w3:=by rw [hw3];exact hbb.alloc hbb.size _
      have Hown3:=zac hown3
      have Hnew:=zac hnew
      have Hbb3:=zac hbb3
      have hbs:W.heap.size≤w3.heap.size:=hbb3.size
      clear hown3 hown2 hnew hbb hbb3 hK2 hF2
      go_wp2_with (first
       | (rw [← hw3];refine zby _ rfl (.tmp 42) (.tmp 44) 271 rfl W.heap.size 357 i _ 2 16 Tryz.underlying271 hi hz0 hz1 hz2 rfl (by decide) u5 _ _ rfl (zaa Hown3) ⟨wr.heap.size,0,none⟩ 1 (yfa (k,(zam ts v).length)) rfl rfl (zaa Hnew) (by simp [yfa,Value.oneCell']) (by unfold maxLen;omega) (by omega) hbs ?_;intro sv' w4 hrow4 hg4 hsh4))
      refine ⟨⟨k+1,by omega,by simp,?_,?_⟩,by simp [intOf];omega⟩
      ·rw [zaa Hsucc,if_neg hz]
       have e:ziz (zci ((B.map (·.ts)).take k) v ++ [(k,(zam ts v).length)])=ziz (zci ((B.map (·.ts)).take k) v) ++ yfa (k,(zam ts v).length):=by simp [ziz]
       rw [e,List.length_append]
       exact hrow4
      ·refine (zaa Hbb3).grown hg4 hbs (fun q hq=>?_)
       rcases (zaa Hown3).2 with ⟨rfl,_⟩|⟨g,cap,cur,rfl,hb,_⟩
       ·cases hq
       ·simp only [Value.ownBlock] at hq
        injection hq with hq
        omega
  ·have hke:k=B.length:=by omega
   subst hke
   have e:(B.map (·.ts)).take B.length=B.map (·.ts):=by rw [List.take_of_length_le (by simp)]
   rw [e] at hown
   obtain ⟨p,c,rfl,_⟩:=zak hown
   have Hown:=zac hown
   have Hlow:=zac hlow
   clear hown hlow
   go_wp2
   go_ret
   exact ⟨_,rfl,zaa Hown,zaa Hlow⟩
theorem zde {W:World} {base:Nat} {e:TypeId} {size:Nat} {v:Value} {n:Nat} {xs:List Value} (h:W.ownsRow base e size v n xs) {g:Nat} (hg:v.ownBlock=some g):∃ cur,W.heap[g]? = some (.cells cur e (0,0)):=by
  rcases h.2 with ⟨rfl,_⟩|⟨g',cap,cur,rfl,hb,hgh,r⟩
  · cases hg
  · simp only [Value.ownBlock] at hg
    injection hg with hg
    exact ⟨cur,hg ▸ hgh⟩
theorem zc6 {W:World} {base:Nat} {e:TypeId} {size:Nat} {v:Value} {n:Nat} {xs:List Value} (h:W.ownsRow base e size v n xs) {M:Nat} {cs:Array Value} {t:TypeId} (hM:W.heap[M]? = some (.cells cs t (0,0))) (ht:t≠e):v.ownBlock≠some M:=by
  intro hg
  obtain ⟨cur,hc⟩:=zde h hg
  rw [hM] at hc
  injection hc with hc
  injection hc with _ hc
  exact ht hc
theorem yd2 {W:World} {b1 b2:Nat} {e1 e2:TypeId} {s1 s2:Nat} {v1 v2:Value} {n1 n2:Nat} {x1 x2:List Value} (h1:W.ownsRow b1 e1 s1 v1 n1 x1) (h2:W.ownsRow b2 e2 s2 v2 n2 x2) (he:e1≠e2) (g:Nat) (hg:v1.ownBlock=some g):v2.ownBlock≠some g:=by
  obtain ⟨cur,hc⟩:=zde h1 hg
  exact zc6 h2 hc he
theorem zb6 {W:World} {base:Nat} {e:TypeId} {size:Nat} {v:Value} {n:Nat} {xs:List Value} (h:W.ownsRow base e size v n xs) {g:Nat} (hg:v.ownBlock=some g):base≤g:=by
  rcases h.2 with ⟨rfl,_⟩|⟨g',cap,cur,rfl,hb,hgh,r⟩
  · cases hg
  · simp only [Value.ownBlock] at hg
    injection hg with hg
    omega
theorem zem {W W':World} {row:Option Nat} {base:Nat} {e:TypeId} {size:Nat} {v:Value} {n:Nat} {xs:List Value} (h:W.ownsRow base e size v n xs) (hg:W.grownBy W' row) (hx:∀ g,v.ownBlock=some g→row≠some g):W'.ownsRow base e size v n xs:=by
  refine ⟨h.1,?_⟩
  rcases h.2 with h2|⟨g,cap,cur,rfl,hb,hgh,r⟩
  · exact .inl h2
  · exact .inr ⟨g,cap,cur,rfl,hb,(hg.block g (Array.getElem?_eq_some_iff.1 hgh).1 (fun e=>hx g rfl e.symm)).trans hgh,r⟩
theorem Tryz.info3:(Tryz.prog.info? 3).map (fun i=>(i.zero,i.size,i.bytes))=some (some (.int .i64 0),1,8):=by kernel_rfl
theorem Tryz.info2':(Tryz.prog.info? 2).map (fun i=>(i.zero,i.size,i.bytes))=some (some (.int .i64 0),1,8):=by kernel_rfl
def zbr (H:List Nat) (v j:Nat):List Nat:=(List.range j).filter fun p=>decide (H[p]?.getD 0=v)
theorem zsp (H:List Nat) (v j:Nat):zbr H v (j+1)=zbr H v j ++ (if H[j]?.getD 0=v then [j] else []):=by
  unfold zbr
  rw [List.range_succ,List.filter_append]
  congr 1
  by_cases h:H[j]?.getD 0=v <;> simp [h]
theorem zu3 (H:List Nat) (v j:Nat):(zbr H v j).length≤j:=Nat.le_trans (List.length_filter_le _ _) (by simp)
def zne (ps:List Nat):List Value:=ps.map fun (p:Nat)=>Value.int .i64 (p:Int)
def zp1 (zs:List Int):List Value:=zs.map fun z=>.int .i64 z
theorem zsq {w:World} {base:Nat} {v:Value} {ps:List Nat} (h:w.ownsRow base 3 1 v ps.length (zne ps)):∃ a cap,v=.slice a ps.length cap∧znj w a ps:=by
  obtain ⟨p,c,rfl,hle,hn,hs⟩:=zak h
  refine ⟨p,c,rfl,fun j hj=>?_⟩
  cases p with
  | none=>have:=(hn rfl).1;omega
  | some ad =>
    obtain ⟨g,rfl,_,_,hc⟩:=hs ad rfl
    exact ⟨g,0,rfl,by rw [Nat.zero_add,hc _ (by omega)];simp [zne,hj]⟩
structure yli (W:World) (M:Nat) (uv:Value) (us:List (Nat×Nat)) (ps:List Nat) (wr:World):Prop where
  st:∃ pv,wr.heap[M]? = some (.cells #[uv,pv] 273 (0,0))∧wr.ownsRow W.heap.size 3 1 pv ps.length (zne ps)
  us:wr.ownsRow W.heap.size 357 2 uv us.length (ziz us)
  res:wr.heap[W.heap.size]? = some (.cells #[.slice none 0 0,.slice none 0 0] 273 (0,0))
  low:Below W.heap.size W wr
  lt:W.heap.size<M
theorem zra (QB v:Nat) (H:List (Nat×Nat)) (B:List zbb) (W:World) (hQ:zii W QB H B) (hO:zpt H B) (hv:v<256) :
    Calls Tryz.prog 153 #[.pointer (some ⟨QB,0,none⟩),.int .u8 v] W fun e w'=>∃ uv pv,e=.returned (.agg #[uv,pv])∧w'.ownsRow W.heap.size 357 2 uv (zci (B.map (·.ts)) v).length (ziz (zci (B.map (·.ts)) v))∧w'.ownsRow W.heap.size 3 1 pv (zbq (H.map (·.1)) v).length (zne (zbq (H.map (·.1)) v))∧Below W.heap.size W w':=by
  obtain ⟨hdv,bv,hblk,hhead,_⟩:=hQ.blk
  obtain ⟨ha,hcap,rfl,hh⟩:=hhead
  obtain ⟨i,hi,hz0,hz1,hz2⟩:=info_parts Tryz.info3
  obtain ⟨W1,hW1⟩:∃ W1,W1=W.alloc (.cells #[.slice none 0 0,.slice none 0 0] 273):=⟨_,rfl⟩
  have hb1:Below W.heap.size W W1:=by rw [hW1];exact (Below.refl _ _).alloc (Nat.le_refl _) _
  have hs1:W1.heap.size=W.heap.size+1:=by rw [hW1];simp
  have hR1:W1.heap[W.heap.size]? = some (.cells #[.slice none 0 0,.slice none 0 0] 273 (0,0)):=by rw [hW1];exact zae _ _ _ rfl
  have huse:=zmp QB v H B W1 (hQ.below hb1) hO hv
  have hH4:=hO.h4
  have hhl:=hO.hl
  have Huse:=zac huse
  have Hb1:=zac hb1
  have HR1:=zac hR1
  have Hblk:=zac hblk
  have Hh:=zac hh
  have Hhl:=zac hhl
  clear huse hb1 hR1 hh hQ hblk hO hhl
  go_enter Tryz.func153,Tryz.ntmps153
  go_wp2_with fail
  rw [← hW1]
  refine (zaa Huse).mono ?_
  rintro e w2 ⟨uv,rfl,hu2,hb2⟩
  obtain ⟨ua,uc,rfl,_⟩:=zak hu2
  have hsz2:=hb2.size
  obtain ⟨us,hus⟩:∃ us,us=zci (B.map (·.ts)) v:=⟨_,rfl⟩
  rw [← hus] at hu2 ⊢
  obtain ⟨W3,hW3⟩:∃ W3,W3=w2.alloc (.cells #[.slice ua us.length uc,.slice none 0 0] 273):=⟨_,rfl⟩
  have hI0:yli W w2.heap.size (.slice ua us.length uc) us (zbr (H.map (·.1)) v 0) W3:=by
    have hlow:Below W.heap.size W w2:=(zaa Hb1).trans (hb2.mono (zaa Hb1).size)
    refine ⟨⟨.slice none 0 0,by rw [hW3];exact zae _ _ _ rfl,by simpa [zbr,zne] using World.ownsRow_nil W3 W.heap.size 3 1⟩,?_,?_,?_,by omega⟩
    · rw [hW3]
      have h3:=hu2.alloc (.cells #[.slice ua us.length uc,.slice none 0 0] 273)
      rcases h3.2 with ⟨h4,h5⟩|⟨g,cap,cur,h4,hb,hg,r⟩
      · exact ⟨h3.1,.inl ⟨h4,h5⟩⟩
      · exact ⟨h3.1,.inr ⟨g,cap,cur,h4,by omega,hg,r⟩⟩
    · rw [hW3];exact (Below.heap_alloc _ _ _ (by omega)).trans ((hb2.block _ (by omega)).trans (zaa HR1))
    · rw [hW3];exact hlow.alloc hlow.size _
  have hq3:=zan hI0.low (zaa Hblk)
  have q0:W3.cell? ⟨QB,0,none⟩=some (.slice ha H.length hcap):=zab hq3 0
  have HI0:=zac hI0
  have Hhus:=zac hus
  clear hu2 hb2 hI0 hq3 hus
  rw [hW3] at q0
  go_wp2
  rw [← hW3]
  clear hW3 q0
  try go_wp2
  go_loopw [17] (fun i wr=>∃ k:Nat,k≤H.length∧i=.int .i64 k∧yli W w2.heap.size (.slice ua us.length uc) us (zbr (H.map (·.1)) v k) wr) (fun i _=>H.length - (intOf i).toNat)
  case atStart=>exact ⟨0,Nat.zero_le _,rfl,zaa HI0⟩
  case round =>
    obtain ⟨k,hk,rfl,hI⟩:=hrel
    obtain ⟨⟨pv,hM,hpo⟩,huo,hres,hlow,hltM⟩:=hI
    obtain ⟨pa,pc,rfl,_⟩:=zak hpo
    by_cases hlt:k<H.length
    · have hkx:(k:Int)<(H.length:Int):=by omega
      obtain ⟨hb,ho,rfl,d0,d1⟩:=(zaa Hh) k hlt
      have hbl:hb<W.heap.size:=World.block_lt_of_cell? W _ d0
      have e0:=(hlow.cell (p:=⟨hb,ho+k*2,none⟩) hbl).trans d0
      have e1:=(hlow.cell (p:=⟨hb,ho+k*2+1,none⟩) hbl).trans d1
      obtain ⟨l,hl⟩:∃ l,l=(H[k]?.getD (0,0)).1:=⟨_,rfl⟩
      have hl':(H.map (·.1))[k]?.getD 0=l:=by rw [hl];simp [hlt]
      have hl256:l<256:=by rw [hl];exact (zaa Hhl) _ (by simp [hlt])
      rw [← hl] at e0
      generalize (H[k]?.getD (0,0)).2=hp at e1
      have hsucc:=zsp (H.map (·.1)) v k
      rw [hl'] at hsucc
      have hpl:=zu3 (H.map (·.1)) v k
      obtain ⟨w3,hw3⟩:∃ w3,w3=wr.alloc (.cells #[.int .u8 l,.int .i64 hp] 307):=⟨_,rfl⟩
      have n0:w3.cell? ⟨wr.heap.size,0,none⟩=some (.int .u8 l):=by rw [hw3];exact zab (zae _ _ _ rfl) 0
      have hM3:w3.heap[w2.heap.size]? = some (.cells #[.slice ua us.length uc,.slice pa (zbr (H.map (·.1)) v k).length pc] 273 (0,0)):=by rw [hw3];exact (Below.heap_alloc _ _ _ (Array.getElem?_eq_some_iff.1 hM).1).trans hM
      have hpo3:w3.ownsRow W.heap.size 3 1 (.slice pa (zbr (H.map (·.1)) v k).length pc) (zbr (H.map (·.1)) v k).length (zne (zbr (H.map (·.1)) v k)):=by rw [hw3];exact hpo.alloc _
      have huo3:w3.ownsRow W.heap.size 357 2 (.slice ua us.length uc) us.length (ziz us):=by rw [hw3];exact huo.alloc _
      have hres3:w3.heap[W.heap.size]? = some (.cells #[.slice none 0 0,.slice none 0 0] 273 (0,0)):=by rw [hw3];exact (Below.heap_alloc _ _ _ (Array.getElem?_eq_some_iff.1 hres).1).trans hres
      have hlow3:Below W.heap.size W w3:=by rw [hw3];exact hlow.alloc hlow.size _
      clear hM hpo huo hres hlow d0 d1 hl hl'
      by_cases hlv:l=v
      · subst hlv
        have m1:w3.cell? ⟨w2.heap.size,1,none⟩=some (.slice pa (zbr (H.map (·.1)) l k).length pc):=zab hM3 1
        obtain ⟨w4,hw4⟩:∃ w4,w4=w3.alloc (.cells #[.int .i64 k] 3):=⟨_,rfl⟩
        have hs3:w3.heap.size=wr.heap.size+1:=by rw [hw3];simp
        have hnew:∀ j u,[Value.int .i64 (k:Int)][j]? = some u→w4.cell? ((⟨wr.heap.size+1,0,none⟩:Addr).add j)=some u:=by rw [← hs3,hw4];exact zg6 w3 _ 3
        have hM4:w4.heap[w2.heap.size]? = some (.cells #[.slice ua us.length uc,.slice pa (zbr (H.map (·.1)) l k).length pc] 273 (0,0)):=by rw [hw4];exact (Below.heap_alloc _ _ _ (Array.getElem?_eq_some_iff.1 hM3).1).trans hM3
        have hpo4:w4.ownsRow W.heap.size 3 1 (.slice pa (zbr (H.map (·.1)) l k).length pc) (zbr (H.map (·.1)) l k).length (zne (zbr (H.map (·.1)) l k)):=by rw [hw4];exact hpo3.alloc _
        have huo4:w4.ownsRow W.heap.size 357 2 (.slice ua us.length uc) us.length (ziz us):=by rw [hw4];exact huo3.alloc _
        have hres4:w4.heap[W.heap.size]? = some (.cells #[.slice none 0 0,.slice none 0 0] 273 (0,0)):=by rw [hw4];exact (Below.heap_alloc _ _ _ (Array.getElem?_eq_some_iff.1 hres3).1).trans hres3
        have hlow4:Below W.heap.size W w4:=by rw [hw4];exact hlow3.alloc hlow3.size _
        have hbs:W.heap.size≤w4.heap.size:=hlow4.size
        have Hnew:=zac hnew
        have HM4:=zac hM4
        have Hpo4:=zac hpo4
        have Huo4:=zac huo4
        have Hres4:=zac hres4
        have Hlow4:=zac hlow4
        have Hsucc:=zac hsucc
        clear hnew hM4 hpo4 huo4 hres4 hlow4 hsucc hM3 hpo3 huo3 hres3 hlow3
        rw [hw3] at n0 m1
        go_wp2_with (first
          | (rw [← hw3,← hw4]
             refine zby _ rfl (.tmp 27) (.tmp 29) 25 rfl W.heap.size 3 i _ 1 8 Tryz.underlying25 hi hz0 hz1 hz2 rfl (by decide) _ _ _ rfl (zaa Hpo4) ⟨wr.heap.size+1,0,none⟩ 1 [.int .i64 k] rfl rfl (zaa Hnew) (by simp [Value.oneCell']) (by unfold maxLen;omega) (by omega) hbs ?_
             intro sv' w5 hrow5 hg5 hsh5
             have hM5:=(hg5.block w2.heap.size (Array.getElem?_eq_some_iff.1 (zaa HM4)).1 (fun e=>zc6 (zaa Hpo4) (zaa HM4) (by decide) e.symm)).trans (zaa HM4)
             have c5:w5.cell? ⟨w2.heap.size,1,none⟩=some (.slice pa (zbr (H.map (·.1)) l k).length pc):=zab hM5 1
             have f5:w5.frozen? ⟨w2.heap.size,1,none⟩=false:=zad hM5 1
             obtain ⟨sa,sc,rfl⟩:=zgr hrow5
             have HM5:=zac hM5
             have Hrow5:=zac hrow5
             have Hg5:=zac hg5
             clear hM5 hrow5 hg5 hsh5))
        have hC:=zai w5 w2.heap.size 1 (.slice (some ⟨sa,0,none⟩) ((zbr (H.map (·.1)) l k).length+1) sc)
        refine ⟨⟨k+1,by omega,by simp,⟨⟨_,zjt (zaa HM5),?_⟩,?_,?_,?_,hltM⟩⟩,by simp [intOf];omega⟩
        · rw [zaa Hsucc,if_pos rfl,List.length_append]
          have e:zne (zbr (H.map (·.1)) l k ++ [k])=zne (zbr (H.map (·.1)) l k) ++ [.int .i64 (k:Int)]:=by simp [zne]
          rw [e]
          exact zem (zaa Hrow5) hC (fun g hg e=>zc6 (zaa Hrow5) (zaa HM5) (by decide) (hg.trans e.symm))
        · have h5:w5.ownsRow W.heap.size 357 2 (.slice ua us.length uc) us.length (ziz us):=zem (zaa Huo4) (zaa Hg5) (fun g hg e=>yd2 (zaa Huo4) (zaa Hpo4) (by decide) g hg e)
          exact zem h5 hC (fun g hg e=>zc6 h5 (zaa HM5) (by decide) (hg.trans e.symm))
        · have h5:w5.heap[W.heap.size]? = some (.cells #[.slice none 0 0,.slice none 0 0] 273 (0,0)):=((zaa Hg5).block _ (Array.getElem?_eq_some_iff.1 (zaa Hres4)).1 (fun e=>zc6 (zaa Hpo4) (zaa Hres4) (by decide) e.symm)).trans (zaa Hres4)
          exact (hC.block _ (Array.getElem?_eq_some_iff.1 h5).1 (fun e=>by injection e with e;omega)).trans h5
        · have h5:Below W.heap.size W w5:=(zaa Hlow4).grown (zaa Hg5) hbs (fun q hq=>zb6 (zaa Hpo4) hq)
          exact h5.grown hC h5.size (fun q hq=>by injection hq with hq;omega)
      · have hne:¬ (l:Int)=(v:Int):=by omega
        have Hf:Hid (yli W w2.heap.size (.slice ua us.length uc) us (zbr (H.map (·.1)) v (k+1)) w3):=by
          refine ⟨⟨_,hM3,?_⟩,huo3,hres3,hlow3,hltM⟩
          rw [hsucc,if_neg hlv,List.append_nil]
          exact hpo3
        clear hM3 hpo3 huo3 hres3 hlow3 hsucc
        rw [hw3] at n0
        go_wp2
        rw [← hw3]
        exact ⟨⟨k+1,by omega,by simp,zaa Hf⟩,by simp [intOf];omega⟩
    · have hke:k=H.length:=by omega
      subst hke
      have ep:zbr (H.map (·.1)) v H.length=zbq (H.map (·.1)) v:=by unfold zbr zbq;simp
      rw [ep] at hM hpo
      have m0:wr.cell? ⟨w2.heap.size,0,none⟩=some (.slice ua us.length uc):=zab hM 0
      have m1:wr.cell? ⟨w2.heap.size,1,none⟩=some (.slice pa (zbq (H.map (·.1)) v).length pc):=zab hM 1
      have g0:wr.cell? ⟨W.heap.size,0,none⟩=some (.slice none 0 0):=zab hres 0
      have g1:wr.cell? ⟨W.heap.size,1,none⟩=some (.slice none 0 0):=zab hres 1
      have f0:wr.frozen? ⟨W.heap.size,0,none⟩=false:=zad hres 0
      have f1:wr.frozen? ⟨W.heap.size,1,none⟩=false:=zad hres 1
      have Hpo:=zac hpo
      have Huo:=zac huo
      have Hlow:=zac hlow
      have Hres:=zac hres
      clear hM hpo huo hlow hres
      go_wp2
      refine bodyPost_ret (v:=.agg #[.slice ua us.length uc,.slice pa (zbq (H.map (·.1)) v).length pc]) (by simp [results,Tryz.results153,go_sem,m0,m1,g0,g1,f0,f1]) rfl ⟨_,_,rfl,?_,?_,?_⟩
      · rw [← zaa Hhus]
        have hC1:=zai wr W.heap.size 0 (.slice ua us.length uc)
        have hC2:=zai (wr.setCell ⟨W.heap.size,0,none⟩ (.slice ua us.length uc)) W.heap.size 1 (.slice pa (zbq (H.map (·.1)) v).length pc)
        exact zem (zem (zaa Huo) hC1 (fun g hg e=>zc6 (zaa Huo) (zaa Hres) (by decide) (hg.trans e.symm))) hC2 (fun g hg e=>zc6 (zaa Huo) (zaa Hres) (by decide) (hg.trans e.symm))
      · have hC1:=zai wr W.heap.size 0 (.slice ua us.length uc)
        have hC2:=zai (wr.setCell ⟨W.heap.size,0,none⟩ (.slice ua us.length uc)) W.heap.size 1 (.slice pa (zbq (H.map (·.1)) v).length pc)
        exact zem (zem (zaa Hpo) hC1 (fun g hg e=>zc6 (zaa Hpo) (zaa Hres) (by decide) (hg.trans e.symm))) hC2 (fun g hg e=>zc6 (zaa Hpo) (zaa Hres) (by decide) (hg.trans e.symm))
      · exact zbu (zbu (zaa Hlow) (Nat.le_refl _) _ _) (Nat.le_refl _) _ _
end Go.Proofs.YtoifcnidhfnapaaGreatDoor
