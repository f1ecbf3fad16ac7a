import Derived.Test.YtoifcnidhfnapaaGreatDoorB01
import Derived.Test.YtoifcnidhfnapaaGreatDoorB02
import Derived.Test.YtoifcnidhfnapaaGreatDoorB03
import Derived.Test.YtoifcnidhfnapaaGreatDoorB04
import Derived.Test.YtoifcnidhfnapaaGreatDoorB05
import Derived.Test.YtoifcnidhfnapaaGreatDoorB06
import Derived.Test.YtoifcnidhfnapaaGreatDoorB07
import Derived.Test.YtoifcnidhfnapaaGreatDoorB08
import Derived.Test.YtoifcnidhfnapaaGreatDoorB09
import Derived.Test.YtoifcnidhfnapaaGreatDoorB10
import Derived.Test.YtoifcnidhfnapaaGreatDoorB11
import Derived.Test.YtoifcnidhfnapaaGreatDoorB12
import Derived.Test.YtoifcnidhfnapaaGreatDoorB13
import Derived.Test.YtoifcnidhfnapaaGreatDoorB14
import Derived.Test.YtoifcnidhfnapaaGreatDoorB15
import Derived.Test.YtoifcnidhfnapaaGreatDoorB16
import Derived.Test.YtoifcnidhfnapaaGreatDoorB17
import Derived.Test.YtoifcnidhfnapaaGreatDoorB18
import Derived.Test.YtoifcnidhfnapaaGreatDoorB19
import Derived.Test.YtoifcnidhfnapaaGreatDoorB20
import Derived.Test.YtoifcnidhfnapaaGreatDoorB21
import Derived.Test.YtoifcnidhfnapaaGreatDoorB22
import Derived.Test.YtoifcnidhfnapaaGreatDoorB23
import Derived.Test.YtoifcnidhfnapaaGreatDoorB24
import Derived.Test.YtoifcnidhfnapaaGreatDoorB25
import Derived.Test.YtoifcnidhfnapaaGreatDoorB26
import Derived.Test.YtoifcnidhfnapaaGreatDoorB27
import Derived.Test.YtoifcnidhfnapaaGreatDoorB28
import Derived.Test.YtoifcnidhfnapaaGreatDoorB29
import Derived.Test.YtoifcnidhfnapaaGreatDoorB30
import Derived.Test.YtoifcnidhfnapaaGreatDoorB31
import Derived.Test.YtoifcnidhfnapaaGreatDoorB32
import Derived.Test.YtoifcnidhfnapaaGreatDoorB33
import Derived.Test.YtoifcnidhfnapaaGreatDoorB34
import Derived.Test.YtoifcnidhfnapaaGreatDoorB35
import Derived.Test.YtoifcnidhfnapaaGreatDoorB36
import Derived.Test.YtoifcnidhfnapaaGreatDoorB37
import Derived.Test.YtoifcnidhfnapaaGreatDoorB38
import Derived.Test.YtoifcnidhfnapaaGreatDoorB39
import Derived.Test.YtoifcnidhfnapaaGreatDoorB40
import Derived.Test.YtoifcnidhfnapaaGreatDoorB41
import Derived.Test.YtoifcnidhfnapaaGreatDoorB42
import Derived.Test.YtoifcnidhfnapaaGreatDoorB43
import Derived.Test.YtoifcnidhfnapaaGreatDoorB44
import Derived.Test.YtoifcnidhfnapaaGreatDoorB45
import Derived.Test.YtoifcnidhfnapaaGreatDoorB46
import Derived.Test.YtoifcnidhfnapaaGreatDoorB47
import Derived.Test.YtoifcnidhfnapaaGreatDoorB48
import Derived.Laws.CopyRow
import Derived.Deep.CutRange
set_option linter.unusedVariables false
set_option linter.unusedSimpArgs false
set_option maxRecDepth 100000
set_option maxHeartbeats 16000000
namespace Go.Proofs.YtoifcnidhfnapaaGreatDoor
open Go.RowKit Go.Maps
theorem zxd {D:DataW Unit} (rb ar mb n:Nat) (w:World) (h:w.heap[rb]? = some (.cells #[.int .i64 ar,.map (some mb)] 129 (0,0))) (hown:w.ownsMap Tryz.prog 77 (plainElem Tryz.prog 2) mb n D) :
  Calls Tryz.prog 37 #[.pointer (some ⟨rb,0,none⟩)] w fun e w'=>e=.returned (.int .i64 (Maps.size D))∧w'=w:=by
 have c0:w.cell? ⟨rb,1,none⟩=some (.map (some mb)):=zab h 1
 clear h
 go_enter Tryz.func37,Tryz.ntmps37
 go_wp2_with (first
  | (at_len;refine wpList_len_own _ rfl _ 127 rfl 77 2 Tryz.underlying127 _ mb n D rfl hown ?_)
  | go_in)
 go_ret
 exact ⟨rfl,rfl⟩
end Go.Proofs.YtoifcnidhfnapaaGreatDoor
namespace Go.Proofs.YtoifcnidhfnapaaGreatDoor
open Go.RowKit Go.Maps Go.Sort Go.Shelf
attribute [local go_sem] Oper.semAt_some
section
attribute [local go_sem ↓] zhb
end
theorem zb9:∀ (xs ys:List Row),ze9 xs→ze9 ys→(∀ r,r∈xs↔r∈ys)→xs=ys
 | [],[],_,_,_=>rfl
 | [],y :: ys,_,_,h=>by have:=(h y).2 (by simp);simp at this
 | x :: xs,[],_,_,h=>by have:=(h x).1 (by simp);simp at this
 | x :: xs,y :: ys,hx,hy,h=>by
  have hx1:=List.pairwise_cons.1 hx
  have hy1:=List.pairwise_cons.1 hy
  have irr:∀ a:Row,¬ ltR a a:=fun a h=>by unfold ltR at h;omega
  have asym:∀ a b:Row,ltR a b→ltR b a→False:=fun a b h1 h2=>by unfold ltR at *;omega
  have e:x=y:=by
   rcases List.mem_cons.1 ((h x).1 (by simp)) with e|e
   ·exact e
   ·rcases List.mem_cons.1 ((h y).2 (by simp)) with e2|e2
    ·exact e2.symm
    ·exact (asym _ _ (hy1.1 x e) (hx1.1 y e2)).elim
  subst e
  congr 1
  refine zb9 xs ys hx1.2 hy1.2 (fun r=>⟨fun hr=>?_,fun hr=>?_⟩)
  ·rcases List.mem_cons.1 ((h r).1 (List.mem_cons_of_mem _ hr)) with e|e
   ·subst e;exact (irr _ (hx1.1 _ hr)).elim
   ·exact e
  ·rcases List.mem_cons.1 ((h r).2 (List.mem_cons_of_mem _ hr)) with e|e
   ·subst e;exact (irr _ (hy1.1 _ hr)).elim
   ·exact e
theorem ye3 (rs:List (List zaj)) (k:Nat):ze6 (rs.take k)≤ze6 rs:=by
 have h:=zkj (rs.take k) (rs.drop k)
 rw [List.take_append_drop] at h
 omega
structure CmpI (W:World) (rs:List (List zaj)) (k:Nat) (av:Value) (wr:World):Prop where
 st:∃ ad,zro wr av ad∧Eqv ad (rs.take k).flatten∧zgh ad∧(∀ e∈ad,zaw e.1)∧ad.length≤ze6 (rs.take k)
 low:Below W.heap.size W wr
theorem zuh (XB:Nat) (x0 x1 x2 rv:Value) (rs:List (List zaj)) (es:List zaj) (W:World) (hX:znb W XB x0 x1 x2 rv rs es) (hG:zjw rs) (ht:ze6 rs≤100000000) :
  Calls Tryz.prog 45 #[.pointer (some ⟨XB,0,none⟩)] W fun e w'=>e=.returned (.tuple #[])∧∃ rv' rs',znb w' XB x0 x1 x2 rv' rs' es∧zjw rs'∧Eqv rs'.flatten rs.flatten∧ze6 rs'≤ze6 rs∧KeepX (zlr XB rv) W w'∧(∀ g,rv'.ownBlock=some g→rv.ownBlock=some g∨W.heap.size≤g):=by
 obtain ⟨bv,hB,hbat⟩:=hX.blk
 obtain ⟨vals,hown,hruns⟩:=hX.own
 have hnE:=hX.notE
 have hBl:XB<W.heap.size:=(Array.getElem?_eq_some_iff.1 hB).1
 have c3:W.cell? ⟨XB,3,none⟩=some rv:=zab hB 3
 obtain ⟨ra,rcap,rfl,hrc,_,hcell⟩:=zak hown
 have hvl:vals.length=rs.length:=hruns.len
 have hrl:rs.length≤100000000:=by have:=zli rs hG.full;omega
 have hI0:CmpI W rs 0 (.slice none 0 0) W:=⟨⟨[],⟨none,0,rfl,⟨none,0,rfl,Nat.le_refl _,fun i hi=>by simp at hi⟩,fun _=>rfl⟩,by simpa using Eqv.refl _,List.Pairwise.nil,by simp,by simp⟩,Below.refl _ _⟩
 rw [hvl] at hcell
 have HB:=zac hB
 have Hbat:=zac hbat
 have HnE:=zac hnE
 have Hruns:=zac hruns
 have HG:=zac hG
 have Hcell:=zac hcell
 have HI0:=zac hI0
 have Hown:=zac hown
 clear hB hbat hnE hruns hG hcell hI0 hX hown
 go_enter Tryz.func45,Tryz.ntmps45
 go_wp2
 go_loopw [2,10] (fun av i wr=>∃ k:Nat,k≤rs.length∧i=.int .i64 k∧CmpI W rs k av wr) (fun _ i _=>rs.length - (intOf i).toNat)
 case atStart=>exact ⟨0,Nat.zero_le _,rfl,zaa HI0⟩
 case round =>
  obtain ⟨k,hk,rfl,hI⟩:=hrel
  obtain ⟨⟨ad,hav,heq,hri,hwf,hlen⟩,hlow⟩:=hI
  obtain ⟨aa,acap,rfl,ha1,ha2⟩:=id hav
  by_cases hlt:k<rs.length
  ·have hkx:(k:Int)<(rs.length:Int):=by omega
   obtain ⟨b,o,cp,hv,hr⟩:=(zaa Hruns).at_ k hlt
   obtain ⟨g,rfl⟩:∃ g,ra=some ⟨g,0,none⟩:=by
    cases ra with
    | none=>have h:=zaa Hown;rcases h.2 with ⟨_,h0⟩|⟨g,cap,cur,e,_⟩ <;> first|omega|cases e
    | some ad=>obtain ⟨g,rfl,_⟩:=(zaa Hcell) ad rfl;exact ⟨g,rfl⟩
   obtain ⟨g',e,_,hgl,hcc⟩:=(zaa Hcell) _ rfl
   injection e with e
   subst e
   have cg:wr.cell? ⟨g,k,none⟩=some (.slice (some ⟨b,o,none⟩) (rs[k]?.getD []).length cp):=(hlow.cell (p:=⟨g,k,none⟩) hgl).trans ((hcc k (by omega)).trans hv)
   have hmem:rs[k]?.getD []∈rs:=by simp [hlt]
   obtain ⟨r,hrr⟩:∃ r,r=rs[k]?.getD []:=⟨_,rfl⟩
   have etot:=zjv rs k hlt
   have eflat:=zjp rs k hlt
   have etk:=ye3 rs (k+1)
   rw [← hrr] at hv hr hmem etot eflat cg
   have hr':=hr.below hlow
   have hmrg:=zux (.slice aa ad.length acap) (.slice (some ⟨b,o,none⟩) r.length cp) ad r wr hav ⟨_,cp,rfl,hr',fun e=>by cases e⟩ (by omega)
   have hrE:=(zaa HG).rise r hmem
   have hrW:=(zaa HG).wf r hmem
   have Hmrg:=zac hmrg
   have Hst:Hid (Eqv ad (rs.take k).flatten∧zgh ad∧(∀ e∈ad,zaw e.1)∧ad.length≤ze6 (rs.take k)):=⟨heq,hri,hwf,hlen⟩
   have Hlow:=zac hlow
   have Het:=zac etot
   have Hef:=zac eflat
   have HrE:=zac hrE
   have HrW:=zac hrW
   clear hmrg heq hri hwf hlen hlow etot eflat hrE hrW hav ha1 ha2 hv hr hr' hmem hrr hcc etk
   go_wp2_with fail
   refine (zaa Hmrg).mono ?_
   rintro e w5 ⟨mv,rfl,hmv,hb5,hob5⟩
   obtain ⟨ma,mcap,rfl,hm1,hm2⟩:=id hmv
   have Hmv:=zac hmv
   have Hb5:=zac hb5
   clear hmv hm1 hm2 hb5 hob5 cg
   go_wp2
   refine ⟨⟨k+1,by omega,by simp,⟨⟨zcq ad r,zaa Hmv,?_,zot _ _ (zaa Hst).2.1 (zaa HrE),zuw _ _ (zaa Hst).2.2.1 (zaa HrW),?_⟩,(zaa Hlow).trans ((zaa Hb5).mono (zaa Hlow).size)⟩⟩,by simp [intOf];omega⟩
   ·rw [zaa Hef]
    exact (zqz ad r).trans (Eqv.append (zaa Hst).1 (Eqv.refl _))
   ·have h1:=zq0 ad r
    have h2:=(zaa Hst).2.2.2
    rw [zaa Het]
    omega
  ·have hke:k=rs.length:=by omega
   subst hke
   rw [List.take_length] at heq hlen
   have hBr:=(hlow.block XB hBl).trans (zaa HB)
   have f3:wr.frozen? ⟨XB,3,none⟩=false:=zad hBr 3
   have c3r:wr.cell? ⟨XB,3,none⟩=some (.slice ra rs.length rcap):=by rw [← hvl];exact zab hBr 3
   obtain ⟨w6,hw6⟩:∃ w6,w6=wr.setCell ⟨XB,3,none⟩ (.slice none 0 0):=⟨_,rfl⟩
   have hB6:w6.heap[XB]? = some (.cells #[x0,x1,x2,.slice none 0 0,bv] 144 (0,0)):=by rw [hw6];exact zh1 hBr
   have hK6:KeepX (zlr XB (.slice ra vals.length rcap)) W w6:=by
    have hC:=zai wr XB 3 (.slice none 0 0)
    rw [hw6]
    exact (KeepX.ofBelow hlow).trans ⟨hC.os,hC.tape,hC.output,hC.size,fun q hq hx=>hC.block q hq (fun e=>hx (.inl (by injection e)))⟩
   have hav6:zro w6 (.slice aa ad.length acap) ad:=by
    have hC:=zai wr XB 3 (.slice none 0 0)
    rw [hw6]
    refine hav.keepT (X:=fun q=>q=XB) ⟨hC.os,hC.tape,hC.output,hC.size,fun q hq hx=>hC.block q hq (fun e=>hx (by injection e))⟩ (fun q hq=>?_)
    subst hq
    rintro ⟨cs,hcs⟩
    rw [hBr] at hcs
    simp at hcs
   have hadd:=zy0 XB x0 x1 x2 (.slice none 0 0) bv [] aa ad.length acap w6 hB6 ⟨rfl,.inl ⟨rfl,rfl⟩⟩ (by simp) (by omega)
   have HB6:=zac hB6
   have HK6:=zac hK6
   have Hav6:=zac hav6
   have Hadd:=zac hadd
   have Hst:Hid (Eqv ad rs.flatten∧zgh ad∧(∀ e∈ad,zaw e.1)∧ad.length≤ze6 rs):=⟨heq,hri,hwf,hlen⟩
   clear hB6 hK6 hav6 hadd heq hri hwf hlen hlow hav ha1 ha2 hBr
   go_wp2_with fail
   rw [← hw6]
   refine (zaa Hadd).mono ?_
   rintro e w7 ⟨rfl,rv',h1,h2,h3,h4⟩
   have hpost:∃ rv' rs',znb w7 XB x0 x1 x2 rv' rs' es∧zjw rs'∧Eqv rs'.flatten rs.flatten∧ze6 rs'≤ze6 rs∧KeepX (zlr XB (.slice ra vals.length rcap)) W w7∧(∀ g,rv'.ownBlock=some g→(Value.slice ra vals.length rcap).ownBlock=some g∨W.heap.size≤g):=by
    have hnE6:∀ k,zlr XB (.slice none 0 0) k→¬ zct w6 k:=zky (zaa HB6) (n:=0) (xs:=[]) ⟨rfl,.inl ⟨rfl,rfl⟩⟩
    have hK7:=(zaa HK6).trans (h3.mono fun q _ hq=>hq.imp id (fun h=>by cases h))
    have hb7:zcg w7 bv es:=(zaa Hbat).keepT hK7 (zaa HnE)
    have hg7:∀ g,rv'.ownBlock=some g→(Value.slice ra vals.length rcap).ownBlock=some g∨W.heap.size≤g:=fun g hg=>by
     rcases h4 g hg with h|h
     ·cases h
     ·exact .inr (Nat.le_trans (zaa HK6).size h)
    obtain ⟨heq,hri,hwf,hlen⟩:=zaa Hst
    by_cases hz:ad=[]
    ·subst hz
     exact ⟨rv',[],⟨⟨_,h1,hb7⟩,[],by simpa [zrq] using h2,⟨rfl,fun i hi=>by simp at hi⟩⟩,⟨by simp,by simp,by simp⟩,by simpa using heq,by simp [ze6],hK7,hg7⟩
    ·have hn0:ad.length≠0:=fun h=>hz (List.eq_nil_of_length_eq_zero h)
     obtain ⟨a0,cap0,e0,ha1,ha2⟩:=zaa Hav6
     obtain ⟨b,o,rfl⟩:∃ b o,aa=some ⟨b,o,none⟩:=by
      obtain ⟨a',cap',e',_,hx⟩:=ha1
      injection e' with e1 e2 e3
      obtain ⟨b,o,e'',_⟩:=hx 0 (by omega)
      exact ⟨b,o,e1.trans e''⟩
     have hra:=ha1.keepT h3 hnE6
     refine ⟨rv',[ad],⟨⟨_,h1,hb7⟩,_,by simpa [zrq,hn0] using h2,(zij.snoc (vals:=[]) (rs:=[]) ⟨rfl,fun i hi=>by simp at hi⟩ hra)⟩,⟨?_,?_,?_⟩,by simpa using heq,by simpa [ze6] using hlen,hK7,hg7⟩
     ·intro r hr;simp at hr;subst hr;exact hz
     ·intro r hr;simp at hr;subst hr;exact hri
     ·intro r hr;simp at hr;subst hr;exact hwf
   have Hp:=zac hpost
   clear hpost h1 h2 h3 h4
   go_wp2
   go_end0
   exact ⟨rfl,zaa Hp⟩
def Own (fix:Nat→Prop) (db:Nat) (st:St) (ixs:IxS) (vws:VwS) (q:Nat):Prop:=fix q∨q=db∨q=db+1∨q=db+2∨zcs st ixs vws q
section
variable {W W':World} {fix:Nat→Prop} {eb db nD nI nV N:Nat} {st:St} {ixs:IxS} {vws:VwS}
theorem EngV.ownlt (h:EngV W fix eb db nD nI nV N st ixs vws) {q:Nat} (hq:Own fix db st ixs vws q):q<W.heap.size:=by
 have h3:=h.eb3
 have hel:=h.flt _ h.feb
 rcases hq with hq|rfl|rfl|rfl|hq
 ·exact h.flt q hq
 ·omega
 ·omega
 ·omega
 ·exact h.xlt q hq
theorem EngV.asideX (h:EngV W fix eb db nD nI nV N st ixs vws) {X:Nat→Prop} (hk:KeepX X W W') (hX:∀ q,X q→¬ Own fix db st ixs vws q) (hE:∀ q,X q→¬ zct W q):EngV W' fix eb db nD nI nV N st ixs vws:=by
 have blk:∀ q,Own fix db st ixs vws q→W'.heap[q]? = W.heap[q]?:=fun q hq=>hk.blk q (h.ownlt hq) fun hx=>hX q hx hq
 have hf:∀ k,fix k→W'.heap[k]? = W.heap[k]?:=fun k hk=>blk k (.inl hk)
 have hx:∀ q,zcs st ixs vws q→W'.heap[q]? = W.heap[q]?:=fun q hq=>blk q (.inr (.inr (.inr (.inr hq))))
 refine ⟨(h.rep.keptW hk.size (hf _ h.feb) (blk db (.inr (.inl rfl))) fun nm R hR=>⟨hf _ (h.frb nm R hR).1,hx _ (.inl ⟨nm,R,hR,rfl⟩)⟩).topW,fun k hk'=>Nat.lt_of_lt_of_le (h.flt k hk') hk.size,h.feb,h.frb,h.fdb,?_,fun k x hxk=>?_,h.iap,?_,fun nm v hv=>?_,h.vap,h.vrel⟩
 ·obtain ⟨D,h1,h2⟩:=h.imap
  exact ⟨D,zau h1 (blk _ (.inr (.inr (.inl rfl)))),h2⟩
 ·obtain ⟨a,b,R,c,d⟩:=h.idx k x hxk
  exact ⟨a,b,R,c,d.kept hk hE (fun hq=>hX _ hq (.inr (.inr (.inr (.inr (.inr (.inl ⟨k,x,hxk,.inl rfl⟩))))))) fun g hg hq=>hX _ hq (.inr (.inr (.inr (.inr (.inr (.inl ⟨k,x,hxk,.inr hg⟩))))))⟩
 ·obtain ⟨D,h1,h2⟩:=h.vmap
  exact ⟨D,zau h1 (blk _ (.inr (.inr (.inr (.inl rfl))))),h2⟩
 ·obtain ⟨a,b⟩:=h.vw nm v hv
  exact ⟨a.kept hf (hx _ (.inr (.inr ⟨nm,v,hv,rfl⟩))),b⟩
end
end Go.Proofs.YtoifcnidhfnapaaGreatDoor
namespace Go.Proofs.YtoifcnidhfnapaaGreatDoor
namespace K
open Go.RowKit Go.Maps Go.Sort Go.Shelf
theorem zew.trans {a b c:World} (h:zew a b) (k:zew b c):zew a c:=
 ⟨Nat.le_trans h.size k.size,fun q cs t p hq h1 h2=>(k.blk q cs t p ((h.blk q cs t p hq h1 h2).trans hq) h1 h2).trans (h.blk q cs t p hq h1 h2)⟩
theorem zer.keep {w w':World} {v:Value} {bs:List (List Ent)} (h:zer w v bs) (hk:zew w w'):zer w' v bs:=fun w2 h2=>h w2 (hk.trans h2)
end K
end Go.Proofs.YtoifcnidhfnapaaGreatDoor
namespace Go.Proofs.YtoifcnidhfnapaaGreatDoor
open Go.RowKit Go.Maps Go.Sort Go.Shelf
attribute [local go_sem] Oper.semAt_some
namespace H
section
attribute [local go_sem ↓] zhb
end
theorem zb9:∀ (xs ys:List H4),ze9 xs→ze9 ys→(∀ r,r∈xs↔r∈ys)→xs=ys
 | [],[],_,_,_=>rfl
 | [],y :: ys,_,_,h=>by have:=(h y).2 (by simp);simp at this
 | x :: xs,[],_,_,h=>by have:=(h x).1 (by simp);simp at this
 | x :: xs,y :: ys,hx,hy,h=>by
  have hx1:=List.pairwise_cons.1 hx
  have hy1:=List.pairwise_cons.1 hy
  have irr:∀ a:H4,¬ ltR a a:=fun a h=>by unfold ltR at h;omega
  have asym:∀ a b:H4,ltR a b→ltR b a→False:=fun a b h1 h2=>by unfold ltR at *;omega
  have e:x=y:=by
   rcases List.mem_cons.1 ((h x).1 (by simp)) with e|e
   ·exact e
   ·rcases List.mem_cons.1 ((h y).2 (by simp)) with e2|e2
    ·exact e2.symm
    ·exact (asym _ _ (hy1.1 x e) (hx1.1 y e2)).elim
  subst e
  congr 1
  refine zb9 xs ys hx1.2 hy1.2 (fun r=>⟨fun hr=>?_,fun hr=>?_⟩)
  ·rcases List.mem_cons.1 ((h r).1 (List.mem_cons_of_mem _ hr)) with e|e
   ·subst e;exact (irr _ (hx1.1 _ hr)).elim
   ·exact e
  ·rcases List.mem_cons.1 ((h r).2 (List.mem_cons_of_mem _ hr)) with e|e
   ·subst e;exact (irr _ (hy1.1 _ hr)).elim
   ·exact e
end H
end Go.Proofs.YtoifcnidhfnapaaGreatDoor
namespace Go.Proofs.YtoifcnidhfnapaaGreatDoor
namespace K
open Go.RowKit Go.Maps Go.Sort Go.Shelf
structure ES where
 fix:Nat→Prop
 eb:Nat
 db:Nat
 nI:Nat
 nV:Nat
 M:Nat
 fl:List Ent
 R:Rel
 S:Rel
 T:Rel
 ixs:IxS
 vws:VwS
def ES.At (s:ES) (B0:Nat) (W:World):Prop:=Stg B0 W s.fix s.eb s.db s.nI s.nV s.M s.fl s.R s.S s.T s.ixs s.vws
def ES.own (s:ES) (q:Nat):Prop:=Own s.fix s.db (stF s.R s.S s.T s.fl) s.ixs s.vws q
def ES.apart (s t:ES):Prop:=∀ q,s.own q→¬ t.own q
theorem ES.apart.symm {s t:ES} (h:s.apart t):t.apart s:=fun q h1 h2=>h q h2 h1
theorem ES.At.lt {s:ES} {B0:Nat} {W:World} (h:s.At B0 W) {q:Nat} (hq:s.own q):q<W.heap.size:=h.eng.ownlt hq
theorem ES.At.ge {s:ES} {B0:Nat} {W:World} (h:s.At B0 W) {q:Nat} (hq:s.own q):B0≤q:=by
 have hdb:=h.db0
 rcases hq with hq|rfl|rfl|rfl|hq
 ·exact h.fix0 q hq
 ·omega
 ·omega
 ·omega
 ·exact h.low q hq
theorem ES.At.below {s:ES} {B0:Nat} {W W':World} (h:s.At B0 W) (hb:Below W.heap.size W W'):s.At B0 W':=Stg.below h hb
theorem ES.At.mono {s:ES} {B0 B1:Nat} {W:World} (h:s.At B0 W) (hB:B1≤B0):s.At B1 W:=
 ⟨h.eng,h.fr,h.fs,h.ft,h.fine,h.len,h.most,fun q hq=>Nat.le_trans hB (h.low q hq),Nat.le_trans hB h.db0,fun q hq=>Nat.le_trans hB (h.fix0 q hq)⟩
structure zgi (s s':ES) (W w':World):Prop where
 ex:∃ X:Nat→Prop,KeepX X W w'∧(∀ q,X q→s.own q)∧(∀ q,X q→∀ cs t p,W.heap[q]? = some (Obj.cells cs t p)→t=144∨t=141)
 new:∀ q,s'.own q→s.own q∨W.heap.size≤q
theorem zgi.keepC {s s':ES} {W w':World} (h:zgi s s' W w'):zew W w':=by
 obtain ⟨X,hk,_,hX⟩:=h.ex
 exact ⟨hk.size,fun q cs t p hq h1 h2=>hk.blk q (Array.getElem?_eq_some_iff.1 hq).1 fun hx=>(hX q hx cs t p hq).elim h1 h2⟩
theorem zgi.other {s s' t:ES} {W w':World} (h:zgi s s' W w') {B1:Nat} (ht:t.At B1 W) (ha:s.apart t):t.At B1 w'∧s'.apart t:=by
 obtain ⟨X,hk,hX,hT⟩:=h.ex
 refine ⟨⟨ht.eng.asideX hk (fun q hq=>ha q (hX q hq)) (fun q hq ⟨cs,hcs⟩=>by rcases hT q hq _ _ _ hcs with h|h <;> cases h),ht.fr,ht.fs,ht.ft,ht.fine,ht.len,ht.most,ht.low,ht.db0,ht.fix0⟩,fun q hq hq'=>?_⟩
 rcases h.new q hq with h1|h1
 ·exact ha q h1 hq'
 ·have:=ht.lt hq'
  omega
theorem zgi.below {s s':ES} {w W w':World} (h:zgi s s' W w') {B0:Nat} (hs:s.At B0 W) (hb:Below B0 w W) (hB:B0≤W.heap.size):Below B0 w w':=by
 obtain ⟨X,hk,hX,_⟩:=h.ex
 exact zf1 hb hB hk fun q hq=>hs.ge (hX q hq)
def ES.has (s:ES) (nm:ByteArray) (H:List (Nat×Nat)) (B:List zbb):Prop:=∃ v,s.vws nm=some v∧v.H=H∧v.B=B
theorem zhw (w:World):Calls Tryz.prog 14 #[] w fun e w'=>∃ s:ES,e=.returned (.pointer (some ⟨s.eb,0,none⟩))∧s.At w.heap.size w'∧s.fl=[]∧s.nI=0∧s.nV=0∧s.M=0∧s.vws=(fun _=>none)∧Below w.heap.size w w':=by
 refine (zpc w).mono ?_
 rintro e w' ⟨eb,rfl,⟨fix,db,R,S,T,hS⟩,hb⟩
 exact ⟨⟨fix,eb,db,0,0,0,[],R,S,T,_,_⟩,rfl,hS,rfl,rfl,rfl,rfl,rfl,hb⟩
theorem zfa (nm qt o:ByteArray) (hs:List (Nat×Nat)) (ats:List zba) (W:World) {s:ES} {B0:Nat} (h:s.At B0 W) (hB0:B0≤W.heap.size) (hn:zfv nm=true) (hn8:nm.size≤8) (hx:s.vws nm=none) (hnV:s.nV≤5) (hsz:qt.size≤300)
  (hp:zff qt=.ok (hs,ats)) (hf:zwu hs (ats.map zba.q)=true) (ho:o=⟨#[]⟩∨(zaz o).Perm (zbl ((ats.map zba.q).map (·.ts)))) (hnI:s.nI≤100000) :
  Calls Tryz.prog 16 #[.pointer (some ⟨s.eb,0,none⟩),.string nm,.string qt,.string o] W fun e w'=>e=.returned (.bool true)∧∃ s':ES,s'.At B0 w'∧zgi s s' W w'∧s'.eb=s.eb∧s'.fl=s.fl∧s'.nI≤s.nI+4∧s'.nV=s.nV+1∧s'.M=s.M+1000000000000∧(∃ v,s'.vws=zib s.vws nm v∧v.H=hs∧v.B=ats.map zba.q):=by
 have hF:=Stg.fit h hf
 refine (zmm nm qt o hs ats W h hB0 hn hn8 hx hnV hsz hp hF.1 hF.2 ho hnI).mono ?_
 rintro e w' ⟨rfl,fix',ixs',nI',v,hS,h1,h2,h3,h4,h5,h6,h7⟩
 refine ⟨rfl,⟨fix',s.eb,s.db,nI',s.nV+1,s.M+1000000000000,s.fl,s.R,s.S,s.T,ixs',_⟩,hS,⟨⟨_,h4,fun q hq=>?_,fun q hq cs t p hc=>?_⟩,fun q hq=>?_⟩,rfl,rfl,h3,rfl,rfl,v,rfl,h1,h2⟩
 ·rcases hq with rfl|rfl
  ·exact .inr (.inr (.inl rfl))
  ·exact .inr (.inr (.inr (.inl rfl)))
 ·rcases hq with rfl|rfl
  ·obtain ⟨D,⟨es,cl,hm,_⟩,_⟩:=h.eng.imap
   rw [hm] at hc;cases hc
  ·obtain ⟨D,⟨es,cl,hm,_⟩,_⟩:=h.eng.vmap
   rw [hm] at hc;cases hc
 ·rcases hq with hq|rfl|rfl|rfl|hq
  ·exact (h6 q hq).imp (fun h=>.inl h) id
  ·exact .inl (.inr (.inl rfl))
  ·exact .inl (.inr (.inr (.inl rfl)))
  ·exact .inl (.inr (.inr (.inr (.inl rfl))))
  ·exact (h7 q hq).imp (fun h=>.inr (.inr (.inr (.inr h)))) id
theorem zbi.has {s s':ES} (h:zbi s.vws s'.vws) {nm:ByteArray} {H:List (Nat×Nat)} {B:List zbb} (hv:s.has nm H B):s'.has nm H B:=by
 obtain ⟨v,h1,h2,h3⟩:=hv
 obtain ⟨n,f,h4⟩:=h.2 nm v h1
 exact ⟨_,h4,h2,h3⟩
theorem zo6 {s t:ES} {B0 B1:Nat} {W W':World} (hs:s.At B0 W) (ht:t.At B1 W') (he:∀ nm r,zcx s.fl nm r=zcx t.fl nm r) (B:List zbb):zfh (stF s.R s.S s.T s.fl) B=zfh (stF t.R t.S t.T t.fl) B:=by
 have hR:(zah s.R s.fl nmR).f=(zah t.R t.fl nmR).f:=by funext r;simp only [zah];rw [hs.fr.2.2,ht.fr.2.2,he]
 have hS:(zah s.S s.fl nmS).f=(zah t.S t.fl nmS).f:=by funext r;simp only [zah];rw [hs.fs.2.2,ht.fs.2.2,he]
 have hT:(zah s.T s.fl nmT).f=(zah t.T t.fl nmT).f:=by funext r;simp only [zah];rw [hs.ft.2.2,ht.ft.2.2,he]
 have aR:(zah s.R s.fl nmR).ar=(zah t.R t.fl nmR).ar:=hs.fr.1.trans ht.fr.1.symm
 have aS:(zah s.S s.fl nmS).ar=(zah t.S t.fl nmS).ar:=hs.fs.1.trans ht.fs.1.symm
 have aT:(zah s.T s.fl nmT).ar=(zah t.T t.fl nmT).ar:=hs.ft.1.trans ht.ft.1.symm
 funext i
 unfold zfh stF
 generalize (B[i]?.getD zat).nm=nm
 by_cases h1:nm=nmR
 ·subst h1;rw [zia,zia];dsimp only;rw [hR,aR]
 ·by_cases h2:nm=nmS
  ·subst h2;rw [zni,zni];dsimp only;rw [hS,aS]
  ·by_cases h3:nm=nmT
   ·subst h3;rw [zp6,zp6];dsimp only;rw [hT,aT]
   ·rw [zh3 h1 h2 h3,zh3 h1 h2 h3]
theorem zyb {s t:ES} {B0 B1:Nat} {W W':World} (hs:s.At B0 W) (ht:t.At B1 W') (he:∀ nm r,zcx s.fl nm r=zcx t.fl nm r) {n m:ByteArray} {v u:zec} (hv:s.vws n=some v) (hu:t.vws m=some u) (hH:v.H=u.H) (hB:v.B=u.B) {q:H4} (hq:WfH q):v.f q=u.f q:=by
 refine zek (Stg.range hs hv hq) (Stg.range ht hu hq) ?_
 rw [Stg.val hs hv q,Stg.val ht hu q,hH,hB,zo6 hs ht he]
theorem zsz {f g:H4→Int} (h:∀ q,WfH q→f q=g q) {ys zs:List H4} (hy:H.zg3 f ys) (hz:H.zg3 g zs) (n:Nat):H.zbj n f ys=H.zbj n g zs:=by
 have e:ys=zs:=H.zb9 ys zs hy.rising hz.rising fun r=>by
  constructor
  ·intro hr
   have hw:=hy.wf r hr
   exact (hz.mem r hw).2 (by rw [← h r hw];exact (hy.mem r hw).1 hr)
  ·intro hr
   have hw:=hz.wf r hr
   exact (hy.mem r hw).2 (by rw [h r hw];exact (hz.mem r hw).1 hr)
 subst e
 unfold H.zbj
 exact List.map_congr_left fun y hy'=>by rw [h y (hy.wf y hy')]
theorem znn (n m:ByteArray) (W:World) {s t:ES} {B0 B1:Nat} (hs:s.At B0 W) (ht:t.At B1 W) (he:∀ nm r,zcx s.fl nm r=zcx t.fl nm r) {Hq:List (Nat×Nat)} {B:List zbb} (hv:s.has n Hq B) (hu:t.has m Hq B) :
  Calls Tryz.prog 26 #[.pointer (some ⟨s.eb,0,none⟩),.string n,.pointer (some ⟨t.eb,0,none⟩),.string m] W fun e w'=>e=.returned (.bool true)∧Below W.heap.size W w':=by
 obtain ⟨v,v1,v2,v3⟩:=hv
 obtain ⟨u,u1,u2,u3⟩:=hu
 have hfe:∀ q,WfH q→v.f q=u.f q:=fun q hq=>zyb hs ht he v1 u1 (v2.trans u2.symm) (v3.trans u3.symm) hq
 have hHl:v.H.length=u.H.length:=by rw [v2,u2]
 have H1:=zac (zlf n W hs v1)
 have H2:∀ W',Below W.heap.size W W'→Hid _:=fun W' hb=>zac (zlf m W' (ht.below hb) u1)
 have Hfe:=zac hfe
 have HHl:=zac hHl
 clear hs ht he v1 v2 v3 u1 u2 u3 hfe hHl
 go_enter Tryz.func26,Tryz.ntmps26
 go_wp2_with fail
 refine (zaa H1).mono ?_
 rintro e w1 ⟨o,ys,rfl,r1,r2,r3,b1⟩
 have H3:=H2 w1 b1
 have Hr:=zac (And.intro r1 r2)
 have Hb1:=zac b1
 clear H1 H2 r1 r2 b1
 go_wp2_with fail
 refine (zaa H3).mono ?_
 rintro e w2 ⟨o',zs,rfl,s1,s2,s3,b2⟩
 have hrows:=zsz (zaa Hfe) (zaa Hr).1 s1 v.H.length
 rw [← zaa HHl,← hrows] at s2
 have hlen:(H.zbj v.H.length v.f ys).length≤1000000000:=by simp [H.zbj];omega
 have H4:=zac (zkg o o' (H.zbj v.H.length v.f ys) w2 ((zaa Hr).2.below b2) s2 hlen (zgd _ _ _))
 have Hb2:=zac ((zaa Hb1).trans (b2.mono (zaa Hb1).size))
 clear H3 s1 s2 b2 hrows hlen
 go_wp2_with fail
 refine (zaa H4).mono ?_
 rintro e w3 ⟨rfl,hd⟩
 have Hb3:=zac ((zaa Hb2).trans (hd.below _))
 clear hd H4
 go_wp2
 go_ret
 exact ⟨rfl,zaa Hb3⟩
def wkQ:ByteArray:=⟨#[40,88,44,90,41,58,45,114,40,88,44,89,41,44,114,40,89,44,90,41]⟩
def wkO:ByteArray:=⟨#[89,88,90]⟩
def wkP:List (Nat×Nat)×List zba:=([(88,1),(90,3)],[⟨nmR,7,[(88,0),(89,0)]⟩,⟨nmR,14,[(89,0),(90,0)]⟩])
theorem zyf:zff wkQ=.ok wkP:=by kernel_rfl
theorem yff:zwu wkP.1 (wkP.2.map zba.q)=true:=by decide +kernel
theorem yfg:(zaz wkO).Perm (zbl ((wkP.2.map zba.q).map (·.ts))):=by decide +kernel
def wkE:List Ent:=[⟨nmR,[1,2],1⟩,⟨nmR,[2,3],2⟩]
def wkR:List Row:=[(1,2,0),(2,3,0)]
theorem zv1 (r:Row):zcx wkE nmR r=(if (1,2,0)=r then 1 else 0)+(if (2,3,0)=r then 2 else 0):=by
 simp [zcx,wkE,zb7]
theorem zyh (r:Row):zcx wkE nmS r=0:=by
 simp [zcx,wkE,yjy]
theorem zyi (r:Row):zcx wkE nmT r=0:=by
 simp [zcx,wkE,yjz]
theorem yjq:∀ y∈wkR,zaw y:=by
 intro y hy
 simp only [wkR,List.mem_cons,List.not_mem_nil,or_false] at hy
 rcases hy with rfl|rfl <;> exact ⟨zbm (by decide),zbm (by decide),zbm (by decide)⟩
theorem zyg {f:Row→Int} (hf:∀ r,f r=(if (1,2,0)=r then 1 else 0)+(if (2,3,0)=r then 2 else 0)):zkq f wkR:=by
 refine ⟨yjq,by decide,fun r _=>?_⟩
 rw [hf]
 simp only [wkR,List.mem_cons,List.not_mem_nil,or_false]
 by_cases h1:(1,2,0)=r
 ·subst h1;decide
 ·by_cases h2:(2,3,0)=r
  ·subst h2;decide
  ·rw [if_neg h1,if_neg h2]
   constructor
   ·rintro (h|h)
    ·exact absurd h.symm h1
    ·exact absurd h.symm h2
   ·intro h;exact absurd rfl h
theorem yfh:zpj zc9 zeo (fun _=>[((1,2,0),1),((2,3,0),2)]) (1,3,0,0)=2#64:=by decide +kernel
theorem zyj {F:H4→Int} (hF:∀ q,BitVec.ofInt 64 (F q)=zpj zc9 zeo (fun _=>[((1,2,0),1),((2,3,0),2)]) q) (hr:∀ q,WfH q→-9223372036854775808≤F q∧F q≤9223372036854775807):F (1,3,0,0)=2∧∀ q,WfH q→F q≠0→q=(1,3,0,0):=by
 refine ⟨zek (hr _ ⟨zbm (by decide),zbm (by decide),zbm (by decide),zbm (by decide)⟩) (by omega) ((hF _).trans yfh),fun q hq h0=>?_⟩
 have hz:zpj zc9 zeo (fun _=>[((1,2,0),1),((2,3,0),2)]) q≠0#64:=fun hz=>h0 (zek (hr q hq) (by omega) ((hF q).trans hz))
 obtain ⟨r,hrr,hfit,rfl⟩:=zln hz
 rw [zmj] at hfit
 rw [zjf]
 obtain ⟨x0,hx0,e0⟩:=hrr 0 (by decide)
 obtain ⟨x1,hx1,e1⟩:=hrr 1 (by decide)
 simp only [List.mem_cons,List.not_mem_nil,or_false] at hx0 hx1
 rw [← e0,← e1] at hfit
 rw [← e0,← e1]
 rcases hx0 with rfl|rfl <;> rcases hx1 with rfl|rfl
 ·exact absurd hfit (by decide)
 ·rfl
 ·exact absurd hfit (by decide)
 ·exact absurd hfit (by decide)
section
variable {s:ES} {B0:Nat} {W:World}
theorem zf0 (h:s.At B0 W) (hfl:s.fl=[]) {nm:ByteArray} {Q:Rel} (hQ:stF s.R s.S s.T s.fl nm=some Q):Q.n=0∧∀ r,Q.f r=0:=by
 rw [hfl] at hQ
 rcases zgt hQ with ⟨_,rfl⟩|⟨_,rfl⟩|⟨_,rfl⟩
 ·rw [zb2];exact ⟨h.fr.2.1,fun r=>by rw [h.fr.2.2]⟩
 ·rw [zb2];exact ⟨h.fs.2.1,fun r=>by rw [h.fs.2.2]⟩
 ·rw [zb2];exact ⟨h.ft.2.1,fun r=>by rw [h.ft.2.2]⟩
theorem zfj (nm:ByteArray) (hn:nm=nmR∨nm=nmS∨nm=nmT) (r:Row):-1000≤zcx wkE nm r∧zcx wkE nm r≤1000∧(zcx wkE nm r≠0→r∈wkR):=by
 rcases hn with rfl|rfl|rfl
 ·rw [zv1]
  by_cases h1:(1,2,0)=r
  ·subst h1;decide
  ·by_cases h2:(2,3,0)=r
   ·subst h2;decide
   ·rw [if_neg h1,if_neg h2];exact ⟨by omega,by omega,fun h=>absurd rfl h⟩
 ·rw [zyh];exact ⟨by omega,by omega,fun h=>absurd rfl h⟩
 ·rw [zyi];exact ⟨by omega,by omega,fun h=>absurd rfl h⟩
theorem ztb (h:s.At B0 W) (hfl:s.fl=[]) (v:Value) (hv:zf5 W v wkE) (hM:s.M≤8000000000000000000) :
  Calls Tryz.prog 28 #[.pointer (some ⟨s.eb,0,none⟩),v] W fun e w'=>e=.returned (.bool true)∧KeepX (zcs (stF s.R s.S s.T s.fl) s.ixs s.vws) W w'∧∃ ixs' vws',EngV w' s.fix s.eb s.db 3 s.nI s.nV 5 (zjk (stF s.R s.S s.T s.fl) wkE) ixs' vws'∧zbi s.vws vws':=by
 have hlen:s.fl.length=0:=by rw [hfl];rfl
 have hE:=h.eng
 have hN:1+2*s.fl.length=1:=by omega
 rw [hN] at hE
 have hQR:stF s.R s.S s.T s.fl nmR=some (zah s.R s.fl nmR):=zia _ _ _
 have har:(zah s.R s.fl nmR).ar=2:=h.three.r.ar_
 have hnm:∀ nm Q,stF s.R s.S s.T s.fl nm=some Q→nm=nmR∨nm=nmS∨nm=nmT:=fun nm Q hQ=>by
  rcases zgt hQ with ⟨e,_⟩|⟨e,_⟩|⟨e,_⟩
  ·exact .inl e
  ·exact .inr (.inl e)
  ·exact .inr (.inr e)
 have hmem:∀ x∈wkE,x=⟨nmR,[1,2],1⟩∨x=⟨nmR,[2,3],2⟩:=fun x hx=>by simpa [wkE] using hx
 have hW:∀ nm Q,stF s.R s.S s.T s.fl nm=some Q→zkl Q.f (zcx wkE nm):=fun nm Q hQ r hr _=>by
  rw [(zf0 h hfl hQ).2 r,Int.zero_add]
  have:=zfj nm (hnm nm Q hQ) r
  exact ⟨this.1,this.2.1⟩
 have hR:∀ nm Q,stF s.R s.S s.T s.fl nm=some Q→zqc wkE nm Q.f:=fun nm Q hQ _=>⟨wkR,by decide,fun r hr h0=>by
  rw [(zf0 h hfl hQ).2 r,Int.zero_add] at h0
  exact (zfj nm (hnm nm Q hQ) r).2.2 h0⟩
 have H:=zac ((zlt v wkE W hE hv (by decide) (fun x hx=>by
   rcases hmem x hx with rfl|rfl
   ·exact ⟨by decide,by simp,⟨zbm (by decide),zbm (by decide),zbm (by decide)⟩,by simp,by simp⟩
   ·exact ⟨by decide,by simp,⟨zbm (by decide),zbm (by decide),zbm (by decide)⟩,by simp,by simp⟩) (fun i hi=>by
   have hx:wkE[i]?.getD zg1∈wkE:=by simp [hi]
   rcases hmem _ hx with e|e
   ·rw [e];exact zn8 (by decide) hQR (by simp) (by rw [har];rfl) (by simp)
   ·rw [e];exact zn8 (by decide) hQR (by simp) (by rw [har];rfl) (by simp)) (fun x hx=>by
   rcases hmem x hx with rfl|rfl
   ·show stF s.R s.S s.T s.fl nmR≠none;rw [hQR];simp
   ·show stF s.R s.S s.T s.fl nmR≠none;rw [hQR];simp) (fun nm Q hQ=>by
   obtain ⟨h1,h2⟩:=zf0 h hfl hQ
   exact ⟨by rw [h1];decide,fun r _=>by rw [h2 r];omega⟩) (by omega) (by omega) (fun nm u hu=>by
   have:=h.most nm u hu
   have e:4*(1+2*wkE.length) ^ 4=2500:=by decide
   omega)).mono (R':=fun e w'=>e=.returned (.tuple #[.int .i64 0,.int .i64 0])∧KeepX (zcs (stF s.R s.S s.T s.fl) s.ixs s.vws) W w'∧∃ ixs' vws',EngV w' s.fix s.eb s.db 3 s.nI s.nV 5 (zjk (stF s.R s.S s.T s.fl) wkE) ixs' vws'∧zbi s.vws vws') (by
  rintro e w' ⟨c,rfl,hk,⟨rfl,h1,_⟩|⟨rfl,_,h1,_⟩|⟨rfl,_,_,ixs',vws',h1,h2,h4,h5⟩⟩
  ·exact absurd hW h1
  ·exact absurd hR h1
  ·exact ⟨rfl,hk,ixs',vws',h1,zbi.ofKept h2⟩))
 clear h hv hE hW hR
 go_enter Tryz.func28,Tryz.ntmps28
 go_wp2_with fail
 refine (zaa H).mono ?_
 rintro e w1 ⟨rfl,h1⟩
 have H1:=zac h1
 clear h1 H
 go_wp2
 go_ret
 exact ⟨rfl,zaa H1⟩
theorem zpm {ixs':IxS} {vws':VwS} (h:s.At B0 W) (hfl:s.fl=[]) {w':World} (hE:EngV w' s.fix s.eb s.db 3 s.nI s.nV 5 (zjk (stF s.R s.S s.T s.fl) wkE) ixs' vws') {v:zec} (hv:vws' nmV=some v) (hH:v.H=wkP.1) (hB:v.B=wkP.2.map zba.q) :
  Calls Tryz.prog 20 #[.pointer (some ⟨s.eb,0,none⟩),.string nmV] w' fun e w2=>∃ o,e=.returned (.tuple #[o,.int .i64 0])∧zdf w2 o [([1,3],2)]∧Below w'.heap.size w' w2:=by
 obtain ⟨hV,hHo⟩:=hE.vw nmV v hv
 obtain ⟨Q,hst,hQf⟩:∃ Q,zjk (stF s.R s.S s.T s.fl) wkE nmR=some Q∧Q.f=fun r=>(zah s.R s.fl nmR).f r+zcx wkE nmR r:=by
  unfold zjk
  rw [show stF s.R s.S s.T s.fl nmR=some (zah s.R s.fl nmR) from zia _ _ _]
  exact ⟨_,rfl,rfl⟩
 have hf:∀ r,(zah s.R s.fl nmR).f r+zcx wkE nmR r=(if (1,2,0)=r then 1 else 0)+(if (2,3,0)=r then 2 else 0):=fun r=>by
  rw [(zf0 h hfl (show stF s.R s.S s.T s.fl nmR=some (zah s.R s.fl nmR) from zia _ _ _)).2 r,Int.zero_add,zv1]
 have hL:za6 (fun r=>(zah s.R s.fl nmR).f r+zcx wkE nmR r) wkR=[((1,2,0),1),((2,3,0),2)]:=by
  unfold za6
  simp only [hf]
  rfl
 have hval:∀ q,BitVec.ofInt 64 (v.f q)=zpj zc9 zeo (fun _=>[((1,2,0),1),((2,3,0),2)]) q:=fun q=>by
  have:=hHo (fun _=>[((1,2,0),1),((2,3,0),2)]) (fun i hi=>⟨Q,?_,wkR,by rw [hQf];exact zyg hf,by rw [hQf];exact hL.symm⟩) q
  ·rw [hH,hB] at this
   exact this
  ·rw [hB] at hi ⊢
   have hi2:i<2:=hi
   match i,hi2 with
   | 0,_=>exact hst
   | 1,_=>exact hst
 obtain ⟨h2,hs⟩:=zyj hval fun q hq=>hV.map.range hq
 have hM:=hV.map.tight [(1,3,0,0)] fun q hq h0=>by simp [hs q hq h0]
 refine (zo5 w' hE nmV v hv 1 (by omega) hM).mono ?_
 rintro e w2 ⟨o,ys,xs,rfl,r1,_,_,_,r2,r3,b⟩
 refine ⟨o,rfl,?_,b⟩
 have hw:WfH (1,3,0,0):=⟨zbm (by decide),zbm (by decide),zbm (by decide),zbm (by decide)⟩
 have hin:((1,3,0,0):H4)∈ys:=(r1.mem _ hw).2 (by rw [h2];decide)
 have hys:ys=[(1,3,0,0)]:=by
  match ys,hin,r3 with
  | [y],hin,_=>simp at hin;rw [hin]
 rw [hys] at r2
 have hl:v.H.length=2:=by rw [hH];rfl
 rw [hl] at r2
 have e:H.zbj 2 v.f [(1,3,0,0)]=[([1,3],2)]:=by unfold H.zbj;simp [H.zcv,h2]
 rw [e] at r2
 exact r2
end
theorem zpn (w:World):Calls Tryz.prog 24 #[] w fun e w'=>e=.returned (.bool true)∧Below w.heap.size w w':=by
 go_enter Tryz.func24,Tryz.ntmps24
 go_wp2_with fail
 refine (zhw w).mono ?_
 rintro e w1 ⟨s,rfl,hs,hfl,hnI,hnV,hM,hvw,hb⟩
 have Hv:=zac (zfa nmV wkQ wkO wkP.1 wkP.2 w1 hs hb.size yau (by decide) (by rw [hvw]) (by omega) (by decide) zyf yff (.inr yfg) (by omega))
 have Hb:=zac hb
 have Hs:=zac hs
 have Hfl:=zac hfl
 have HM:=zac hM
 clear hs hfl hnI hnV hM hvw hb
 go_wp2_with fail
 refine (zaa Hv).mono ?_
 rintro e w2 ⟨rfl,s2,hs2,ht,heb,hfl2,_,_,hM2,v,hvw,hH,hB⟩
 have hb2:=ht.below (zaa Hs) (zaa Hb) (zaa Hb).size
 have hfl2':s2.fl=[]:=hfl2.trans (zaa Hfl)
 have hM3:s2.M≤8000000000000000000:=by rw [hM2,zaa HM];omega
 obtain ⟨w3,hw3⟩:∃ w3,w3=((w2.alloc (.cells #[.int .i64 1,.int .i64 2] 2)).alloc (.cells #[.int .i64 2,.int .i64 3] 2)).alloc (.cells #[.string nmR,.slice (some ⟨w2.heap.size,0,none⟩) 2 2,.int .i64 1,.string nmR,.slice (some ⟨w2.heap.size+1,0,none⟩) 2 2,.int .i64 2] 64):=⟨_,rfl⟩
 have hb3:Below w2.heap.size w2 w3:=by rw [hw3];exact (((Below.refl _ _).alloc (Nat.le_refl _) _).alloc (by simp) _).alloc (by simp;omega) _
 have g0:w3.heap[w2.heap.size]? = some (.cells #[.int .i64 1,.int .i64 2] 2 (0,0)):=by rw [hw3,Below.heap_alloc _ _ _ (by simp;omega),Below.heap_alloc _ _ _ (by simp)];exact zae _ _ _ rfl
 have g1:w3.heap[w2.heap.size+1]? = some (.cells #[.int .i64 2,.int .i64 3] 2 (0,0)):=by rw [hw3,Below.heap_alloc _ _ _ (by simp)];exact zae _ _ _ (by simp)
 have g2:w3.heap[w2.heap.size+2]? = some (.cells #[.string nmR,.slice (some ⟨w2.heap.size,0,none⟩) 2 2,.int .i64 1,.string nmR,.slice (some ⟨w2.heap.size+1,0,none⟩) 2 2,.int .i64 2] 64 (0,0)):=by rw [hw3];exact zae _ _ _ (by simp)
 have hents:zf5 w3 (.slice (some ⟨w2.heap.size+2,0,none⟩) 2 2) wkE:=⟨some ⟨w2.heap.size+2,0,none⟩,2,rfl,fun i hi=>by
  have hi2:i<2:=hi
  match i,hi2 with
  | 0,_=>exact ⟨_,0,_,rfl,zab g2 0,zab g2 1,zcj (zs:=[1,2]) g0 2,zab g2 2⟩
  | 1,_=>exact ⟨_,0,_,rfl,zab g2 3,zab g2 4,zcj (zs:=[2,3]) g1 2,zab g2 5⟩⟩
 have hs3:=hs2.below hb3
 have ha:=ztb hs3 hfl2' _ hents hM3
 rw [heb] at ha
 have Heb:=zac heb
 have Ha:=zac ha
 have hel:s.eb<w3.heap.size:=by rw [← heb];exact hs3.eng.flt _ hs3.eng.feb
 have hb3':=hb2.trans (hb3.mono hb2.size)
 have Hb3:=zac hb3'
 have Hs3:=zac hs3
 have Hfl2:=zac hfl2'
 have Hhas:=zac (show s2.has nmV wkP.1 (wkP.2.map zba.q) from ⟨v,by rw [hvw];exact za7 _ _ _,hH,hB⟩)
 clear hs2 ht hfl2 hfl2' hM2 hM3 hvw hH hB hb2 hb3 hb3' g0 g1 g2 hents hs3 Hv Hs Hfl HM Hb ha heb hel
 subst hw3
 go_wp2_with fail
 refine (zaa Ha).mono ?_
 rintro e w4 ⟨rfl,hk,ixs',vws',hE,hsame⟩
 obtain ⟨v0,hv0,hH0,hB0⟩:=zaa Hhas
 obtain ⟨n',f',hv'⟩:=hsame.2 nmV v0 hv0
 have hr:Calls Tryz.prog 20 #[.pointer (some ⟨s.eb,0,none⟩),.string nmV] w4 fun e w2=>∃ o,e=.returned (.tuple #[o,.int .i64 0])∧zdf w2 o [([1,3],2)]∧Below w4.heap.size w4 w2:=by
  rw [← zaa Heb] at hE ⊢
  exact zpm (zaa Hs3) (zaa Hfl2) hE hv' hH0 hB0
 have Hr:=zac hr
 have Hb4:=zac (zf1 (zaa Hb3) (zaa Hb3).size hk (zaa Hs3).low)
 clear hk hE hsame hv0 hH0 hB0 hv' hr Ha Hhas Hs3 Hb3
 go_wp2_with fail
 refine (zaa Hr).mono ?_
 rintro e w5 ⟨o,rfl,hrows,hb5⟩
 have Hb5:=zac ((zaa Hb4).trans (hb5.mono (zaa Hb4).size))
 obtain ⟨a,cap,rfl,hc⟩:=hrows
 obtain ⟨b,o,sv,rfl,c0,hi,c1⟩:=hc 0 (by decide)
 obtain ⟨a2,cap2,rfl,hi⟩:=hi
 obtain ⟨b2,o2,rfl,i0⟩:=hi 0 (by decide)
 obtain ⟨b3,o3,hbo,i1⟩:=hi 1 (by decide)
 cases hbo
 simp only [Nat.zero_mul,Nat.add_zero,List.length_cons,List.length_nil,Nat.zero_add,List.getElem?_cons_zero,Option.getD_some] at c0 c1 i0
 have i1':w5.cell? ⟨b2,o2+1,none⟩=some (.int .i64 3):=i1
 clear hc hi hb5 i1 Hb4 Hr
 go_wp2
 go_ret
 exact ⟨rfl,zaa Hb5⟩
def nmW:ByteArray:=⟨#[119]⟩
theorem yi3:zfv nmW=true:=by decide
structure Two (w:World) (s t:ES) (W:World):Prop where
 one:s.At w.heap.size W
 two:t.At w.heap.size W
 ap:s.apart t
 bel:Below w.heap.size w W
theorem Two.below {w W W':World} {s t:ES} (h:Two w s t W) (hb:Below W.heap.size W W'):Two w s t W':=⟨h.one.below hb,h.two.below hb,h.ap,h.bel.trans (hb.mono h.bel.size)⟩
theorem Two.left {w W W':World} {s t s':ES} (h:Two w s t W) (ht:zgi s s' W W') (hs:s'.At w.heap.size W'):Two w s' t W':=by
 obtain ⟨h1,h2⟩:=ht.other h.two h.ap
 exact ⟨hs,h1,h2,ht.below h.one h.bel h.bel.size⟩
theorem Two.right {w W W':World} {s t t':ES} (h:Two w s t W) (ht:zgi t t' W W') (hs:t'.At w.heap.size W'):Two w s t' W':=by
 obtain ⟨h1,h2⟩:=ht.other h.one h.ap.symm
 exact ⟨h1,hs,h2.symm,ht.below h.two h.bel h.bel.size⟩
theorem ye8 {w w1 w2:World} {s t:ES} (hs:s.At w.heap.size w1) (hb:Below w.heap.size w w1) (ht:t.At w1.heap.size w2) (hb2:Below w1.heap.size w1 w2):Two w s t w2:=
 ⟨hs.below hb2,ht.mono hb.size,fun q h1 h2=>by have:=hs.lt h1;have:=ht.ge h2;omega,hb.trans (hb2.mono hb.size)⟩
end K
end Go.Proofs.YtoifcnidhfnapaaGreatDoor
namespace Go.Proofs.YtoifcnidhfnapaaGreatDoor
open Go.RowKit Go.Maps Go.Sort Go.Shelf
def ybw:Ch:=fun _=>none
theorem yh3 (nm:ByteArray):chf ybw nm=fun _=>0:=rfl
theorem yhf (st:St):ze3 st ybw 0 (fun _=>true)=st:=by
 funext nm
 unfold ze3 ybw
 cases st nm <;> rfl
section
variable {W w w':World} {fix:Nat→Prop} {eb db nD nI nV N:Nat} {DI DV:DataW Unit} {X:Nat→Prop} {st:St} {ixs ixs':IxS} {vws:VwS} {ik ik':IkS}
theorem zgk.compact (h:zgk W fix eb db nD nI nV DI DV st ixs vws ik) {k:zg2} {x:zmr} (hx:ixs k=some x) {R:Rel} (hR:(ik k).f=R.f) (hNk:(ik k).N=N) (he:(ik k).es=[]) (hN:N≤100000000) :
  Calls Tryz.prog 45 #[.pointer (some ⟨x.XB,0,none⟩)] W fun e w'=>e=.returned (.tuple #[])∧∃ rv' rs',zgk w' fix eb db nD nI nV DI DV st (zpy ixs k ⟨x.XB,rv',rs'⟩) vws (zr4 ik k ⟨N+0,fun r=>R.f r+chf ybw k.nm r,[]⟩)∧KeepX (zlr x.XB x.rv) W w'∧∀ g,rv'.ownBlock=some g→x.rv.ownBlock=some g∨W.heap.size≤g:=by
 have hi:=(h.idx k x hx).2.2
 rw [he,hNk] at hi
 have ht:=hi.tot
 refine (zuh x.XB _ _ _ x.rv x.rs [] W hi.io hi.good (by omega)).mono ?_
 rintro e w' ⟨rfl,rv',rs',h1,h2,h3,h4,h5,h6⟩
 refine ⟨rfl,rv',rs',h.settled hx h5 ⟨h1,h2,hi.cols,by show ze6 rs'≤_;omega,?_⟩ h6,h5,h6⟩
 obtain ⟨xs,hxs,hq⟩:=hi.arr
 rw [hR] at hxs hq
 have ef:(fun r=>R.f r+chf ybw k.nm r)=R.f:=by funext r;rw [yh3];simp
 rw [ef]
 exact ⟨xs,hxs,h3.trans hq⟩
def yb2 (st:St) (N:Nat) (ixs:IxS) (ik:IkS):Prop:=∀ k x,ixs k=some x→(ik k).N=N∧(∃ R,st k.nm=some R∧(ik k).f=R.f)∧(ik k).es=[]
theorem Ph.compact (h:Ph W w fix eb db nD nI nV DI DV X st ixs' vws ik') (hI:zwa DI ixs) (hi:yb2 st N ixs ik) {left:Lit→Bool} (hD:zgl W st ybw N 0 ixs ixs' ik ik' (fun k=>left (za9 k)=false)) {k:zg2} {x:zmr} (hx:ixs k=some x) (hl:left (za9 k)=true) (hX:∀ q,zlr x.XB x.rv q→X q) (hN:N≤100000000)
  {r cnt:Nat} (hrg:w.ranges Tryz.prog 96 zap (db+1) r nI DI (fun z=>left z && !z.sameKey (za9 k)) cnt) :
  Calls Tryz.prog 45 #[.pointer (some ⟨x.XB,0,none⟩)] w fun e w'=>e=.returned (.tuple #[])∧∃ ixs'' ik'',w'.ranges Tryz.prog 96 zap (db+1) r nI DI (fun z=>left z && !z.sameKey (za9 k)) cnt∧Ph W w' fix eb db nD nI nV DI DV X st ixs'' vws ik''∧zgl W st ybw N 0 ixs ixs'' ik ik'' (fun k'=>(left (za9 k') && !(za9 k').sameKey (za9 k))=false):=by
 obtain ⟨x',hcur,_,hc,_,_⟩:=hD.2 k x hx
 obtain ⟨rfl,hik⟩:=hc (by simp [hl])
 obtain ⟨a,⟨R,b,b'⟩,d⟩:=hi k x' hx
 refine (h.eng.compact (R:=R) hcur (by rw [hik];exact b') (by rw [hik];exact a) (by rw [hik];exact d) hN).mono ?_
 rintro e w' ⟨rfl,rv',rs',h1,h2,h3⟩
 have hq:=h.eng.idxX hcur
 refine ⟨rfl,_,_,zfe hrg h2 (fun e=>(hq _ e).2.1.2.2.1 rfl) (fun e=>zw5 hrg (hq _ e).1 rfl),⟨h1,h.keep.trans (h2.mono fun q _ e=>hX q e),h.fl⟩,fun k' hk'=>?_,fun k' y hy=>?_⟩
 ·rw [za8 (fun e=>by rw [e,hx] at hk';cases hk')]
  exact hD.1 k' hk'
 ·dsimp only
  rw [zgz (hI.at' k x' hx).1 (hI.at' k' y hy).1]
  by_cases e:k'=k
  ·subst e
   rw [hx] at hy
   cases hy
   refine ⟨_,zb3 _ _ _,rfl,fun hp=>absurd (by simp) hp,fun _=>⟨R,b,zha _ _ _⟩,fun g hg=>?_⟩
   rcases h3 g hg with h4|h4
   ·exact .inl h4
   ·exact .inr (Nat.le_trans h.keep.size h4)
  ·rw [za8 e,zga e]
   obtain ⟨y',a,b,c,d,f⟩:=hD.2 k' y hy
   exact ⟨y',a,b,fun hp=>c (by simpa [e] using hp),fun hp=>d (by simpa [e] using hp),f⟩
theorem yfd (h:EngV W fix eb db nD nI nV N st ixs vws):zjn st ybw N 0 vws vws (fun _=>True):=by
 refine ⟨fun _ h=>h,fun nm v hv=>⟨v.n,v.f,hv,fun _=>⟨rfl,rfl⟩,fun _=>⟨by omega,fun L hL q=>?_⟩⟩⟩
 refine (h.vw nm v hv).2 L (fun i hi=>?_) q
 obtain ⟨R,hR,hr⟩:=hL i hi
 refine ⟨R,hR,?_⟩
 have ef:(fun r=>R.f r+chf ybw (v.B[i]?.getD zat).nm r)=R.f:=by funext r;rw [yh3];simp
 rwa [ef] at hr
end
attribute [local go_sem ↓] Go.wp_at_zero Go.wp_at_succ
theorem ylm {D:DataW Unit} {st:St} (hhas:∀ nm:ByteArray,nm.size≤maxLen→Maps.has D (zas nm)=(st nm).isSome) (hatR:∀ (nm:ByteArray) R,nm.size≤maxLen→st nm=some R→∀ zd,D.atKey (zas nm) zd=.lit (.int .i64 R.rb)) {s:ByteArray} {o:Option Addr} {kl:Lit} {y:DataW Unit×List MemPlace} (hkey:keyOf Tryz.prog 9 (.string s)=some kl) (hv:zap (.pointer o)=some y) (hat:∀ zd,D.atKey kl zd=y.1) :
  ∃ R,st s=some R∧kl=zas s∧o=some ⟨R.rb,0,none⟩:=by
 obtain ⟨s',e,rfl,hs⟩:=zfs hkey
 cases e
 have h1:=hhas s hs
 rw [has_true_of_atKey hat] at h1
 cases hc:st s with
 | none=>rw [hc] at h1;cases h1
 | some R =>
  have h2:=hatR s R hs hc .nil
  rw [hat] at h2
  have h3:zap (.pointer o)=some (.lit (.int .i64 R.rb),y.2):=by rw [hv,← h2]
  have h4:=zdz h3
  cases h4
  exact ⟨R,rfl,rfl,rfl⟩
theorem zt5 (W:World) {fix:Nat→Prop} {eb db nD nI nV N:Nat} {st:St} {ixs:IxS} {vws:VwS} (hE:EngV W fix eb db nD nI nV N st ixs vws) (hN:N≤100000000) :
  Calls Tryz.prog 29 #[.pointer (some ⟨eb,0,none⟩)] W fun e w'=>(∃ c:Int,e=.returned (.int .i64 c))∧KeepX (zcs st ixs vws) W w'∧∃ ixs',EngV w' fix eb db nD nI nV N st ixs' vws∧∀ q,zcs st ixs' vws q→zcs st ixs vws q∨W.heap.size≤q:=by
 obtain ⟨DI,DV,hI,hV,hP,hk0,hv0⟩:=hE.begin (X:=zcs st ixs vws)
 have hplain:yb2 st N ixs (yiv st N):=fun k x hx=>by
  obtain ⟨_,_,R,hR,_⟩:=hE.idx k x hx
  exact ⟨rfl,⟨R,hR,by unfold yiv;rw [hR]⟩,rfl⟩
 have hXi:∀ k x,ixs k=some x→∀ q,zlr x.XB x.rv q→zcs st ixs vws q:=fun k x hx q hq=>.inr (.inl ⟨k,x,hx,hq⟩)
 have hvd:=yfd hE
 have c1:=hP.eng.c1
 have hoI:=hP.eng.imap
 have HI:=zac hI
 have HV:=zac hV
 have HP:=zac hP
 have Hpl:=zac hplain
 have HXi:=zac hXi
 have Hvd:=zac hvd
 have HN:=zac hN
 clear hE hI hV hP hk0 hv0 hplain hXi hvd hN
 go_enter Tryz.func29,Tryz.ntmps29
 go_wp2_with (first
  | (at_range;refine wpList_range_own _ rfl _ 69 rfl 96 97 ydn Tryz.underlying69 _ (db+1) nI DI rfl hoI ?_;intro w1 hrg1 hg1 hs1;clear hs1)
  | go_in)
 clear c1 hoI
 have Hrg1:=zac hrg1
 have HP1:=zac ((zaa HP).grown hg1)
 clear hrg1 hg1
 (try go_frame)
 go_loopw [4] (fun _ wq=>∃ left cnt ixs' ik',wq.ranges Tryz.prog 96 zap (db+1) W.heap.size nI DI left cnt∧Ph W wq fix eb db nD nI nV DI DV (zcs st ixs vws) st ixs' vws ik'∧zgl W st ybw N 0 ixs ixs' (yiv st N) ik' (fun k=>left (za9 k)=false)) (fun _ wq=>wq.rangeLeft (db+1) W.heap.size)
 case atStart=>exact ⟨_,_,_,_,zaa Hrg1,zaa HP1,zgl.start (zaa HI)⟩
 case round =>
  obtain ⟨left,cnt,ixs',ik',hrg,hPr,hD⟩:=hrel
  have HPr:=zac hPr
  have HD:=zac hD
  clear hPr hD
  go_wp2_with (first
   | (at_next;refine wpList_next_ranges _ rfl _ rfl 96 ydn zap mkK Value.pointer yls zuk (db+1) W.heap.size nI DI left cnt rfl hrg ?_ ?_)
   | go_in)
  ·intro _ hl1
   obtain ⟨wA,hwA⟩:∃ wA,wA=wr:=⟨_,rfl⟩
   subst hwA
   have HDi:=zac ((zaa HD).all hl1)
   have hPq:=zaa HPr
   have c0:=hPq.eng.rep.c0
   obtain ⟨D,hown,_,hhas,hatR⟩:=hPq.eng.rep.dir
   have hszr:W.heap.size≤wA.heap.size:=hPq.keep.size
   have Hhas:=zac hhas
   have HatR:=zac hatR
   clear hPq hrg hhas hatR
   go_wp2_with (first
    | (at_range;refine wpList_range_own _ rfl _ 68 rfl 9 66 zoo Tryz.underlying68 _ db nD D rfl hown ?_;intro w2 hrg2 hg2 hs2;clear hs2)
    | go_in)
   clear c0 hown
   have Hrg2:=zac hrg2
   have HP2:=zac ((zaa HPr).grown hg2)
   clear hrg2 hg2
   (try go_frame)
   go_loopw [5] (fun c wq=>∃ (cv:Int) (left:Lit→Bool) (cnt:Nat),c=.int .i64 cv∧wq.ranges Tryz.prog 9 zap db wA.heap.size nD D left cnt∧Ph W wq fix eb db nD nI nV DI DV (zcs st ixs vws) st ixs' vws ik') (fun _ wq=>wq.rangeLeft db wA.heap.size)
   case atStart=>exact ⟨0,_,_,rfl,zaa Hrg2,zaa HP2⟩
   case round =>
    obtain ⟨cv,left2,cnt2,rfl,hrg,hPs⟩:=hrel
    have HPs:=zac hPs
    clear hPs
    go_wp2_with (first
     | (at_next;refine wpList_next_ranges _ rfl _ rfl 9 zoo zap Value.string Value.pointer zum zuk db wA.heap.size nD D left2 cnt2 rfl hrg ?_ ?_)
     | go_in)
    ·intro _ hl2
     have hPd:=zaa HPs
     have hst:ze3 st ybw 0 (fun _=>true)=st:=yhf st
     have hdone:=Ph.done (st:=st) (ch:=ybw) (n:=0) (N:=N) (by rw [hst];exact hPd) (zaa HI) (zaa HV) (zaa Hvd) (zaa HDi)
     rw [hst] at hdone
     have HF:=zac (And.intro hPd.keep hdone)
     clear hPd hst hdone hrg
     go_wp2
     go_ret
     exact ⟨⟨_,rfl⟩,(zaa HF).1,ixs',(zaa HF).2⟩
    ·intro s o kl y1 y2 w5 cnt1 hkey hlk hv hat hrg1 hlt hg1 hs1 hen
     obtain ⟨R,hR,hkl,ho⟩:=ylm (zaa Hhas) (zaa HatR) (y:=(y1,y2)) hkey hv hat
     subst ho
     subst hkl
     have hP5:=(zaa HPs).next hrg hszr hg1
     obtain ⟨D5,hown5,_⟩:=(hP5.eng.rep.rel s R hR).2
     have Hlen:=zac (zxd R.rb R.ar R.mb R.n w5 (hP5.eng.rep.rel s R hR).1 hown5)
     have Hrg:=zac hrg
     have Hrg1':=zac hrg1
     have Hlt':=zac hlt
     have HP5:=zac hP5
     clear hrg hrg1 hlt hP5 hown5 hkey hlk hv hat hg1
     go_wp2_with (first
      | (go_at_call 37;refine (zaa Hlen).mono ?_;rintro e w6 ⟨rfl,hw⟩;replace hw:=hw.symm;subst hw)
      | go_in)
     refine ⟨⟨_,_,cnt1,rfl,zaa Hrg1',zaa HP5⟩,?_⟩
     rw [(zaa Hrg1').left_eq,(zaa Hrg).left_eq]
     exact zaa Hlt'
  ·intro p1 p2 p3 p4 o kl y1 y2 w5 cnt1 hkey hlk hv hat hrg1 hlt hg1 hs1 hen
   obtain ⟨k,x,hx,hkl,hp,ho⟩:=yil (zaa HI) (p:=(p1,p2,p3,p4)) (y:=(y1,y2)) hkey hv hat
   simp only [Prod.mk.injEq] at hp
   obtain ⟨rfl,rfl,rfl,rfl⟩:=hp
   subst ho
   subst hkl
   have hP5:=(zaa HPr).next hrg (Nat.le_refl _) hg1
   have Hrg:=zac hrg
   have Hrg1':=zac hrg1
   have Hlt':=zac hlt
   have HP5:=zac hP5
   have Hlk:=zac hlk
   have Hx:=zac hx
   clear hrg hrg1 hlt hP5 hx hkey hlk hv hat hg1
   unfold mkK at hen ⊢
   dsimp only at hen ⊢
   go_wp2_with (first
    | (go_at_call 45;refine ((zaa HP5).compact (zaa HI) (zaa Hpl) (zaa HD) (zaa Hx) (zaa Hlk) ((zaa HXi) _ _ (zaa Hx)) (zaa HN) (zaa Hrg1')).mono ?_;rintro e w7 ⟨rfl,ixs'',ik'',hR7,hP7,hD7⟩)
    | go_in)
   refine ⟨⟨_,cnt1,_,_,hR7,hP7,hD7⟩,?_⟩
   rw [hR7.left_eq,(zaa Hrg).left_eq]
   exact zaa Hlt'
end Go.Proofs.YtoifcnidhfnapaaGreatDoor
namespace Go.Proofs.YtoifcnidhfnapaaGreatDoor
namespace K
open Go.RowKit Go.Maps
theorem zqj (a b:ByteArray):zaz (a ++ b)=zaz a ++ zaz b:=by
 unfold zaz
 rw [ByteArray.data_append]
 simp
theorem zl0 (s:ByteArray) (i j:Nat):zaz (s.extract i j)=((zaz s).drop i).take (j - i):=by
 unfold zaz
 rw [ByteArray.data_extract,Array.toList_extract]
 simp [List.extract_eq_take_drop,List.map_take,List.map_drop]
theorem ye5 {O L:List Nat} {k:Nat} (hk:k<L.length):((O ++ [L[k]]) ++ (L.take k ++ L.drop (k+1))).Perm (O ++ L):=by
 rw [List.append_assoc]
 refine List.Perm.append_left O ?_
 have e:L=L.take k ++ L[k] :: L.drop (k+1):=by
  rw [← List.drop_eq_getElem_cons hk,List.take_append_drop]
 refine List.Perm.trans ?_ (List.Perm.of_eq e.symm)
 show (L[k] :: (L.take k ++ L.drop (k+1))).Perm _
 exact List.perm_middle.symm
theorem zrg (vs:ByteArray) (c:Int) (W:World) (hv:vs.size≤100) (hc:-9223372036854775808≤c∧c≤9223372036854775807) :
  Calls Tryz.prog 27 #[.string vs,.int .i64 c] W fun e w'=>∃ o,e=.returned (.string o)∧(zaz o).Perm (zaz vs)∧Below W.heap.size W w':=by
 go_enter Tryz.func27,Tryz.ntmps27
 go_wp2
 go_loopw [0,1,5] (fun v0 v1 v5 wr=>∃ (s o:ByteArray) (c:Int),v0=.string s∧v1=.int .i64 c∧v5=.string o∧s.size≤100∧o.size≤100∧(-9223372036854775808≤c∧c≤9223372036854775807)∧(zaz o ++ zaz s).Perm (zaz vs)∧Below W.heap.size W wr) (fun v0 _ _ _=>match v0 with | .string s=>s.size|_=>0)
 case atStart=>exact ⟨vs,⟨#[]⟩,c,rfl,rfl,rfl,hv,by decide,hc,List.Perm.refl _,Below.refl _ _⟩
 case round =>
  obtain ⟨s,o,c,rfl,rfl,rfl,hs,ho,hcb,hp,hb⟩:=hrel
  have Hp:=zac hp
  have Hb:=zac hb
  clear hp hb
  by_cases h0:0<s.size
  ·have h0z:(0:Int)<(s.size:Int):=by omega
   obtain ⟨k,hk⟩:∃ k:Nat,(k:Int)=za3 c s.size:=⟨(za3 c s.size).toNat,by have:=zb5 c s.size (by omega);omega⟩
   have hkr:=zb5 c s.size (by omega)
   rw [← hk] at hkr
   have hk1:(k:Int)<(s.size:Int):=by omega
   have Hpk:∀ W',Hid (Calls Tryz.prog 25 #[.int .i64 c,.int .i64 s.size] W' fun e w'=>e=.returned (.int .i64 k)∧w'=W'):=fun W'=>by
    have:=zfw c s.size W' hcb.1 hcb.2 (by omega) (by omega)
    rw [← hk] at this
    exact this
   have hm:=zb5 c 1152921504606846976 (by omega)
   obtain ⟨m,hme⟩:∃ m,m=za3 c 1152921504606846976:=⟨_,rfl⟩
   rw [← hme] at hm
   have Hpm:∀ W',Hid (Calls Tryz.prog 25 #[.int .i64 c,.int .i64 1152921504606846976] W' fun e w'=>e=.returned (.int .i64 m)∧w'=W'):=fun W'=>by
    have:=zfw c 1152921504606846976 W' hcb.1 hcb.2 (by omega) (by omega)
    rw [← hme] at this
    exact this
   clear hk hme
   go_wp2_with fail
   refine (zaa (Hpk _)).mono ?_
   rintro e w' ⟨rfl,hw⟩
   replace hw:=hw.symm
   subst hw
   go_wp2_with fail
   refine (zaa (Hpm _)).mono ?_
   rintro e w' ⟨rfl,hw⟩
   replace hw:=hw.symm
   subst hw
   go_wp2_with fail
   go_quiet (fail)
   go_wp2_with fail
   have hkl:k<s.size:=by omega
   have hkL:k<(zaz s).length:=by rw [zbx];exact hkl
   have e1:zaz (o ++ s.extract k (k+1))=zaz o ++ [(zaz s)[k]]:=by
    rw [zqj,zl0,Nat.add_sub_cancel_left,List.drop_eq_getElem_cons hkL]
    rfl
   have e2:zaz (s.extract 0 k ++ s.extract (k+1) s.size)=(zaz s).take k ++ (zaz s).drop (k+1):=by
    rw [zqj,zl0,zl0,List.drop_zero,Nat.sub_zero,List.take_of_length_le (l:=(zaz s).drop (k+1)) (by rw [List.length_drop,zbx];omega)]
   have hpn:(zaz (o ++ s.extract k (k+1)) ++ zaz (s.extract 0 k ++ s.extract (k+1) s.size)).Perm (zaz vs):=by
    rw [e1,e2]
    exact (ye5 hkL).trans (zaa Hp)
   have hlen:=hpn.length_eq
   rw [List.length_append,zbx,zbx,zbx] at hlen
   have hsz:(s.extract 0 k ++ s.extract (k+1) s.size).size<s.size:=by
    rw [← zbx,e2,List.length_append,List.length_take,List.length_drop,zbx]
    omega
   exact ⟨⟨_,_,_,rfl,rfl,rfl,by omega,by omega,⟨by omega,by omega⟩,hpn,(zaa Hb).trans ⟨rfl,rfl,rfl,Nat.le_refl _,fun _ _=>rfl⟩⟩,hsz⟩
  ·have hs0:s.size=0:=by omega
   have hes:zaz s=[]:=List.eq_nil_of_length_eq_zero (by rw [zbx];exact hs0)
   have hp:=zaa Hp
   rw [hes,List.append_nil] at hp
   have Hp2:=zac hp
   clear hp
   go_wp2
   go_ret
   exact ⟨o,rfl,zaa Hp2,zaa Hb⟩
end K
end Go.Proofs.YtoifcnidhfnapaaGreatDoor
namespace Go.Proofs.YtoifcnidhfnapaaGreatDoor
namespace K
open Go.RowKit Go.Maps Go.Sort Go.Shelf
theorem zyu (v:Value) (es:List Ent) (W:World) {s:ES} {B0:Nat} (h:s.At B0 W) (hB0:B0≤W.heap.size) (hv:zf5 W v es) (hl:es.length≤12) (hf:∀ x∈es,Fine x) (hc:s.fl.length+es.length≤400) (hM:s.M≤4000000000000000000) :
  Calls Tryz.prog 28 #[.pointer (some ⟨s.eb,0,none⟩),v] W fun e w'=>e=.returned (.bool true)∧∃ s':ES,s'.At B0 w'∧zgi s s' W w'∧s'.eb=s.eb∧s'.fl=s.fl ++ es∧s'.M=s.M+4000000000000∧zbi s.vws s'.vws:=by
 refine (zht v es W h.eng h.three hv (by omega) hf hc (by omega) (by omega) h.most (by omega)).mono ?_
 rintro e w' ⟨rfl,hk,ixs',vws',h1,h2,h3,h4,h5⟩
 rw [zls] at h1 h5
 refine ⟨rfl,⟨s.fix,s.eb,s.db,s.nI,s.nV,s.M+4000000000000,s.fl ++ es,s.R,s.S,s.T,ixs',vws'⟩,⟨?_,h.fr,h.fs,h.ft,fun x hx=>(List.mem_append.1 hx).elim (h.fine x) (hf x),by show (s.fl ++ es).length≤400;rw [List.length_append];omega,h3,fun q hq=>(h5 q hq).elim (h.low q) (fun h=>by omega),h.db0,h.fix0⟩,⟨⟨_,hk,fun q hq=>.inr (.inr (.inr (.inr hq))),fun q hq=>h.eng.xtype q hq⟩,fun q hq=>?_⟩,rfl,rfl,rfl,h2⟩
 ·have e:1+2*(s.fl ++ es).length=1+2*s.fl.length+2*es.length:=by rw [List.length_append];omega
  show EngV w' s.fix s.eb s.db 3 s.nI s.nV (1+2*(s.fl ++ es).length) _ ixs' vws'
  rw [e]
  exact h1
 ·rcases hq with hq|hq|hq|hq|hq
  ·exact .inl (.inl hq)
  ·exact .inl (.inr (.inl hq))
  ·exact .inl (.inr (.inr (.inl hq)))
  ·exact .inl (.inr (.inr (.inr (.inl hq))))
  ·exact (h5 q hq).imp (fun h=>.inr (.inr (.inr (.inr h)))) id
theorem zz6 (W:World) {s:ES} {B0:Nat} (h:s.At B0 W) (hB0:B0≤W.heap.size) :
  Calls Tryz.prog 29 #[.pointer (some ⟨s.eb,0,none⟩)] W fun e w'=>(∃ c:Int,e=.returned (.int .i64 c))∧∃ s':ES,s'.At B0 w'∧zgi s s' W w'∧s'.eb=s.eb∧s'.fl=s.fl∧s'.M=s.M∧s'.vws=s.vws:=by
 have hl:=h.len
 refine (zt5 W h.eng (by omega)).mono ?_
 rintro e w' ⟨hc,hk,ixs',h1,h5⟩
 refine ⟨hc,⟨s.fix,s.eb,s.db,s.nI,s.nV,s.M,s.fl,s.R,s.S,s.T,ixs',s.vws⟩,⟨h1,h.fr,h.fs,h.ft,h.fine,h.len,h.most,fun q hq=>(h5 q hq).elim (h.low q) (fun h=>by omega),h.db0,h.fix0⟩,⟨⟨_,hk,fun q hq=>.inr (.inr (.inr (.inr hq))),fun q hq=>h.eng.xtype q hq⟩,fun q hq=>?_⟩,rfl,rfl,rfl,rfl⟩
 rcases hq with hq|hq|hq|hq|hq
 ·exact .inl (.inl hq)
 ·exact .inl (.inr (.inl hq))
 ·exact .inl (.inr (.inr (.inl hq)))
 ·exact .inl (.inr (.inr (.inr (.inl hq))))
 ·exact (h5 q hq).imp (fun h=>.inr (.inr (.inr (.inr h)))) id
theorem zxq (vc:Value) (which order comp:Int) (w:World) (hw1:-9223372036854775808≤which∧which≤9223372036854775807) (hw2:-9223372036854775808≤order∧order≤9223372036854775807) (hw3:-9223372036854775808≤comp∧comp≤9223372036854775807)
  (h:Calls Tryz.prog 14 #[] w fun e w1=>∃ eb,e=.returned (.pointer (some ⟨eb,0,none⟩))∧Calls Tryz.prog 14 #[] w1 fun e w2=>∃ fb,e=.returned (.pointer (some ⟨fb,0,none⟩)) ∧
   Calls Tryz.prog 24 #[] w2 fun e w3=>e=.returned (.bool true) ∧
   Calls Tryz.prog 16 #[.pointer (some ⟨eb,0,none⟩),.string nmV,.string (zlp (za3 which 8)),.string noO] w3 fun e w4=>e=.returned (.bool true) ∧
   Calls Tryz.prog 27 #[.string (ya8 (za3 which 8)),.int .i64 order] w4 fun e w5=>∃ o1,e=.returned (.string o1) ∧
   Calls Tryz.prog 16 #[.pointer (some ⟨eb,0,none⟩),.string nmW,.string (zlp (za3 which 8)),.string o1] w5 fun e w6=>e=.returned (.bool true) ∧
   Calls Tryz.prog 27 #[.string (ya8 (za3 which 8)),.int .i64 (order.tdiv 5)] w6 fun e w7=>∃ o2,e=.returned (.string o2) ∧
   Calls Tryz.prog 16 #[.pointer (some ⟨fb,0,none⟩),.string nmV,.string (zlp (za3 which 8)),.string o2] w7 fun e w8=>e=.returned (.bool true) ∧
   Calls Tryz.prog 18 #[vc] w8 fun e w9=>∃ a n cap,e=.returned (.slice a n cap)∧n≤401∧∃ J:Nat→World→Prop,J 0 w9 ∧
    (∀ k W,k<n→J k W→∃ b o sv,a=some ⟨b,o,none⟩∧W.cell? ⟨b,o+k,none⟩=some sv∧Calls Tryz.prog 28 #[.pointer (some ⟨eb,0,none⟩),sv] W fun e W1=>e=.returned (.bool true)∧∃ sv1,W1.cell? ⟨b,o+k,none⟩=some sv1 ∧
     Calls Tryz.prog 28 #[.pointer (some ⟨fb,0,none⟩),sv1] W1 fun e W2=>e=.returned (.bool true)∧J (k+1) W2∧Calls Tryz.prog 29 #[.pointer (some ⟨eb,0,none⟩)] W2 fun e W3=>(∃ c:Int,e=.returned (.int .i64 c))∧J (k+1) W3) ∧
    ∀ W,J n W→Calls Tryz.prog 26 #[.pointer (some ⟨eb,0,none⟩),.string nmV,.pointer (some ⟨eb,0,none⟩),.string nmW] W fun e W1=>e=.returned (.bool true) ∧
     Calls Tryz.prog 26 #[.pointer (some ⟨eb,0,none⟩),.string nmW,.pointer (some ⟨fb,0,none⟩),.string nmV] W1 fun e W2=>e=.returned (.bool true)∧Below w.heap.size w W2) :
  Calls Tryz.prog 12 #[vc,.int .i64 which,.int .i64 order,.int .i64 comp] w fun e w'=>e=.returned (.bool true)∧Below w.heap.size w w':=by
 have Hq:∀ W,Hid (Calls Tryz.prog 15 #[.int .i64 which] W fun e w'=>e=.returned (.tuple #[.string (zlp (za3 which 8)),.string (ya8 (za3 which 8))])∧w'=W):=fun W=>zo3 which W hw1.1 hw1.2
 have H:=zac h
 have Hw3:=zac hw3
 clear h hw1 hw3
 generalize zlp (za3 which 8)=qt at *
 generalize ya8 (za3 which 8)=qv at *
 go_enter Tryz.func12,Tryz.ntmps12
 go_wp2_with fail
 refine (zaa H).mono ?_
 rintro e w1 ⟨eb,rfl,h1⟩
 have H1:=zac h1
 clear h1 H
 go_wp2_with fail
 refine (zaa H1).mono ?_
 rintro e w2 ⟨fb,rfl,h2⟩
 have H2:=zac h2
 clear h2 H1
 go_wp2_with fail
 refine (zaa H2).mono ?_
 rintro e w3 ⟨rfl,h3⟩
 have H3:=zac h3
 clear h3 H2
 go_wp2_with (first|(go_at_call 15;refine (zaa (Hq _)).mono ?_;rintro e w' ⟨rfl,hw⟩;replace hw:=hw.symm;subst hw))
 refine (zaa H3).mono ?_
 rintro e w4 ⟨rfl,h4⟩
 have H4:=zac h4
 clear h4 H3 Hq
 go_wp2_with fail
 refine (zaa H4).mono ?_
 rintro e w5 ⟨o1,rfl,h5⟩
 have H5:=zac h5
 clear h5 H4
 go_wp2_with fail
 refine (zaa H5).mono ?_
 rintro e w6 ⟨rfl,h6⟩
 have H6:=zac h6
 clear h6 H5
 go_wp2_with fail
 refine (zaa H6).mono ?_
 rintro e w7 ⟨o2,rfl,h7⟩
 have H7:=zac h7
 clear h7 H6 hw2
 go_wp2_with fail
 refine (zaa H7).mono ?_
 rintro e w8 ⟨rfl,h8⟩
 have H8:=zac h8
 clear h8 H7
 go_wp2_with fail
 refine (zaa H8).mono ?_
 rintro e w9 ⟨a,n,cap,rfl,hn,J,hJ0,hJ,hJn⟩
 have HJ0:=zac hJ0
 have HJ:=zac hJ
 have HJn:=zac hJn
 clear hJ0 hJ hJn H8
 go_wp2
 go_loopw [18] (fun i wr=>∃ k:Nat,k≤n∧i=.int .i64 k∧J k wr) (fun i _=>n - (intOf i).toNat)
 case atStart=>exact ⟨0,Nat.zero_le _,rfl,zaa HJ0⟩
 case round =>
  obtain ⟨k,hk,rfl,hjk⟩:=hrel
  by_cases hlt:k<n
  ·have hkz:(k:Int)<(n:Int):=by omega
   obtain ⟨b,o,sv,rfl,hcell,hc1⟩:=(zaa HJ) k wr hlt hjk
   have H1:=zac hc1
   clear hc1 hjk
   go_wp2_with fail
   refine (zaa H1).mono ?_
   rintro e W1 ⟨rfl,sv1,hcell1,hc2⟩
   have H2:=zac hc2
   clear hc2 hcell H1
   go_wp2_with fail
   refine (zaa H2).mono ?_
   rintro e W2 ⟨rfl,hj2,hc3⟩
   have HJ2:=zac hj2
   have H3:=zac hc3
   clear hc3 hcell1 hj2 H2
   obtain ⟨p,hp⟩:∃ p,p=za3 comp (3+(k:Int)):=⟨_,rfl⟩
   have Hp:∀ W',Hid (Calls Tryz.prog 25 #[.int .i64 comp,.int .i64 (3+(k:Int))] W' fun e w'=>e=.returned (.int .i64 p)∧w'=W'):=fun W'=>by
    have:=zfw comp (3+(k:Int)) W' (zaa Hw3).1 (zaa Hw3).2 (by omega) (by omega)
    rw [← hp] at this
    exact this
   clear hp
   by_cases hp0:p=0
   ·have hpb:(p == 0)=true:=by simp [hp0]
    clear hp0
    go_wp2_with (first|(go_at_call 25;refine (zaa (Hp _)).mono ?_;rintro e w' ⟨rfl,hw⟩;replace hw:=hw.symm;subst hw))
    refine (zaa H3).mono ?_
    rintro e W3 ⟨⟨c,rfl⟩,hj3⟩
    have HJ3:=zac hj3
    clear hj3 H3 HJ2
    go_wp2
    go_roundw
    case rel=>exact ⟨k+1,by omega,by go_num,zaa HJ3⟩
    case measure=>simp [intOf];omega
   ·have hpb:(p == 0)=false:=by simp [hp0]
    clear hp0
    go_wp2_with (first|(go_at_call 25;refine (zaa (Hp _)).mono ?_;rintro e w' ⟨rfl,hw⟩;replace hw:=hw.symm;subst hw))
    go_roundw
    case rel=>exact ⟨k+1,by omega,by go_num,zaa HJ2⟩
    case measure=>simp [intOf];omega
  ·have hkn:k=n:=by omega
   subst hkn
   have H1:=zac ((zaa HJn) wr hjk)
   clear hjk
   go_wp2_with fail
   refine (zaa H1).mono ?_
   rintro e W1 ⟨rfl,hc2⟩
   have H2:=zac hc2
   clear hc2 H1
   go_wp2_with fail
   refine (zaa H2).mono ?_
   rintro e W2 ⟨rfl,hb2⟩
   have Hb2:=zac hb2
   clear hb2 H2
   go_wp2
   go_ret
   exact ⟨rfl,zaa Hb2⟩
theorem yg3 (c:Int):(zaz (ya8 (za3 c 8))).Perm (zbl (((zgs (za3 c 8)).2.map zba.q).map (·.ts))):=yc3 (P:=fun k=>(zaz (ya8 k)).Perm (zbl (((zgs k).2.map zba.q).map (·.ts)))) (by decide +kernel) (by decide +kernel) (by decide +kernel) (by decide +kernel) (by decide +kernel) (by decide +kernel) (by decide +kernel) (by decide +kernel) c
theorem yef (c:Int):(ya8 (za3 c 8)).size≤100:=yc3 (P:=fun k=>(ya8 k).size≤100) (by decide) (by decide) (by decide) (by decide) (by decide) (by decide) (by decide) (by decide) c
theorem ES.has_other {s s':ES} {nm m:ByteArray} {v:zec} {H:List (Nat×Nat)} {B:List zbb} (h:s.has m H B) (hv:s'.vws=zib s.vws nm v) (hne:m≠nm):s'.has m H B:=by
 obtain ⟨u,h1,h2,h3⟩:=h
 exact ⟨u,by rw [hv,zbh hne];exact h1,h2,h3⟩
structure OJ (w:World) (eb fb:Nat) (bs:List (List Ent)) (u:Value) (H:List (Nat×Nat)) (B:List zbb) (k:Nat) (s t:ES) (W:World):Prop where
 two:Two w s t W
 e1:s.eb=eb
 e2:t.eb=fb
 f1:s.fl=(bs.take k).flatten
 f2:t.fl=(bs.take k).flatten
 v1:s.has nmV H B
 v2:s.has nmW H B
 v3:t.has nmV H B
 m1:s.M≤2000000000000+k*4000000000000
 m2:t.M≤2000000000000+k*4000000000000
 bt:zer W u bs
theorem zxp (vc:Value) (codes:List Int) (which order comp:Int) (w:World) (hc:zbn w vc codes) (hcl:codes.length≤9223372036854775807) (hcb:∀ c∈codes,-9223372036854775808≤c∧c≤9223372036854775807)
  (hw1:-9223372036854775808≤which∧which≤9223372036854775807) (hw2:-9223372036854775808≤order∧order≤9223372036854775807) (hw3:-9223372036854775808≤comp∧comp≤9223372036854775807) :
  Calls Tryz.prog 12 #[vc,.int .i64 which,.int .i64 order,.int .i64 comp] w fun e w'=>e=.returned (.bool true)∧Below w.heap.size w w':=by
 refine zxq vc which order comp w hw1 hw2 hw3 ?_
 have hread:=zss which
 have hfit:=zsr which
 have hsz:=zst which
 have hvars:=yg3 which
 have hvsz:=yef which
 have hbl:=zn3 codes
 have hbm:=zly codes
 have hbsh:=zjz codes
 have hbf:=zlx codes
 have hdiv:-9223372036854775808≤order.tdiv 5∧order.tdiv 5≤9223372036854775807:=by
  rcases Int.le_total 0 order with h|h
  ·rw [Int.tdiv_eq_ediv_of_nonneg h];omega
  ·have e:order.tdiv 5=-((-order).tdiv 5):=by rw [Int.neg_tdiv,Int.neg_neg]
   rw [e,Int.tdiv_eq_ediv_of_nonneg (by omega)]
   omega
 refine (zhw w).mono ?_
 rintro e w1 ⟨s,rfl,hs,hsf,hsI,hsV,hsM,hsv,hb1⟩
 refine ⟨s.eb,rfl,(zhw w1).mono ?_⟩
 rintro e w2 ⟨t,rfl,ht,htf,htI,htV,htM,htv,hb2⟩
 have H2:=ye8 hs hb1 ht hb2
 refine ⟨t.eb,rfl,(zpn w2).mono ?_⟩
 rintro e w3 ⟨rfl,hb3⟩
 have H3:=H2.below hb3
 refine ⟨rfl,(zfa nmV _ noO _ _ w3 H3.one H3.bel.size yau (by decide) (by rw [hsv]) (by omega) hsz hread hfit (.inl rfl) (by omega)).mono ?_⟩
 rintro e w4 ⟨rfl,s2,hs2,ht2,heb2,hfl2,hnI2,hnV2,hM2,v,hvw,hvH,hvB⟩
 have H4:=H3.left ht2 hs2
 have hhas:s2.has nmV (zgs (za3 which 8)).1 ((zgs (za3 which 8)).2.map zba.q):=⟨v,by rw [hvw];exact za7 _ _ _,hvH,hvB⟩
 refine ⟨rfl,(zrg _ order w4 hvsz hw2).mono ?_⟩
 rintro e w5 ⟨o1,rfl,hp1,hb5⟩
 have H5:=H4.below hb5
 have hnW:s2.vws nmW=none:=by rw [hvw,zbh (by decide),hsv]
 rw [← heb2]
 refine ⟨o1,rfl,(zfa nmW _ o1 _ _ w5 H5.one H5.bel.size yi3 (by decide) hnW (by omega) hsz hread hfit (.inr (hp1.trans hvars)) (by omega)).mono ?_⟩
 rintro e w6 ⟨rfl,s3,hs3,ht3,heb3,hfl3,hnI3,hnV3,hM3,v',hvw',hvH',hvB'⟩
 have H6:=H5.left ht3 hs3
 have hhas3:s3.has nmV (zgs (za3 which 8)).1 ((zgs (za3 which 8)).2.map zba.q):=ES.has_other hhas hvw' (by decide)
 have hhasW:s3.has nmW (zgs (za3 which 8)).1 ((zgs (za3 which 8)).2.map zba.q):=⟨v',by rw [hvw'];exact za7 _ _ _,hvH',hvB'⟩
 refine ⟨rfl,(zrg _ (order.tdiv 5) w6 hvsz hdiv).mono ?_⟩
 rintro e w7 ⟨o2,rfl,hp2,hb7⟩
 have H7:=H6.below hb7
 refine ⟨o2,rfl,(zfa nmV _ o2 _ _ w7 H7.two H7.bel.size yau (by decide) (by rw [htv]) (by omega) hsz hread hfit (.inr (hp2.trans hvars)) (by omega)).mono ?_⟩
 rintro e w8 ⟨rfl,t2,ht2',htt2,hebt2,hflt2,hnIt,hnVt,hMt,vt,hvwt,hvHt,hvBt⟩
 have H8:=H7.right htt2 ht2'
 have hhast:t2.has nmV (zgs (za3 which 8)).1 ((zgs (za3 which 8)).2.map zba.q):=⟨vt,by rw [hvwt];exact za7 _ _ _,hvHt,hvBt⟩
 refine ⟨rfl,(zrt vc codes w8 (hc.below H8.bel) hcl hcb).mono ?_⟩
 rintro e w9 ⟨u,rfl,hu0,hb9⟩
 have hu:=hu0.stable
 obtain ⟨a,cap,rfl,hcap,_⟩:=hu0
 have H9:=H8.below hb9
 generalize zf6 codes=bs at *
 generalize (zgs (za3 which 8)).1=Hq at *
 generalize (zgs (za3 which 8)).2.map zba.q=Bq at *
 refine ⟨a,bs.length,cap,rfl,hbl,fun k W=>∃ s' t',OJ w s2.eb t.eb bs (.slice a bs.length cap) Hq Bq k s' t' W,⟨s3,t2,H9,heb3,hebt2,by rw [hfl3,hfl2,hsf];rfl,by rw [hflt2,htf];rfl,hhas3,hhasW,hhast,by rw [hM3,hM2,hsM];omega,by rw [hMt,htM];omega,hu⟩,fun k W hk hj=>?_,fun W hj=>?_⟩
 ·obtain ⟨s',t',j⟩:=hj
  obtain ⟨a',cap',e,hx⟩:=j.bt W (zew.refl W)
  cases e
  obtain ⟨b,o,sv,rfl,hcell,hents⟩:=hx k hk
  have hbe:bs[k]?.getD []=bs[k]:=by simp [hk]
  rw [hbe] at hents
  have hmem:bs[k]∈bs:=List.getElem_mem hk
  have hsum:(bs.take k).flatten.length+bs[k].length≤400:=by
   have:=zgm bs (k+1)
   rw [zca hk,List.length_append] at this
   omega
  refine ⟨b,o,sv,rfl,hcell,?_⟩
  have m1:=j.m1
  have m2:=j.m2
  have c1:=zyu sv bs[k] W j.two.one j.two.bel.size hents (hbsh _ hmem) (hbf _ hmem) (by rw [j.f1];exact hsum) (by omega)
  rw [j.e1] at c1
  refine c1.mono ?_
  rintro e W1 ⟨rfl,s4,hs4,ht4,heb4,hfl4,hM4,hsame4⟩
  have T1:=j.two.left ht4 hs4
  have hbt1:=j.bt.keep ht4.keepC
  obtain ⟨a',cap',e,hx1⟩:=hbt1 W1 (zew.refl W1)
  cases e
  obtain ⟨b1,o1',sv1,hb1',hcell1,hents1⟩:=hx1 k hk
  cases hb1'
  rw [hbe] at hents1
  refine ⟨rfl,sv1,hcell1,?_⟩
  have c2:=zyu sv1 bs[k] W1 T1.two T1.bel.size hents1 (hbsh _ hmem) (hbf _ hmem) (by rw [j.f2];exact hsum) (by omega)
  rw [j.e2] at c2
  refine c2.mono ?_
  rintro e W2 ⟨rfl,t4,ht4',htt4,hebt4,hflt4,hMt4,hsamet4⟩
  have T2:=T1.right htt4 ht4'
  have hbt2:=hbt1.keep htt4.keepC
  have j2:OJ w s2.eb t.eb bs (.slice (some ⟨b,o,none⟩) bs.length cap) Hq Bq (k+1) s4 t4 W2:=⟨T2,heb4,hebt4,by rw [hfl4,j.f1,zca hk],by rw [hflt4,j.f2,zca hk],hsame4.has j.v1,hsame4.has j.v2,hsamet4.has j.v3,by rw [hM4];omega,by rw [hMt4];omega,hbt2⟩
  refine ⟨rfl,⟨s4,t4,j2⟩,?_⟩
  have c3:=zz6 W2 T2.one T2.bel.size
  rw [heb4] at c3
  refine c3.mono ?_
  rintro e W3 ⟨hcc,s5,hs5,ht5,heb5,hfl5,hM5,hvw5⟩
  have T3:=T2.left ht5 hs5
  refine ⟨hcc,s5,t4,T3,heb5,hebt4,by rw [hfl5];exact j2.f1,j2.f2,?_,?_,j2.v3,by rw [hM5];exact j2.m1,j2.m2,hbt2.keep ht5.keepC⟩
  ·obtain ⟨u,h1,h2,h3⟩:=j2.v1
   exact ⟨u,by rw [hvw5];exact h1,h2,h3⟩
  ·obtain ⟨u,h1,h2,h3⟩:=j2.v2
   exact ⟨u,by rw [hvw5];exact h1,h2,h3⟩
 ·obtain ⟨s',t',j⟩:=hj
  have c1:=znn nmV nmW W j.two.one j.two.one (fun nm r=>rfl) j.v1 j.v2
  rw [j.e1] at c1
  refine c1.mono ?_
  rintro e W1 ⟨rfl,hb1⟩
  have T1:=j.two.below hb1
  have c2:=znn nmW nmV W1 T1.one T1.two (fun nm r=>by rw [j.f1,j.f2]) j.v2 j.v3
  rw [j.e1,j.e2] at c2
  refine ⟨rfl,c2.mono ?_⟩
  rintro e W2 ⟨rfl,hb2⟩
  exact ⟨rfl,T1.bel.trans (hb2.mono T1.bel.size)⟩
end K
end Go.Proofs.YtoifcnidhfnapaaGreatDoor
