import Derived.Test.YtoifcnidhfnapabGreatDoorB01
import Derived.Test.YtoifcnidhfnapabGreatDoorB02
import Derived.Test.YtoifcnidhfnapabGreatDoorB03
import Derived.Test.YtoifcnidhfnapabGreatDoorB04
import Derived.Test.YtoifcnidhfnapabGreatDoorB05
import Derived.Test.YtoifcnidhfnapabGreatDoorB06
import Derived.Test.YtoifcnidhfnapabGreatDoorB07
import Derived.Test.YtoifcnidhfnapabGreatDoorB08
import Derived.Test.YtoifcnidhfnapabGreatDoorB09
import Derived.Test.YtoifcnidhfnapabGreatDoorB10
import Derived.Test.YtoifcnidhfnapabGreatDoorB11
import Derived.Test.YtoifcnidhfnapabGreatDoorB12
import Derived.Test.YtoifcnidhfnapabGreatDoorB13
import Derived.Test.YtoifcnidhfnapabGreatDoorB14
import Derived.Test.YtoifcnidhfnapabGreatDoorB15
import Derived.Test.YtoifcnidhfnapabGreatDoorB16
import Derived.Test.YtoifcnidhfnapabGreatDoorB17
import Derived.Test.YtoifcnidhfnapabGreatDoorB18
import Derived.Test.YtoifcnidhfnapabGreatDoorB19
import Derived.Test.YtoifcnidhfnapabGreatDoorB20
import Derived.Test.YtoifcnidhfnapabGreatDoorB21
import Derived.Test.YtoifcnidhfnapabGreatDoorB22
import Derived.Test.YtoifcnidhfnapabGreatDoorB23
import Derived.Test.YtoifcnidhfnapabGreatDoorB24
import Derived.Test.YtoifcnidhfnapabGreatDoorB25
import Derived.Test.YtoifcnidhfnapabGreatDoorB26
import Derived.Test.YtoifcnidhfnapabGreatDoorB27
import Derived.Test.YtoifcnidhfnapabGreatDoorB28
import Derived.Test.YtoifcnidhfnapabGreatDoorB29
import Derived.Test.YtoifcnidhfnapabGreatDoorB30
import Derived.Test.YtoifcnidhfnapabGreatDoorB31
import Derived.Test.YtoifcnidhfnapabGreatDoorB32
import Derived.Test.YtoifcnidhfnapabGreatDoorB33
import Derived.Test.YtoifcnidhfnapabGreatDoorB34
import Derived.Test.YtoifcnidhfnapabGreatDoorB35
import Derived.Test.YtoifcnidhfnapabGreatDoorB36
import Derived.Test.YtoifcnidhfnapabGreatDoorB37
import Derived.Test.YtoifcnidhfnapabGreatDoorB38
import Derived.Test.YtoifcnidhfnapabGreatDoorB39
import Derived.Test.YtoifcnidhfnapabGreatDoorB40
import Derived.Test.YtoifcnidhfnapabGreatDoorB41
import Derived.Test.YtoifcnidhfnapabGreatDoorB42
import Derived.Test.YtoifcnidhfnapabGreatDoorB43
import Derived.Test.YtoifcnidhfnapabGreatDoorB44
import Derived.Test.YtoifcnidhfnapabGreatDoorB45
import Derived.Test.YtoifcnidhfnapabGreatDoorB46
import Derived.Test.YtoifcnidhfnapabGreatDoorB47
import Derived.Laws.CopyRow
import Derived.Deep.CutRange
set_option linter.unusedVariables false
set_option linter.unusedSimpArgs false
set_option maxRecDepth 100000
set_option maxHeartbeats 16000000
namespace Go.Proofs.YtoifcnidhfnapabGreatDoor
namespace K
open Go.RowKit Go.Maps
theorem zxw (v u:Value) (zs:List Int) (w:World) (hv:zbu w v zs) (hu:zbu w u zs) (hl:zs.length≤1000000000) :
  Calls Tryz.prog 27 #[v,u] w fun e w'=>e=.returned (.bool true)∧za9 w w':=by
 refine (zlj v u zs zs w hv hu hl hl).mono ?_
 rintro e w' ⟨rfl,h⟩
 exact ⟨by simp [zfe],h⟩
theorem zkj (v u:Value) (rs:List (List Int×Int)) (w:World) (hv:zc3 w v rs) (hu:zc3 w u rs) (hl:rs.length≤1000000000) (hs:zg8 rs) :
  Calls Tryz.prog 17 #[v,u] w fun e w'=>e=.returned (.bool true)∧za9 w w':=by
 obtain ⟨a,cap,rfl,hc⟩:=hv
 obtain ⟨a',cap',rfl,hc'⟩:=hu
 have Hc:=zac hc
 have Hc':=zac hc'
 have Hs:=zac hs
 clear hc hc' hs
 go_enter Tryz.func17,Tryz.ntmps17
 go_wp2
 go_loopw [5] (fun i wr=>∃ k:Nat,k≤rs.length∧i=.int .i64 k∧za9 w wr) (fun i _=>rs.length - (intOf i).toNat)
 case atStart=>exact ⟨0,Nat.zero_le _,rfl,za9.refl _⟩
 case round =>
  obtain ⟨k,hk,rfl,hdr⟩:=hrel
  have Hdr:=zac hdr
  clear hdr
  by_cases hlt:k<rs.length
  ·obtain ⟨b,o,sv,rfl,h1,h2,h3⟩:=(zaa Hc) k hlt
   obtain ⟨b',o',sv',rfl,h1',h2',h3'⟩:=(zaa Hc') k hlt
   have hx:(k:Int)<(rs.length:Int):=by omega
   obtain ⟨z,hz⟩:∃ z,z=(rs[k]?.getD ([],0)).1:=⟨_,rfl⟩
   obtain ⟨q,hq⟩:∃ q,q=(rs[k]?.getD ([],0)).2:=⟨_,rfl⟩
   rw [← (zaa Hdr).cell] at h1 h3 h1' h3'
   rw [← hz] at h2 h2'
   rw [← hq] at h3 h3'
   have HZ:=zac hz
   have H2:=zac h2
   have H2':=zac h2'
   have hqq:(q != q)=false:=by simp
   clear hz hq h2 h2'
   have hB:zfe z z=true:=by simp [zfe]
   go_wp2_with fail
   have hlz:=zjh (zaa Hs) hlt (zaa HZ)
   go_quiet ((go_at_call 27;exact zgm (zxw _ _ z _ (by exact ((zaa H2).drawn (zaa Hdr)).drewN _) (by exact ((zaa H2').drawn (zaa Hdr)).drewN _) hlz)))
   go_wp2_with fail
   go_quiet (fail)
   go_wp2
   exact ⟨⟨k+1,by omega,by go_num,(zaa Hdr).thenN _⟩,by simp [intOf];omega⟩
  ·go_wp2
   go_ret
   exact ⟨by simp,zaa Hdr⟩
end K
end Go.Proofs.YtoifcnidhfnapabGreatDoor
namespace Go.Proofs.YtoifcnidhfnapabGreatDoor
open Go.RowKit Go.Maps Go.Sort Go.Shelf
attribute [local go_sem] Oper.semAt_some
section
attribute [local go_sem ↓] zgw
end
theorem zb7:∀ (xs ys:List Row),ze4 xs→ze4 ys→(∀ r,r∈xs↔r∈ys)→xs=ys
 | [],[],_,_,_=>rfl
 | [],y :: ys,_,_,h=>by have:=(h y).2 (by simp);simp at this
 | x :: xs,[],_,_,h=>by have:=(h x).1 (by simp);simp at this
 | x :: xs,y :: ys,hx,hy,h=>by
  have hx1:=List.pairwise_cons.1 hx
  have hy1:=List.pairwise_cons.1 hy
  have irr:∀ a:Row,¬ ltR a a:=fun a h=>by unfold ltR at h;omega
  have asym:∀ a b:Row,ltR a b→ltR b a→False:=fun a b h1 h2=>by unfold ltR at *;omega
  have e:x=y:=by
   rcases List.mem_cons.1 ((h x).1 (by simp)) with e|e
   ·exact e
   ·rcases List.mem_cons.1 ((h y).2 (by simp)) with e2|e2
    ·exact e2.symm
    ·exact (asym _ _ (hy1.1 x e) (hx1.1 y e2)).elim
  subst e
  congr 1
  refine zb7 xs ys hx1.2 hy1.2 (fun r=>⟨fun hr=>?_,fun hr=>?_⟩)
  ·rcases List.mem_cons.1 ((h r).1 (List.mem_cons_of_mem _ hr)) with e|e
   ·subst e;exact (irr _ (hx1.1 _ hr)).elim
   ·exact e
  ·rcases List.mem_cons.1 ((h r).2 (List.mem_cons_of_mem _ hr)) with e|e
   ·subst e;exact (irr _ (hy1.1 _ hr)).elim
   ·exact e
end Go.Proofs.YtoifcnidhfnapabGreatDoor
namespace Go.Proofs.YtoifcnidhfnapabGreatDoor
namespace K
open Go.RowKit Go.Maps Go.Sort Go.Shelf
theorem zd8.trans {a b c:World} (h:zd8 a b) (k:zd8 b c):zd8 a c:=
 ⟨Nat.le_trans h.size k.size,fun q cs t p hq h1 h2=>(k.blk q cs t p ((h.blk q cs t p hq h1 h2).trans hq) h1 h2).trans (h.blk q cs t p hq h1 h2)⟩
end K
end Go.Proofs.YtoifcnidhfnapabGreatDoor
namespace Go.Proofs.YtoifcnidhfnapabGreatDoor
open Go.RowKit Go.Maps Go.Sort Go.Shelf
attribute [local go_sem] Oper.semAt_some
namespace H
section
attribute [local go_sem ↓] zgw
end
theorem zb7:∀ (xs ys:List H4),ze4 xs→ze4 ys→(∀ r,r∈xs↔r∈ys)→xs=ys
 | [],[],_,_,_=>rfl
 | [],y :: ys,_,_,h=>by have:=(h y).2 (by simp);simp at this
 | x :: xs,[],_,_,h=>by have:=(h x).1 (by simp);simp at this
 | x :: xs,y :: ys,hx,hy,h=>by
  have hx1:=List.pairwise_cons.1 hx
  have hy1:=List.pairwise_cons.1 hy
  have irr:∀ a:H4,¬ ltR a a:=fun a h=>by unfold ltR at h;omega
  have asym:∀ a b:H4,ltR a b→ltR b a→False:=fun a b h1 h2=>by unfold ltR at *;omega
  have e:x=y:=by
   rcases List.mem_cons.1 ((h x).1 (by simp)) with e|e
   ·exact e
   ·rcases List.mem_cons.1 ((h y).2 (by simp)) with e2|e2
    ·exact e2.symm
    ·exact (asym _ _ (hy1.1 x e) (hx1.1 y e2)).elim
  subst e
  congr 1
  refine zb7 xs ys hx1.2 hy1.2 (fun r=>⟨fun hr=>?_,fun hr=>?_⟩)
  ·rcases List.mem_cons.1 ((h r).1 (List.mem_cons_of_mem _ hr)) with e|e
   ·subst e;exact (irr _ (hx1.1 _ hr)).elim
   ·exact e
  ·rcases List.mem_cons.1 ((h r).2 (List.mem_cons_of_mem _ hr)) with e|e
   ·subst e;exact (irr _ (hy1.1 _ hr)).elim
   ·exact e
end H
end Go.Proofs.YtoifcnidhfnapabGreatDoor
namespace Go.Proofs.YtoifcnidhfnapabGreatDoor
namespace K
open Go.RowKit Go.Maps Go.Sort Go.Shelf
theorem zs8 {f g:H4→Int} (h:∀ q,WfH q→f q=g q) {ys zs:List H4} (hy:H.zhf f ys) (hz:H.zhf g zs) (n:Nat):H.zcc n f ys=H.zcc n g zs:=by
 have e:ys=zs:=H.zb7 ys zs hy.rising hz.rising fun r=>by
  constructor
  ·intro hr
   have hw:=hy.wf r hr
   exact (hz.mem r hw).2 (by rw [← h r hw];exact (hy.mem r hw).1 hr)
  ·intro hr
   have hw:=hz.wf r hr
   exact (hy.mem r hw).2 (by rw [h r hw];exact (hz.mem r hw).1 hr)
 subst e
 unfold H.zcc
 exact List.map_congr_left fun y hy'=>by rw [h y (hy.wf y hy')]
end K
end Go.Proofs.YtoifcnidhfnapabGreatDoor
namespace Go.Proofs.YtoifcnidhfnapabGreatDoor
namespace K
open Go.RowKit Go.Maps
def opp (x:Ent):Ent:={ x with wt:=-x.wt }
theorem zy3 {x:Ent} (h:Fine x):Fine (opp x):=by
 have h1:=h.lo
 have h2:=h.hi
 exact ⟨h.name,h.wf,by show -2≤-x.wt;omega,by show -x.wt≤2;omega⟩
theorem zzf (es:List Ent) (nm:ByteArray) (r:Row):zbr (es.map opp) nm r=-(zbr es nm r):=by
 induction es with
 | nil=>rfl
 | cons x es ih =>
  simp only [List.map_cons,zbr,ih]
  show (if x.nm=nm∧zc5 x.row=r then -x.wt else 0) + -zbr es nm r=_
  by_cases h:x.nm=nm∧zc5 x.row=r
  ·rw [if_pos h,if_pos h];omega
  ·rw [if_neg h,if_neg h];omega
end K
end Go.Proofs.YtoifcnidhfnapabGreatDoor
namespace Go.Proofs.YtoifcnidhfnapabGreatDoor
namespace K
open Go.RowKit Go.Maps Go.Sort Go.Shelf
theorem zlz.cellsAt {w:World} {B m:Nat} {v:Value} {es:List Ent} (hd:zlz w B m v es):∃ g cap,v=.slice (some ⟨g,0,none⟩) es.length cap∧g<w.heap.size∧∀ i (hi:i<es.length),∃ b,w.cell? ⟨g,i*3,none⟩=some (.string es[i].nm)∧w.cell? ⟨g,i*3+1,none⟩=some (.slice (some ⟨b,0,none⟩) es[i].row.length es[i].row.length)∧w.cell? ⟨g,i*3+2,none⟩=some (.int .i64 es[i].wt)∧w.heap[b]? = some (.cells (es[i].row.map (Value.int .i64)).toArray 2 (0,0))∧B≤b∧b<w.heap.size:=by
 obtain ⟨g,cap,cur,xs,rfl,h1,h2,h3,h4,h5,h6,h7⟩:=hd
 subst h6
 refine ⟨g,cap,by simp,(Array.getElem?_eq_some_iff.1 h3).1,fun i hi=>?_⟩
 have hi':i<xs.length:=by simpa using hi
 have hcell:∀ j,j<3→cur[i*3+j]? = (ygn xs[i])[j]?:=by
  intro j hj
  rw [← zol xs i j hi' hj,← h4,List.getElem?_take_of_lt (by omega)]
  simp
 have hx:(xs.map (·.1))[i]=xs[i].1:=by simp
 rw [hx]
 have hm:=List.getElem_mem hi'
 refine ⟨xs[i].2,?_,?_,?_,h5 _ hm,h7 _ hm,(Array.getElem?_eq_some_iff.1 (h5 _ hm)).1⟩
 ·rw [zab h3];exact hcell 0 (by omega)
 ·rw [zab h3];exact hcell 1 (by omega)
 ·rw [zab h3];exact hcell 2 (by omega)
theorem zdd.below {w w':World} {B:Nat} {v:Value} {bs:List (List Ent)} (h:zdd w B v bs) (hb:Below w.heap.size w w'):zdd w' B v bs:=by
 obtain ⟨a,cap,rfl,h1,hx⟩:=h
 refine ⟨a,cap,rfl,h1,fun i hi=>?_⟩
 obtain ⟨b,sv,m,rfl,h2,hc,hd,cur,hcur⟩:=hx i hi
 have hbl:b<w.heap.size:=(Array.getElem?_eq_some_iff.1 hcur).1
 exact ⟨b,sv,m,rfl,h2,(hb.cell (p:=⟨b,i,none⟩) hbl).trans hc,hd.kept (za5 hb none) (fun j e=>by cases e),cur,(hb.block b hbl).trans hcur⟩
def ymj (wr:World) (base:Nat) (vo:Value) (es:List Ent):Prop:=
 ∃ xs,wr.ownsRow base 49 3 vo xs.length (zgr xs)∧zh8 wr xs∧xs.map (·.1)=es.map opp
theorem ymj.ents {w:World} {base:Nat} {vo:Value} {es:List Ent} (h:ymj w base vo es):zds w vo (es.map opp):=by
 obtain ⟨xs,h1,h2,h3⟩:=h
 rw [← h3]
 rcases h1.2 with ⟨rfl,h0⟩|⟨g,cap,cur,rfl,hb,hg,_,_,_,ht⟩
 ·have:xs=[]:=List.eq_nil_of_length_eq_zero h0
  subst this
  exact ⟨none,0,rfl,fun i hi=>by simp at hi⟩
 ·exact zk1 hg ht h2 cap
theorem znb (v:Value) (es:List Ent) (w:World) {B m:Nat} (hd:zlz w B m v es) (hl:es.length≤64) (hf:∀ x∈es,Fine x) :
  Calls Tryz.prog 16 #[v] w fun e w'=>∃ u,e=.returned u∧zds w' u (es.map opp)∧Below w.heap.size w w':=by
 have Hd:=zac hd
 obtain ⟨g,cg,rfl,hgl,_⟩:=hd.cellsAt
 have Hf:=zac hf
 clear hd hf
 obtain ⟨i39,hi,hz0,hz1,hz2⟩:=info_parts Tryz.info49
 go_enter Tryz.func16,Tryz.ntmps16
 go_wp2
 go_loopw [3,4] (fun vo i wr=>∃ k:Nat,k≤es.length∧i=.int .i64 k∧ymj wr w.heap.size vo (es.take k)∧Below w.heap.size w wr) (fun _ i _=>es.length - (intOf i).toNat)
 case atStart =>
  exact ⟨0,Nat.zero_le _,rfl,⟨[],World.ownsRow_nil _ _ _ _,fun p hp=>by simp at hp,by simp⟩,Below.refl _ _⟩
 case round =>
  obtain ⟨k,hk,rfl,hI,hBl⟩:=hrel
  by_cases hlt:k<es.length
  ·have hx:(k:Int)<(es.length:Int):=by omega
   obtain ⟨g',cg',e',_,hcs⟩:=((zaa Hd).kept (za5 hBl none) (fun j e=>by cases e)).cellsAt
   cases e'
   obtain ⟨rb,c0,c1,c2,hrb,hrB,hrl⟩:=hcs k hlt
   have htk:es.take (k+1)=es.take k ++ [es[k]]:=List.take_succ_eq_append_getElem hlt
   have hfk:=(zaa Hf) _ (List.getElem_mem hlt)
   have hlo:=hfk.lo
   have hhi:=hfk.hi
   obtain ⟨xs,h1,h2,h3⟩:=hI
   have hxl:xs.length≤64:=by have:=congrArg List.length h3;simp at this;omega
   have Htk:=zac htk
   have H1:=zac h1
   have H2:=zac h2
   have H3:=zac h3
   have HBl:=zac hBl
   have hs2:=hBl.size
   have Hrb:=zac hrb
   generalize hxe:es[k]=x at *
   obtain ⟨nm,row,wt⟩:=x
   dsimp only at c0 c1 c2 hlo hhi
   generalize hob:Obj.cells #[.string nm,.slice (some ⟨rb,0,none⟩) row.length row.length,.int .i64 (-wt)] 49=ob
   have hkept:Below wr.heap.size wr ((wr.alloc ob).alloc ob):=((Below.refl _ _).alloc (Nat.le_refl _) _).alloc (by simp) _
   have H1':=zac (h1.kept (za5 hkept none) (by cases hx:u3.ownBlock <;> simp))
   have H2':=zac (h2.kept (za5 hkept none) (fun j e=>by cases e))
   have hrb2:((wr.alloc ob).alloc ob).heap[rb]? = some (.cells (row.map (Value.int .i64)).toArray 2 (0,0)):=(hkept.block rb hrl).trans hrb
   have Hrb2:=zac hrb2
   have HB2:=zac ((hBl.alloc (by omega) ob).alloc (by simp;omega) ob)
   subst hob
   have hnew:=zma (wr.alloc (.cells #[.string nm,.slice (some ⟨rb,0,none⟩) row.length row.length,.int .i64 (-wt)] 49)) (.string nm) (.slice (some ⟨rb,0,none⟩) row.length row.length) (.int .i64 (-wt)) 49
   rw [World.size_alloc] at hnew
   clear hcs h1 h2 h3 hBl hrb htk hxe hfk hkept hrb2
   go_wp2_with (first
    | (at_builtin;refine wpList_append_own_at _ rfl _ _ 40 rfl w.heap.size 49 i39 _ 3 48 Tryz.underlying40 hi hz0 hz1 hz2 rfl (by decide) _ _ _ rfl (zaa H1') ⟨wr.heap.size+1,0,none⟩ 1 1 [.string nm,.slice (some ⟨rb,0,none⟩) row.length row.length,.int .i64 (-wt)] rfl rfl hnew (by simp [Value.oneCell']) (by unfold maxLen;omega) (by omega) (by simp;omega) ?_;intro vo' w5 ho5 hgr5 hnil5 hloc5))
   have HJ5:=zac (show ymj w5 w.heap.size vo' (es.take (k+1)) from by
    have hrow:∀ j,u3.ownBlock=some j→∃ cur t,((wr.alloc (.cells #[.string nm,.slice (some ⟨rb,0,none⟩) row.length row.length,.int .i64 (-wt)] 49)).alloc (.cells #[.string nm,.slice (some ⟨rb,0,none⟩) row.length row.length,.int .i64 (-wt)] 49)).heap[j]? = some (.cells cur t (0,0))∧t≠2:=fun j e=>by
     obtain ⟨_,cur,c⟩:=zcq (zaa H1') j e
     exact ⟨cur,49,c,by decide⟩
    refine ⟨xs ++ [(⟨nm,row,-wt⟩,rb)],?_,?_,?_⟩
    ·rw [zom,List.length_append];exact ho5
    ·intro p hp
     rcases List.mem_append.1 hp with hp|hp
     ·exact (zaa H2').kept hgr5 hrow p hp
     ·simp at hp;subst hp
      exact (show zh8 _ [((⟨nm,row,-wt⟩:Ent),rb)] from fun p hp=>by simp at hp;subst hp;exact zaa Hrb2).kept hgr5 hrow (⟨nm,row,-wt⟩,rb) (by simp)
    ·rw [zaa Htk,List.map_append,List.map_append,zaa H3]
     rfl)
   have HB5:=zac ((zaa HB2).grown hgr5 (zaa HB2).size (fun j e=>(zcq (zaa H1') j e).1))
   clear ho5 hgr5 hnil5 hloc5 hnew
   go_wp2
   exact ⟨⟨k+1,by omega,by go_num,zaa HJ5,zaa HB5⟩,by simp [intOf];omega⟩
  ·have hke:k=es.length:=by omega
   subst hke
   have HF:Hid (zds wr u3 (es.map opp)):=by
    have:=hI.ents
    rw [List.take_length] at this
    exact this
   have HB:=zac hBl
   clear hI hBl
   go_wp2
   go_ret
   exact ⟨_,rfl,zaa HF,zaa HB⟩
theorem zdd.keepC {w w':World} {B:Nat} {v:Value} {bs:List (List Ent)} (h:zdd w B v bs) (hk:zd8 w w'):zdd w' B v bs:=by
 obtain ⟨a,cap,rfl,h1,hx⟩:=h
 refine ⟨a,cap,rfl,h1,fun i hi=>?_⟩
 obtain ⟨b,sv,m,rfl,h2,hc,hd,cur,hcur⟩:=hx i hi
 have hblk:=hk.blk b _ _ _ hcur (by decide) (by decide)
 exact ⟨b,sv,m,rfl,h2,(World.cell?_of_block (a:=⟨b,i,none⟩) hblk).trans hc,hd.keepC hk,cur,hblk.trans hcur⟩
structure StU (B0:Nat) (W:World) (fix:Nat→Prop) (eb db nI nV M:Nat) (fl:List Ent) (R S T:Rel) (ixs:IxS) (vws:VwS):Prop where
 eng:EngV W fix eb db 3 nI nV (1+2*fl.length) (stF R S T fl) ixs vws
 fr:zgi R 2
 fs:zgi S 2
 ft:zgi T 1
 fine:∀ x∈fl,Fine x
 bnd:∀ nm r,-1000≤zbr fl nm r∧zbr fl nm r≤1000
 most:zdf M vws
 low:∀ q,zcs (stF R S T fl) ixs vws q→B0≤q
 db0:B0≤db
 fix0:∀ q,fix q→B0≤q
section
variable {B0:Nat} {W:World} {fix:Nat→Prop} {eb db nI nV M:Nat} {fl:List Ent} {R S T:Rel} {ixs:IxS} {vws:VwS}
theorem Stg.toU (h:Stg B0 W fix eb db nI nV M fl R S T ixs vws):StU B0 W fix eb db nI nV M fl R S T ixs vws:=
 ⟨h.eng,h.fr,h.fs,h.ft,h.fine,fun nm r=>by have h1:=zji h.fine nm r;have h2:=h.len;omega,h.most,h.low,h.db0,h.fix0⟩
theorem StU.three (h:StU B0 W fix eb db nI nV M fl R S T ixs vws):zl1 (zah R fl nmR) (zah S fl nmS) (zah T fl nmT) fl.length:=by
 have:=(zq5 h.fr h.fs h.ft).add h.fine
 rwa [Nat.zero_add] at this
theorem StU.below (h:StU B0 W fix eb db nI nV M fl R S T ixs vws) {W':World} (hb:Below W.heap.size W W'):StU B0 W' fix eb db nI nV M fl R S T ixs vws:=
 ⟨h.eng.below hb,h.fr,h.fs,h.ft,h.fine,h.bnd,h.most,h.low,h.db0,h.fix0⟩
theorem StU.rowsL (h:StU B0 W fix eb db nI nV M fl R S T ixs vws) {nm:ByteArray} {Q:Rel} (hQ:stF R S T fl nm=some Q):znn Q.f (zbf Q.f ((if Q.ar=1 then zhl else zfj).filter fun r=>decide (Q.f r≠0))):=by
 have h3:=h.three
 refine ⟨_,?_,rfl⟩
 rcases zhs hQ with ⟨_,rfl⟩|⟨_,rfl⟩|⟨_,rfl⟩
 ·rw [if_neg (by rw [h3.r.ar_];decide)];exact (zel h3.r zew zi3).1
 ·rw [if_neg (by rw [h3.s.ar_];decide)];exact (zel h3.s zew zi3).1
 ·rw [if_pos h3.t.ar_];exact (zel h3.t zj6 ztm).1
theorem StU.val (h:StU B0 W fix eb db nI nV M fl R S T ixs vws) {nm:ByteArray} {v:zda} (hv:vws nm=some v) (q:H4):BitVec.ofInt 64 (v.f q)=zts (v.B.map (·.ts)) (v.H.map (·.1)) (zde (stF R S T fl) v.B) q:=by
 obtain ⟨hV,hH⟩:=h.eng.vw nm v hv
 refine hH _ (fun i hi=>?_) q
 have hmem:v.B[i]?.getD zat∈v.B:=by simp [hi]
 obtain ⟨Q,hQ,_⟩:=hV.fit.rel _ hmem
 refine ⟨Q,hQ,?_⟩
 unfold zde
 rw [hQ]
 exact h.rowsL hQ
theorem StU.range (h:StU B0 W fix eb db nI nV M fl R S T ixs vws) {nm:ByteArray} {v:zda} (hv:vws nm=some v) {q:H4} (hq:WfH q):-9223372036854775808≤v.f q∧v.f q≤9223372036854775807:=(h.eng.vw nm v hv).1.map.range hq
theorem StU.supp (h:StU B0 W fix eb db nI nV M fl R S T ixs vws) {nm:ByteArray} {v:zda} (hv:vws nm=some v):∀ q,WfH q→v.f q≠0→q∈zqf:=by
 intro q hq h0
 refine zpz (L:=zde (stF R S T fl) v.B) (A:=v.B.map (·.ts)) (H:=v.H.map (·.1)) (fun i _=>zkh) fun hz=>h0 ?_
 rw [← h.val hv q] at hz
 exact zei (h.range hv hq) (by omega) hz
theorem StU.map256 (h:StU B0 W fix eb db nI nV M fl R S T ixs vws) {nm:ByteArray} {v:zda} (hv:vws nm=some v):zeo W v.mb 256 v.f:=by
 have:=(h.eng.vw nm v hv).1.map.tight zqf (h.supp hv)
 rwa [zo1] at this
theorem StU.turned (h:StU B0 W fix eb db nI nV M fl R S T ixs vws) {w w':World} (hk:KeepX (zcs (stF R S T fl) ixs vws) W w') (hb:Below B0 w W) (hB:B0≤W.heap.size):Below B0 w w':=zl8 hb hB hk fun q hq=>h.low q hq
end
def yi1 (w:World) (v:Value) (rs:List (List Int×Int)):Prop:=∀ w',zd8 w w'→zc3 w' v rs
theorem zd8.ofBelow {w w':World} (h:Below w.heap.size w w'):zd8 w w':=⟨h.size,fun q cs t p hq _ _=>h.block q (Array.getElem?_eq_some_iff.1 hq).1⟩
theorem zvm {w:World} {m ar:Nat} {v:Value} {xs:List ((H4×Int)×Nat)} (har:ar≤4) (h:w.ownsRow m 51 2 v xs.length (H.zcp ar xs)) (hr:H.zdu w m ar xs):yi1 w v (xs.map fun p=>(H.za0 ar p.1.1,p.1.2)):=by
 intro w' hk
 refine H.zki (m:=m) har ⟨h.1,?_⟩ ⟨hr.1,fun p hp=>⟨(hk.blk p.2 _ _ _ (hr.2 p hp).1 (by decide) (by decide)).trans (hr.2 p hp).1,(hr.2 p hp).2⟩⟩
 rcases h.2 with h0|⟨g,cap,cur,h1,h2,hg,h3⟩
 ·exact .inl h0
 ·exact .inr ⟨g,cap,cur,h1,h2,(hk.blk g _ _ _ hg (by decide) (by decide)).trans hg,h3⟩
theorem yh5 (nm:ByteArray) (W:World) {B0:Nat} {fix:Nat→Prop} {eb db nI nV M:Nat} {fl:List Ent} {R S T:Rel} {ixs:IxS} {vws:VwS} (h:StU B0 W fix eb db nI nV M fl R S T ixs vws) {v:zda} (hv:vws nm=some v) :
  Calls Tryz.prog 14 #[.pointer (some ⟨eb,0,none⟩),.string nm] W fun e w'=>∃ o ys,e=.returned (.tuple #[o,.int .i64 0])∧H.zhf v.f ys∧yi1 w' o (H.zcc v.H.length v.f ys)∧ys.length≤256∧Below W.heap.size W w':=by
 have h4:v.H.length≤4:=(h.eng.vw nm v hv).1.fit.ok.h4
 refine (zlg W h.eng nm v hv 256 (by omega) (h.map256 hv)).mono ?_
 rintro e w' ⟨o,ys,xs,rfl,h1,h5,h6,h7,_,h2,h3⟩
 exact ⟨o,ys,rfl,h1,h5 ▸ zvm h4 h6 h7,h2,h3⟩
def yk3 (B0:Nat) (W w':World) (fix:Nat→Prop) (eb db nI nV M:Nat) (fl es:List Ent) (R S T:Rel) (ixs:IxS) (vws:VwS):Prop:=
 KeepX (zcs (stF R S T fl) ixs vws) W w'∧∃ ixs' vws',StU B0 w' fix eb db nI nV (M+500000000000000) (fl ++ es) R S T ixs' vws'∧zbe vws vws'
theorem ybs (u:Value) (es:List Ent) (W:World) {B0:Nat} {fix:Nat→Prop} {eb db nI nV M:Nat} {fl:List Ent} {R S T:Rel} {ixs:IxS} {vws:VwS} (h:StU B0 W fix eb db nI nV M fl R S T ixs vws) (hB0:B0≤W.heap.size) (hv:zds W u es) (hl:es.length≤12) (hf:∀ x∈es,Fine x) (hc:fl.length+es.length≤1604) (hb:∀ nm r,-1000≤zbr (fl ++ es) nm r∧zbr (fl ++ es) nm r≤1000) (hM:M≤8000000000000000000) :
  Calls Tryz.prog 26 #[.pointer (some ⟨eb,0,none⟩),u] W fun e w'=>e=.returned (.tuple #[.int .i64 0,.int .i64 0])∧yk3 B0 W w' fix eb db nI nV M fl es R S T ixs vws:=by
 have h3:=h.three
 have hp:4*(1+2*fl.length+2*es.length) ^ 4≤500000000000000:=by
  have h4:1+2*fl.length+2*es.length≤3300:=by omega
  have:=ymq h4
  have e:(3300:Nat) ^ 4=118592100000000:=by decide
  omega
 have hst:znt (stF R S T fl) es=stF R S T (fl ++ es):=by
  unfold stF
  rw [zpp,za3,za3,za3]
 have key:∀ (Q:Rel) (nm:ByteArray) (G:List Row) (ar:Nat),zgi Q ar→ztn (zah Q fl nm) ar fl.length G→(∀ r,zbr es nm r≠0→r∈G)→G.length≤16 →
   (zah Q fl nm).n+2*es.length≤100000∧(∀ r,zaw r→-1000≤(zah Q fl nm).f r+zbr es nm r∧(zah Q fl nm).f r+zbr es nm r≤1000)∧(∀ r,zaw r→-1000≤(zah Q fl nm).f r∧(zah Q fl nm).f r≤1000)∧∃ G:List Row,G.length≤16∧∀ r,zaw r→(zah Q fl nm).f r+zbr es nm r≠0→r∈G:=by
  intro Q nm G ar hQ hT hG hGl
  have h0:∀ r,(zah Q fl nm).f r=zbr fl nm r:=fun r=>by
   have e:Q.f r=0:=by rw [hQ.2.2]
   show Q.f r+zbr fl nm r=_
   omega
  refine ⟨by have:=hT.n_;omega,fun r _=>?_,fun r _=>?_,G,hGl,fun r hr hne=>(hT.add hf hG).supp r hr hne⟩
  ·have:=hb nm r
   rw [zf3] at this
   rw [h0]
   exact this
  ·rw [h0]
   exact h.bnd nm r
 have hfit:∀ nm Q,stF R S T fl nm=some Q→Q.n+2*es.length≤100000∧(∀ r,zaw r→-1000≤Q.f r+zbr es nm r∧Q.f r+zbr es nm r≤1000)∧(∀ r,zaw r→-1000≤Q.f r∧Q.f r≤1000)∧∃ G:List Row,G.length≤16∧∀ r,zaw r→Q.f r+zbr es nm r≠0→r∈G:=by
  intro nm Q hQ
  rcases zhs hQ with ⟨rfl,rfl⟩|⟨rfl,rfl⟩|⟨rfl,rfl⟩
  ·exact key R nmR zfj 2 h.fr h3.r (fun _ h0=>(zc6 hf h0).1 rfl) (by rw [zgv];omega)
  ·exact key S nmS zfj 2 h.fs h3.s (fun _ h0=>(zc6 hf h0).2.1 rfl) (by rw [zgv];omega)
  ·exact key T nmT zhl 1 h.ft h3.t (fun _ h0=>(zc6 hf h0).2.2 rfl) (by rw [zo0];omega)
 refine (ziy u es W h.eng hv (by omega) (fun x hx=>(hf x hx).good) (fun i hi=>?_) (fun x hx=>(hf x hx).known _ _ _) (fun nm Q hQ=>⟨by have:=(hfit nm Q hQ).1;omega,(hfit nm Q hQ).2.2.1⟩) (by omega) (by omega) (fun nm v hv=>by have:=h.most nm v hv;omega)).mono ?_
 ·have:es[i]?.getD zf6=es[i]:=by simp [hi]
  rw [this]
  exact (hf _ (List.getElem_mem hi)).chk h3
 ·have hW:∀ nm Q,stF R S T fl nm=some Q→zjx Q.f (zbr es nm):=fun nm Q hQ r hr _=>(hfit nm Q hQ).2.1 r hr
  have hR:∀ nm Q,stF R S T fl nm=some Q→zn8 es nm Q.f:=fun nm Q hQ _=>(hfit nm Q hQ).2.2.2
  rintro e w' ⟨c,rfl,hk,⟨rfl,h1,_⟩|⟨rfl,_,h1,_⟩|⟨rfl,_,_,ixs',vws',h1,h2,h4,h5⟩⟩
  ·exact absurd hW h1
  ·exact absurd hR h1
  ·rw [hst] at h1 h5
   refine ⟨rfl,hk,ixs',vws',⟨?_,h.fr,h.fs,h.ft,fun x hx=>?_,hb,h.most.kept h2 hp,fun q hq=>(h5 q hq).elim (h.low q) (fun h=>by omega),h.db0,h.fix0⟩,zbe.ofKept h2⟩
   ·have e:1+2*(fl ++ es).length=1+2*fl.length+2*es.length:=by rw [List.length_append];omega
    rw [e]
    exact h1
   ·exact (List.mem_append.1 hx).elim (h.fine x) (hf x)
theorem yfc (u:Value) (es:List Ent) (W:World) {B0:Nat} {fix:Nat→Prop} {eb db nI nV M:Nat} {fl:List Ent} {R S T:Rel} {ixs:IxS} {vws:VwS} (h:StU B0 W fix eb db nI nV M fl R S T ixs vws) (hB0:B0≤W.heap.size) (hv:zds W u es) (hl:es.length≤12) (hf:∀ x∈es,Fine x) (hc:fl.length+es.length≤1604) (hb:∀ nm r,-1000≤zbr (fl ++ es) nm r∧zbr (fl ++ es) nm r≤1000) (hM:M≤8000000000000000000) :
  Calls Tryz.prog 15 #[.pointer (some ⟨eb,0,none⟩),u] W fun e w'=>e=.returned (.bool true)∧yk3 B0 W w' fix eb db nI nV M fl es R S T ixs vws:=by
 have H:=zac (ybs u es W h hB0 hv hl hf hc hb hM)
 clear h hv hf hb
 go_enter Tryz.func15,Tryz.ntmps15
 go_wp2_with fail
 refine (zaa H).mono ?_
 rintro e w1 ⟨rfl,h1⟩
 have H1:=zac h1
 clear h1 H
 go_wp2
 go_ret
 exact ⟨rfl,zaa H1⟩
theorem ztf {R S T R' S' T':Rel} {fl gl:List Ent} (h1:zgi R 2) (h2:zgi S 2) (h3:zgi T 1) (k1:zgi R' 2) (k2:zgi S' 2) (k3:zgi T' 1) (he:∀ nm r,zbr fl nm r=zbr gl nm r) (B:List za7):zde (stF R S T fl) B=zde (stF R' S' T' gl) B:=by
 have hR:(zah R fl nmR).f=(zah R' gl nmR).f:=by funext r;simp only [zah];rw [h1.2.2,k1.2.2,he]
 have hS:(zah S fl nmS).f=(zah S' gl nmS).f:=by funext r;simp only [zah];rw [h2.2.2,k2.2.2,he]
 have hT:(zah T fl nmT).f=(zah T' gl nmT).f:=by funext r;simp only [zah];rw [h3.2.2,k3.2.2,he]
 have aR:(zah R fl nmR).ar=(zah R' gl nmR).ar:=h1.1.trans k1.1.symm
 have aS:(zah S fl nmS).ar=(zah S' gl nmS).ar:=h2.1.trans k2.1.symm
 have aT:(zah T fl nmT).ar=(zah T' gl nmT).ar:=h3.1.trans k3.1.symm
 funext i
 unfold zde stF
 generalize (B[i]?.getD zat).nm=nm
 by_cases h1:nm=nmR
 ·subst h1;rw [zlo,zlo];dsimp only;rw [hR,aR]
 ·by_cases h2:nm=nmS
  ·subst h2;rw [zpn,zpn];dsimp only;rw [hS,aS]
  ·by_cases h3:nm=nmT
   ·subst h3;rw [zpo,zpo];dsimp only;rw [hT,aT]
   ·rw [zgg h1 h2 h3,zgg h1 h2 h3]
structure yk2 (w w4:World) (eb n:Nat) (a:Option Addr) (I1 I2:Nat→World→Prop):Prop where
 start:I1 0 w4
 one:∀ k wr,k<n→I1 k wr→∃ b sv,a=some ⟨b,0,none⟩ ∧
  Calls Tryz.prog 14 #[.pointer (some ⟨eb,0,none⟩),.string ⟨#[118]⟩] wr fun e w1=>∃ o x,e=.returned (.tuple #[o,x])∧w1.cell? ⟨b,k,none⟩=some sv ∧
  Calls Tryz.prog 15 #[.pointer (some ⟨eb,0,none⟩),sv] w1 fun e w2=>e=.returned (.bool true)∧w2.cell? ⟨b,k,none⟩=some sv ∧
  Calls Tryz.prog 16 #[sv] w2 fun e w3=>∃ p,e=.returned p ∧
  Calls Tryz.prog 15 #[.pointer (some ⟨eb,0,none⟩),p] w3 fun e w4=>e=.returned (.bool true) ∧
  Calls Tryz.prog 14 #[.pointer (some ⟨eb,0,none⟩),.string ⟨#[118]⟩] w4 fun e w5=>∃ o' x',e=.returned (.tuple #[o',x']) ∧
  Calls Tryz.prog 17 #[o,o'] w5 fun e w6=>e=.returned (.bool true)∧w6.cell? ⟨b,k,none⟩=some sv ∧
  Calls Tryz.prog 15 #[.pointer (some ⟨eb,0,none⟩),sv] w6 fun e w7=>e=.returned (.bool true)∧I1 (k+1) w7
 mid:∀ wr,I1 n wr→I2 0 wr
 two:∀ k wr,k<n→I2 k wr→∃ b sv,a=some ⟨b,0,none⟩∧wr.cell? ⟨b,k,none⟩=some sv ∧
  Calls Tryz.prog 16 #[sv] wr fun e w1=>∃ p,e=.returned p ∧
  Calls Tryz.prog 15 #[.pointer (some ⟨eb,0,none⟩),p] w1 fun e w2=>e=.returned (.bool true)∧I2 (k+1) w2
 last:∀ wr,I2 n wr→Calls Tryz.prog 14 #[.pointer (some ⟨eb,0,none⟩),.string ⟨#[118]⟩] wr fun e w'=>∃ a' m cap',m=0∧e=.returned (.tuple #[.slice a' m cap',.int .i64 0])∧Below w.heap.size w w'
theorem yby (vc:Value) (which:Int) (w:World) (hw1:-9223372036854775808≤which∧which≤9223372036854775807)
  (h:Calls Tryz.prog 6 #[] w fun e w1=>∃ eb,e=.returned (.pointer (some ⟨eb,0,none⟩)) ∧
   Calls Tryz.prog 7 #[] w1 fun e w2=>e=.returned (.bool true) ∧
   Calls Tryz.prog 10 #[.pointer (some ⟨eb,0,none⟩),.string ⟨#[118]⟩,.string (zkf (zbd which 8)),.string ⟨#[]⟩] w2 fun e w3=>e=.returned (.bool true) ∧
   Calls Tryz.prog 9 #[vc] w3 fun e w4=>∃ a n cap,e=.returned (.slice a n cap)∧n≤401∧∃ I1 I2,yk2 w w4 eb n a I1 I2) :
  Calls Tryz.prog 4 #[vc,.int .i64 which] w fun e w'=>e=.returned (.bool true)∧Below w.heap.size w w':=by
 have Hq:∀ W,Hid (Calls Tryz.prog 8 #[.int .i64 which] W fun e w'=>e=.returned (.tuple #[.string (zkf (zbd which 8)),.string (yba (zbd which 8))])∧w'=W):=fun W=>zg7 which W hw1.1 hw1.2
 have H:=zac h
 clear h
 generalize zkf (zbd which 8)=qt at *
 generalize yba (zbd which 8)=qv at *
 go_enter Tryz.func4,Tryz.ntmps4
 go_wp2_with fail
 refine (zaa H).mono ?_
 rintro e w1 ⟨eb,rfl,h1⟩
 have H1:=zac h1
 clear h1 H
 go_wp2_with fail
 refine (zaa H1).mono ?_
 rintro e w2 ⟨rfl,h2⟩
 have H2:=zac h2
 clear h2 H1
 go_wp2_with (first|(go_at_call 8;refine (zaa (Hq _)).mono ?_;rintro e w' ⟨rfl,hw⟩;replace hw:=hw.symm;subst hw))
 refine (zaa H2).mono ?_
 rintro e w3 ⟨rfl,h3⟩
 have H3:=zac h3
 clear h3 H2 hw1 Hq
 go_wp2_with fail
 refine (zaa H3).mono ?_
 rintro e w4 ⟨a,n,cap,rfl,hn,I1,I2,h4⟩
 have HU:=zac h4
 have Hs:=zac h4.start
 clear h4 H3
 go_wp2
 go_loopw [11] (fun i wr=>∃ k:Nat,k≤n∧i=.int .i64 k∧I1 k wr) (fun i _=>n - (intOf i).toNat)
 case atStart=>exact ⟨0,Nat.zero_le _,rfl,zaa Hs⟩
 case round =>
  obtain ⟨k,hk,rfl,hI⟩:=hrel
  clear Hs
  by_cases hlt:k<n
  ·have hx:(k:Int)<(n:Int):=by omega
   obtain ⟨b,sv,rfl,hc⟩:=(zaa HU).one k wr hlt hI
   have HC:=zac hc
   clear hc hI
   go_wp2_with fail
   refine (zaa HC).mono ?_
   rintro e w1 ⟨o,x,rfl,c1,h1⟩
   have H1:=zac h1
   clear h1 HC
   go_wp2_with fail
   refine (zaa H1).mono ?_
   rintro e w2 ⟨rfl,c2,h2⟩
   have H2:=zac h2
   clear h2 H1
   go_wp2_with fail
   refine (zaa H2).mono ?_
   rintro e w3 ⟨p,rfl,h3⟩
   have H3:=zac h3
   clear h3 H2
   go_wp2_with fail
   refine (zaa H3).mono ?_
   rintro e w4' ⟨rfl,h4⟩
   have H4:=zac h4
   clear h4 H3
   go_wp2_with fail
   refine (zaa H4).mono ?_
   rintro e w5 ⟨o',x',rfl,h5⟩
   have H5:=zac h5
   clear h5 H4
   go_wp2_with fail
   refine (zaa H5).mono ?_
   rintro e w6 ⟨rfl,c6,h6⟩
   have H6:=zac h6
   clear h6 H5
   go_wp2_with fail
   refine (zaa H6).mono ?_
   rintro e w7 ⟨rfl,h7⟩
   have H7:=zac h7
   clear h7 H6
   go_wp2
   exact ⟨⟨k+1,by omega,by go_num,zaa H7⟩,by simp [intOf];omega⟩
  ·have hke:k=n:=by omega
   subst hke
   have HM:=zac ((zaa HU).mid wr hI)
   clear hI
   obtain ⟨wo,hwo⟩:∃ wo,wo=wr:=⟨_,rfl⟩
   subst hwo
   go_wp2
   go_loopw [20] (fun i wr=>∃ j:Nat,j≤k∧i=.int .i64 j∧I2 j wr) (fun i _=>k - (intOf i).toNat)
   case atStart=>exact ⟨0,Nat.zero_le _,rfl,zaa HM⟩
   case round =>
    obtain ⟨j,hj,rfl,hI⟩:=hrel
    clear HM
    by_cases hlt2:j<k
    ·have hx:(j:Int)<(k:Int):=by omega
     obtain ⟨b,sv,rfl,c0,hc⟩:=(zaa HU).two j wr hlt2 hI
     have HC:=zac hc
     clear hc hI
     go_wp2_with fail
     refine (zaa HC).mono ?_
     rintro e w1 ⟨p,rfl,h1⟩
     have H1:=zac h1
     clear h1 HC
     go_wp2_with fail
     refine (zaa H1).mono ?_
     rintro e w2 ⟨rfl,h2⟩
     have H2:=zac h2
     clear h2 H1
     go_wp2
     exact ⟨⟨j+1,by omega,by go_num,zaa H2⟩,by simp [intOf];omega⟩
    ·have hje:j=k:=by omega
     subst hje
     have HL:=zac ((zaa HU).last wr hI)
     clear hI
     go_wp2_with fail
     refine (zaa HL).mono ?_
     rintro e w' ⟨a',m,cap',hm,rfl,hb⟩
     have Hb:=zac hb
     clear hb HL
     subst hm
     go_wp2
     go_ret
     exact ⟨rfl,zaa Hb⟩
def yj1 (ar:Nat):Rel:=⟨0,0,ar,0,fun _=>0⟩
theorem zbw (ar:Nat):zgi (yj1 ar) ar:=⟨rfl,rfl,rfl⟩
def st0 (gl:List Ent):St:=stF (yj1 2) (yj1 2) (yj1 1) gl
structure UAt (w:World) (B:Nat) (u:Value) (bs:List (List Ent)) (eb:Nat) (Hq:List (Nat×Nat)) (Bq:List za7) (L Mk:Nat) (gl:List Ent) (wr:World) (fix:Nat→Prop) (db nI nV M:Nat) (fl:List Ent) (R S T:Rel) (ixs:IxS) (vws:VwS) (v:zda):Prop where
 st:StU w.heap.size wr fix eb db nI nV M fl R S T ixs vws
 vw:vws nmV=some v
 vH:v.H=Hq
 vB:v.B=Bq
 len:fl.length≤L
 most:M≤Mk
 sums:∀ nm r,zbr fl nm r=zbr gl nm r
 bats:zdd wr B u bs
 bel:Below w.heap.size w wr
def UI (w:World) (B:Nat) (u:Value) (bs:List (List Ent)) (eb:Nat) (Hq:List (Nat×Nat)) (Bq:List za7) (L Mk:Nat) (gl:List Ent) (wr:World):Prop:=
 ∃ fix db nI nV M fl R S T ixs vws v,UAt w B u bs eb Hq Bq L Mk gl wr fix db nI nV M fl R S T ixs vws v
section
variable {w wr:World} {B:Nat} {u:Value} {bs:List (List Ent)} {eb:Nat} {Hq:List (Nat×Nat)} {Bq:List za7} {L Mk:Nat} {gl:List Ent}
theorem UI.below (h:UI w B u bs eb Hq Bq L Mk gl wr) {w':World} (hb:Below wr.heap.size wr w'):UI w B u bs eb Hq Bq L Mk gl w':=by
 obtain ⟨fix,db,nI,nV,M,fl,R,S,T,ixs,vws,v,h⟩:=h
 exact ⟨fix,db,nI,nV,M,fl,R,S,T,ixs,vws,v,h.st.below hb,h.vw,h.vH,h.vB,h.len,h.most,h.sums,h.bats.below hb,h.bel.trans (hb.mono h.bel.size)⟩
theorem UI.frame (h:UI w B u bs eb Hq Bq L Mk gl wr):Below w.heap.size w wr:=by
 obtain ⟨fix,db,nI,nV,M,fl,R,S,T,ixs,vws,v,h⟩:=h
 exact h.bel
theorem UI.batsIn (h:UI w B u bs eb Hq Bq L Mk gl wr):zdd wr B u bs:=by
 obtain ⟨fix,db,nI,nV,M,fl,R,S,T,ixs,vws,v,h⟩:=h
 exact h.bats
theorem UI.same (h:UI w B u bs eb Hq Bq L Mk gl wr) {gl':List Ent} (he:∀ nm r,zbr gl nm r=zbr gl' nm r) {L' Mk':Nat} (hL:L≤L') (hM:Mk≤Mk'):UI w B u bs eb Hq Bq L' Mk' gl' wr:=by
 obtain ⟨fix,db,nI,nV,M,fl,R,S,T,ixs,vws,v,h⟩:=h
 exact ⟨fix,db,nI,nV,M,fl,R,S,T,ixs,vws,v,h.st,h.vw,h.vH,h.vB,Nat.le_trans h.len hL,Nat.le_trans h.most hM,fun nm r=>(h.sums nm r).trans (he nm r),h.bats,h.bel⟩
structure ymk (Hq:List (Nat×Nat)) (Bq:List za7) (gl:List Ent) (f:H4→Int) (ys:List H4):Prop where
 rows:H.zhf f ys
 few:ys.length≤256
 val:∀ q,BitVec.ofInt 64 (f q)=zts (Bq.map (·.ts)) (Hq.map (·.1)) (zde (st0 gl) Bq) q
 rng:∀ q,WfH q→-9223372036854775808≤f q∧f q≤9223372036854775807
theorem zx9 (h:UI w B u bs eb Hq Bq L Mk gl wr) :
  Calls Tryz.prog 14 #[.pointer (some ⟨eb,0,none⟩),.string nmV] wr fun e w'=>∃ o f ys,e=.returned (.tuple #[o,.int .i64 0])∧ymk Hq Bq gl f ys∧yi1 w' o (H.zcc Hq.length f ys)∧Below wr.heap.size wr w':=by
 obtain ⟨fix,db,nI,nV,M,fl,R,S,T,ixs,vws,v,h⟩:=h
 refine (yh5 nmV wr h.st h.vw).mono ?_
 rintro e w' ⟨o,ys,rfl,h1,h2,h3,h4⟩
 refine ⟨o,v.f,ys,rfl,⟨h1,h3,fun q=>?_,fun q hq=>h.st.range h.vw hq⟩,h.vH ▸ h2,h4⟩
 rw [h.st.val h.vw q,h.vB,h.vH,ztf h.st.fr h.st.fs h.st.ft (zbw 2) (zbw 2) (zbw 1) h.sums]
 rfl
theorem zn5 (h:UI w B u bs eb Hq Bq L Mk gl wr) {uv:Value} {es gl':List Ent} (hv:zds wr uv es) (hl:es.length≤12) (hf:∀ x∈es,Fine x) (hc:L+es.length≤1604) (hg:∀ nm r,zbr gl' nm r=zbr gl nm r+zbr es nm r) (hgl:gl'.length≤400) (hgf:∀ x∈gl',Fine x) (hM:Mk≤8000000000000000000) :
  Calls Tryz.prog 15 #[.pointer (some ⟨eb,0,none⟩),uv] wr fun e w'=>e=.returned (.bool true)∧zd8 wr w'∧UI w B u bs eb Hq Bq (L+es.length) (Mk+500000000000000) gl' w':=by
 obtain ⟨fix,db,nI,nV,M,fl,R,S,T,ixs,vws,v,h⟩:=h
 have hs:∀ nm r,zbr (fl ++ es) nm r=zbr gl' nm r:=fun nm r=>by rw [zf3,hg,h.sums]
 have h1:=h.len
 have h2:=h.most
 refine (yfc uv es wr h.st h.bel.size hv hl hf (by omega) (fun nm r=>by rw [hs];have:=zji hgf nm r;omega) (by omega)).mono ?_
 rintro e w' ⟨rfl,hk,ixs',vws',hS,hV⟩
 have hkc:=zd8.ofX h.st.eng hk
 obtain ⟨n',f',hv'⟩:=hV.2 nmV v h.vw
 exact ⟨rfl,hkc,fix,db,nI,nV,_,_,R,S,T,ixs',vws',_,hS,hv',h.vH,h.vB,by rw [List.length_append];omega,by omega,hs,h.bats.keepC hkc,h.st.turned hk h.bel h.bel.size⟩
end
theorem zdd.at_ {w:World} {B:Nat} {v:Value} {bs:List (List Ent)} (h:zdd w B v bs) {k:Nat} (hk:k<bs.length):∃ a cap b sv m,v=.slice a bs.length cap∧a=some ⟨b,0,none⟩∧w.cell? ⟨b,k,none⟩=some sv∧zlz w B m sv bs[k]∧∃ cur,w.heap[b]? = some (.cells cur 40 (0,0)):=by
 obtain ⟨a,cap,rfl,_,hx⟩:=h
 obtain ⟨b,sv,m,h1,_,h2,h3,h4⟩:=hx k hk
 have e:bs[k]?.getD []=bs[k]:=by simp [hk]
 rw [e] at h3
 exact ⟨a,cap,b,sv,m,rfl,h1,h2,h3,h4⟩
theorem Bat.keep {w w':World} {b k:Nat} {sv:Value} {cur:Array Value} (hk:zd8 w w') (hb:w.heap[b]? = some (.cells cur 40 (0,0))) (hc:w.cell? ⟨b,k,none⟩=some sv):w'.heap[b]? = some (.cells cur 40 (0,0))∧w'.cell? ⟨b,k,none⟩=some sv:=by
 have h1:=hk.blk b _ _ _ hb (by decide) (by decide)
 exact ⟨h1.trans hb,(World.cell?_of_block (a:=⟨b,k,none⟩) h1).trans hc⟩
theorem ykg {Hq:List (Nat×Nat)} {Bq:List za7} {gl gl':List Ent} {f g:H4→Int} {ys zs:List H4} (h:ymk Hq Bq gl f ys) (k:ymk Hq Bq gl' g zs) (he:∀ nm r,zbr gl nm r=zbr gl' nm r):H.zcc Hq.length f ys=H.zcc Hq.length g zs:=by
 refine zs8 (fun q hq=>zei (h.rng q hq) (k.rng q hq) ?_) h.rows k.rows _
 rw [h.val q,k.val q]
 have:zde (st0 gl) Bq=zde (st0 gl') Bq:=ztf (zbw 2) (zbw 2) (zbw 1) (zbw 2) (zbw 2) (zbw 1) he Bq
 rw [this]
theorem ym8 (B:List za7) (i:Nat):zde (st0 []) B i=[]:=by
 unfold zde st0 stF
 rw [zb2,zb2,zb2]
 generalize (B[i]?.getD zat).nm=nm
 by_cases h1:nm=nmR
 ·subst h1;rw [zlo];simp [yj1,zbf]
 ·by_cases h2:nm=nmS
  ·subst h2;rw [zpn];simp [yj1,zbf]
  ·by_cases h3:nm=nmT
   ·subst h3;rw [zpo];simp [yj1,zbf]
   ·rw [zgg h1 h2 h3]
theorem yid {Hq:List (Nat×Nat)} {Bq:List za7} {gl:List Ent} {f:H4→Int} {ys:List H4} (h:ymk Hq Bq gl f ys) (he:∀ nm r,zbr gl nm r=0) (hB:0<Bq.length):ys=[]:=by
 refine List.eq_nil_iff_forall_not_mem.2 fun y hy=>?_
 have hw:=h.rows.wf y hy
 refine (h.rows.mem y hw).1 hy (zei (h.rng y hw) (by omega) ?_)
 rw [h.val y]
 have e:zde (st0 gl) Bq=zde (st0 []) Bq:=ztf (zbw 2) (zbw 2) (zbw 1) (zbw 2) (zbw 2) (zbw 1) (fun nm r=>(he nm r).trans rfl) Bq
 rw [e]
 refine Classical.byContradiction fun hne=>?_
 obtain ⟨r,hr,_⟩:=zp0 hne
 obtain ⟨e,he,_⟩:=hr 0 (by simpa using hB)
 rw [ym8] at he
 cases he
theorem yj0 (c:Int):0<((zkn (zbd c 8)).2.map zb3.q).length:=ygm (P:=fun k=>0<((zkn k).2.map zb3.q).length) (by decide +kernel) (by decide +kernel) (by decide +kernel) (by decide +kernel) (by decide +kernel) (by decide +kernel) (by decide +kernel) (by decide +kernel) c
theorem zoz {bs:List (List Ent)} {k:Nat} (h:k<bs.length):(bs.take k).flatten.length+bs[k].length=(bs.take (k+1)).flatten.length:=by rw [zck h,List.length_append]
theorem ybx (vc:Value) (codes:List Int) (which:Int) (w:World) (hc:zbu w vc codes) (hcl:codes.length≤9223372036854775807) (hcb:∀ c∈codes,-9223372036854775808≤c∧c≤9223372036854775807)
  (hw1:-9223372036854775808≤which∧which≤9223372036854775807) :
  Calls Tryz.prog 4 #[vc,.int .i64 which] w fun e w'=>e=.returned (.bool true)∧Below w.heap.size w w':=by
 refine yby vc which w hw1 ?_
 have hread:=zje which
 have hfit:=zjd which
 have hsz:=zjf which
 have hpos:=yj0 which
 have hbl:=zoi codes
 have hbm:=zl7 codes
 have hbsh:=zj1 codes
 have hbf:=zl6 codes
 refine (zk2 w).mono ?_
 rintro e w1 ⟨s,rfl,hs,hsf,hsI,hsV,hsM,hsv,hb1⟩
 refine ⟨s.eb,rfl,(zp3 w1).mono ?_⟩
 rintro e w2 ⟨rfl,hb2⟩
 have hs2:=hs.below hb2
 have hB2:=hb1.trans (hb2.mono hb1.size)
 refine ⟨rfl,(zid nmV _ noO _ _ w2 hs2 hB2.size yee (by decide) (by rw [hsv]) (by omega) hsz hread hfit (.inl rfl) (by omega)).mono ?_⟩
 rintro e w3 ⟨rfl,s3,hs3,ht3,heb3,hfl3,hnI3,hnV3,hM3,v,hvw,hvH,hvB⟩
 have hB3:=ht3.below hs2 hB2 hB2.size
 rw [← heb3]
 refine ⟨rfl,(zr5 vc codes w3 (hc.below hB3) hcl hcb).mono ?_⟩
 rintro e w4 ⟨u,rfl,hu,hb4⟩
 have hs4:=hs3.below hb4
 have hB4:=hB3.trans (hb4.mono hB3.size)
 generalize zib codes=bs at *
 have hu':=hu
 obtain ⟨a,cap,rfl,hcap,_⟩:=hu'
 have hflf:∀ l:List (List Ent),(∀ b∈l,b∈bs)→∀ x∈l.flatten,Fine x:=fun l hl x hx=>by
  obtain ⟨b,hb,hxb⟩:=List.mem_flatten.1 hx
  exact hbf b (hl b hb) x hxb
 have hlen:∀ k,(bs.take k).flatten.length≤400:=fun k=>Nat.le_trans (zie bs k) hbm
 have hlend:∀ k,(bs.take k).flatten.length+(bs.drop k).flatten.length=bs.flatten.length:=fun k=>by
  rw [← List.length_append,← List.flatten_append,List.take_append_drop]
 have hv3:s3.vws nmV=some v:=by rw [hvw];exact zbi _ _ _
 have hfl0:s3.fl=[]:=by rw [hfl3,hsf]
 refine ⟨a,bs.length,cap,rfl,by omega,
  fun k wr=>UI w w3.heap.size (.slice a bs.length cap) bs s3.eb (zkn (zbd which 8)).1 ((zkn (zbd which 8)).2.map zb3.q) (3*(bs.take k).flatten.length) (1000000000000+k*1500000000000000) (bs.take k).flatten wr,
  fun k wr=>UI w w3.heap.size (.slice a bs.length cap) bs s3.eb (zkn (zbd which 8)).1 ((zkn (zbd which 8)).2.map zb3.q) (3*bs.flatten.length+(bs.take k).flatten.length) (1000000000000+bs.length*1500000000000000+k*500000000000000) (bs.drop k).flatten wr,?_⟩
 refine ⟨?_,?_,?_,?_,?_⟩
 ·refine ⟨s3.fix,s3.db,s3.nI,s3.nV,s3.M,s3.fl,s3.R,s3.S,s3.T,s3.ixs,s3.vws,v,Stg.toU hs4,hv3,hvH,hvB,?_,?_,?_,hu,hB4⟩
  ·rw [hfl0];simp
  ·rw [hM3,hsM];omega
  ·rw [hfl0];intro nm r;simp
 ·intro k wr hk hI
  obtain ⟨a',cap',b,sv,m,e,rfl,hcell,hd,cur,hcur⟩:=hI.batsIn.at_ hk
  cases e
  have hmem:bs[k]∈bs:=List.getElem_mem hk
  have hsh:=hbsh _ hmem
  have hfk:=hbf _ hmem
  have hLk:=zoz hk
  have hLm:=hlen (k+1)
  have htf:∀ j,∀ x∈(bs.take j).flatten,Fine x:=fun j=>hflf _ fun b hb=>List.mem_of_mem_take hb
  have hsum:∀ nm r,zbr (bs.take (k+1)).flatten nm r=zbr (bs.take k).flatten nm r+zbr bs[k] nm r:=fun nm r=>by rw [zck hk,zf3]
  have hof:∀ x∈bs[k].map opp,Fine x:=fun x hx=>by
   obtain ⟨y,hy,rfl⟩:=List.mem_map.1 hx
   exact zy3 (hfk y hy)
  refine ⟨b,sv,rfl,(zx9 hI).mono ?_⟩
  rintro e w1 ⟨o,f,ys,rfl,hT,hR,hbw1⟩
  have k1:=zd8.ofBelow hbw1
  have I1:=hI.below hbw1
  obtain ⟨hcur1,hcell1⟩:=Bat.keep k1 hcur hcell
  have hd1:=hd.keepC k1
  refine ⟨o,_,rfl,hcell1,(zn5 (gl':=(bs.take (k+1)).flatten) I1 hd1.ents hsh hfk (by omega) hsum hLm (htf _) (by omega)).mono ?_⟩
  rintro e w2 ⟨rfl,k2,I2⟩
  obtain ⟨hcur2,hcell2⟩:=Bat.keep k2 hcur1 hcell1
  have hd2:=hd1.keepC k2
  refine ⟨rfl,hcell2,(znb sv bs[k] w2 hd2 (by omega) hfk).mono ?_⟩
  rintro e w3' ⟨p,rfl,hp,hb3'⟩
  have k3:=zd8.ofBelow hb3'
  have I3:=I2.below hb3'
  refine ⟨p,rfl,(zn5 (gl':=(bs.take k).flatten) I3 hp (by rw [List.length_map];exact hsh) hof (by rw [List.length_map];omega) (fun nm r=>by rw [zzf,hsum];omega) (hlen k) (htf _) (by omega)).mono ?_⟩
  rintro e w4' ⟨rfl,k4,I4⟩
  refine ⟨rfl,(zx9 I4).mono ?_⟩
  rintro e w5 ⟨o',f',ys',rfl,hT',hR',hb5⟩
  have k5:=zd8.ofBelow hb5
  have I5:=I4.below hb5
  have kk:=((k2.trans k3).trans k4).trans k5
  have hrows:=ykg hT hT' (fun nm r=>rfl)
  rw [← hrows] at hR'
  have hfew:=hT.few
  refine ⟨o',_,rfl,(zkj o o' _ w5 (hR w5 kk) (hR' w5 (zd8.refl _)) (by simp [H.zcc];omega) (zhq _ _ _)).mono ?_⟩
  rintro e w6 ⟨rfl,hd6⟩
  have hb6:=hd6.below w5.heap.size
  have k6:=zd8.ofBelow hb6
  have I6:=I5.below hb6
  obtain ⟨hcur6,hcell6⟩:=Bat.keep (kk.trans k6) hcur1 hcell1
  have hd6':=hd1.keepC (kk.trans k6)
  refine ⟨rfl,hcell6,(zn5 (gl':=(bs.take (k+1)).flatten) I6 hd6'.ents hsh hfk (by rw [List.length_map];omega) hsum hLm (htf _) (by omega)).mono ?_⟩
  rintro e w7 ⟨rfl,k7,I7⟩
  refine ⟨rfl,I7.same (fun nm r=>rfl) (by rw [List.length_map];omega) (by omega)⟩
 ·intro wr hI
  have e:bs.take bs.length=bs:=List.take_length
  rw [e] at hI
  refine hI.same (fun nm r=>by rw [List.drop_zero]) (by simp) (by omega)
 ·intro k wr hk hI
  obtain ⟨a',cap',b,sv,m,e,rfl,hcell,hd,cur,hcur⟩:=hI.batsIn.at_ hk
  cases e
  have hmem:bs[k]∈bs:=List.getElem_mem hk
  have hsh:=hbsh _ hmem
  have hfk:=hbf _ hmem
  have hLk:=zoz hk
  have hLm:=hlen (k+1)
  have hLd:=hlend k
  have hLd1:=hlend (k+1)
  have hdf:∀ x∈(bs.drop (k+1)).flatten,Fine x:=hflf _ fun b hb=>List.mem_of_mem_drop hb
  have hsum:∀ nm r,zbr (bs.drop k).flatten nm r=zbr bs[k] nm r+zbr (bs.drop (k+1)).flatten nm r:=fun nm r=>by
   rw [List.drop_eq_getElem_cons hk,List.flatten_cons,zf3]
  have hof:∀ x∈bs[k].map opp,Fine x:=fun x hx=>by
   obtain ⟨y,hy,rfl⟩:=List.mem_map.1 hx
   exact zy3 (hfk y hy)
  refine ⟨b,sv,rfl,hcell,(znb sv bs[k] wr hd (by omega) hfk).mono ?_⟩
  rintro e w1 ⟨p,rfl,hp,hbw1⟩
  refine ⟨p,rfl,(zn5 (gl':=(bs.drop (k+1)).flatten) (hI.below hbw1) hp (by rw [List.length_map];exact hsh) hof (by rw [List.length_map];omega) (fun nm r=>by rw [zzf,hsum];omega) (by omega) hdf (by omega)).mono ?_⟩
  rintro e w2 ⟨rfl,k2,I2⟩
  exact ⟨rfl,I2.same (fun nm r=>rfl) (by rw [List.length_map];omega) (by omega)⟩
 ·intro wr hI
  refine (zx9 hI).mono ?_
  rintro e w' ⟨o,f,ys,rfl,hT,hR,hb⟩
  have hnil:ys=[]:=yid hT (fun nm r=>by rw [List.drop_length];rfl) hpos
  subst hnil
  obtain ⟨a',cap',rfl,_⟩:=hR w' (zd8.refl _)
  exact ⟨a',_,cap',rfl,rfl,hI.frame.trans (hb.mono hI.frame.size)⟩
end K
end Go.Proofs.YtoifcnidhfnapabGreatDoor
