import Derived.Test.YtoifcnidhfnapabGreatDoorB01
import Derived.Test.YtoifcnidhfnapabGreatDoorB02
import Derived.Test.YtoifcnidhfnapabGreatDoorB03
import Derived.Test.YtoifcnidhfnapabGreatDoorB04
import Derived.Test.YtoifcnidhfnapabGreatDoorB05
import Derived.Test.YtoifcnidhfnapabGreatDoorB06
import Derived.Test.YtoifcnidhfnapabGreatDoorB07
import Derived.Test.YtoifcnidhfnapabGreatDoorB08
import Derived.Test.YtoifcnidhfnapabGreatDoorB09
import Derived.Test.YtoifcnidhfnapabGreatDoorB10
import Derived.Test.YtoifcnidhfnapabGreatDoorB11
import Derived.Test.YtoifcnidhfnapabGreatDoorB12
import Derived.Test.YtoifcnidhfnapabGreatDoorB13
import Derived.Test.YtoifcnidhfnapabGreatDoorB14
import Derived.Test.YtoifcnidhfnapabGreatDoorB15
import Derived.Test.YtoifcnidhfnapabGreatDoorB16
import Derived.Test.YtoifcnidhfnapabGreatDoorB17
import Derived.Test.YtoifcnidhfnapabGreatDoorB18
import Derived.Test.YtoifcnidhfnapabGreatDoorB19
import Derived.Test.YtoifcnidhfnapabGreatDoorB20
import Derived.Test.YtoifcnidhfnapabGreatDoorB21
import Derived.Test.YtoifcnidhfnapabGreatDoorB22
import Derived.Test.YtoifcnidhfnapabGreatDoorB23
import Derived.Test.YtoifcnidhfnapabGreatDoorB24
import Derived.Test.YtoifcnidhfnapabGreatDoorB25
import Derived.Test.YtoifcnidhfnapabGreatDoorB26
import Derived.Test.YtoifcnidhfnapabGreatDoorB27
import Derived.Test.YtoifcnidhfnapabGreatDoorB28
import Derived.Test.YtoifcnidhfnapabGreatDoorB29
import Derived.Test.YtoifcnidhfnapabGreatDoorB30
import Derived.Test.YtoifcnidhfnapabGreatDoorB31
import Derived.Test.YtoifcnidhfnapabGreatDoorB32
import Derived.Test.YtoifcnidhfnapabGreatDoorB33
import Derived.Test.YtoifcnidhfnapabGreatDoorB34
import Derived.Test.YtoifcnidhfnapabGreatDoorB35
import Derived.Test.YtoifcnidhfnapabGreatDoorB36
import Derived.Test.YtoifcnidhfnapabGreatDoorB37
import Derived.Test.YtoifcnidhfnapabGreatDoorB38
import Derived.Test.YtoifcnidhfnapabGreatDoorB39
import Derived.Test.YtoifcnidhfnapabGreatDoorB40
import Derived.Test.YtoifcnidhfnapabGreatDoorB41
import Derived.Test.YtoifcnidhfnapabGreatDoorB42
import Derived.Test.YtoifcnidhfnapabGreatDoorB43
import Derived.Test.YtoifcnidhfnapabGreatDoorB44
import Derived.Test.YtoifcnidhfnapabGreatDoorB45
import Derived.Test.YtoifcnidhfnapabGreatDoorB46
import Derived.Test.YtoifcnidhfnapabGreatDoorB47
import Derived.Laws.CopyRow
import Derived.Deep.CutRange
set_option linter.unusedVariables false
set_option linter.unusedSimpArgs false
set_option maxRecDepth 100000
set_option maxHeartbeats 16000000
namespace Go.Proofs.YtoifcnidhfnapabGreatDoor
namespace K
open Go.RowKit Go.Maps
theorem zxw (v u:Value) (zs:List Int) (w:World) (hv:zbu w v zs) (hu:zbu w u zs) (hl:zs.length≤1000000000) :
  Calls Tryz.prog 27 #[v,u] w fun e w'=>e=.returned (.bool true)∧za9 w w':=by
 refine (zlj v u zs zs w hv hu hl hl).mono ?_
 rintro e w' ⟨rfl,h⟩
 exact ⟨by simp [zfe],h⟩
theorem zkj (v u:Value) (rs:List (List Int×Int)) (w:World) (hv:zc3 w v rs) (hu:zc3 w u rs) (hl:rs.length≤1000000000) (hs:zg8 rs) :
  Calls Tryz.prog 17 #[v,u] w fun e w'=>e=.returned (.bool true)∧za9 w w':=by
 obtain ⟨a,cap,rfl,hc⟩:=hv
 obtain ⟨a',cap',rfl,hc'⟩:=hu
 have Hc:=zac hc
 have Hc':=zac hc'
 have Hs:=zac hs
 clear hc hc' hs
 go_enter Tryz.func17,Tryz.ntmps17
 go_wp2
 go_loopw [5] (fun i wr=>∃ k:Nat,k≤rs.length∧i=.int .i64 k∧za9 w wr) (fun i _=>rs.length - (intOf i).toNat)
 case atStart=>exact ⟨0,Nat.zero_le _,rfl,za9.refl _⟩
 case round =>
  obtain ⟨k,hk,rfl,hdr⟩:=hrel
  have Hdr:=zac hdr
  clear hdr
  by_cases hlt:k<rs.length
  ·obtain ⟨b,o,sv,rfl,h1,h2,h3⟩:=(zaa Hc) k hlt
   obtain ⟨b',o',sv',rfl,h1',h2',h3'⟩:=(zaa Hc') k hlt
   have hx:(k:Int)<(rs.length:Int):=by omega
   obtain ⟨z,hz⟩:∃ z,z=(rs[k]?.getD ([],0)).1:=⟨_,rfl⟩
   obtain ⟨q,hq⟩:∃ q,q=(rs[k]?.getD ([],0)).2:=⟨_,rfl⟩
   rw [← (zaa Hdr).cell] at h1 h3 h1' h3'
   rw [← hz] at h2 h2'
   rw [← hq] at h3 h3'
   have HZ:=zac hz
   have H2:=zac h2
   have H2':=zac h2'
   have hqq:(q != q)=false:=by simp
   clear hz hq h2 h2'
   have hB:zfe z z=true:=by simp [zfe]
   go_wp2_with fail
   have hlz:=zjh (zaa Hs) hlt (zaa HZ)
   go_quiet ((go_at_call 27;exact zgm (zxw _ _ z _ (by exact ((zaa H2).drawn (zaa Hdr)).drewN _) (by exact ((zaa H2').drawn (zaa Hdr)).drewN _) hlz)))
   go_wp2_with fail
   go_quiet (fail)
   go_wp2
   exact ⟨⟨k+1,by omega,by go_num,(zaa Hdr).thenN _⟩,by simp [intOf];omega⟩
  ·go_wp2
   go_ret
   exact ⟨by simp,zaa Hdr⟩
end K
end Go.Proofs.YtoifcnidhfnapabGreatDoor
namespace Go.Proofs.YtoifcnidhfnapabGreatDoor
open Go.RowKit Go.Maps Go.Sort Go.Shelf
attribute [local go_sem] Oper.semAt_some
section
attribute [local go_sem ↓] zgw
end
theorem zb7:∀ (xs ys:List Row),ze4 xs→ze4 ys→(∀ r,r∈xs↔r∈ys)→xs=ys
 | [],[],_,_,_=>rfl
 | [],y :: ys,_,_,h=>by have:=(h y).2 (by simp);simp at this
 | x :: xs,[],_,_,h=>by have:=(h x).1 (by simp);simp at this
 | x :: xs,y :: ys,hx,hy,h=>by
  have hx1:=List.pairwise_cons.1 hx
  have hy1:=List.pairwise_cons.1 hy
  have irr:∀ a:Row,¬ ltR a a:=fun a h=>by unfold ltR at h;omega
  have asym:∀ a b:Row,ltR a b→ltR b a→False:=fun a b h1 h2=>by unfold ltR at *;omega
  have e:x=y:=by
   rcases List.mem_cons.1 ((h x).1 (by simp)) with e|e
   ·exact e
   ·rcases List.mem_cons.1 ((h y).2 (by simp)) with e2|e2
    ·exact e2.symm
    ·exact (asym _ _ (hy1.1 x e) (hx1.1 y e2)).elim
  subst e
  congr 1
  refine zb7 xs ys hx1.2 hy1.2 (fun r=>⟨fun hr=>?_,fun hr=>?_⟩)
  ·rcases List.mem_cons.1 ((h r).1 (List.mem_cons_of_mem _ hr)) with e|e
   ·subst e;exact (irr _ (hx1.1 _ hr)).elim
   ·exact e
  ·rcases List.mem_cons.1 ((h r).2 (List.mem_cons_of_mem _ hr)) with e|e
   ·subst e;exact (irr _ (hy1.1 _ hr)).elim
   ·exact e
theorem zc3.below {w w':World} {v:Value} {rs:List (List Int×Int)} (h:zc3 w v rs) (hb:Below w.heap.size w w'):zc3 w' v rs:=by
 obtain ⟨a,cap,rfl,hc⟩:=h
 exact ⟨a,cap,rfl,fun i hi=>by
  obtain ⟨b,o,sv,ha,h1,h2,h3⟩:=hc i hi
  exact ⟨b,o,sv,ha,(hb.cell (p:=⟨b,_,none⟩) (World.block_lt_of_cell? w _ h1)).trans h1,h2.below hb,(hb.cell (p:=⟨b,_,none⟩) (World.block_lt_of_cell? w _ h3)).trans h3⟩⟩
section
variable {W W':World} {fix:Nat→Prop} {eb db nD nI nV N:Nat} {st:St} {ixs:IxS} {vws:VwS}
theorem EngV.ownlt (h:EngV W fix eb db nD nI nV N st ixs vws) {q:Nat} (hq:Own fix db st ixs vws q):q<W.heap.size:=by
 have h3:=h.eb3
 have hel:=h.flt _ h.feb
 rcases hq with hq|rfl|rfl|rfl|hq
 ·exact h.flt q hq
 ·omega
 ·omega
 ·omega
 ·exact h.xlt q hq
theorem EngV.asideX (h:EngV W fix eb db nD nI nV N st ixs vws) {X:Nat→Prop} (hk:KeepX X W W') (hX:∀ q,X q→¬ Own fix db st ixs vws q) (hE:∀ q,X q→¬ zc2 W q):EngV W' fix eb db nD nI nV N st ixs vws:=by
 have blk:∀ q,Own fix db st ixs vws q→W'.heap[q]? = W.heap[q]?:=fun q hq=>hk.blk q (h.ownlt hq) fun hx=>hX q hx hq
 have hf:∀ k,fix k→W'.heap[k]? = W.heap[k]?:=fun k hk=>blk k (.inl hk)
 have hx:∀ q,zcs st ixs vws q→W'.heap[q]? = W.heap[q]?:=fun q hq=>blk q (.inr (.inr (.inr (.inr hq))))
 refine ⟨(h.rep.keptW hk.size (hf _ h.feb) (blk db (.inr (.inl rfl))) fun nm R hR=>⟨hf _ (h.frb nm R hR).1,hx _ (.inl ⟨nm,R,hR,rfl⟩)⟩).topW,fun k hk'=>Nat.lt_of_lt_of_le (h.flt k hk') hk.size,h.feb,h.frb,h.fdb,?_,fun k x hxk=>?_,h.iap,?_,fun nm v hv=>?_,h.vap,h.vrel⟩
 ·obtain ⟨D,h1,h2⟩:=h.imap
  exact ⟨D,zax h1 (blk _ (.inr (.inr (.inl rfl)))),h2⟩
 ·obtain ⟨a,b,R,c,d⟩:=h.idx k x hxk
  exact ⟨a,b,R,c,d.kept hk hE (fun hq=>hX _ hq (.inr (.inr (.inr (.inr (.inr (.inl ⟨k,x,hxk,.inl rfl⟩))))))) fun g hg hq=>hX _ hq (.inr (.inr (.inr (.inr (.inr (.inl ⟨k,x,hxk,.inr hg⟩))))))⟩
 ·obtain ⟨D,h1,h2⟩:=h.vmap
  exact ⟨D,zax h1 (blk _ (.inr (.inr (.inr (.inl rfl))))),h2⟩
 ·obtain ⟨a,b⟩:=h.vw nm v hv
  exact ⟨a.kept hf (hx _ (.inr (.inr ⟨nm,v,hv,rfl⟩))),b⟩
end
end Go.Proofs.YtoifcnidhfnapabGreatDoor
namespace Go.Proofs.YtoifcnidhfnapabGreatDoor
namespace K
open Go.RowKit Go.Maps
def yb8 (w:World) (v:Value) (bs:List (List Ent)):Prop:=
  ∃ a cap,v=.slice a bs.length cap∧∀ i,i<bs.length→∃ b o sv,a=some ⟨b,o,none⟩∧w.cell? ⟨b,o+i,none⟩=some sv∧zds w sv (bs[i]?.getD [])
end K
end Go.Proofs.YtoifcnidhfnapabGreatDoor
namespace Go.Proofs.YtoifcnidhfnapabGreatDoor
namespace K
open Go.RowKit Go.Maps Go.Sort Go.Shelf
theorem zhu {R:Rel} {ar cnt:Nat} {G:List Row} (h:ztn R ar cnt G) {es:List Ent} (hf:∀ x∈es,Fine x) {nm:ByteArray} (hG:∀ r,zbr es nm r≠0→r∈G) (hGl:G.length≤16) (hc:cnt+es.length≤400) :
  R.n+2*es.length≤100000∧(∀ r,zaw r→-1000≤R.f r+zbr es nm r∧R.f r+zbr es nm r≤1000)∧(∀ r,zaw r→-1000≤R.f r∧R.f r≤1000)∧∃ G:List Row,G.length≤16∧∀ r,zaw r→R.f r+zbr es nm r≠0→r∈G:=by
 have h2:=h.add hf hG
 refine ⟨by have:=h.n_;omega,fun r hr=>?_,fun r hr=>?_,G,hGl,fun r hr h0=>h2.supp r hr h0⟩
 ·have a:=h2.lo r hr;have b:=h2.hi r hr
  simp only [zah] at a b
  push_cast at a b
  omega
 ·have a:=h.lo r hr;have b:=h.hi r hr
  omega
theorem _root_.Go.Proofs.YtoifcnidhfnapabGreatDoor.KeepX.trans' {X Y:Nat→Prop} {a b c:World} (h:KeepX X a b) (k:KeepX Y b c) (hY:∀ q,Y q→X q∨a.heap.size≤q):KeepX X a c:=
 ⟨k.os.trans h.os,k.tape.trans h.tape,k.output.trans h.output,Nat.le_trans h.size k.size,fun q hq hx=>(k.blk q (Nat.lt_of_lt_of_le hq h.size) (fun hy=>(hY q hy).elim hx (fun h=>by omega))).trans (h.blk q hq hx)⟩
def zry (w:World) (v:Value) (bs:List (List Ent)):Prop:=∀ w',zd8 w w'→yb8 w' v bs
theorem zdd.stable {w:World} {B:Nat} {v:Value} {bs:List (List Ent)} (h:zdd w B v bs):zry w v bs:=by
 obtain ⟨a,cap,rfl,_,hx⟩:=h
 intro w' hk
 refine ⟨a,cap,rfl,fun i hi=>?_⟩
 obtain ⟨b,sv,m,rfl,_,hc,hd,cur,hb⟩:=hx i hi
 exact ⟨b,0,sv,rfl,by rw [Nat.zero_add];exact (World.cell?_of_block (a:=⟨b,i,none⟩) (hk.blk b _ _ _ hb (by decide) (by decide))).trans hc,(hd.keepC hk).ents⟩
theorem zbe.refl (vws:VwS):zbe vws vws:=⟨fun _ h=>h,fun nm v h=>⟨v.n,v.f,h⟩⟩
theorem zbe.trans {a b c:VwS} (h:zbe a b) (k:zbe b c):zbe a c:=
 ⟨fun nm hn=>k.1 nm (h.1 nm hn),fun nm v hv=>by
  obtain ⟨n,f,h1⟩:=h.2 nm v hv
  obtain ⟨n',f',h2⟩:=k.2 nm _ h1
  exact ⟨n',f',h2⟩⟩
theorem zj0 (v:Value) (es:List Ent) (w:World) {fix:Nat→Prop} {eb db nD nI nV N M cnt:Nat} {R S T:Rel} {ixs:IxS} {vws:VwS} (hE:EngV w fix eb db nD nI nV N (st3 R S T) ixs vws) (h3:zl1 R S T cnt) (hv:zds w v es) (hl:es.length≤64) (hf:∀ x∈es,Fine x) (hc:cnt+es.length≤400) (hN:N+2*es.length≤1000) (hN1:1≤N) (hM:zdf M vws) (hM2:M≤8000000000000000000) :
  Calls Tryz.prog 26 #[.pointer (some ⟨eb,0,none⟩),v] w fun e w'=>e=.returned (.tuple #[.int .i64 0,.int .i64 0])∧KeepX (zcs (st3 R S T) ixs vws) w w'∧∃ ixs' vws',EngV w' fix eb db nD nI nV (N+2*es.length) (st3 (zah R es nmR) (zah S es nmS) (zah T es nmT)) ixs' vws'∧zbe vws vws'∧zdf (M+4000000000000) vws'∧(∀ k,(ixs' k).isSome=(ixs k).isSome)∧∀ q,zcs (st3 (zah R es nmR) (zah S es nmS) (zah T es nmT)) ixs' vws' q→zcs (st3 R S T) ixs vws q∨w.heap.size≤q:=by
 rw [← zpp]
 have hp:4*(N+2*es.length) ^ 4≤4000000000000:=by
  have:=ymq hN
  have e:(1000:Nat) ^ 4=1000000000000:=by decide
  omega
 have hfit:∀ nm Q,st3 R S T nm=some Q→Q.n+2*es.length≤100000∧(∀ r,zaw r→-1000≤Q.f r+zbr es nm r∧Q.f r+zbr es nm r≤1000)∧(∀ r,zaw r→-1000≤Q.f r∧Q.f r≤1000)∧∃ G:List Row,G.length≤16∧∀ r,zaw r→Q.f r+zbr es nm r≠0→r∈G:=by
  intro nm Q hQ
  rcases zte hQ with ⟨rfl,rfl⟩|⟨rfl,rfl⟩|⟨rfl,rfl⟩
  ·exact zhu h3.r hf (fun _ h0=>(zc6 hf h0).1 rfl) (by rw [zgv];omega) hc
  ·exact zhu h3.s hf (fun _ h0=>(zc6 hf h0).2.1 rfl) (by rw [zgv];omega) hc
  ·exact zhu h3.t hf (fun _ h0=>(zc6 hf h0).2.2 rfl) (by rw [zo0];omega) hc
 refine (ziy v es w hE hv hl (fun x hx=>(hf x hx).good) (fun i hi=>?_) (fun x hx=>(hf x hx).known R S T) (fun nm Q hQ=>⟨by have:=(hfit nm Q hQ).1;omega,(hfit nm Q hQ).2.2.1⟩) (by omega) hN1 (fun nm v hv=>by have:=hM nm v hv;omega)).mono ?_
 ·have:es[i]?.getD zf6=es[i]:=by simp [hi]
  rw [this]
  exact (hf _ (List.getElem_mem hi)).chk h3
 ·have hW:∀ nm Q,st3 R S T nm=some Q→zjx Q.f (zbr es nm):=fun nm Q hQ r hr _=>(hfit nm Q hQ).2.1 r hr
  have hR:∀ nm Q,st3 R S T nm=some Q→zn8 es nm Q.f:=fun nm Q hQ _=>(hfit nm Q hQ).2.2.2
  rintro e w' ⟨c,rfl,hk,⟨rfl,h1,_⟩|⟨rfl,_,h1,_⟩|⟨rfl,_,_,ixs',vws',h1,h2,h4,h5⟩⟩
  ·exact absurd hW h1
  ·exact absurd hR h1
  ·exact ⟨rfl,hk,ixs',vws',h1,zbe.ofKept h2,hM.kept h2 hp,h4,h5⟩
theorem zhi (v:Value) (es:List Ent) (w:World) {fix:Nat→Prop} {eb db nD nI nV N M cnt:Nat} {R S T:Rel} {ixs:IxS} {vws:VwS} (hE:EngV w fix eb db nD nI nV N (st3 R S T) ixs vws) (h3:zl1 R S T cnt) (hv:zds w v es) (hl:es.length≤64) (hf:∀ x∈es,Fine x) (hc:cnt+es.length≤400) (hN:N+2*es.length≤1000) (hN1:1≤N) (hM:zdf M vws) (hM2:M≤8000000000000000000) :
  Calls Tryz.prog 15 #[.pointer (some ⟨eb,0,none⟩),v] w fun e w'=>e=.returned (.bool true)∧KeepX (zcs (st3 R S T) ixs vws) w w'∧∃ ixs' vws',EngV w' fix eb db nD nI nV (N+2*es.length) (st3 (zah R es nmR) (zah S es nmS) (zah T es nmT)) ixs' vws'∧zbe vws vws'∧zdf (M+4000000000000) vws'∧(∀ k,(ixs' k).isSome=(ixs k).isSome)∧∀ q,zcs (st3 (zah R es nmR) (zah S es nmS) (zah T es nmT)) ixs' vws' q→zcs (st3 R S T) ixs vws q∨w.heap.size≤q:=by
 have H:=zac (zj0 v es w hE h3 hv hl hf hc hN hN1 hM hM2)
 clear hE h3 hv hf hM
 go_enter Tryz.func15,Tryz.ntmps15
 go_wp2_with fail
 refine (zaa H).mono ?_
 rintro e w1 ⟨rfl,h1⟩
 have H1:=zac h1
 clear h1 H
 go_wp2
 go_ret
 exact ⟨rfl,zaa H1⟩
theorem zia (v:Value) (bs:List (List Ent)) (w:World) {fix:Nat→Prop} {eb db nD nI nV N M cnt:Nat} {R S T:Rel} {ixs:IxS} {vws:VwS} (hE:EngV w fix eb db nD nI nV N (st3 R S T) ixs vws) (h3:zl1 R S T cnt) (hv:zry w v bs) (hl:∀ b∈bs,b.length≤12) (hf:∀ b∈bs,∀ x∈b,Fine x) (hc:cnt+bs.flatten.length≤400) (hbl:bs.length≤1000) (hN:N+2*bs.flatten.length≤1000) (hN1:1≤N) (hM:zdf M vws) (hM2:M≤4000000000000000000) :
  Calls Tryz.prog 11 #[.pointer (some ⟨eb,0,none⟩),v] w fun e w'=>e=.returned (.bool true)∧KeepX (zcs (st3 R S T) ixs vws) w w'∧∃ ixs' vws',EngV w' fix eb db nD nI nV (N+2*bs.flatten.length) (st3 (zah R bs.flatten nmR) (zah S bs.flatten nmS) (zah T bs.flatten nmT)) ixs' vws'∧zbe vws vws'∧zdf (M+bs.length*4000000000000) vws'∧(∀ k,(ixs' k).isSome=(ixs k).isSome)∧∀ q,zcs (st3 (zah R bs.flatten nmR) (zah S bs.flatten nmS) (zah T bs.flatten nmT)) ixs' vws' q→zcs (st3 R S T) ixs vws q∨w.heap.size≤q:=by
 have h0:=hv w (zd8.refl w)
 obtain ⟨a,cap,rfl,_⟩:=h0
 have Hv:=zac hv
 have HE:=zac hE
 have H3:=zac h3
 have Hl:=zac hl
 have Hf:=zac hf
 have HM:=zac hM
 clear hv hE h3 hl hf hM
 go_enter Tryz.func11,Tryz.ntmps11
 go_wp2
 go_loopw [5] (fun i wr=>∃ k:Nat,k≤bs.length∧i=.int .i64 k∧KeepX (zcs (st3 R S T) ixs vws) w wr∧∃ ixs' vws',EngV wr fix eb db nD nI nV (N+2*(bs.take k).flatten.length) (st3 (zah R (bs.take k).flatten nmR) (zah S (bs.take k).flatten nmS) (zah T (bs.take k).flatten nmT)) ixs' vws'∧zbe vws vws'∧zdf (M+k*4000000000000) vws'∧(∀ k,(ixs' k).isSome=(ixs k).isSome)∧∀ q,zcs (st3 (zah R (bs.take k).flatten nmR) (zah S (bs.take k).flatten nmS) (zah T (bs.take k).flatten nmT)) ixs' vws' q→zcs (st3 R S T) ixs vws q∨w.heap.size≤q) (fun i _=>bs.length - (intOf i).toNat)
 case atStart =>
  refine ⟨0,Nat.zero_le _,rfl,KeepX.refl _ _,ixs,vws,?_⟩
  simp only [List.take_zero,List.flatten_nil,zb2,List.length_nil,Nat.mul_zero,Nat.add_zero,Nat.zero_mul]
  exact ⟨zaa HE,zbe.refl _,zaa HM,fun _=>trivial,fun q hq=>.inl hq⟩
 case round =>
  obtain ⟨k,hk,rfl,hkx,ixs',vws',hEk,hsame,hmost,hixs,hnew⟩:=hrel
  by_cases hlt:k<bs.length
  ·have hx:(k:Int)<(bs.length:Int):=by omega
   obtain ⟨a',cap',hsl,hcs⟩:=(zaa Hv) wr (zd8.ofX (zaa HE) hkx)
   cases hsl
   obtain ⟨b,o,sv,rfl,h1,hd'⟩:=hcs k hlt
   have hbe:bs[k]?.getD []=bs[k]:=by simp [hlt]
   rw [hbe] at hd'
   have hmem:bs[k]∈bs:=List.getElem_mem hlt
   have hfl:∀ x∈(bs.take k).flatten,Fine x:=fun x hx=>by
    obtain ⟨y,hy,hxy⟩:=List.mem_flatten.1 hx
    exact (zaa Hf) y (List.mem_of_mem_take hy) x hxy
   have h3k:=(zaa H3).add hfl
   have hcl:(bs.take k).flatten.length+bs[k].length≤bs.flatten.length:=by
    have:=zie bs (k+1)
    rw [zck hlt] at this
    simp only [List.length_append] at this
    omega
   have Hcall:=zac (zhi sv bs[k] wr hEk h3k hd' (by have:=(zaa Hl) _ hmem;omega) ((zaa Hf) _ hmem) (by omega) (by omega) (by omega) hmost (by omega))
   have Hsame:=zac hsame
   have Hixs:=zac hixs
   have Hnew:=zac hnew
   have Hkx:=zac hkx
   clear hd' hEk hfl h3k hbe hcl hmem hcs hsame hmost hixs hnew hkx
   go_wp2_with (first|(go_at_call 15;refine (zaa Hcall).mono ?_;rintro e w1 ⟨rfl,hk1,ixs1,vws1,hE1,hs1,hm1,hi1,hn1⟩))
   rw [za3,za3,za3,← zck hlt] at hE1 hn1
   have HF:=zac (show KeepX (zcs (st3 R S T) ixs vws) w w1∧∃ ixs' vws',EngV w1 fix eb db nD nI nV (N+2*(bs.take (k+1)).flatten.length) (st3 (zah R (bs.take (k+1)).flatten nmR) (zah S (bs.take (k+1)).flatten nmS) (zah T (bs.take (k+1)).flatten nmT)) ixs' vws'∧zbe vws vws'∧zdf (M+(k+1)*4000000000000) vws'∧(∀ k,(ixs' k).isSome=(ixs k).isSome)∧∀ q,zcs (st3 (zah R (bs.take (k+1)).flatten nmR) (zah S (bs.take (k+1)).flatten nmS) (zah T (bs.take (k+1)).flatten nmT)) ixs' vws' q→zcs (st3 R S T) ixs vws q∨w.heap.size≤q from
    ⟨(zaa Hkx).trans' hk1 (zaa Hnew),ixs1,vws1,by
     have e:N+2*(bs.take (k+1)).flatten.length=N+2*(bs.take k).flatten.length+2*bs[k].length:=by rw [zck hlt,List.length_append];omega
     rw [e];exact hE1,(zaa Hsame).trans hs1,by
     have e:M+(k+1)*4000000000000=M+k*4000000000000+4000000000000:=by omega
     rw [e];exact hm1,fun k=>(hi1 k).trans ((zaa Hixs) k),fun q hq=>by
     rcases hn1 q hq with h|h
     ·exact (zaa Hnew) q h
     ·exact .inr (Nat.le_trans (zaa Hkx).size h)⟩)
   clear hk1 hE1 hs1 hm1 hi1 hn1
   go_roundw
   case rel=>exact ⟨k+1,by omega,by go_num,zaa HF⟩
   case measure=>simp [intOf];omega
  ·have:k=bs.length:=by omega
   subst this
   rw [List.take_length] at hEk hnew
   have HF:=zac (show KeepX (zcs (st3 R S T) ixs vws) w wr∧∃ ixs' vws',EngV wr fix eb db nD nI nV (N+2*bs.flatten.length) (st3 (zah R bs.flatten nmR) (zah S bs.flatten nmS) (zah T bs.flatten nmT)) ixs' vws'∧zbe vws vws'∧zdf (M+bs.length*4000000000000) vws'∧(∀ k,(ixs' k).isSome=(ixs k).isSome)∧∀ q,zcs (st3 (zah R bs.flatten nmR) (zah S bs.flatten nmS) (zah T bs.flatten nmT)) ixs' vws' q→zcs (st3 R S T) ixs vws q∨w.heap.size≤q from ⟨hkx,ixs',vws',hEk,hsame,hmost,hixs,hnew⟩)
   clear hkx hEk hsame hmost hixs hnew
   go_wp2
   go_ret
   exact ⟨rfl,zaa HF⟩
end K
end Go.Proofs.YtoifcnidhfnapabGreatDoor
namespace Go.Proofs.YtoifcnidhfnapabGreatDoor
open Go.RowKit Go.Maps Go.Sort Go.Shelf
attribute [local go_sem] Oper.semAt_some
namespace H
section
attribute [local go_sem ↓] zgw
end
theorem zb7:∀ (xs ys:List H4),ze4 xs→ze4 ys→(∀ r,r∈xs↔r∈ys)→xs=ys
 | [],[],_,_,_=>rfl
 | [],y :: ys,_,_,h=>by have:=(h y).2 (by simp);simp at this
 | x :: xs,[],_,_,h=>by have:=(h x).1 (by simp);simp at this
 | x :: xs,y :: ys,hx,hy,h=>by
  have hx1:=List.pairwise_cons.1 hx
  have hy1:=List.pairwise_cons.1 hy
  have irr:∀ a:H4,¬ ltR a a:=fun a h=>by unfold ltR at h;omega
  have asym:∀ a b:H4,ltR a b→ltR b a→False:=fun a b h1 h2=>by unfold ltR at *;omega
  have e:x=y:=by
   rcases List.mem_cons.1 ((h x).1 (by simp)) with e|e
   ·exact e
   ·rcases List.mem_cons.1 ((h y).2 (by simp)) with e2|e2
    ·exact e2.symm
    ·exact (asym _ _ (hy1.1 x e) (hx1.1 y e2)).elim
  subst e
  congr 1
  refine zb7 xs ys hx1.2 hy1.2 (fun r=>⟨fun hr=>?_,fun hr=>?_⟩)
  ·rcases List.mem_cons.1 ((h r).1 (List.mem_cons_of_mem _ hr)) with e|e
   ·subst e;exact (irr _ (hx1.1 _ hr)).elim
   ·exact e
  ·rcases List.mem_cons.1 ((h r).2 (List.mem_cons_of_mem _ hr)) with e|e
   ·subst e;exact (irr _ (hy1.1 _ hr)).elim
   ·exact e
end H
end Go.Proofs.YtoifcnidhfnapabGreatDoor
namespace Go.Proofs.YtoifcnidhfnapabGreatDoor
namespace K
open Go.RowKit Go.Maps Go.Sort Go.Shelf
section
variable {B0:Nat} {W:World} {fix:Nat→Prop} {eb db nI nV M:Nat} {fl:List Ent} {R S T:Rel} {ixs:IxS} {vws:VwS}
end
theorem zl2 (R S T:Rel) (fl gl:List Ent):st3 (zah (zah R fl nmR) gl nmR) (zah (zah S fl nmS) gl nmS) (zah (zah T fl nmT) gl nmT)=stF R S T (fl ++ gl):=by
 unfold stF
 rw [za3,za3,za3]
theorem zkk (u:Value) (bs:List (List Ent)) (W:World) {B0:Nat} {fix:Nat→Prop} {eb db nI nV M:Nat} {fl:List Ent} {R S T:Rel} {ixs:IxS} {vws:VwS} (h:Stg B0 W fix eb db nI nV M fl R S T ixs vws) (hB0:B0≤W.heap.size) (hv:zry W u bs) (hl:∀ b∈bs,b.length≤12) (hf:∀ b∈bs,∀ x∈b,Fine x) (hc:fl.length+bs.flatten.length≤400) (hbl:bs.length≤1000) (hM:M≤4000000000000000000) :
  Calls Tryz.prog 11 #[.pointer (some ⟨eb,0,none⟩),u] W fun e w'=>e=.returned (.bool true)∧∃ ixs' vws',Stg B0 w' fix eb db nI nV (M+bs.length*4000000000000) (fl ++ bs.flatten) R S T ixs' vws'∧zbe vws vws'∧KeepX (zcs (stF R S T fl) ixs vws) W w'∧∀ q,zcs (stF R S T (fl ++ bs.flatten)) ixs' vws' q→zcs (stF R S T fl) ixs vws q∨W.heap.size≤q:=by
 refine (zia u bs W h.eng h.three hv hl hf hc hbl (by omega) (by omega) h.most hM).mono ?_
 rintro e w' ⟨rfl,hk,ixs',vws',h1,h2,h3,h4,h5⟩
 rw [zl2] at h1 h5
 refine ⟨rfl,ixs',vws',⟨?_,h.fr,h.fs,h.ft,fun x hx=>?_,by rw [List.length_append];omega,h3,fun q hq=>(h5 q hq).elim (h.low q) (fun h=>by omega),h.db0,h.fix0⟩,h2,hk,h5⟩
 ·have e:1+2*(fl ++ bs.flatten).length=1+2*fl.length+2*bs.flatten.length:=by rw [List.length_append];omega
  rw [e]
  exact h1
 ·rcases List.mem_append.1 hx with hx|hx
  ·exact h.fine x hx
  ·obtain ⟨b,hb,hxb⟩:=List.mem_flatten.1 hx
   exact hf b hb x hxb
section
variable {B0:Nat} {W:World} {fix:Nat→Prop} {eb db nI nV M:Nat} {fl:List Ent} {R S T:Rel} {ixs:IxS} {vws:VwS}
theorem Stg.rowsL (h:Stg B0 W fix eb db nI nV M fl R S T ixs vws) {nm:ByteArray} {Q:Rel} (hQ:stF R S T fl nm=some Q):znn Q.f (zbf Q.f ((if Q.ar=1 then zhl else zfj).filter fun r=>decide (Q.f r≠0))):=by
 have h3:=h.three
 refine ⟨_,?_,rfl⟩
 rcases zhs hQ with ⟨_,rfl⟩|⟨_,rfl⟩|⟨_,rfl⟩
 ·rw [if_neg (by rw [h3.r.ar_];decide)];exact (zel h3.r zew zi3).1
 ·rw [if_neg (by rw [h3.s.ar_];decide)];exact (zel h3.s zew zi3).1
 ·rw [if_pos h3.t.ar_];exact (zel h3.t zj6 ztm).1
theorem Stg.val (h:Stg B0 W fix eb db nI nV M fl R S T ixs vws) {nm:ByteArray} {v:zda} (hv:vws nm=some v) (q:H4):BitVec.ofInt 64 (v.f q)=zts (v.B.map (·.ts)) (v.H.map (·.1)) (zde (stF R S T fl) v.B) q:=by
 obtain ⟨hV,hH⟩:=h.eng.vw nm v hv
 refine hH _ (fun i hi=>?_) q
 have hmem:v.B[i]?.getD zat∈v.B:=by simp [hi]
 obtain ⟨Q,hQ,_⟩:=hV.fit.rel _ hmem
 refine ⟨Q,hQ,?_⟩
 unfold zde
 rw [hQ]
 exact h.rowsL hQ
theorem Stg.range (h:Stg B0 W fix eb db nI nV M fl R S T ixs vws) {nm:ByteArray} {v:zda} (hv:vws nm=some v) {q:H4} (hq:WfH q):-9223372036854775808≤v.f q∧v.f q≤9223372036854775807:=(h.eng.vw nm v hv).1.map.range hq
theorem Stg.supp (h:Stg B0 W fix eb db nI nV M fl R S T ixs vws) {nm:ByteArray} {v:zda} (hv:vws nm=some v):∀ q,WfH q→v.f q≠0→q∈zqf:=by
 intro q hq h0
 refine zpz (L:=zde (stF R S T fl) v.B) (A:=v.B.map (·.ts)) (H:=v.H.map (·.1)) (fun i _=>zkh) fun hz=>h0 ?_
 rw [← h.val hv q] at hz
 exact zei (h.range hv hq) (by omega) hz
theorem Stg.map256 (h:Stg B0 W fix eb db nI nV M fl R S T ixs vws) {nm:ByteArray} {v:zda} (hv:vws nm=some v):zeo W v.mb 256 v.f:=by
 have:=(h.eng.vw nm v hv).1.map.tight zqf (h.supp hv)
 rwa [zo1] at this
end
theorem zze (nm:ByteArray) (W:World) {B0:Nat} {fix:Nat→Prop} {eb db nI nV M:Nat} {fl:List Ent} {R S T:Rel} {ixs:IxS} {vws:VwS} (h:Stg B0 W fix eb db nI nV M fl R S T ixs vws) {v:zda} (hv:vws nm=some v) :
  Calls Tryz.prog 14 #[.pointer (some ⟨eb,0,none⟩),.string nm] W fun e w'=>∃ o ys,e=.returned (.tuple #[o,.int .i64 0])∧H.zhf v.f ys∧zc3 w' o (H.zcc v.H.length v.f ys)∧ys.length≤256∧Below W.heap.size W w':=by
 refine (zlg W h.eng nm v hv 256 (by omega) (h.map256 hv)).mono ?_
 rintro e w' ⟨o,ys,xs,rfl,h1,_,_,_,h2,h3,h4⟩
 exact ⟨o,ys,rfl,h1,h2,h3,h4⟩
def ES.apart (s t:ES):Prop:=∀ q,s.own q→¬ t.own q
theorem ES.apart.symm {s t:ES} (h:s.apart t):t.apart s:=fun q h1 h2=>h q h2 h1
theorem ES.At.lt {s:ES} {B0:Nat} {W:World} (h:s.At B0 W) {q:Nat} (hq:s.own q):q<W.heap.size:=h.eng.ownlt hq
theorem ES.At.mono {s:ES} {B0 B1:Nat} {W:World} (h:s.At B0 W) (hB:B1≤B0):s.At B1 W:=
 ⟨h.eng,h.fr,h.fs,h.ft,h.fine,h.len,h.most,fun q hq=>Nat.le_trans hB (h.low q hq),Nat.le_trans hB h.db0,fun q hq=>Nat.le_trans hB (h.fix0 q hq)⟩
theorem zof.keepC {s s':ES} {W w':World} (h:zof s s' W w'):zd8 W w':=by
 obtain ⟨X,hk,_,hX⟩:=h.ex
 exact ⟨hk.size,fun q cs t p hq h1 h2=>hk.blk q (Array.getElem?_eq_some_iff.1 hq).1 fun hx=>(hX q hx cs t p hq).elim h1 h2⟩
theorem zof.other {s s' t:ES} {W w':World} (h:zof s s' W w') {B1:Nat} (ht:t.At B1 W) (ha:s.apart t):t.At B1 w'∧s'.apart t:=by
 obtain ⟨X,hk,hX,hT⟩:=h.ex
 refine ⟨⟨ht.eng.asideX hk (fun q hq=>ha q (hX q hq)) (fun q hq ⟨cs,hcs⟩=>by rcases hT q hq _ _ _ hcs with h|h <;> cases h),ht.fr,ht.fs,ht.ft,ht.fine,ht.len,ht.most,ht.low,ht.db0,ht.fix0⟩,fun q hq hq'=>?_⟩
 rcases h.new q hq with h1|h1
 ·exact ha q h1 hq'
 ·have:=ht.lt hq'
  omega
theorem zi2 (u:Value) (bs:List (List Ent)) (W:World) {s:ES} {B0:Nat} (h:s.At B0 W) (hB0:B0≤W.heap.size) (hv:zry W u bs) (hl:∀ b∈bs,b.length≤12) (hf:∀ b∈bs,∀ x∈b,Fine x) (hc:s.fl.length+bs.flatten.length≤400) (hbl:bs.length≤1000) (hM:s.M≤4000000000000000000) :
  Calls Tryz.prog 11 #[.pointer (some ⟨s.eb,0,none⟩),u] W fun e w'=>e=.returned (.bool true)∧∃ s':ES,s'.At B0 w'∧zof s s' W w'∧s'.eb=s.eb∧s'.fl=s.fl ++ bs.flatten∧s'.nI=s.nI∧s'.nV=s.nV∧s'.M=s.M+bs.length*4000000000000∧zbe s.vws s'.vws:=by
 refine (zkk u bs W h hB0 hv hl hf hc hbl hM).mono ?_
 rintro e w' ⟨rfl,ixs',vws',hS,h1,h2,h3⟩
 refine ⟨rfl,⟨s.fix,s.eb,s.db,s.nI,s.nV,_,_,s.R,s.S,s.T,ixs',vws'⟩,hS,⟨⟨_,h2,fun q hq=>.inr (.inr (.inr (.inr hq))),fun q hq=>h.eng.xtype q hq⟩,fun q hq=>?_⟩,rfl,rfl,rfl,rfl,rfl,h1⟩
 rcases hq with hq|hq|hq|hq|hq
 ·exact .inl (.inl hq)
 ·exact .inl (.inr (.inl hq))
 ·exact .inl (.inr (.inr (.inl hq)))
 ·exact .inl (.inr (.inr (.inr (.inl hq))))
 ·exact (h3 q hq).imp (fun h=>.inr (.inr (.inr (.inr h)))) id
theorem zbe.has {s s':ES} (h:zbe s.vws s'.vws) {nm:ByteArray} {H:List (Nat×Nat)} {B:List za7} (hv:s.has nm H B):s'.has nm H B:=by
 obtain ⟨v,h1,h2,h3⟩:=hv
 obtain ⟨n,f,h4⟩:=h.2 nm v h1
 exact ⟨_,h4,h2,h3⟩
theorem yew {s t:ES} {B0 B1:Nat} {W W':World} (hs:s.At B0 W) (ht:t.At B1 W') (he:∀ nm r,zbr s.fl nm r=zbr t.fl nm r) (B:List za7):zde (stF s.R s.S s.T s.fl) B=zde (stF t.R t.S t.T t.fl) B:=by
 have hR:(zah s.R s.fl nmR).f=(zah t.R t.fl nmR).f:=by funext r;simp only [zah];rw [hs.fr.2.2,ht.fr.2.2,he]
 have hS:(zah s.S s.fl nmS).f=(zah t.S t.fl nmS).f:=by funext r;simp only [zah];rw [hs.fs.2.2,ht.fs.2.2,he]
 have hT:(zah s.T s.fl nmT).f=(zah t.T t.fl nmT).f:=by funext r;simp only [zah];rw [hs.ft.2.2,ht.ft.2.2,he]
 have aR:(zah s.R s.fl nmR).ar=(zah t.R t.fl nmR).ar:=hs.fr.1.trans ht.fr.1.symm
 have aS:(zah s.S s.fl nmS).ar=(zah t.S t.fl nmS).ar:=hs.fs.1.trans ht.fs.1.symm
 have aT:(zah s.T s.fl nmT).ar=(zah t.T t.fl nmT).ar:=hs.ft.1.trans ht.ft.1.symm
 funext i
 unfold zde stF
 generalize (B[i]?.getD zat).nm=nm
 by_cases h1:nm=nmR
 ·subst h1;rw [zlo,zlo];dsimp only;rw [hR,aR]
 ·by_cases h2:nm=nmS
  ·subst h2;rw [zpn,zpn];dsimp only;rw [hS,aS]
  ·by_cases h3:nm=nmT
   ·subst h3;rw [zpo,zpo];dsimp only;rw [hT,aT]
   ·rw [zgg h1 h2 h3,zgg h1 h2 h3]
theorem yki {s t:ES} {B0 B1:Nat} {W W':World} (hs:s.At B0 W) (ht:t.At B1 W') (he:∀ nm r,zbr s.fl nm r=zbr t.fl nm r) {n m:ByteArray} {v u:zda} (hv:s.vws n=some v) (hu:t.vws m=some u) (hH:v.H=u.H) (hB:v.B=u.B) {q:H4} (hq:WfH q):v.f q=u.f q:=by
 refine zei (Stg.range hs hv hq) (Stg.range ht hu hq) ?_
 rw [Stg.val hs hv q,Stg.val ht hu q,hH,hB,yew hs ht he]
theorem zs8 {f g:H4→Int} (h:∀ q,WfH q→f q=g q) {ys zs:List H4} (hy:H.zhf f ys) (hz:H.zhf g zs) (n:Nat):H.zcc n f ys=H.zcc n g zs:=by
 have e:ys=zs:=H.zb7 ys zs hy.rising hz.rising fun r=>by
  constructor
  ·intro hr
   have hw:=hy.wf r hr
   exact (hz.mem r hw).2 (by rw [← h r hw];exact (hy.mem r hw).1 hr)
  ·intro hr
   have hw:=hz.wf r hr
   exact (hy.mem r hw).2 (by rw [h r hw];exact (hz.mem r hw).1 hr)
 subst e
 unfold H.zcc
 exact List.map_congr_left fun y hy'=>by rw [h y (hy.wf y hy')]
theorem ygq (n m:ByteArray) (W:World) {s t:ES} {B0 B1:Nat} (hs:s.At B0 W) (ht:t.At B1 W) (he:∀ nm r,zbr s.fl nm r=zbr t.fl nm r) {Hq:List (Nat×Nat)} {B:List za7} (hv:s.has n Hq B) (hu:t.has m Hq B) :
  Calls Tryz.prog 13 #[.pointer (some ⟨s.eb,0,none⟩),.string n,.pointer (some ⟨t.eb,0,none⟩),.string m] W fun e w'=>e=.returned (.bool true)∧Below W.heap.size W w':=by
 obtain ⟨v,v1,v2,v3⟩:=hv
 obtain ⟨u,u1,u2,u3⟩:=hu
 have hfe:∀ q,WfH q→v.f q=u.f q:=fun q hq=>yki hs ht he v1 u1 (v2.trans u2.symm) (v3.trans u3.symm) hq
 have hHl:v.H.length=u.H.length:=by rw [v2,u2]
 have H1:=zac (zze n W hs v1)
 have H2:∀ W',Below W.heap.size W W'→Hid _:=fun W' hb=>zac (zze m W' (ht.below hb) u1)
 have Hfe:=zac hfe
 have HHl:=zac hHl
 clear hs ht he v1 v2 v3 u1 u2 u3 hfe hHl
 go_enter Tryz.func13,Tryz.ntmps13
 go_wp2_with fail
 refine (zaa H1).mono ?_
 rintro e w1 ⟨o,ys,rfl,r1,r2,r3,b1⟩
 have H3:=H2 w1 b1
 have Hr:=zac (And.intro r1 r2)
 have Hb1:=zac b1
 clear H1 H2 r1 r2 b1
 go_wp2_with fail
 refine (zaa H3).mono ?_
 rintro e w2 ⟨o',zs,rfl,s1,s2,s3,b2⟩
 have hrows:=zs8 (zaa Hfe) (zaa Hr).1 s1 v.H.length
 rw [← zaa HHl,← hrows] at s2
 have hlen:(H.zcc v.H.length v.f ys).length≤1000000000:=by simp [H.zcc];omega
 have H4:=zac (zkj o o' (H.zcc v.H.length v.f ys) w2 ((zaa Hr).2.below b2) s2 hlen (zhq _ _ _))
 have Hb2:=zac ((zaa Hb1).trans (b2.mono (zaa Hb1).size))
 clear H3 s1 s2 b2 hrows hlen
 go_wp2_with fail
 refine (zaa H4).mono ?_
 rintro e w3 ⟨rfl,hd⟩
 have Hb3:=zac ((zaa Hb2).trans (hd.below _))
 clear hd H4
 go_wp2
 go_ret
 exact ⟨rfl,zaa Hb3⟩
structure Two (w:World) (s t:ES) (W:World):Prop where
 one:s.At w.heap.size W
 two:t.At w.heap.size W
 ap:s.apart t
 bel:Below w.heap.size w W
theorem Two.below {w W W':World} {s t:ES} (h:Two w s t W) (hb:Below W.heap.size W W'):Two w s t W':=⟨h.one.below hb,h.two.below hb,h.ap,h.bel.trans (hb.mono h.bel.size)⟩
theorem Two.left {w W W':World} {s t s':ES} (h:Two w s t W) (ht:zof s s' W W') (hs:s'.At w.heap.size W'):Two w s' t W':=by
 obtain ⟨h1,h2⟩:=ht.other h.two h.ap
 exact ⟨hs,h1,h2,ht.below h.one h.bel h.bel.size⟩
theorem Two.right {w W W':World} {s t t':ES} (h:Two w s t W) (ht:zof t t' W W') (hs:t'.At w.heap.size W'):Two w s t' W':=by
 obtain ⟨h1,h2⟩:=ht.other h.one h.ap.symm
 exact ⟨h1,hs,h2.symm,ht.below h.two h.bel h.bel.size⟩
theorem yme {w w1 w2:World} {s t:ES} (hs:s.At w.heap.size w1) (hb:Below w.heap.size w w1) (ht:t.At w1.heap.size w2) (hb2:Below w1.heap.size w1 w2):Two w s t w2:=
 ⟨hs.below hb2,ht.mono hb.size,fun q h1 h2=>by have:=hs.lt h1;have:=ht.ge h2;omega,hb.trans (hb2.mono hb.size)⟩
end K
end Go.Proofs.YtoifcnidhfnapabGreatDoor
namespace Go.Proofs.YtoifcnidhfnapabGreatDoor
namespace K
open Go.RowKit Go.Maps
theorem yfg {es es':List Ent} (h:es.Perm es') (nm:ByteArray) (r:Row):zbr es nm r=zbr es' nm r:=by
 induction h with
 | nil=>rfl
 | cons x _ ih=>simp only [zbr,ih]
 | swap x y l=>simp only [zbr];omega
 | trans _ _ h1 h2=>exact h1.trans h2
def zff (bs:List (List Ent)):List (List Ent):=bs.flatten.reverse.map fun x=>[x]
theorem znd (bs:List (List Ent)):(zff bs).flatten=bs.flatten.reverse:=by
 unfold zff
 generalize bs.flatten.reverse=l
 induction l with
 | nil=>rfl
 | cons x l ih=>simp only [List.map_cons,List.flatten_cons,ih];rfl
theorem zx0 (bs:List (List Ent)) (nm:ByteArray) (r:Row):zbr (zff bs).flatten nm r=zbr bs.flatten nm r:=by
 rw [znd]
 exact yfg (List.reverse_perm _) nm r
theorem zxz (bs:List (List Ent)):(zff bs).length=bs.flatten.length:=by unfold zff;rw [List.length_map,List.length_reverse]
theorem ztd (bs:List (List Ent)):∀ b∈zff bs,b.length≤12:=by
 intro b hb
 obtain ⟨x,_,rfl⟩:=List.mem_map.1 hb
 simp
theorem zvp {bs:List (List Ent)} (h:∀ b∈bs,∀ x∈b,Fine x):∀ b∈zff bs,∀ x∈b,Fine x:=by
 intro b hb x hx
 obtain ⟨y,hy,rfl⟩:=List.mem_map.1 hb
 simp at hx
 subst hx
 obtain ⟨c,hc,hyc⟩:=List.mem_flatten.1 (List.mem_reverse.1 hy)
 exact h c hc x hyc
end K
end Go.Proofs.YtoifcnidhfnapabGreatDoor
namespace Go.Proofs.YtoifcnidhfnapabGreatDoor
namespace K
open Go.RowKit Go.Maps Go.Sort Go.Shelf
def sgl (es:List Ent):List (List Ent):=es.reverse.map fun x=>[x]
theorem yh0 (x:Ent) (es:List Ent):sgl (x :: es)=sgl es ++ [[x]]:=by simp [sgl]
theorem ztc (es:List Ent):(sgl es).length=es.length:=by simp [sgl]
theorem zlz.cellsAt {w:World} {B m:Nat} {v:Value} {es:List Ent} (hd:zlz w B m v es):∃ g cap,v=.slice (some ⟨g,0,none⟩) es.length cap∧g<w.heap.size∧∀ i (hi:i<es.length),∃ b,w.cell? ⟨g,i*3,none⟩=some (.string es[i].nm)∧w.cell? ⟨g,i*3+1,none⟩=some (.slice (some ⟨b,0,none⟩) es[i].row.length es[i].row.length)∧w.cell? ⟨g,i*3+2,none⟩=some (.int .i64 es[i].wt)∧w.heap[b]? = some (.cells (es[i].row.map (Value.int .i64)).toArray 2 (0,0))∧B≤b∧b<w.heap.size:=by
 obtain ⟨g,cap,cur,xs,rfl,h1,h2,h3,h4,h5,h6,h7⟩:=hd
 subst h6
 refine ⟨g,cap,by simp,(Array.getElem?_eq_some_iff.1 h3).1,fun i hi=>?_⟩
 have hi':i<xs.length:=by simpa using hi
 have hcell:∀ j,j<3→cur[i*3+j]? = (ygn xs[i])[j]?:=by
  intro j hj
  rw [← zol xs i j hi' hj,← h4,List.getElem?_take_of_lt (by omega)]
  simp
 have hx:(xs.map (·.1))[i]=xs[i].1:=by simp
 rw [hx]
 have hm:=List.getElem_mem hi'
 refine ⟨xs[i].2,?_,?_,?_,h5 _ hm,h7 _ hm,(Array.getElem?_eq_some_iff.1 (h5 _ hm)).1⟩
 ·rw [zab h3];exact hcell 0 (by omega)
 ·rw [zab h3];exact hcell 1 (by omega)
 ·rw [zab h3];exact hcell 2 (by omega)
def yi2 (wr:World) (B base:Nat) (vo:Value) (es:List Ent):Prop:=
 ∃ vos,wr.ownsRow base 40 1 vo vos.length vos∧vos.length=es.length∧∀ j,j<vos.length→zlz wr B wr.heap.size (vos[j]?.getD undef) ((sgl es)[j]?.getD [])
theorem yi2.step {w w':World} {B base:Nat} {vo vo':Value} {es:List Ent} {vos:List Value} {x:Ent} {b:Nat} (hB:B≤w.heap.size)
  (h1:w.ownsRow base 40 1 vo vos.length vos) (h2:vos.length=es.length) (h3:∀ j,j<vos.length→zlz w B w.heap.size (vos[j]?.getD undef) ((sgl es)[j]?.getD []))
  (hb:w.heap[b]? = some (.cells (x.row.map (Value.int .i64)).toArray 2 (0,0))) (hbB:B≤b)
  (ho:w'.ownsRow base 40 1 vo' (vos.length+1) (vos ++ [.slice (some ⟨w.heap.size,0,none⟩) 1 1]))
  (hg:((w.alloc (.cells #[.string x.nm,.slice (some ⟨b,0,none⟩) x.row.length x.row.length,.int .i64 x.wt] 49)).alloc (.cells #[.slice (some ⟨w.heap.size,0,none⟩) 1 1] 40)).grownBy w' vo.ownBlock):yi2 w' B base vo' (x :: es):=by
 generalize hA:(w.alloc (.cells #[.string x.nm,.slice (some ⟨b,0,none⟩) x.row.length x.row.length,.int .i64 x.wt] 49))=A at hg
 have hsA:A.heap.size=w.heap.size+1:=by rw [← hA];simp
 have hAnew:A.heap[w.heap.size]? = some (.cells #[.string x.nm,.slice (some ⟨b,0,none⟩) x.row.length x.row.length,.int .i64 x.wt] 49 (0,0)):=by rw [← hA];exact zae w _ _ rfl
 have bA:Below w.heap.size w A:=by rw [← hA];exact (Below.refl _ _).alloc (Nat.le_refl _) _
 generalize hC:A.alloc (.cells #[.slice (some ⟨w.heap.size,0,none⟩) 1 1] 40)=C at hg
 have bC:Below A.heap.size A C:=by rw [← hC];exact (Below.refl _ _).alloc (Nat.le_refl _) _
 have hsC:C.heap.size=w.heap.size+2:=by rw [← hC];simp [hsA]
 have gA:=za5 bA none
 have gC:=za5 bC none
 have hrow:∀ j,vo.ownBlock=some j→∃ cur t,C.heap[j]? = some (.cells cur t (0,0))∧t≠2∧(t=49→C.heap.size≤j):=fun j e=>by
  obtain ⟨a,cur,c⟩:=zcq h1 j e
  have hj:j<w.heap.size:=(Array.getElem?_eq_some_iff.1 c).1
  exact ⟨cur,40,((bC.block j (by omega)).trans (bA.block j hj)).trans c,by decide,fun e=>by cases e⟩
 have up:∀ {v:Value} {l:List Ent},zlz w B w.heap.size v l→zlz w' B w'.heap.size v l:=fun {v l} h=>by
  have k1:=(h.kept gA (fun j e=>by cases e)).mono (show w.heap.size≤C.heap.size by omega)
  have k2:=k1.kept gC (fun j e=>by cases e)
  exact (k2.kept hg hrow).mono hg.size
 have hnew:zlz w' B w'.heap.size (.slice (some ⟨w.heap.size,0,none⟩) 1 1) [x]:=by
  have k1:zlz C B C.heap.size (.slice (some ⟨w.heap.size,0,none⟩) 1 1) [x]:=by
   refine ⟨w.heap.size,1,_,[(x,b)],rfl,hB,by omega,(bC.block w.heap.size (by omega)).trans hAnew,rfl,fun p hp=>?_,rfl,fun p hp=>?_⟩
   ·simp at hp;subst hp
    have hbl:b<w.heap.size:=(Array.getElem?_eq_some_iff.1 hb).1
    exact ((bC.block b (by omega)).trans (bA.block b hbl)).trans hb
   ·simp at hp;subst hp;exact hbB
  exact (k1.kept hg hrow).mono hg.size
 refine ⟨vos ++ [.slice (some ⟨w.heap.size,0,none⟩) 1 1],by rw [List.length_append];exact ho,by simp [h2],fun j hj=>?_⟩
 rw [yh0]
 by_cases e:j<vos.length
 ·rw [List.getElem?_append_left e,List.getElem?_append_left (by rw [ztc];omega)]
  exact up (h3 j e)
 ·have:j=vos.length:=by simp at hj;omega
  subst this
  rw [List.getElem?_append_right (Nat.le_refl _),List.getElem?_append_right (by rw [ztc];omega),h2,ztc]
  simp
  exact hnew
theorem yi2.bats {w:World} {B base:Nat} {vo:Value} {es:List Ent} (h:yi2 w B base vo es) (hB:B≤base):zdd w B vo (sgl es):=by
 obtain ⟨vos,h5,h6,h7⟩:=h
 have hl:=ztc es
 rcases h5.2 with ⟨rfl,h0⟩|⟨g,cap,cur,rfl,hb,hg,hcap,_,_,ht⟩
 ·refine ⟨none,0,by rw [hl,← h6,h0],by omega,fun i hi=>?_⟩
  omega
 ·refine ⟨some ⟨g,0,none⟩,cap,by rw [h6,hl],by omega,fun i hi=>?_⟩
  refine ⟨g,vos[i]?.getD undef,w.heap.size,rfl,by omega,?_,h7 i (by omega),cur,hg⟩
  have hi':i<vos.length:=by omega
  rw [zab hg]
  have:cur.toList[i]? = vos[i]?:=by rw [← ht,List.getElem?_take_of_lt (by omega)]
  rw [← Array.getElem?_toList,this]
  simp [hi']
theorem ybl (u:Value) (bs:List (List Ent)) (w:World) {B:Nat} (hu:zdd w B u bs) (hl:bs.flatten.length≤400) (hbl:bs.length≤1000) (hB:B≤w.heap.size) (hsh:∀ b∈bs,b.length≤12) :
  Calls Tryz.prog 12 #[u] w fun e w'=>∃ u',e=.returned u'∧zdd w' B u' (zff bs)∧Below w.heap.size w w':=by
 have Hu:=zac hu
 obtain ⟨a,cap,rfl,hcap,_⟩:=hu
 have Hsh:=zac hsh
 clear hsh
 obtain ⟨i36,gi,gz0,gz1,gz2⟩:=info_parts Tryz.info40
 go_enter Tryz.func12,Tryz.ntmps12
 go_wp2
 go_loopw [3,4] (fun vo i wr=>∃ k:Nat,k≤bs.length∧i=.int .i64 ((k:Int) - 1)∧yi2 wr B w.heap.size vo (bs.drop k).flatten∧Below w.heap.size w wr) (fun _ i _=>(intOf i+1).toNat)
 case atStart =>
  refine ⟨bs.length,Nat.le_refl _,by go_num,⟨[],World.ownsRow_nil _ _ _ _,by simp,fun j hj=>by simp at hj⟩,Below.refl _ _⟩
 case round =>
  obtain ⟨k,hk,rfl,hI,hBl⟩:=hrel
  obtain ⟨wo,hwo⟩:∃ wo,wo=wr:=⟨_,rfl⟩
  subst hwo
  by_cases hlt:0<k
  ·obtain ⟨q,rfl⟩:∃ q,k=q+1:=⟨k - 1,by omega⟩
   have hq:(((q+1:Nat):Int) - 1)=(q:Int):=by omega
   rw [hq]
   have hqb:q<bs.length:=by omega
   obtain ⟨a',cap',e',_,hx⟩:=zaa Hu
   cases e'
   obtain ⟨b,sv,m,rfl,hbB,hcell,hd,_⟩:=hx q hqb
   have hbe:bs[q]?.getD []=bs[q]:=by simp [hqb]
   rw [hbe] at hd
   obtain ⟨g,cg,rfl,hgl,_⟩:=hd.cellsAt
   have hbw:b<w.heap.size:=World.block_lt_of_cell? w _ hcell
   have hcello:wo.cell? ⟨b,q,none⟩=some (.slice (some ⟨g,0,none⟩) bs[q].length cg):=(hBl.cell (p:=⟨b,q,none⟩) hbw).trans hcell
   have hes:bs[q].length≤12:=(zaa Hsh) _ (List.getElem_mem hqb)
   have hdr:bs.drop q=bs[q] :: bs.drop (q+1):=List.drop_eq_getElem_cons hqb
   have hdl:(bs.drop q).flatten.length≤bs.flatten.length:=by
    have:bs.flatten=(bs.take q).flatten ++ (bs.drop q).flatten:=by rw [← List.flatten_append,List.take_append_drop]
    rw [this];simp
   have hdl2:bs[q].length+(bs.drop (q+1)).flatten.length≤400:=by
    rw [hdr] at hdl;simp only [List.flatten_cons,List.length_append] at hdl;omega
   have Hdr:=zac hdr
   have Hd:=zac hd
   have HI:=zac hI
   have HBl:=zac hBl
   have hBs:=hBl.size
   generalize hes0:bs[q]=es at *
   clear hd hI hBl hdr hdl hx hes0
   go_wp2
   go_loopw [3,5] (fun vo j wq=>∃ t:Nat,t≤es.length∧j=.int .i64 ((t:Int) - 1)∧yi2 wq B w.heap.size vo (es.drop t ++ (bs.drop (q+1)).flatten)∧Below w.heap.size w wq) (fun _ j _=>(intOf j+1).toNat)
   case atStart =>
    refine ⟨es.length,Nat.le_refl _,by go_num,?_,zaa HBl⟩
    rw [List.drop_length,List.nil_append]
    exact zaa HI
   case round =>
    obtain ⟨t,ht,rfl,hJ,hBw⟩:=hrel
    by_cases ht0:0<t
    ·obtain ⟨p,rfl⟩:∃ p,t=p+1:=⟨t - 1,by omega⟩
     have hp:(((p+1:Nat):Int) - 1)=(p:Int):=by omega
     rw [hp]
     have hpe:p<es.length:=by omega
     obtain ⟨g',cg',e',_,hcs⟩:=((zaa Hd).kept (za5 hBw none) (fun j e=>by cases e)).cellsAt
     cases e'
     obtain ⟨rb,c0,c1,c2,hrb,hrB,hrl⟩:=hcs p hpe
     have hcell':wr.cell? ⟨b,q,none⟩=some (.slice (some ⟨g,0,none⟩) es.length cg):=(hBw.cell (p:=⟨b,q,none⟩) hbw).trans hcell
     have hdp:es.drop p=es[p] :: es.drop (p+1):=List.drop_eq_getElem_cons hpe
     obtain ⟨vos,h1,h2,h3⟩:=hJ
     have hvl:vos.length≤400:=by rw [h2,List.length_append,List.length_drop];omega
     have hdp2:es.drop p ++ (bs.drop (q+1)).flatten=es[p] :: (es.drop (p+1) ++ (bs.drop (q+1)).flatten):=by rw [hdp];rfl
     have Hdp:=zac hdp2
     have H1:=zac h1
     have H2:=zac h2
     have H3:=zac h3
     have HBw:=zac hBw
     have hs2:=hBw.size
     have Hrb:=zac hrb
     have hx3:(p:Int)<(es.length:Int):=by omega
     have hx4:(q:Int)<(bs.length:Int):=by omega
     generalize hxe:es[p]=x at *
     obtain ⟨nm,row,wt⟩:=x
     dsimp only at c0 c1 c2
     have hkept:Below wr.heap.size wr ((wr.alloc (.cells #[.string nm,.slice (some ⟨rb,0,none⟩) row.length row.length,.int .i64 wt] 49)).alloc (.cells #[.slice (some ⟨wr.heap.size,0,none⟩) 1 1] 40)):=((Below.refl _ _).alloc (Nat.le_refl _) _).alloc (by simp) _
     have H1':=zac (h1.kept (za5 hkept none) (by cases hx:u3.ownBlock <;> simp))
     have hnew:=zfv (wr.alloc (.cells #[.string nm,.slice (some ⟨rb,0,none⟩) row.length row.length,.int .i64 wt] 49)) (.slice (some ⟨wr.heap.size,0,none⟩) 1 1) 40
     rw [World.size_alloc] at hnew
     clear hcs h1 h2 h3 hBw hrb hdp hdp2 hkept hxe
     go_wp2_with (first
      | (at_builtin;refine wpList_append_own_at _ rfl _ _ 28 rfl w.heap.size 40 i36 _ 1 24 Tryz.underlying28 gi gz0 gz1 gz2 rfl (by decide) _ _ _ rfl (zaa H1') ⟨wr.heap.size+1,0,none⟩ 1 1 [.slice (some ⟨wr.heap.size,0,none⟩) 1 1] rfl rfl hnew (by simp [Value.oneCell']) (by unfold maxLen;omega) (by omega) (by simp;omega) ?_;intro vo' w5 ho5 hgr5 hnil5 hloc5))
     have HJ5:=zac (yi2.step (x:=⟨nm,row,wt⟩) (by omega) (zaa H1) (zaa H2) (zaa H3) (zaa Hrb) hrB ho5 hgr5)
     have HBw5:=zac ((((zaa HBw).alloc (by omega) (.cells #[.string nm,.slice (some ⟨rb,0,none⟩) row.length row.length,.int .i64 wt] 49)).alloc (by simp;omega) (.cells #[.slice (some ⟨wr.heap.size,0,none⟩) 1 1] 40)).grown hgr5 (by simp;omega) (fun j e=>by have:=(zcq (zaa H1) j e).1;omega))
     clear ho5 hgr5 hnil5 hloc5 hnew
     go_wp2
     refine ⟨⟨p,by omega,by go_num,?_,zaa HBw5⟩,by simp [intOf]⟩
     rw [zaa Hdp]
     exact zaa HJ5
    ·have h0:t=0:=by omega
     subst h0
     have HJ:=zac hJ
     have HBw:=zac hBw
     clear hJ hBw
     go_wp2
     refine ⟨⟨q,by omega,by go_num,?_,zaa HBw⟩,by simp [intOf]⟩
     rw [zaa Hdr,List.flatten_cons]
     exact zaa HJ
  ·have h0:k=0:=by omega
   subst h0
   have HF:Hid (zdd wo B u3 (zff bs)):=hI.bats hB
   have HB:=zac hBl
   clear hI hBl
   go_wp2
   go_ret
   exact ⟨_,rfl,zaa HF,zaa HB⟩
theorem ydd (vc:Value) (which:Int) (w:World) (hw1:-9223372036854775808≤which∧which≤9223372036854775807)
  (h:Calls Tryz.prog 6 #[] w fun e w1=>∃ eb,e=.returned (.pointer (some ⟨eb,0,none⟩))∧Calls Tryz.prog 6 #[] w1 fun e w2=>∃ fb,e=.returned (.pointer (some ⟨fb,0,none⟩)) ∧
   Calls Tryz.prog 7 #[] w2 fun e w3=>e=.returned (.bool true)∧Calls Tryz.prog 9 #[vc] w3 fun e w4=>∃ u,e=.returned u ∧
   Calls Tryz.prog 10 #[.pointer (some ⟨eb,0,none⟩),.string ⟨#[118]⟩,.string (zkf (zbd which 8)),.string ⟨#[]⟩] w4 fun e w5=>e=.returned (.bool true) ∧
   Calls Tryz.prog 10 #[.pointer (some ⟨fb,0,none⟩),.string ⟨#[118]⟩,.string (zkf (zbd which 8)),.string ⟨#[]⟩] w5 fun e w6=>e=.returned (.bool true) ∧
   Calls Tryz.prog 11 #[.pointer (some ⟨eb,0,none⟩),u] w6 fun e w7=>e=.returned (.bool true) ∧
   Calls Tryz.prog 12 #[u] w7 fun e w8=>∃ u',e=.returned u' ∧
   Calls Tryz.prog 11 #[.pointer (some ⟨fb,0,none⟩),u'] w8 fun e w9=>e=.returned (.bool true) ∧
   Calls Tryz.prog 13 #[.pointer (some ⟨eb,0,none⟩),.string ⟨#[118]⟩,.pointer (some ⟨fb,0,none⟩),.string ⟨#[118]⟩] w9 fun e w10=>e=.returned (.bool true)∧Below w.heap.size w w10) :
  Calls Tryz.prog 3 #[vc,.int .i64 which] w fun e w'=>e=.returned (.bool true)∧Below w.heap.size w w':=by
 have Hq:∀ W,Hid (Calls Tryz.prog 8 #[.int .i64 which] W fun e w'=>e=.returned (.tuple #[.string (zkf (zbd which 8)),.string (yba (zbd which 8))])∧w'=W):=fun W=>zg7 which W hw1.1 hw1.2
 have H:=zac h
 clear h
 generalize zkf (zbd which 8)=qt at *
 generalize yba (zbd which 8)=qv at *
 go_enter Tryz.func3,Tryz.ntmps3
 go_wp2_with fail
 refine (zaa H).mono ?_
 rintro e w1 ⟨eb,rfl,h1⟩
 have H1:=zac h1
 clear h1 H
 go_wp2_with fail
 refine (zaa H1).mono ?_
 rintro e w2 ⟨fb,rfl,h2⟩
 have H2:=zac h2
 clear h2 H1
 go_wp2_with fail
 refine (zaa H2).mono ?_
 rintro e w3 ⟨rfl,h3⟩
 have H3:=zac h3
 clear h3 H2
 go_wp2_with (first|(go_at_call 8;refine (zaa (Hq _)).mono ?_;rintro e w' ⟨rfl,hw⟩;replace hw:=hw.symm;subst hw))
 refine (zaa H3).mono ?_
 rintro e w4 ⟨u,rfl,h4⟩
 have H4:=zac h4
 clear h4 H3 hw1 Hq
 go_wp2_with fail
 refine (zaa H4).mono ?_
 rintro e w5 ⟨rfl,h5⟩
 have H5:=zac h5
 clear h5 H4
 go_wp2_with fail
 refine (zaa H5).mono ?_
 rintro e w6 ⟨rfl,h6⟩
 have H6:=zac h6
 clear h6 H5
 go_wp2_with fail
 refine (zaa H6).mono ?_
 rintro e w7 ⟨rfl,h7⟩
 have H7:=zac h7
 clear h7 H6
 go_wp2_with fail
 refine (zaa H7).mono ?_
 rintro e w8 ⟨u',rfl,h8⟩
 have H8:=zac h8
 clear h8 H7
 go_wp2_with fail
 refine (zaa H8).mono ?_
 rintro e w9 ⟨rfl,h9⟩
 have H9:=zac h9
 clear h9 H8
 go_wp2_with fail
 refine (zaa H9).mono ?_
 rintro e w10 ⟨rfl,h10⟩
 have H10:=zac h10
 clear h10 H9
 go_wp2
 go_ret
 exact ⟨rfl,zaa H10⟩
theorem zdd.keepC {w w':World} {B:Nat} {v:Value} {bs:List (List Ent)} (h:zdd w B v bs) (hk:zd8 w w'):zdd w' B v bs:=by
 obtain ⟨a,cap,rfl,h1,hx⟩:=h
 refine ⟨a,cap,rfl,h1,fun i hi=>?_⟩
 obtain ⟨b,sv,m,rfl,h2,hc,hd,cur,hcur⟩:=hx i hi
 have hblk:=hk.blk b _ _ _ hcur (by decide) (by decide)
 exact ⟨b,sv,m,rfl,h2,(World.cell?_of_block (a:=⟨b,i,none⟩) hblk).trans hc,hd.keepC hk,cur,hblk.trans hcur⟩
theorem ydc (vc:Value) (codes:List Int) (which:Int) (w:World) (hc:zbu w vc codes) (hcl:codes.length≤9223372036854775807) (hcb:∀ c∈codes,-9223372036854775808≤c∧c≤9223372036854775807)
  (hw1:-9223372036854775808≤which∧which≤9223372036854775807) :
  Calls Tryz.prog 3 #[vc,.int .i64 which] w fun e w'=>e=.returned (.bool true)∧Below w.heap.size w w':=by
 refine ydd vc which w hw1 ?_
 have hread:=zje which
 have hfit:=zjd which
 have hsz:=zjf which
 have hbl:=zoi codes
 have hbm:=zl7 codes
 have hbsh:=zj1 codes
 have hbf:=zl6 codes
 refine (zk2 w).mono ?_
 rintro e w1 ⟨s,rfl,hs,hsf,hsI,hsV,hsM,hsv,hb1⟩
 refine ⟨s.eb,rfl,(zk2 w1).mono ?_⟩
 rintro e w2 ⟨t,rfl,ht,htf,htI,htV,htM,htv,hb2⟩
 have H2:=yme hs hb1 ht hb2
 refine ⟨t.eb,rfl,(zp3 w2).mono ?_⟩
 rintro e w3 ⟨rfl,hb3⟩
 have H3:=H2.below hb3
 refine ⟨rfl,(zr5 vc codes w3 (hc.below H3.bel) hcl hcb).mono ?_⟩
 rintro e w4 ⟨u,rfl,hu,hb4⟩
 have H4:=H3.below hb4
 have hB4:w3.heap.size≤w4.heap.size:=hb4.size
 generalize zib codes=bs at *
 refine ⟨u,rfl,?_⟩
 refine (zid nmV _ noO _ _ w4 H4.one H4.bel.size yee (by decide) (by rw [hsv]) (by omega) hsz hread hfit (.inl rfl) (by omega)).mono ?_
 rintro e w5 ⟨rfl,s2,hs2,ht2,heb2,hfl2,hnI2,hnV2,hM2,v,hvw,hvH,hvB⟩
 have H5:=H4.left ht2 hs2
 have hu5:=hu.keepC ht2.keepC
 have hB5:=ht2.keepC.size
 have hhas2:s2.has nmV (zkn (zbd which 8)).1 ((zkn (zbd which 8)).2.map zb3.q):=⟨v,by rw [hvw];exact zbi _ _ _,hvH,hvB⟩
 rw [← heb2]
 refine ⟨rfl,(zid nmV _ noO _ _ w5 H5.two H5.bel.size yee (by decide) (by rw [htv]) (by omega) hsz hread hfit (.inl rfl) (by omega)).mono ?_⟩
 rintro e w6 ⟨rfl,t2,hs2',htt2,hebt2,hflt2,hnIt2,hnVt2,hMt2,v',hvw',hvH',hvB'⟩
 have H6:=H5.right htt2 hs2'
 have hu6:=hu5.keepC htt2.keepC
 have hB6:=htt2.keepC.size
 have hhast:t2.has nmV (zkn (zbd which 8)).1 ((zkn (zbd which 8)).2.map zb3.q):=⟨v',by rw [hvw'];exact zbi _ _ _,hvH',hvB'⟩
 rw [← hebt2]
 refine ⟨rfl,(zi2 _ bs w6 H6.one H6.bel.size hu6.stable hbsh hbf (by rw [hfl2,hsf];simpa using hbm) (by omega) (by rw [hM2,hsM];omega)).mono ?_⟩
 rintro e w7 ⟨rfl,s3,hs3,ht3,heb3,hfl3,_,_,_,hsame3⟩
 have H7:=H6.left ht3 hs3
 have hu7:=hu6.keepC ht3.keepC
 have hB7:=ht3.keepC.size
 have hhas3:=hsame3.has hhas2
 have hfl3':s3.fl=bs.flatten:=by rw [hfl3,hfl2,hsf,List.nil_append]
 rw [← heb3]
 refine ⟨rfl,(ybl u bs w7 hu7 hbm (by omega) (by omega) hbsh).mono ?_⟩
 rintro e w8 ⟨u',rfl,hu',hb8⟩
 have H8:=H7.below hb8
 have hlen:=zxz bs
 have hflat:(zff bs).flatten.length≤400:=by rw [znd,List.length_reverse];exact hbm
 refine ⟨u',rfl,(zi2 u' (zff bs) w8 H8.two H8.bel.size hu'.stable (ztd bs) (zvp hbf) (by rw [hflt2,htf];simpa using hflat) (by omega) (by rw [hMt2,htM];omega)).mono ?_⟩
 rintro e w9 ⟨rfl,t3,ht3',htt3,hebt3,hflt3,_,_,_,hsamet⟩
 have H9:=H8.right htt3 ht3'
 have hflt3':t3.fl=(zff bs).flatten:=by rw [hflt3,hflt2,htf,List.nil_append]
 rw [← hebt3]
 refine ⟨rfl,(ygq nmV nmV w9 H9.one H9.two (fun nm r=>by rw [hfl3',hflt3',zx0]) hhas3 (hsamet.has hhast)).mono ?_⟩
 rintro e w10 ⟨rfl,hb10⟩
 exact ⟨rfl,H9.bel.trans (hb10.mono H9.bel.size)⟩
end K
end Go.Proofs.YtoifcnidhfnapabGreatDoor
