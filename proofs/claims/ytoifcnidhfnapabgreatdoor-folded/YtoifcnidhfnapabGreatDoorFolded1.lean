import Derived.Test.YtoifcnidhfnapabGreatDoorB01
import Derived.Test.YtoifcnidhfnapabGreatDoorB02
import Derived.Test.YtoifcnidhfnapabGreatDoorB03
import Derived.Test.YtoifcnidhfnapabGreatDoorB04
import Derived.Test.YtoifcnidhfnapabGreatDoorB05
import Derived.Test.YtoifcnidhfnapabGreatDoorB06
import Derived.Test.YtoifcnidhfnapabGreatDoorB07
import Derived.Test.YtoifcnidhfnapabGreatDoorB08
import Derived.Test.YtoifcnidhfnapabGreatDoorB09
import Derived.Test.YtoifcnidhfnapabGreatDoorB10
import Derived.Test.YtoifcnidhfnapabGreatDoorB11
import Derived.Test.YtoifcnidhfnapabGreatDoorB12
import Derived.Test.YtoifcnidhfnapabGreatDoorB13
import Derived.Test.YtoifcnidhfnapabGreatDoorB14
import Derived.Test.YtoifcnidhfnapabGreatDoorB15
import Derived.Test.YtoifcnidhfnapabGreatDoorB16
import Derived.Test.YtoifcnidhfnapabGreatDoorB17
import Derived.Test.YtoifcnidhfnapabGreatDoorB18
import Derived.Test.YtoifcnidhfnapabGreatDoorB19
import Derived.Test.YtoifcnidhfnapabGreatDoorB20
import Derived.Test.YtoifcnidhfnapabGreatDoorB21
import Derived.Test.YtoifcnidhfnapabGreatDoorB22
import Derived.Test.YtoifcnidhfnapabGreatDoorB23
import Derived.Test.YtoifcnidhfnapabGreatDoorB24
import Derived.Test.YtoifcnidhfnapabGreatDoorB25
import Derived.Test.YtoifcnidhfnapabGreatDoorB26
import Derived.Test.YtoifcnidhfnapabGreatDoorB27
import Derived.Test.YtoifcnidhfnapabGreatDoorB28
import Derived.Test.YtoifcnidhfnapabGreatDoorB29
import Derived.Test.YtoifcnidhfnapabGreatDoorB30
import Derived.Test.YtoifcnidhfnapabGreatDoorB31
import Derived.Test.YtoifcnidhfnapabGreatDoorB32
import Derived.Test.YtoifcnidhfnapabGreatDoorB33
import Derived.Test.YtoifcnidhfnapabGreatDoorB34
import Derived.Test.YtoifcnidhfnapabGreatDoorB35
import Derived.Test.YtoifcnidhfnapabGreatDoorB36
import Derived.Test.YtoifcnidhfnapabGreatDoorB37
import Derived.Test.YtoifcnidhfnapabGreatDoorB38
import Derived.Test.YtoifcnidhfnapabGreatDoorB39
import Derived.Test.YtoifcnidhfnapabGreatDoorB40
import Derived.Test.YtoifcnidhfnapabGreatDoorB41
import Derived.Test.YtoifcnidhfnapabGreatDoorB42
import Derived.Test.YtoifcnidhfnapabGreatDoorB43
import Derived.Test.YtoifcnidhfnapabGreatDoorB44
import Derived.Test.YtoifcnidhfnapabGreatDoorB45
import Derived.Test.YtoifcnidhfnapabGreatDoorB46
import Derived.Test.YtoifcnidhfnapabGreatDoorB47
import Derived.Laws.CopyRow
import Derived.OpenShut
import Derived.Laws.CopyOwn
import Derived.Deep.CutRange
set_option linter.unusedVariables false
set_option linter.unusedSimpArgs false
set_option maxRecDepth 100000
set_option maxHeartbeats 16000000
namespace Go.Proofs.YtoifcnidhfnapabGreatDoor
open Go.RowKit Go.Maps Go.Sort Go.Shelf
attribute [local go_sem] Oper.semAt_some
section
attribute [local go_sem ↓] zgw
end
theorem zc3.below {w w':World} {v:Value} {rs:List (List Int×Int)} (h:zc3 w v rs) (hb:Below w.heap.size w w'):zc3 w' v rs:=by
 obtain ⟨a,cap,rfl,hc⟩:=h
 exact ⟨a,cap,rfl,fun i hi=>by
  obtain ⟨b,o,sv,ha,h1,h2,h3⟩:=hc i hi
  exact ⟨b,o,sv,ha,(hb.cell (p:=⟨b,_,none⟩) (World.block_lt_of_cell? w _ h1)).trans h1,h2.below hb,(hb.cell (p:=⟨b,_,none⟩) (World.block_lt_of_cell? w _ h3)).trans h3⟩⟩
end Go.Proofs.YtoifcnidhfnapabGreatDoor
namespace Go.Proofs.YtoifcnidhfnapabGreatDoor
namespace K
open Go.RowKit Go.Maps
def yb8 (w:World) (v:Value) (bs:List (List Ent)):Prop:=
  ∃ a cap,v=.slice a bs.length cap∧∀ i,i<bs.length→∃ b o sv,a=some ⟨b,o,none⟩∧w.cell? ⟨b,o+i,none⟩=some sv∧zds w sv (bs[i]?.getD [])
end K
end Go.Proofs.YtoifcnidhfnapabGreatDoor
namespace Go.Proofs.YtoifcnidhfnapabGreatDoor
namespace K
open Go.RowKit Go.Maps Go.Sort Go.Shelf
theorem zhu {R:Rel} {ar cnt:Nat} {G:List Row} (h:ztn R ar cnt G) {es:List Ent} (hf:∀ x∈es,Fine x) {nm:ByteArray} (hG:∀ r,zbr es nm r≠0→r∈G) (hGl:G.length≤16) (hc:cnt+es.length≤400) :
  R.n+2*es.length≤100000∧(∀ r,zaw r→-1000≤R.f r+zbr es nm r∧R.f r+zbr es nm r≤1000)∧(∀ r,zaw r→-1000≤R.f r∧R.f r≤1000)∧∃ G:List Row,G.length≤16∧∀ r,zaw r→R.f r+zbr es nm r≠0→r∈G:=by
 have h2:=h.add hf hG
 refine ⟨by have:=h.n_;omega,fun r hr=>?_,fun r hr=>?_,G,hGl,fun r hr h0=>h2.supp r hr h0⟩
 ·have a:=h2.lo r hr;have b:=h2.hi r hr
  simp only [zah] at a b
  push_cast at a b
  omega
 ·have a:=h.lo r hr;have b:=h.hi r hr
  omega
theorem _root_.Go.Proofs.YtoifcnidhfnapabGreatDoor.KeepX.trans' {X Y:Nat→Prop} {a b c:World} (h:KeepX X a b) (k:KeepX Y b c) (hY:∀ q,Y q→X q∨a.heap.size≤q):KeepX X a c:=
 ⟨k.os.trans h.os,k.tape.trans h.tape,k.output.trans h.output,Nat.le_trans h.size k.size,fun q hq hx=>(k.blk q (Nat.lt_of_lt_of_le hq h.size) (fun hy=>(hY q hy).elim hx (fun h=>by omega))).trans (h.blk q hq hx)⟩
def zry (w:World) (v:Value) (bs:List (List Ent)):Prop:=∀ w',zd8 w w'→yb8 w' v bs
theorem zdd.stable {w:World} {B:Nat} {v:Value} {bs:List (List Ent)} (h:zdd w B v bs):zry w v bs:=by
 obtain ⟨a,cap,rfl,_,hx⟩:=h
 intro w' hk
 refine ⟨a,cap,rfl,fun i hi=>?_⟩
 obtain ⟨b,sv,m,rfl,_,hc,hd,cur,hb⟩:=hx i hi
 exact ⟨b,0,sv,rfl,by rw [Nat.zero_add];exact (World.cell?_of_block (a:=⟨b,i,none⟩) (hk.blk b _ _ _ hb (by decide) (by decide))).trans hc,(hd.keepC hk).ents⟩
theorem zbe.refl (vws:VwS):zbe vws vws:=⟨fun _ h=>h,fun nm v h=>⟨v.n,v.f,h⟩⟩
theorem zbe.trans {a b c:VwS} (h:zbe a b) (k:zbe b c):zbe a c:=
 ⟨fun nm hn=>k.1 nm (h.1 nm hn),fun nm v hv=>by
  obtain ⟨n,f,h1⟩:=h.2 nm v hv
  obtain ⟨n',f',h2⟩:=k.2 nm _ h1
  exact ⟨n',f',h2⟩⟩
theorem zj0 (v:Value) (es:List Ent) (w:World) {fix:Nat→Prop} {eb db nD nI nV N M cnt:Nat} {R S T:Rel} {ixs:IxS} {vws:VwS} (hE:EngV w fix eb db nD nI nV N (st3 R S T) ixs vws) (h3:zl1 R S T cnt) (hv:zds w v es) (hl:es.length≤64) (hf:∀ x∈es,Fine x) (hc:cnt+es.length≤400) (hN:N+2*es.length≤1000) (hN1:1≤N) (hM:zdf M vws) (hM2:M≤8000000000000000000) :
  Calls Tryz.prog 26 #[.pointer (some ⟨eb,0,none⟩),v] w fun e w'=>e=.returned (.tuple #[.int .i64 0,.int .i64 0])∧KeepX (zcs (st3 R S T) ixs vws) w w'∧∃ ixs' vws',EngV w' fix eb db nD nI nV (N+2*es.length) (st3 (zah R es nmR) (zah S es nmS) (zah T es nmT)) ixs' vws'∧zbe vws vws'∧zdf (M+4000000000000) vws'∧(∀ k,(ixs' k).isSome=(ixs k).isSome)∧∀ q,zcs (st3 (zah R es nmR) (zah S es nmS) (zah T es nmT)) ixs' vws' q→zcs (st3 R S T) ixs vws q∨w.heap.size≤q:=by
 rw [← zpp]
 have hp:4*(N+2*es.length) ^ 4≤4000000000000:=by
  have:=ymq hN
  have e:(1000:Nat) ^ 4=1000000000000:=by decide
  omega
 have hfit:∀ nm Q,st3 R S T nm=some Q→Q.n+2*es.length≤100000∧(∀ r,zaw r→-1000≤Q.f r+zbr es nm r∧Q.f r+zbr es nm r≤1000)∧(∀ r,zaw r→-1000≤Q.f r∧Q.f r≤1000)∧∃ G:List Row,G.length≤16∧∀ r,zaw r→Q.f r+zbr es nm r≠0→r∈G:=by
  intro nm Q hQ
  rcases zte hQ with ⟨rfl,rfl⟩|⟨rfl,rfl⟩|⟨rfl,rfl⟩
  ·exact zhu h3.r hf (fun _ h0=>(zc6 hf h0).1 rfl) (by rw [zgv];omega) hc
  ·exact zhu h3.s hf (fun _ h0=>(zc6 hf h0).2.1 rfl) (by rw [zgv];omega) hc
  ·exact zhu h3.t hf (fun _ h0=>(zc6 hf h0).2.2 rfl) (by rw [zo0];omega) hc
 refine (ziy v es w hE hv hl (fun x hx=>(hf x hx).good) (fun i hi=>?_) (fun x hx=>(hf x hx).known R S T) (fun nm Q hQ=>⟨by have:=(hfit nm Q hQ).1;omega,(hfit nm Q hQ).2.2.1⟩) (by omega) hN1 (fun nm v hv=>by have:=hM nm v hv;omega)).mono ?_
 ·have:es[i]?.getD zf6=es[i]:=by simp [hi]
  rw [this]
  exact (hf _ (List.getElem_mem hi)).chk h3
 ·have hW:∀ nm Q,st3 R S T nm=some Q→zjx Q.f (zbr es nm):=fun nm Q hQ r hr _=>(hfit nm Q hQ).2.1 r hr
  have hR:∀ nm Q,st3 R S T nm=some Q→zn8 es nm Q.f:=fun nm Q hQ _=>(hfit nm Q hQ).2.2.2
  rintro e w' ⟨c,rfl,hk,⟨rfl,h1,_⟩|⟨rfl,_,h1,_⟩|⟨rfl,_,_,ixs',vws',h1,h2,h4,h5⟩⟩
  ·exact absurd hW h1
  ·exact absurd hR h1
  ·exact ⟨rfl,hk,ixs',vws',h1,zbe.ofKept h2,hM.kept h2 hp,h4,h5⟩
theorem zhi (v:Value) (es:List Ent) (w:World) {fix:Nat→Prop} {eb db nD nI nV N M cnt:Nat} {R S T:Rel} {ixs:IxS} {vws:VwS} (hE:EngV w fix eb db nD nI nV N (st3 R S T) ixs vws) (h3:zl1 R S T cnt) (hv:zds w v es) (hl:es.length≤64) (hf:∀ x∈es,Fine x) (hc:cnt+es.length≤400) (hN:N+2*es.length≤1000) (hN1:1≤N) (hM:zdf M vws) (hM2:M≤8000000000000000000) :
  Calls Tryz.prog 15 #[.pointer (some ⟨eb,0,none⟩),v] w fun e w'=>e=.returned (.bool true)∧KeepX (zcs (st3 R S T) ixs vws) w w'∧∃ ixs' vws',EngV w' fix eb db nD nI nV (N+2*es.length) (st3 (zah R es nmR) (zah S es nmS) (zah T es nmT)) ixs' vws'∧zbe vws vws'∧zdf (M+4000000000000) vws'∧(∀ k,(ixs' k).isSome=(ixs k).isSome)∧∀ q,zcs (st3 (zah R es nmR) (zah S es nmS) (zah T es nmT)) ixs' vws' q→zcs (st3 R S T) ixs vws q∨w.heap.size≤q:=by
 have H:=zac (zj0 v es w hE h3 hv hl hf hc hN hN1 hM hM2)
 clear hE h3 hv hf hM
 go_enter Tryz.func15,Tryz.ntmps15
 go_wp2_with fail
 refine (zaa H).mono ?_
 rintro e w1 ⟨rfl,h1⟩
 have H1:=zac h1
 clear h1 H
 go_wp2
 go_ret
 exact ⟨rfl,zaa H1⟩
theorem zia (v:Value) (bs:List (List Ent)) (w:World) {fix:Nat→Prop} {eb db nD nI nV N M cnt:Nat} {R S T:Rel} {ixs:IxS} {vws:VwS} (hE:EngV w fix eb db nD nI nV N (st3 R S T) ixs vws) (h3:zl1 R S T cnt) (hv:zry w v bs) (hl:∀ b∈bs,b.length≤12) (hf:∀ b∈bs,∀ x∈b,Fine x) (hc:cnt+bs.flatten.length≤400) (hbl:bs.length≤1000) (hN:N+2*bs.flatten.length≤1000) (hN1:1≤N) (hM:zdf M vws) (hM2:M≤4000000000000000000) :
  Calls Tryz.prog 11 #[.pointer (some ⟨eb,0,none⟩),v] w fun e w'=>e=.returned (.bool true)∧KeepX (zcs (st3 R S T) ixs vws) w w'∧∃ ixs' vws',EngV w' fix eb db nD nI nV (N+2*bs.flatten.length) (st3 (zah R bs.flatten nmR) (zah S bs.flatten nmS) (zah T bs.flatten nmT)) ixs' vws'∧zbe vws vws'∧zdf (M+bs.length*4000000000000) vws'∧(∀ k,(ixs' k).isSome=(ixs k).isSome)∧∀ q,zcs (st3 (zah R bs.flatten nmR) (zah S bs.flatten nmS) (zah T bs.flatten nmT)) ixs' vws' q→zcs (st3 R S T) ixs vws q∨w.heap.size≤q:=by
 have h0:=hv w (zd8.refl w)
 obtain ⟨a,cap,rfl,_⟩:=h0
 have Hv:=zac hv
 have HE:=zac hE
 have H3:=zac h3
 have Hl:=zac hl
 have Hf:=zac hf
 have HM:=zac hM
 clear hv hE h3 hl hf hM
 go_enter Tryz.func11,Tryz.ntmps11
 go_wp2
 go_loopw [5] (fun i wr=>∃ k:Nat,k≤bs.length∧i=.int .i64 k∧KeepX (zcs (st3 R S T) ixs vws) w wr∧∃ ixs' vws',EngV wr fix eb db nD nI nV (N+2*(bs.take k).flatten.length) (st3 (zah R (bs.take k).flatten nmR) (zah S (bs.take k).flatten nmS) (zah T (bs.take k).flatten nmT)) ixs' vws'∧zbe vws vws'∧zdf (M+k*4000000000000) vws'∧(∀ k,(ixs' k).isSome=(ixs k).isSome)∧∀ q,zcs (st3 (zah R (bs.take k).flatten nmR) (zah S (bs.take k).flatten nmS) (zah T (bs.take k).flatten nmT)) ixs' vws' q→zcs (st3 R S T) ixs vws q∨w.heap.size≤q) (fun i _=>bs.length - (intOf i).toNat)
 case atStart =>
  refine ⟨0,Nat.zero_le _,rfl,KeepX.refl _ _,ixs,vws,?_⟩
  simp only [List.take_zero,List.flatten_nil,zb2,List.length_nil,Nat.mul_zero,Nat.add_zero,Nat.zero_mul]
  exact ⟨zaa HE,zbe.refl _,zaa HM,fun _=>trivial,fun q hq=>.inl hq⟩
 case round =>
  obtain ⟨k,hk,rfl,hkx,ixs',vws',hEk,hsame,hmost,hixs,hnew⟩:=hrel
  by_cases hlt:k<bs.length
  ·have hx:(k:Int)<(bs.length:Int):=by omega
   obtain ⟨a',cap',hsl,hcs⟩:=(zaa Hv) wr (zd8.ofX (zaa HE) hkx)
   cases hsl
   obtain ⟨b,o,sv,rfl,h1,hd'⟩:=hcs k hlt
   have hbe:bs[k]?.getD []=bs[k]:=by simp [hlt]
   rw [hbe] at hd'
   have hmem:bs[k]∈bs:=List.getElem_mem hlt
   have hfl:∀ x∈(bs.take k).flatten,Fine x:=fun x hx=>by
    obtain ⟨y,hy,hxy⟩:=List.mem_flatten.1 hx
    exact (zaa Hf) y (List.mem_of_mem_take hy) x hxy
   have h3k:=(zaa H3).add hfl
   have hcl:(bs.take k).flatten.length+bs[k].length≤bs.flatten.length:=by
    have:=zie bs (k+1)
    rw [zck hlt] at this
    simp only [List.length_append] at this
    omega
   have Hcall:=zac (zhi sv bs[k] wr hEk h3k hd' (by have:=(zaa Hl) _ hmem;omega) ((zaa Hf) _ hmem) (by omega) (by omega) (by omega) hmost (by omega))
   have Hsame:=zac hsame
   have Hixs:=zac hixs
   have Hnew:=zac hnew
   have Hkx:=zac hkx
   clear hd' hEk hfl h3k hbe hcl hmem hcs hsame hmost hixs hnew hkx
   go_wp2_with (first|(go_at_call 15;refine (zaa Hcall).mono ?_;rintro e w1 ⟨rfl,hk1,ixs1,vws1,hE1,hs1,hm1,hi1,hn1⟩))
   rw [za3,za3,za3,← zck hlt] at hE1 hn1
   have HF:=zac (show KeepX (zcs (st3 R S T) ixs vws) w w1∧∃ ixs' vws',EngV w1 fix eb db nD nI nV (N+2*(bs.take (k+1)).flatten.length) (st3 (zah R (bs.take (k+1)).flatten nmR) (zah S (bs.take (k+1)).flatten nmS) (zah T (bs.take (k+1)).flatten nmT)) ixs' vws'∧zbe vws vws'∧zdf (M+(k+1)*4000000000000) vws'∧(∀ k,(ixs' k).isSome=(ixs k).isSome)∧∀ q,zcs (st3 (zah R (bs.take (k+1)).flatten nmR) (zah S (bs.take (k+1)).flatten nmS) (zah T (bs.take (k+1)).flatten nmT)) ixs' vws' q→zcs (st3 R S T) ixs vws q∨w.heap.size≤q from
    ⟨(zaa Hkx).trans' hk1 (zaa Hnew),ixs1,vws1,by
     have e:N+2*(bs.take (k+1)).flatten.length=N+2*(bs.take k).flatten.length+2*bs[k].length:=by rw [zck hlt,List.length_append];omega
     rw [e];exact hE1,(zaa Hsame).trans hs1,by
     have e:M+(k+1)*4000000000000=M+k*4000000000000+4000000000000:=by omega
     rw [e];exact hm1,fun k=>(hi1 k).trans ((zaa Hixs) k),fun q hq=>by
     rcases hn1 q hq with h|h
     ·exact (zaa Hnew) q h
     ·exact .inr (Nat.le_trans (zaa Hkx).size h)⟩)
   clear hk1 hE1 hs1 hm1 hi1 hn1
   go_roundw
   case rel=>exact ⟨k+1,by omega,by go_num,zaa HF⟩
   case measure=>simp [intOf];omega
  ·have:k=bs.length:=by omega
   subst this
   rw [List.take_length] at hEk hnew
   have HF:=zac (show KeepX (zcs (st3 R S T) ixs vws) w wr∧∃ ixs' vws',EngV wr fix eb db nD nI nV (N+2*bs.flatten.length) (st3 (zah R bs.flatten nmR) (zah S bs.flatten nmS) (zah T bs.flatten nmT)) ixs' vws'∧zbe vws vws'∧zdf (M+bs.length*4000000000000) vws'∧(∀ k,(ixs' k).isSome=(ixs k).isSome)∧∀ q,zcs (st3 (zah R bs.flatten nmR) (zah S bs.flatten nmS) (zah T bs.flatten nmT)) ixs' vws' q→zcs (st3 R S T) ixs vws q∨w.heap.size≤q from ⟨hkx,ixs',vws',hEk,hsame,hmost,hixs,hnew⟩)
   clear hkx hEk hsame hmost hixs hnew
   go_wp2
   go_ret
   exact ⟨rfl,zaa HF⟩
section
variable {B0:Nat} {W:World} {fix:Nat→Prop} {eb db nI nV M:Nat} {fl:List Ent} {R S T:Rel} {ixs:IxS} {vws:VwS}
end
theorem zl2 (R S T:Rel) (fl gl:List Ent):st3 (zah (zah R fl nmR) gl nmR) (zah (zah S fl nmS) gl nmS) (zah (zah T fl nmT) gl nmT)=stF R S T (fl ++ gl):=by
 unfold stF
 rw [za3,za3,za3]
theorem zkk (u:Value) (bs:List (List Ent)) (W:World) {B0:Nat} {fix:Nat→Prop} {eb db nI nV M:Nat} {fl:List Ent} {R S T:Rel} {ixs:IxS} {vws:VwS} (h:Stg B0 W fix eb db nI nV M fl R S T ixs vws) (hB0:B0≤W.heap.size) (hv:zry W u bs) (hl:∀ b∈bs,b.length≤12) (hf:∀ b∈bs,∀ x∈b,Fine x) (hc:fl.length+bs.flatten.length≤400) (hbl:bs.length≤1000) (hM:M≤4000000000000000000) :
  Calls Tryz.prog 11 #[.pointer (some ⟨eb,0,none⟩),u] W fun e w'=>e=.returned (.bool true)∧∃ ixs' vws',Stg B0 w' fix eb db nI nV (M+bs.length*4000000000000) (fl ++ bs.flatten) R S T ixs' vws'∧zbe vws vws'∧KeepX (zcs (stF R S T fl) ixs vws) W w'∧∀ q,zcs (stF R S T (fl ++ bs.flatten)) ixs' vws' q→zcs (stF R S T fl) ixs vws q∨W.heap.size≤q:=by
 refine (zia u bs W h.eng h.three hv hl hf hc hbl (by omega) (by omega) h.most hM).mono ?_
 rintro e w' ⟨rfl,hk,ixs',vws',h1,h2,h3,h4,h5⟩
 rw [zl2] at h1 h5
 refine ⟨rfl,ixs',vws',⟨?_,h.fr,h.fs,h.ft,fun x hx=>?_,by rw [List.length_append];omega,h3,fun q hq=>(h5 q hq).elim (h.low q) (fun h=>by omega),h.db0,h.fix0⟩,h2,hk,h5⟩
 ·have e:1+2*(fl ++ bs.flatten).length=1+2*fl.length+2*bs.flatten.length:=by rw [List.length_append];omega
  rw [e]
  exact h1
 ·rcases List.mem_append.1 hx with hx|hx
  ·exact h.fine x hx
  ·obtain ⟨b,hb,hxb⟩:=List.mem_flatten.1 hx
   exact hf b hb x hxb
section
variable {B0:Nat} {W:World} {fix:Nat→Prop} {eb db nI nV M:Nat} {fl:List Ent} {R S T:Rel} {ixs:IxS} {vws:VwS}
theorem Stg.rowsL (h:Stg B0 W fix eb db nI nV M fl R S T ixs vws) {nm:ByteArray} {Q:Rel} (hQ:stF R S T fl nm=some Q):znn Q.f (zbf Q.f ((if Q.ar=1 then zhl else zfj).filter fun r=>decide (Q.f r≠0))):=by
 have h3:=h.three
 refine ⟨_,?_,rfl⟩
 rcases zhs hQ with ⟨_,rfl⟩|⟨_,rfl⟩|⟨_,rfl⟩
 ·rw [if_neg (by rw [h3.r.ar_];decide)];exact (zel h3.r zew zi3).1
 ·rw [if_neg (by rw [h3.s.ar_];decide)];exact (zel h3.s zew zi3).1
 ·rw [if_pos h3.t.ar_];exact (zel h3.t zj6 ztm).1
theorem Stg.val (h:Stg B0 W fix eb db nI nV M fl R S T ixs vws) {nm:ByteArray} {v:zda} (hv:vws nm=some v) (q:H4):BitVec.ofInt 64 (v.f q)=zts (v.B.map (·.ts)) (v.H.map (·.1)) (zde (stF R S T fl) v.B) q:=by
 obtain ⟨hV,hH⟩:=h.eng.vw nm v hv
 refine hH _ (fun i hi=>?_) q
 have hmem:v.B[i]?.getD zat∈v.B:=by simp [hi]
 obtain ⟨Q,hQ,_⟩:=hV.fit.rel _ hmem
 refine ⟨Q,hQ,?_⟩
 unfold zde
 rw [hQ]
 exact h.rowsL hQ
theorem Stg.range (h:Stg B0 W fix eb db nI nV M fl R S T ixs vws) {nm:ByteArray} {v:zda} (hv:vws nm=some v) {q:H4} (hq:WfH q):-9223372036854775808≤v.f q∧v.f q≤9223372036854775807:=(h.eng.vw nm v hv).1.map.range hq
theorem Stg.supp (h:Stg B0 W fix eb db nI nV M fl R S T ixs vws) {nm:ByteArray} {v:zda} (hv:vws nm=some v):∀ q,WfH q→v.f q≠0→q∈zqf:=by
 intro q hq h0
 refine zpz (L:=zde (stF R S T fl) v.B) (A:=v.B.map (·.ts)) (H:=v.H.map (·.1)) (fun i _=>zkh) fun hz=>h0 ?_
 rw [← h.val hv q] at hz
 exact zei (h.range hv hq) (by omega) hz
theorem Stg.map256 (h:Stg B0 W fix eb db nI nV M fl R S T ixs vws) {nm:ByteArray} {v:zda} (hv:vws nm=some v):zeo W v.mb 256 v.f:=by
 have:=(h.eng.vw nm v hv).1.map.tight zqf (h.supp hv)
 rwa [zo1] at this
end
theorem zi2 (u:Value) (bs:List (List Ent)) (W:World) {s:ES} {B0:Nat} (h:s.At B0 W) (hB0:B0≤W.heap.size) (hv:zry W u bs) (hl:∀ b∈bs,b.length≤12) (hf:∀ b∈bs,∀ x∈b,Fine x) (hc:s.fl.length+bs.flatten.length≤400) (hbl:bs.length≤1000) (hM:s.M≤4000000000000000000) :
  Calls Tryz.prog 11 #[.pointer (some ⟨s.eb,0,none⟩),u] W fun e w'=>e=.returned (.bool true)∧∃ s':ES,s'.At B0 w'∧zof s s' W w'∧s'.eb=s.eb∧s'.fl=s.fl ++ bs.flatten∧s'.nI=s.nI∧s'.nV=s.nV∧s'.M=s.M+bs.length*4000000000000∧zbe s.vws s'.vws:=by
 refine (zkk u bs W h hB0 hv hl hf hc hbl hM).mono ?_
 rintro e w' ⟨rfl,ixs',vws',hS,h1,h2,h3⟩
 refine ⟨rfl,⟨s.fix,s.eb,s.db,s.nI,s.nV,_,_,s.R,s.S,s.T,ixs',vws'⟩,hS,⟨⟨_,h2,fun q hq=>.inr (.inr (.inr (.inr hq))),fun q hq=>h.eng.xtype q hq⟩,fun q hq=>?_⟩,rfl,rfl,rfl,rfl,rfl,h1⟩
 rcases hq with hq|hq|hq|hq|hq
 ·exact .inl (.inl hq)
 ·exact .inl (.inr (.inl hq))
 ·exact .inl (.inr (.inr (.inl hq)))
 ·exact .inl (.inr (.inr (.inr (.inl hq))))
 ·exact (h3 q hq).imp (fun h=>.inr (.inr (.inr (.inr h)))) id
theorem zbe.has {s s':ES} (h:zbe s.vws s'.vws) {nm:ByteArray} {H:List (Nat×Nat)} {B:List za7} (hv:s.has nm H B):s'.has nm H B:=by
 obtain ⟨v,h1,h2,h3⟩:=hv
 obtain ⟨n,f,h4⟩:=h.2 nm v h1
 exact ⟨_,h4,h2,h3⟩
end K
end Go.Proofs.YtoifcnidhfnapabGreatDoor
namespace Go.Proofs.YtoifcnidhfnapabGreatDoor
namespace K
open Go.RowKit Go.Maps
def zkr (a b:List Int) (m:Nat):Prop:=m<a.length∧m<b.length∧(∀ j,j<m→a[j]?.getD 0=b[j]?.getD 0)∧a[m]?.getD 0<b[m]?.getD 0
structure yk1 (rs:List (List Int×Int)):Prop where
 nz:∀ i,i<rs.length→(rs[i]?.getD ([],0)).2≠0
 lt:∀ i,i+1<rs.length→∃ m,zkr (rs[i]?.getD ([],0)).1 (rs[i+1]?.getD ([],0)).1 m
theorem ybd (v:Value) (rs:List (List Int×Int)) (w:World) (hv:zc3 w v rs) (hl:rs.length≤1000000000) (hs:zg8 rs) (hr:yk1 rs) :
  Calls Tryz.prog 28 #[v] w fun e w'=>e=.returned (.bool true)∧za9 w w':=by
 obtain ⟨a,cap,rfl,hc⟩:=hv
 have Hc:=zac hc
 have Hs:=zac hs
 have Hr:=zac hr
 clear hc hs hr
 go_enter Tryz.func28,Tryz.ntmps28
 go_wp2
 go_loopw [3] (fun i wr=>∃ k:Nat,k≤rs.length∧i=.int .i64 k∧za9 w wr) (fun i _=>rs.length - (intOf i).toNat)
 case atStart=>exact ⟨0,Nat.zero_le _,rfl,za9.refl _⟩
 case round =>
  obtain ⟨k,hk,rfl,hdr⟩:=hrel
  have Hdr:=zac hdr
  clear hdr
  by_cases hlt:k<rs.length
  ·obtain ⟨b,o,sv,rfl,h1,h2,h3⟩:=(zaa Hc) k hlt
   have hx:(k:Int)<(rs.length:Int):=by omega
   rw [← (zaa Hdr).cell] at h1 h3
   have hnz:=(zaa Hr).nz k hlt
   obtain ⟨z,hz⟩:∃ z,z=(rs[k]?.getD ([],0)).1:=⟨_,rfl⟩
   obtain ⟨q,hq⟩:∃ q,q=(rs[k]?.getD ([],0)).2:=⟨_,rfl⟩
   rw [← hz] at h2
   rw [← hq] at h3 hnz
   have hqb:(q == 0)=false:=by simpa using hnz
   have HZ:=zac hz
   clear hq hz hnz
   rcases k with _|k
   ·have H2:=zac h2
    clear h2 h1
    simp only [Nat.zero_mul,Nat.add_zero] at h3
    go_wp2
    go_roundw
    case rel=>exact ⟨1,by omega,by simp,zaa Hdr⟩
    case measure=>simp [intOf];omega
   ·obtain ⟨b',o',sv',hbo,g1,g2,g3⟩:=(zaa Hc) k (by omega)
    cases hbo
    rw [← (zaa Hdr).cell] at g1
    obtain ⟨y,hy⟩:∃ y,y=(rs[k]?.getD ([],0)).1:=⟨_,rfl⟩
    rw [← hy] at g2
    obtain ⟨m,hp⟩:=(zaa Hr).lt k hlt
    rw [← hy,← zaa HZ] at hp
    have hyl:=zjh (zaa Hs) (by omega) hy
    have hzl:=zjh (zaa Hs) hlt (zaa HZ)
    clear hy g3
    obtain ⟨a1,c1,rfl,g2⟩:=g2
    obtain ⟨a2,c2,rfl,h2⟩:=h2
    have Hg:=zac g2
    have Hh:=zac h2
    have Hp:=zac hp
    obtain ⟨p1,p2,-,-⟩:=hp
    have hk0:((k:Int)+1 == 0)=false:=by simp;omega
    have hk1:(k:Int)<(rs.length:Int):=by omega
    clear g2 h2
    push_cast at hx
    go_wp2
    go_quiet (fail)
    go_wp2_with fail
    go_loopw [6] (fun i wq=>∃ j:Nat,j≤m∧i=.int .i64 j∧za9 w wq) (fun i _=>m - (intOf i).toNat)
    case atStart=>exact ⟨0,Nat.zero_le _,rfl,(zaa Hdr).thenN _⟩
    case round =>
     obtain ⟨j,hj,rfl,hdq⟩:=hrel
     obtain ⟨b1,o1,rfl,e1⟩:=(zaa Hg) j (by omega)
     obtain ⟨b2,o2,rfl,e2⟩:=(zaa Hh) j (by omega)
     obtain ⟨s1,hs1⟩:∃ s1,s1=y[j]?.getD 0:=⟨_,rfl⟩
     obtain ⟨s2,hs2⟩:∃ s2,s2=z[j]?.getD 0:=⟨_,rfl⟩
     rw [← hs1,← hdq.cell] at e1
     rw [← hs2,← hdq.cell] at e2
     have hx1:(j:Int)<(y.length:Int):=by omega
     have hx2:(j:Int)<(z.length:Int):=by omega
     have Hdq:=zac hdq
     clear hdq g1 h1 h3
     by_cases hjm:j<m
     ·have heq:s1=s2:=by rw [hs1,hs2];exact (zaa Hp).2.2.1 j hjm
      have hd:(s1 == s2)=true:=by simp [heq]
      clear heq hs1 hs2
      go_wp2
      go_quiet (fail)
      go_wp2
      go_roundw
      case rel=>exact ⟨j+1,by omega,by go_num,(zaa Hdq).thenN _⟩
      case measure=>simp [intOf];omega
     ·have hjm':j=m:=by omega
      subst hjm'
      have hlt2:s1<s2:=by rw [hs1,hs2];exact (zaa Hp).2.2.2
      have hd:(s1 == s2)=false:=by simp;omega
      have hd2:¬ s2<s1:=by omega
      clear hs1 hs2
      go_wp2
      go_quiet (fail)
      go_wp2_with fail
      generalize hW:World.drewN _ _=W9
      have Hd9:Hid (za9 w W9):=by rw [← hW];exact (zaa Hdq).thenN _
      have e1':W9.cell? ⟨b1,o1+j,none⟩=some (.int .i64 s1):=by rw [← hW];exact e1
      have e2':W9.cell? ⟨b2,o2+j,none⟩=some (.int .i64 s2):=by rw [← hW];exact e2
      clear hW
      go_quiet (fail)
      go_wp2
      go_roundw
      case rel=>exact ⟨k+2,by omega,by go_num,(zaa Hd9).thenN _⟩
      case measure=>simp [intOf];omega
  ·go_wp2
   go_ret
   exact ⟨rfl,zaa Hdr⟩
end K
end Go.Proofs.YtoifcnidhfnapabGreatDoor
namespace Go.Proofs.YtoifcnidhfnapabGreatDoor
namespace K
open Go.RowKit Go.Maps Go.Sort Go.Shelf
def zak (c:Nat) (q:H4):H4:=(if 0<c then q.1 else 0,if 1<c then q.2.1 else 0,if 2<c then q.2.2.1 else 0,if 3<c then q.2.2.2 else 0)
theorem zzl {b:Prop} [Decidable b] {x:Int} (h:wfI x):wfI (if b then x else 0):=by
 split
 ·exact h
 ·exact ziw
theorem zoy (c:Nat) {q:H4} (h:WfH q):WfH (zak c q):=⟨zzl h.1,zzl h.2.1,zzl h.2.2.1,zzl h.2.2.2⟩
theorem zsg {b:Prop} [Decidable b] (x:Int):(if b then (if b then x else 0) else 0)=if b then x else 0:=by split <;> rfl
theorem zww (c:Nat) (q:H4):zak c (zak c q)=zak c q:=by
 unfold zak
 dsimp only
 rw [zsg,zsg,zsg,zsg]
theorem le4 {c:Nat} (h:c≤4):c=0∨c=1∨c=2∨c=3∨c=4:=by omega
theorem zxn {c:Nat} (hc:c≤4) (p q:H4):H.za0 c p=H.za0 c q↔zak c p=zak c q:=by
 obtain ⟨p1,p2,p3,p4⟩:=p
 obtain ⟨q1,q2,q3,q4⟩:=q
 rcases le4 hc with rfl|rfl|rfl|rfl|rfl <;> simp [H.za0,zak]
theorem yej {c n:Nat} (h:c≤n) (q:H4):(H.za0 n q).take c=H.za0 c q:=by
 unfold H.za0
 rw [List.take_take,Nat.min_eq_left h]
theorem zlc {n:Nat} (hn:n≤4) (q:H4):(H.za0 n q).length=n:=by
 unfold H.za0
 rw [List.length_take]
 simp
 omega
def zqg (c:Nat) (f:H4→Int) (p:H4) (ys:List H4):Int:=ys.foldl (fun s q=>if zak c q=p then wrap64 (s+f q) else s) 0
theorem zse (c:Nat) (f:H4→Int) (p:H4):zqg c f p []=0:=rfl
theorem zig (c:Nat) (f:H4→Int) (p:H4) (ys:List H4) (q:H4):zqg c f p (ys ++ [q])=if zak c q=p then wrap64 (zqg c f p ys+f q) else zqg c f p ys:=by
 unfold zqg
 rw [List.foldl_append]
 rfl
theorem zll {P:List H4→Prop} (h0:P []) (h1:∀ l x,P l→P (l ++ [x])) (l:List H4):P l:=by
 rw [← List.reverse_reverse l]
 induction l.reverse with
 | nil=>exact h0
 | cons x xs ih=>rw [List.reverse_cons];exact h1 _ _ ih
theorem zq8 (c:Nat) (f:H4→Int) (p:H4) (ys:List H4):-9223372036854775808≤zqg c f p ys∧zqg c f p ys≤9223372036854775807:=by
 refine zll (P:=fun ys=>-9223372036854775808≤zqg c f p ys∧zqg c f p ys≤9223372036854775807) (by rw [zse];omega) (fun l x ih=>?_) ys
 rw [zig]
 split
 ·exact bounds_i64 (wrap64_wf _)
 ·exact ih
theorem yg3 (c:Nat) (f:H4→Int) (p:H4) (ys:List H4):BitVec.ofInt 64 (zqg c f p ys)=zmv (ys.map fun q=>(zak c q,f q)) p:=by
 refine zll (P:=fun ys=>BitVec.ofInt 64 (zqg c f p ys)=zmv (ys.map fun q=>(zak c q,f q)) p) (by simp [zse,zmv,zby]) (fun l x ih=>?_) ys
 rw [zig,List.map_append,zp4,← ih]
 by_cases e:zak c x=p
 ·rw [if_pos e,zg6,BitVec.ofInt_add]
  simp [zmv,zby,e]
 ·rw [if_neg e]
  simp [zmv,zby,e]
theorem zuq {c:Nat} {f:H4→Int} {p:H4} {ys:List H4} (h:zqg c f p ys≠0):p∈ys.map (zak c):=by
 revert h
 refine zll (P:=fun ys=>zqg c f p ys≠0→p∈ys.map (zak c)) (fun h=>absurd (zse c f p) h) (fun l x ih h=>?_) ys
 rw [zig] at h
 rw [List.map_append,List.mem_append]
 by_cases e:zak c x=p
 ·exact .inr (by simp [e])
 ·rw [if_neg e] at h
  exact .inl (ih h)
theorem zzv {α:Type} {l m:List α} (h:l.Perm m) (f:α→B64):zby l f=zby m f:=by
 induction h with
 | nil=>rfl
 | cons x _ ih=>simp only [zby,ih]
 | swap x y l=>simp only [zby];rw [← BitVec.add_assoc,← BitVec.add_assoc,BitVec.add_comm (f y)]
 | trans _ _ h1 h2=>exact h1.trans h2
theorem zzp {c:Nat} {f:H4→Int} {ls ys:List H4} (hp:ls.Perm ys) {p:H4} (hr:-9223372036854775808≤zhy (fun _=>0) (ls.map fun q=>(zak c q,f q)) p∧zhy (fun _=>0) (ls.map fun q=>(zak c q,f q)) p≤9223372036854775807):zhy (fun _=>0) (ls.map fun q=>(zak c q,f q)) p=zqg c f p ys:=by
 refine zei hr (zq8 c f p ys) ?_
 rw [zkv,yg3]
 have:zmv (ls.map fun q=>(zak c q,f q)) p=zmv (ys.map fun q=>(zak c q,f q)) p:=zzv (hp.map _) _
 rw [this]
 simp
def dd (l:List H4):List H4:=l.foldl (fun acc x=>if x∈acc then acc else acc ++ [x]) []
theorem zov (l:List H4) (x:H4):dd (l ++ [x])=if x∈dd l then dd l else dd l ++ [x]:=by
 unfold dd
 rw [List.foldl_append]
 rfl
theorem yd6 (l:List H4) (x:H4):x∈dd l↔x∈l:=by
 refine zll (P:=fun l=>x∈dd l↔x∈l) (by simp [dd]) (fun l y ih=>?_) l
 rw [zov]
 split
 ·rename_i h
  rw [ih,List.mem_append]
  constructor
  ·exact .inl
  ·rintro (h1|h1)
   ·exact h1
   ·simp at h1
    subst h1
    exact ih.1 h
 ·rw [List.mem_append,List.mem_append,ih]
theorem ygj (l:List H4):(dd l).Nodup:=by
 refine zll (P:=fun l=>(dd l).Nodup) (by simp [dd]) (fun l y ih=>?_) l
 rw [zov]
 split
 ·exact ih
 ·rename_i h
  rw [List.nodup_append]
  refine ⟨ih,by simp,fun a ha b hb=>?_⟩
  simp at hb
  subst hb
  intro e
  subst e
  exact h ha
def ydm (c:Nat) (F:H4→Int) (ys:List H4):Nat:=((dd (ys.map (zak c))).filter fun p=>decide (F p≠0)).length
theorem yg1 {c:Nat} {F:H4→Int} {ys:List H4} {y:H4} (h:zak c y∈ys.map (zak c)):ydm c F (ys ++ [y])=ydm c F ys:=by
 unfold ydm
 rw [List.map_append,List.map_cons,List.map_nil,zov,if_pos ((yd6 _ _).2 h)]
theorem ydn {c:Nat} {F:H4→Int} {ys:List H4} {y:H4} (h:F (zak c y)=0):ydm c F (ys ++ [y])=ydm c F ys:=by
 unfold ydm
 rw [List.map_append,List.map_cons,List.map_nil,zov]
 split
 ·rfl
 ·rw [List.filter_append]
  simp [h]
theorem yg0 {c:Nat} {F:H4→Int} {ys:List H4} {y:H4} (h:zak c y ∉ ys.map (zak c)) (h0:F (zak c y)≠0):ydm c F (ys ++ [y])=ydm c F ys+1:=by
 unfold ydm
 rw [List.map_append,List.map_cons,List.map_nil,zov,if_neg (fun e=>h ((yd6 _ _).1 e)),List.filter_append,List.length_append]
 simp [h0]
theorem ygz {c:Nat} {F G:H4→Int} {ys zs:List H4} (hz:H.zhf G zs) (hG:∀ p,WfH p→G p=F p) (hF:∀ p,F p≠0→p∈ys.map (zak c)) (hy:∀ y∈ys,WfH y):ydm c F ys=zs.length:=by
 have hzn:zs.Nodup:=hz.rising.imp (fun {a b} h e=>by subst e;unfold H.ltR at h;omega)
 refine List.Perm.length_eq ((List.perm_ext_iff_of_nodup ((ygj _).filter _) hzn).2 fun p=>?_)
 rw [List.mem_filter,yd6,decide_eq_true_eq]
 constructor
 ·rintro ⟨h1,h2⟩
  obtain ⟨y,hy',rfl⟩:=List.mem_map.1 h1
  have hw:=zoy c (hy y hy')
  exact (hz.mem _ hw).2 (by rw [hG _ hw];exact h2)
 ·intro h
  have hw:=hz.wf p h
  have h0:=(hz.mem p hw).1 h
  rw [hG p hw] at h0
  exact ⟨hF p h0,h0⟩
theorem zne {c:Nat} (hc:c≤4) {F:H4→Int} (p:H4):∀ (zs:List H4),(∀ z∈zs,zak c z=z)→zb5 (H.zcc c F zs) (H.za0 c p)=if zak c p∈zs then F (zak c p) else 0
 | [],_=>by simp [H.zcc,zb5]
 | y :: ys,hy=>by
  have ih:=zne hc (F:=F) p ys (fun z hz=>hy z (List.mem_cons_of_mem _ hz))
  have hy0:=hy y List.mem_cons_self
  have e:H.zcc c F (y :: ys)=(H.za0 c y,F y) :: H.zcc c F ys:=rfl
  rw [e]
  simp only [zb5]
  by_cases e1:H.za0 c y=H.za0 c p
  ·have e2:=(zxn hc y p).1 e1
   rw [hy0] at e2
   rw [if_pos e1,← e2]
   simp
  ·have e2:zak c p≠y:=fun e2=>e1 ((zxn hc y p).2 (by rw [hy0,e2]))
   rw [if_neg e1,ih]
   simp [e2]
theorem yb1 {c:Nat} (hc:c≤4) {F:H4→Int} {p:H4} {zs:List H4} (hz:∀ z∈zs,zak c z=z) (hR:H.zhf F zs) (hw:WfH (zak c p)):zb5 (H.zcc c F zs) (H.za0 c p)=F (zak c p):=by
 rw [zne hc p zs hz]
 by_cases e:zak c p∈zs
 ·rw [if_pos e]
 ·rw [if_neg e]
  have:¬ F (zak c p)≠0:=fun h=>e ((hR.mem _ hw).2 h)
  omega
theorem ya5 {c:Nat} (hc:c≤4) {y z:H4} (hy:zak c y=y) (hz:zak c z=z) (hlt:H.ltR y z):∃ m,zkr (H.za0 c y) (H.za0 c z) m:=by
 obtain ⟨y1,y2,y3,y4⟩:=y
 obtain ⟨z1,z2,z3,z4⟩:=z
 unfold H.ltR at hlt
 unfold zak at hy hz
 dsimp only at hlt hy hz
 rcases le4 hc with rfl|rfl|rfl|rfl|rfl
 all_goals simp at hy hz
 ·omega
 ·refine ⟨0,?_⟩
  simp [zkr,H.za0]
  omega
 ·by_cases e:y1<z1
  ·refine ⟨0,?_⟩
   simp [zkr,H.za0]
   omega
  ·refine ⟨1,?_⟩
   simp [zkr,H.za0]
   omega
 ·by_cases e:y1<z1
  ·refine ⟨0,?_⟩
   simp [zkr,H.za0]
   omega
  ·by_cases e2:y2<z2
   ·refine ⟨1,?_⟩
    simp [zkr,H.za0]
    omega
   ·refine ⟨2,?_,?_,fun j hj=>?_,?_⟩
    ·simp [H.za0]
    ·simp [H.za0]
    ·obtain rfl|rfl:j=0∨j=1:=by omega
     ·simp [H.za0];omega
     ·simp [H.za0];omega
    ·simp [H.za0];omega
 ·by_cases e:y1<z1
  ·refine ⟨0,?_⟩
   simp [zkr,H.za0]
   omega
  ·by_cases e2:y2<z2
   ·refine ⟨1,?_⟩
    simp [zkr,H.za0]
    omega
   ·by_cases e3:y3<z3
    ·refine ⟨2,?_,?_,fun j hj=>?_,?_⟩
     ·simp [H.za0]
     ·simp [H.za0]
     ·obtain rfl|rfl:j=0∨j=1:=by omega
      ·simp [H.za0];omega
      ·simp [H.za0];omega
     ·simp [H.za0];omega
    ·refine ⟨3,?_,?_,fun j hj=>?_,?_⟩
     ·simp [H.za0]
     ·simp [H.za0]
     ·obtain rfl|rfl|rfl:j=0∨j=1∨j=2:=by omega
      ·simp [H.za0];omega
      ·simp [H.za0];omega
      ·simp [H.za0];omega
     ·simp [H.za0];omega
theorem ymb {c:Nat} (hc:c≤4) {F:H4→Int} {zs:List H4} (hy:∀ z∈zs,zak c z=z) (hR:H.zhf F zs):yk1 (H.zcc c F zs):=by
 have hlen:(H.zcc c F zs).length=zs.length:=by simp [H.zcc]
 have hat:∀ i (hi:i<zs.length),(H.zcc c F zs)[i]?.getD ([],0)=(H.za0 c zs[i],F zs[i]):=fun i hi=>by simp [H.zcc,hi]
 refine ⟨fun i hi=>?_,fun i hi=>?_⟩
 ·rw [hlen] at hi
  rw [hat i hi]
  exact (hR.mem _ (hR.wf _ (List.getElem_mem hi))).1 (List.getElem_mem hi)
 ·rw [hlen] at hi
  rw [hat i (by omega),hat (i+1) hi]
  have hlt:H.ltR zs[i] zs[i+1]:=List.pairwise_iff_getElem.1 hR.rising i (i+1) (by omega) hi (by omega)
  exact ya5 hc (hy _ (List.getElem_mem (show i<zs.length by omega))) (hy _ (List.getElem_mem hi)) hlt
theorem yjh (x1 x2 x3 x4:Int) (w:World) :
  Calls Tryz.prog 47 #[.agg #[.int .i64 x1,.int .i64 x2,.int .i64 x3,.int .i64 x4],.int .i64 0] w fun e w'=>e=.returned (.agg #[.int .i64 0,.int .i64 0,.int .i64 0,.int .i64 0])∧Below w.heap.size w w':=by
 have hsz:(Tryz.prog.info? 2).map (·.size)=some 1:=by kernel_rfl
 have h0:(((w.alloc (.cells #[.int .i64 x1,.int .i64 x2,.int .i64 x3,.int .i64 x4] 92)).alloc (.cells #[.int .i64 0,.int .i64 0,.int .i64 0,.int .i64 0] 92)).alloc (.cells #[.int .i64 0,.int .i64 0,.int .i64 0,.int .i64 0] 92)).heap[w.heap.size]? = some (.cells #[.int .i64 x1,.int .i64 x2,.int .i64 x3,.int .i64 x4] 92 (0,0)):=(Below.heap_alloc _ _ _ (by simp;omega)).trans ((Below.heap_alloc _ _ _ (by simp)).trans (zae _ _ _ rfl))
 have h1:(((w.alloc (.cells #[.int .i64 x1,.int .i64 x2,.int .i64 x3,.int .i64 x4] 92)).alloc (.cells #[.int .i64 0,.int .i64 0,.int .i64 0,.int .i64 0] 92)).alloc (.cells #[.int .i64 0,.int .i64 0,.int .i64 0,.int .i64 0] 92)).heap[w.heap.size+1]? = some (.cells #[.int .i64 0,.int .i64 0,.int .i64 0,.int .i64 0] 92 (0,0)):=(Below.heap_alloc _ _ _ (by simp)).trans (zae _ _ _ (by simp))
 have h2:(((w.alloc (.cells #[.int .i64 x1,.int .i64 x2,.int .i64 x3,.int .i64 x4] 92)).alloc (.cells #[.int .i64 0,.int .i64 0,.int .i64 0,.int .i64 0] 92)).alloc (.cells #[.int .i64 0,.int .i64 0,.int .i64 0,.int .i64 0] 92)).heap[w.heap.size+2]? = some (.cells #[.int .i64 0,.int .i64 0,.int .i64 0,.int .i64 0] 92 (0,0)):=zae _ _ _ (by simp)
 have hb:Below w.heap.size w (((w.alloc (.cells #[.int .i64 x1,.int .i64 x2,.int .i64 x3,.int .i64 x4] 92)).alloc (.cells #[.int .i64 0,.int .i64 0,.int .i64 0,.int .i64 0] 92)).alloc (.cells #[.int .i64 0,.int .i64 0,.int .i64 0,.int .i64 0] 92)):=(((Below.refl _ _).alloc (Nat.le_refl _) _).alloc (by simp) _).alloc (by simp;omega) _
 have hs:(((w.alloc (.cells #[.int .i64 x1,.int .i64 x2,.int .i64 x3,.int .i64 x4] 92)).alloc (.cells #[.int .i64 0,.int .i64 0,.int .i64 0,.int .i64 0] 92)).alloc (.cells #[.int .i64 0,.int .i64 0,.int .i64 0,.int .i64 0] 92)).heap.size=w.heap.size+3:=by simp
 go_enter Tryz.func47,Tryz.ntmps47
 go_wp2
 generalize ((w.alloc (.cells #[.int .i64 x1,.int .i64 x2,.int .i64 x3,.int .i64 x4] 92)).alloc (.cells #[.int .i64 0,.int .i64 0,.int .i64 0,.int .i64 0] 92)).alloc (.cells #[.int .i64 0,.int .i64 0,.int .i64 0,.int .i64 0] 92)=W at *
 have hsrc:∀ j v,([]:List Value)[j]? = some v→W.cell? ((⟨w.heap.size,0,none⟩:Addr).add j)=some v:=by
  intro j v hj
  simp at hj
 have c0:W.cell? ⟨w.heap.size,0,none⟩=some (.int .i64 x1):=zab h0 0
 have hsrcD:∀ j v,([]:List Value)[j]? = some v→W.drew.cell? ((⟨w.heap.size,0,none⟩:Addr).add j)=some v:=hsrc
 have h2D:W.drew.heap[w.heap.size+2]? = some (.cells #[.int .i64 0,.int .i64 0,.int .i64 0,.int .i64 0] 92 (0,0)):=h2
 have h1D:W.drew.heap[w.heap.size+1]? = some (.cells #[.int .i64 0,.int .i64 0,.int .i64 0,.int .i64 0] 92 (0,0)):=h1
 have hbD:Below w.heap.size w W.drew:=hb.trans (zar _ _)
 have hsD:W.drew.heap.size=w.heap.size+3:=hs
 have Hsrc:=zac hsrcD
 have H2:=zac h2D
 have H1:=zac h1D
 have Hb:=zac hbD
 clear hsrc h2 h1 hb hsrcD h2D h1D hbD
 go_region_law (refine step_copy_splice rfl (.tmp 7) (.tmp 8) 47 47 rfl 2 Tryz.underlying47 hsz _ _ _ _ _ _ rfl rfl (w.heap.size+2) 0 [.int .i64 0,.int .i64 0,.int .i64 0,.int .i64 0] 92 (zaa H2) [] rfl (fun _=>⟨rfl,_,rfl,zaa Hsrc⟩) (by simp) (by simp [Value.oneCell']) (w.heap.size+2) W.drew (Below.refl _ _) (Nat.le_refl _) ?_;intro w4 hg4 hb4)
 all_goals
  have hg5:w4.heap[w.heap.size+2]? = some (.cells #[.int .i64 0,.int .i64 0,.int .i64 0,.int .i64 0] 92 (0,0)):=zaa hg4
  have hr5:w4.heap[w.heap.size+1]? = some (.cells #[.int .i64 0,.int .i64 0,.int .i64 0,.int .i64 0] 92 (0,0)):=(hb4.block _ (by omega)).trans (zaa H1)
  have HB4:=zac ((zaa Hb).trans (hb4.mono (by omega)))
  have d0:w4.cell? ⟨w.heap.size+2,0,none⟩=some _:=zab hg5 0
  have d1:w4.cell? ⟨w.heap.size+2,1,none⟩=some _:=zab hg5 1
  have d2:w4.cell? ⟨w.heap.size+2,2,none⟩=some _:=zab hg5 2
  have d3:w4.cell? ⟨w.heap.size+2,3,none⟩=some _:=zab hg5 3
  have r0:w4.cell? ⟨w.heap.size+1,0,none⟩=some (.int .i64 0):=zab hr5 0
  have r1:w4.cell? ⟨w.heap.size+1,1,none⟩=some (.int .i64 0):=zab hr5 1
  have r2:w4.cell? ⟨w.heap.size+1,2,none⟩=some (.int .i64 0):=zab hr5 2
  have r3:w4.cell? ⟨w.heap.size+1,3,none⟩=some (.int .i64 0):=zab hr5 3
  have f0:w4.frozen? ⟨w.heap.size+1,0,none⟩=false:=zad hr5 0
  have f1:w4.frozen? ⟨w.heap.size+1,1,none⟩=false:=zad hr5 1
  have f2:w4.frozen? ⟨w.heap.size+1,2,none⟩=false:=zad hr5 2
  have f3:w4.frozen? ⟨w.heap.size+1,3,none⟩=false:=zad hr5 3
  have hs4:=hb4.size
  clear hg4 hb4 hg5 hr5
  go_wp2
  refine bodyPost_ret (v:=.agg #[.int .i64 0,.int .i64 0,.int .i64 0,.int .i64 0]) (by simp [results,Tryz.results47,go_sem,r0,r1,r2,r3,f0,f1,f2,f3]) rfl ⟨rfl,?_⟩
  exact (((((zaa HB4).setCell (Nat.le_succ _) _).setCell (Nat.le_succ _) _).setCell (Nat.le_succ _) _).setCell (Nat.le_succ _) _)
theorem yji (x1 x2 x3 x4:Int) (w:World) :
  Calls Tryz.prog 47 #[.agg #[.int .i64 x1,.int .i64 x2,.int .i64 x3,.int .i64 x4],.int .i64 1] w fun e w'=>e=.returned (.agg #[.int .i64 x1,.int .i64 0,.int .i64 0,.int .i64 0])∧Below w.heap.size w w':=by
 have hsz:(Tryz.prog.info? 2).map (·.size)=some 1:=by kernel_rfl
 have h0:(((w.alloc (.cells #[.int .i64 x1,.int .i64 x2,.int .i64 x3,.int .i64 x4] 92)).alloc (.cells #[.int .i64 0,.int .i64 0,.int .i64 0,.int .i64 0] 92)).alloc (.cells #[.int .i64 0,.int .i64 0,.int .i64 0,.int .i64 0] 92)).heap[w.heap.size]? = some (.cells #[.int .i64 x1,.int .i64 x2,.int .i64 x3,.int .i64 x4] 92 (0,0)):=(Below.heap_alloc _ _ _ (by simp;omega)).trans ((Below.heap_alloc _ _ _ (by simp)).trans (zae _ _ _ rfl))
 have h1:(((w.alloc (.cells #[.int .i64 x1,.int .i64 x2,.int .i64 x3,.int .i64 x4] 92)).alloc (.cells #[.int .i64 0,.int .i64 0,.int .i64 0,.int .i64 0] 92)).alloc (.cells #[.int .i64 0,.int .i64 0,.int .i64 0,.int .i64 0] 92)).heap[w.heap.size+1]? = some (.cells #[.int .i64 0,.int .i64 0,.int .i64 0,.int .i64 0] 92 (0,0)):=(Below.heap_alloc _ _ _ (by simp)).trans (zae _ _ _ (by simp))
 have h2:(((w.alloc (.cells #[.int .i64 x1,.int .i64 x2,.int .i64 x3,.int .i64 x4] 92)).alloc (.cells #[.int .i64 0,.int .i64 0,.int .i64 0,.int .i64 0] 92)).alloc (.cells #[.int .i64 0,.int .i64 0,.int .i64 0,.int .i64 0] 92)).heap[w.heap.size+2]? = some (.cells #[.int .i64 0,.int .i64 0,.int .i64 0,.int .i64 0] 92 (0,0)):=zae _ _ _ (by simp)
 have hb:Below w.heap.size w (((w.alloc (.cells #[.int .i64 x1,.int .i64 x2,.int .i64 x3,.int .i64 x4] 92)).alloc (.cells #[.int .i64 0,.int .i64 0,.int .i64 0,.int .i64 0] 92)).alloc (.cells #[.int .i64 0,.int .i64 0,.int .i64 0,.int .i64 0] 92)):=(((Below.refl _ _).alloc (Nat.le_refl _) _).alloc (by simp) _).alloc (by simp;omega) _
 have hs:(((w.alloc (.cells #[.int .i64 x1,.int .i64 x2,.int .i64 x3,.int .i64 x4] 92)).alloc (.cells #[.int .i64 0,.int .i64 0,.int .i64 0,.int .i64 0] 92)).alloc (.cells #[.int .i64 0,.int .i64 0,.int .i64 0,.int .i64 0] 92)).heap.size=w.heap.size+3:=by simp
 go_enter Tryz.func47,Tryz.ntmps47
 go_wp2
 generalize ((w.alloc (.cells #[.int .i64 x1,.int .i64 x2,.int .i64 x3,.int .i64 x4] 92)).alloc (.cells #[.int .i64 0,.int .i64 0,.int .i64 0,.int .i64 0] 92)).alloc (.cells #[.int .i64 0,.int .i64 0,.int .i64 0,.int .i64 0] 92)=W at *
 have hsrc:∀ j v,([.int .i64 x1]:List Value)[j]? = some v→W.cell? ((⟨w.heap.size,0,none⟩:Addr).add j)=some v:=by
  intro j v hj
  match j,hj with
  | 0,hj=>cases hj;exact zab h0 0
 have c0:W.cell? ⟨w.heap.size,0,none⟩=some (.int .i64 x1):=zab h0 0
 have hsrcD:∀ j v,([.int .i64 x1]:List Value)[j]? = some v→W.drew.cell? ((⟨w.heap.size,0,none⟩:Addr).add j)=some v:=hsrc
 have h2D:W.drew.heap[w.heap.size+2]? = some (.cells #[.int .i64 0,.int .i64 0,.int .i64 0,.int .i64 0] 92 (0,0)):=h2
 have h1D:W.drew.heap[w.heap.size+1]? = some (.cells #[.int .i64 0,.int .i64 0,.int .i64 0,.int .i64 0] 92 (0,0)):=h1
 have hbD:Below w.heap.size w W.drew:=hb.trans (zar _ _)
 have hsD:W.drew.heap.size=w.heap.size+3:=hs
 have Hsrc:=zac hsrcD
 have H2:=zac h2D
 have H1:=zac h1D
 have Hb:=zac hbD
 clear hsrc h2 h1 hb hsrcD h2D h1D hbD
 go_region_law (refine step_copy_splice rfl (.tmp 7) (.tmp 8) 47 47 rfl 2 Tryz.underlying47 hsz _ _ _ _ _ _ rfl rfl (w.heap.size+2) 0 [.int .i64 0,.int .i64 0,.int .i64 0,.int .i64 0] 92 (zaa H2) [.int .i64 x1] rfl (fun _=>⟨rfl,_,rfl,zaa Hsrc⟩) (by simp) (by simp [Value.oneCell']) (w.heap.size+2) W.drew (Below.refl _ _) (Nat.le_refl _) ?_;intro w4 hg4 hb4)
 all_goals
  have hg5:w4.heap[w.heap.size+2]? = some (.cells #[.int .i64 x1,.int .i64 0,.int .i64 0,.int .i64 0] 92 (0,0)):=zaa hg4
  have hr5:w4.heap[w.heap.size+1]? = some (.cells #[.int .i64 0,.int .i64 0,.int .i64 0,.int .i64 0] 92 (0,0)):=(hb4.block _ (by omega)).trans (zaa H1)
  have HB4:=zac ((zaa Hb).trans (hb4.mono (by omega)))
  have d0:w4.cell? ⟨w.heap.size+2,0,none⟩=some _:=zab hg5 0
  have d1:w4.cell? ⟨w.heap.size+2,1,none⟩=some _:=zab hg5 1
  have d2:w4.cell? ⟨w.heap.size+2,2,none⟩=some _:=zab hg5 2
  have d3:w4.cell? ⟨w.heap.size+2,3,none⟩=some _:=zab hg5 3
  have r0:w4.cell? ⟨w.heap.size+1,0,none⟩=some (.int .i64 0):=zab hr5 0
  have r1:w4.cell? ⟨w.heap.size+1,1,none⟩=some (.int .i64 0):=zab hr5 1
  have r2:w4.cell? ⟨w.heap.size+1,2,none⟩=some (.int .i64 0):=zab hr5 2
  have r3:w4.cell? ⟨w.heap.size+1,3,none⟩=some (.int .i64 0):=zab hr5 3
  have f0:w4.frozen? ⟨w.heap.size+1,0,none⟩=false:=zad hr5 0
  have f1:w4.frozen? ⟨w.heap.size+1,1,none⟩=false:=zad hr5 1
  have f2:w4.frozen? ⟨w.heap.size+1,2,none⟩=false:=zad hr5 2
  have f3:w4.frozen? ⟨w.heap.size+1,3,none⟩=false:=zad hr5 3
  have hs4:=hb4.size
  clear hg4 hb4 hg5 hr5
  go_wp2
  refine bodyPost_ret (v:=.agg #[.int .i64 x1,.int .i64 0,.int .i64 0,.int .i64 0]) (by simp [results,Tryz.results47,go_sem,r0,r1,r2,r3,f0,f1,f2,f3]) rfl ⟨rfl,?_⟩
  exact (((((zaa HB4).setCell (Nat.le_succ _) _).setCell (Nat.le_succ _) _).setCell (Nat.le_succ _) _).setCell (Nat.le_succ _) _)
theorem yjj (x1 x2 x3 x4:Int) (w:World) :
  Calls Tryz.prog 47 #[.agg #[.int .i64 x1,.int .i64 x2,.int .i64 x3,.int .i64 x4],.int .i64 2] w fun e w'=>e=.returned (.agg #[.int .i64 x1,.int .i64 x2,.int .i64 0,.int .i64 0])∧Below w.heap.size w w':=by
 have hsz:(Tryz.prog.info? 2).map (·.size)=some 1:=by kernel_rfl
 have h0:(((w.alloc (.cells #[.int .i64 x1,.int .i64 x2,.int .i64 x3,.int .i64 x4] 92)).alloc (.cells #[.int .i64 0,.int .i64 0,.int .i64 0,.int .i64 0] 92)).alloc (.cells #[.int .i64 0,.int .i64 0,.int .i64 0,.int .i64 0] 92)).heap[w.heap.size]? = some (.cells #[.int .i64 x1,.int .i64 x2,.int .i64 x3,.int .i64 x4] 92 (0,0)):=(Below.heap_alloc _ _ _ (by simp;omega)).trans ((Below.heap_alloc _ _ _ (by simp)).trans (zae _ _ _ rfl))
 have h1:(((w.alloc (.cells #[.int .i64 x1,.int .i64 x2,.int .i64 x3,.int .i64 x4] 92)).alloc (.cells #[.int .i64 0,.int .i64 0,.int .i64 0,.int .i64 0] 92)).alloc (.cells #[.int .i64 0,.int .i64 0,.int .i64 0,.int .i64 0] 92)).heap[w.heap.size+1]? = some (.cells #[.int .i64 0,.int .i64 0,.int .i64 0,.int .i64 0] 92 (0,0)):=(Below.heap_alloc _ _ _ (by simp)).trans (zae _ _ _ (by simp))
 have h2:(((w.alloc (.cells #[.int .i64 x1,.int .i64 x2,.int .i64 x3,.int .i64 x4] 92)).alloc (.cells #[.int .i64 0,.int .i64 0,.int .i64 0,.int .i64 0] 92)).alloc (.cells #[.int .i64 0,.int .i64 0,.int .i64 0,.int .i64 0] 92)).heap[w.heap.size+2]? = some (.cells #[.int .i64 0,.int .i64 0,.int .i64 0,.int .i64 0] 92 (0,0)):=zae _ _ _ (by simp)
 have hb:Below w.heap.size w (((w.alloc (.cells #[.int .i64 x1,.int .i64 x2,.int .i64 x3,.int .i64 x4] 92)).alloc (.cells #[.int .i64 0,.int .i64 0,.int .i64 0,.int .i64 0] 92)).alloc (.cells #[.int .i64 0,.int .i64 0,.int .i64 0,.int .i64 0] 92)):=(((Below.refl _ _).alloc (Nat.le_refl _) _).alloc (by simp) _).alloc (by simp;omega) _
 have hs:(((w.alloc (.cells #[.int .i64 x1,.int .i64 x2,.int .i64 x3,.int .i64 x4] 92)).alloc (.cells #[.int .i64 0,.int .i64 0,.int .i64 0,.int .i64 0] 92)).alloc (.cells #[.int .i64 0,.int .i64 0,.int .i64 0,.int .i64 0] 92)).heap.size=w.heap.size+3:=by simp
 go_enter Tryz.func47,Tryz.ntmps47
 go_wp2
 generalize ((w.alloc (.cells #[.int .i64 x1,.int .i64 x2,.int .i64 x3,.int .i64 x4] 92)).alloc (.cells #[.int .i64 0,.int .i64 0,.int .i64 0,.int .i64 0] 92)).alloc (.cells #[.int .i64 0,.int .i64 0,.int .i64 0,.int .i64 0] 92)=W at *
 have hsrc:∀ j v,([.int .i64 x1,.int .i64 x2]:List Value)[j]? = some v→W.cell? ((⟨w.heap.size,0,none⟩:Addr).add j)=some v:=by
  intro j v hj
  match j,hj with
  | 0,hj=>cases hj;exact zab h0 0
  | 1,hj=>cases hj;exact zab h0 1
 have c0:W.cell? ⟨w.heap.size,0,none⟩=some (.int .i64 x1):=zab h0 0
 have hsrcD:∀ j v,([.int .i64 x1,.int .i64 x2]:List Value)[j]? = some v→W.drew.cell? ((⟨w.heap.size,0,none⟩:Addr).add j)=some v:=hsrc
 have h2D:W.drew.heap[w.heap.size+2]? = some (.cells #[.int .i64 0,.int .i64 0,.int .i64 0,.int .i64 0] 92 (0,0)):=h2
 have h1D:W.drew.heap[w.heap.size+1]? = some (.cells #[.int .i64 0,.int .i64 0,.int .i64 0,.int .i64 0] 92 (0,0)):=h1
 have hbD:Below w.heap.size w W.drew:=hb.trans (zar _ _)
 have hsD:W.drew.heap.size=w.heap.size+3:=hs
 have Hsrc:=zac hsrcD
 have H2:=zac h2D
 have H1:=zac h1D
 have Hb:=zac hbD
 clear hsrc h2 h1 hb hsrcD h2D h1D hbD
 go_region_law (refine step_copy_splice rfl (.tmp 7) (.tmp 8) 47 47 rfl 2 Tryz.underlying47 hsz _ _ _ _ _ _ rfl rfl (w.heap.size+2) 0 [.int .i64 0,.int .i64 0,.int .i64 0,.int .i64 0] 92 (zaa H2) [.int .i64 x1,.int .i64 x2] rfl (fun _=>⟨rfl,_,rfl,zaa Hsrc⟩) (by simp) (by simp [Value.oneCell']) (w.heap.size+2) W.drew (Below.refl _ _) (Nat.le_refl _) ?_;intro w4 hg4 hb4)
 all_goals
  have hg5:w4.heap[w.heap.size+2]? = some (.cells #[.int .i64 x1,.int .i64 x2,.int .i64 0,.int .i64 0] 92 (0,0)):=zaa hg4
  have hr5:w4.heap[w.heap.size+1]? = some (.cells #[.int .i64 0,.int .i64 0,.int .i64 0,.int .i64 0] 92 (0,0)):=(hb4.block _ (by omega)).trans (zaa H1)
  have HB4:=zac ((zaa Hb).trans (hb4.mono (by omega)))
  have d0:w4.cell? ⟨w.heap.size+2,0,none⟩=some _:=zab hg5 0
  have d1:w4.cell? ⟨w.heap.size+2,1,none⟩=some _:=zab hg5 1
  have d2:w4.cell? ⟨w.heap.size+2,2,none⟩=some _:=zab hg5 2
  have d3:w4.cell? ⟨w.heap.size+2,3,none⟩=some _:=zab hg5 3
  have r0:w4.cell? ⟨w.heap.size+1,0,none⟩=some (.int .i64 0):=zab hr5 0
  have r1:w4.cell? ⟨w.heap.size+1,1,none⟩=some (.int .i64 0):=zab hr5 1
  have r2:w4.cell? ⟨w.heap.size+1,2,none⟩=some (.int .i64 0):=zab hr5 2
  have r3:w4.cell? ⟨w.heap.size+1,3,none⟩=some (.int .i64 0):=zab hr5 3
  have f0:w4.frozen? ⟨w.heap.size+1,0,none⟩=false:=zad hr5 0
  have f1:w4.frozen? ⟨w.heap.size+1,1,none⟩=false:=zad hr5 1
  have f2:w4.frozen? ⟨w.heap.size+1,2,none⟩=false:=zad hr5 2
  have f3:w4.frozen? ⟨w.heap.size+1,3,none⟩=false:=zad hr5 3
  have hs4:=hb4.size
  clear hg4 hb4 hg5 hr5
  go_wp2
  refine bodyPost_ret (v:=.agg #[.int .i64 x1,.int .i64 x2,.int .i64 0,.int .i64 0]) (by simp [results,Tryz.results47,go_sem,r0,r1,r2,r3,f0,f1,f2,f3]) rfl ⟨rfl,?_⟩
  exact (((((zaa HB4).setCell (Nat.le_succ _) _).setCell (Nat.le_succ _) _).setCell (Nat.le_succ _) _).setCell (Nat.le_succ _) _)
theorem yjk (x1 x2 x3 x4:Int) (w:World) :
  Calls Tryz.prog 47 #[.agg #[.int .i64 x1,.int .i64 x2,.int .i64 x3,.int .i64 x4],.int .i64 3] w fun e w'=>e=.returned (.agg #[.int .i64 x1,.int .i64 x2,.int .i64 x3,.int .i64 0])∧Below w.heap.size w w':=by
 have hsz:(Tryz.prog.info? 2).map (·.size)=some 1:=by kernel_rfl
 have h0:(((w.alloc (.cells #[.int .i64 x1,.int .i64 x2,.int .i64 x3,.int .i64 x4] 92)).alloc (.cells #[.int .i64 0,.int .i64 0,.int .i64 0,.int .i64 0] 92)).alloc (.cells #[.int .i64 0,.int .i64 0,.int .i64 0,.int .i64 0] 92)).heap[w.heap.size]? = some (.cells #[.int .i64 x1,.int .i64 x2,.int .i64 x3,.int .i64 x4] 92 (0,0)):=(Below.heap_alloc _ _ _ (by simp;omega)).trans ((Below.heap_alloc _ _ _ (by simp)).trans (zae _ _ _ rfl))
 have h1:(((w.alloc (.cells #[.int .i64 x1,.int .i64 x2,.int .i64 x3,.int .i64 x4] 92)).alloc (.cells #[.int .i64 0,.int .i64 0,.int .i64 0,.int .i64 0] 92)).alloc (.cells #[.int .i64 0,.int .i64 0,.int .i64 0,.int .i64 0] 92)).heap[w.heap.size+1]? = some (.cells #[.int .i64 0,.int .i64 0,.int .i64 0,.int .i64 0] 92 (0,0)):=(Below.heap_alloc _ _ _ (by simp)).trans (zae _ _ _ (by simp))
 have h2:(((w.alloc (.cells #[.int .i64 x1,.int .i64 x2,.int .i64 x3,.int .i64 x4] 92)).alloc (.cells #[.int .i64 0,.int .i64 0,.int .i64 0,.int .i64 0] 92)).alloc (.cells #[.int .i64 0,.int .i64 0,.int .i64 0,.int .i64 0] 92)).heap[w.heap.size+2]? = some (.cells #[.int .i64 0,.int .i64 0,.int .i64 0,.int .i64 0] 92 (0,0)):=zae _ _ _ (by simp)
 have hb:Below w.heap.size w (((w.alloc (.cells #[.int .i64 x1,.int .i64 x2,.int .i64 x3,.int .i64 x4] 92)).alloc (.cells #[.int .i64 0,.int .i64 0,.int .i64 0,.int .i64 0] 92)).alloc (.cells #[.int .i64 0,.int .i64 0,.int .i64 0,.int .i64 0] 92)):=(((Below.refl _ _).alloc (Nat.le_refl _) _).alloc (by simp) _).alloc (by simp;omega) _
 have hs:(((w.alloc (.cells #[.int .i64 x1,.int .i64 x2,.int .i64 x3,.int .i64 x4] 92)).alloc (.cells #[.int .i64 0,.int .i64 0,.int .i64 0,.int .i64 0] 92)).alloc (.cells #[.int .i64 0,.int .i64 0,.int .i64 0,.int .i64 0] 92)).heap.size=w.heap.size+3:=by simp
 go_enter Tryz.func47,Tryz.ntmps47
 go_wp2
 generalize ((w.alloc (.cells #[.int .i64 x1,.int .i64 x2,.int .i64 x3,.int .i64 x4] 92)).alloc (.cells #[.int .i64 0,.int .i64 0,.int .i64 0,.int .i64 0] 92)).alloc (.cells #[.int .i64 0,.int .i64 0,.int .i64 0,.int .i64 0] 92)=W at *
 have hsrc:∀ j v,([.int .i64 x1,.int .i64 x2,.int .i64 x3]:List Value)[j]? = some v→W.cell? ((⟨w.heap.size,0,none⟩:Addr).add j)=some v:=by
  intro j v hj
  match j,hj with
  | 0,hj=>cases hj;exact zab h0 0
  | 1,hj=>cases hj;exact zab h0 1
  | 2,hj=>cases hj;exact zab h0 2
 have c0:W.cell? ⟨w.heap.size,0,none⟩=some (.int .i64 x1):=zab h0 0
 have hsrcD:∀ j v,([.int .i64 x1,.int .i64 x2,.int .i64 x3]:List Value)[j]? = some v→W.drew.cell? ((⟨w.heap.size,0,none⟩:Addr).add j)=some v:=hsrc
 have h2D:W.drew.heap[w.heap.size+2]? = some (.cells #[.int .i64 0,.int .i64 0,.int .i64 0,.int .i64 0] 92 (0,0)):=h2
 have h1D:W.drew.heap[w.heap.size+1]? = some (.cells #[.int .i64 0,.int .i64 0,.int .i64 0,.int .i64 0] 92 (0,0)):=h1
 have hbD:Below w.heap.size w W.drew:=hb.trans (zar _ _)
 have hsD:W.drew.heap.size=w.heap.size+3:=hs
 have Hsrc:=zac hsrcD
 have H2:=zac h2D
 have H1:=zac h1D
 have Hb:=zac hbD
 clear hsrc h2 h1 hb hsrcD h2D h1D hbD
 go_region_law (refine step_copy_splice rfl (.tmp 7) (.tmp 8) 47 47 rfl 2 Tryz.underlying47 hsz _ _ _ _ _ _ rfl rfl (w.heap.size+2) 0 [.int .i64 0,.int .i64 0,.int .i64 0,.int .i64 0] 92 (zaa H2) [.int .i64 x1,.int .i64 x2,.int .i64 x3] rfl (fun _=>⟨rfl,_,rfl,zaa Hsrc⟩) (by simp) (by simp [Value.oneCell']) (w.heap.size+2) W.drew (Below.refl _ _) (Nat.le_refl _) ?_;intro w4 hg4 hb4)
 all_goals
  have hg5:w4.heap[w.heap.size+2]? = some (.cells #[.int .i64 x1,.int .i64 x2,.int .i64 x3,.int .i64 0] 92 (0,0)):=zaa hg4
  have hr5:w4.heap[w.heap.size+1]? = some (.cells #[.int .i64 0,.int .i64 0,.int .i64 0,.int .i64 0] 92 (0,0)):=(hb4.block _ (by omega)).trans (zaa H1)
  have HB4:=zac ((zaa Hb).trans (hb4.mono (by omega)))
  have d0:w4.cell? ⟨w.heap.size+2,0,none⟩=some _:=zab hg5 0
  have d1:w4.cell? ⟨w.heap.size+2,1,none⟩=some _:=zab hg5 1
  have d2:w4.cell? ⟨w.heap.size+2,2,none⟩=some _:=zab hg5 2
  have d3:w4.cell? ⟨w.heap.size+2,3,none⟩=some _:=zab hg5 3
  have r0:w4.cell? ⟨w.heap.size+1,0,none⟩=some (.int .i64 0):=zab hr5 0
  have r1:w4.cell? ⟨w.heap.size+1,1,none⟩=some (.int .i64 0):=zab hr5 1
  have r2:w4.cell? ⟨w.heap.size+1,2,none⟩=some (.int .i64 0):=zab hr5 2
  have r3:w4.cell? ⟨w.heap.size+1,3,none⟩=some (.int .i64 0):=zab hr5 3
  have f0:w4.frozen? ⟨w.heap.size+1,0,none⟩=false:=zad hr5 0
  have f1:w4.frozen? ⟨w.heap.size+1,1,none⟩=false:=zad hr5 1
  have f2:w4.frozen? ⟨w.heap.size+1,2,none⟩=false:=zad hr5 2
  have f3:w4.frozen? ⟨w.heap.size+1,3,none⟩=false:=zad hr5 3
  have hs4:=hb4.size
  clear hg4 hb4 hg5 hr5
  go_wp2
  refine bodyPost_ret (v:=.agg #[.int .i64 x1,.int .i64 x2,.int .i64 x3,.int .i64 0]) (by simp [results,Tryz.results47,go_sem,r0,r1,r2,r3,f0,f1,f2,f3]) rfl ⟨rfl,?_⟩
  exact (((((zaa HB4).setCell (Nat.le_succ _) _).setCell (Nat.le_succ _) _).setCell (Nat.le_succ _) _).setCell (Nat.le_succ _) _)
theorem yjl (x1 x2 x3 x4:Int) (w:World) :
  Calls Tryz.prog 47 #[.agg #[.int .i64 x1,.int .i64 x2,.int .i64 x3,.int .i64 x4],.int .i64 4] w fun e w'=>e=.returned (.agg #[.int .i64 x1,.int .i64 x2,.int .i64 x3,.int .i64 x4])∧Below w.heap.size w w':=by
 have hsz:(Tryz.prog.info? 2).map (·.size)=some 1:=by kernel_rfl
 have h0:(((w.alloc (.cells #[.int .i64 x1,.int .i64 x2,.int .i64 x3,.int .i64 x4] 92)).alloc (.cells #[.int .i64 0,.int .i64 0,.int .i64 0,.int .i64 0] 92)).alloc (.cells #[.int .i64 0,.int .i64 0,.int .i64 0,.int .i64 0] 92)).heap[w.heap.size]? = some (.cells #[.int .i64 x1,.int .i64 x2,.int .i64 x3,.int .i64 x4] 92 (0,0)):=(Below.heap_alloc _ _ _ (by simp;omega)).trans ((Below.heap_alloc _ _ _ (by simp)).trans (zae _ _ _ rfl))
 have h1:(((w.alloc (.cells #[.int .i64 x1,.int .i64 x2,.int .i64 x3,.int .i64 x4] 92)).alloc (.cells #[.int .i64 0,.int .i64 0,.int .i64 0,.int .i64 0] 92)).alloc (.cells #[.int .i64 0,.int .i64 0,.int .i64 0,.int .i64 0] 92)).heap[w.heap.size+1]? = some (.cells #[.int .i64 0,.int .i64 0,.int .i64 0,.int .i64 0] 92 (0,0)):=(Below.heap_alloc _ _ _ (by simp)).trans (zae _ _ _ (by simp))
 have h2:(((w.alloc (.cells #[.int .i64 x1,.int .i64 x2,.int .i64 x3,.int .i64 x4] 92)).alloc (.cells #[.int .i64 0,.int .i64 0,.int .i64 0,.int .i64 0] 92)).alloc (.cells #[.int .i64 0,.int .i64 0,.int .i64 0,.int .i64 0] 92)).heap[w.heap.size+2]? = some (.cells #[.int .i64 0,.int .i64 0,.int .i64 0,.int .i64 0] 92 (0,0)):=zae _ _ _ (by simp)
 have hb:Below w.heap.size w (((w.alloc (.cells #[.int .i64 x1,.int .i64 x2,.int .i64 x3,.int .i64 x4] 92)).alloc (.cells #[.int .i64 0,.int .i64 0,.int .i64 0,.int .i64 0] 92)).alloc (.cells #[.int .i64 0,.int .i64 0,.int .i64 0,.int .i64 0] 92)):=(((Below.refl _ _).alloc (Nat.le_refl _) _).alloc (by simp) _).alloc (by simp;omega) _
 have hs:(((w.alloc (.cells #[.int .i64 x1,.int .i64 x2,.int .i64 x3,.int .i64 x4] 92)).alloc (.cells #[.int .i64 0,.int .i64 0,.int .i64 0,.int .i64 0] 92)).alloc (.cells #[.int .i64 0,.int .i64 0,.int .i64 0,.int .i64 0] 92)).heap.size=w.heap.size+3:=by simp
 go_enter Tryz.func47,Tryz.ntmps47
 go_wp2
 generalize ((w.alloc (.cells #[.int .i64 x1,.int .i64 x2,.int .i64 x3,.int .i64 x4] 92)).alloc (.cells #[.int .i64 0,.int .i64 0,.int .i64 0,.int .i64 0] 92)).alloc (.cells #[.int .i64 0,.int .i64 0,.int .i64 0,.int .i64 0] 92)=W at *
 have hsrc:∀ j v,([.int .i64 x1,.int .i64 x2,.int .i64 x3,.int .i64 x4]:List Value)[j]? = some v→W.cell? ((⟨w.heap.size,0,none⟩:Addr).add j)=some v:=by
  intro j v hj
  match j,hj with
  | 0,hj=>cases hj;exact zab h0 0
  | 1,hj=>cases hj;exact zab h0 1
  | 2,hj=>cases hj;exact zab h0 2
  | 3,hj=>cases hj;exact zab h0 3
 have c0:W.cell? ⟨w.heap.size,0,none⟩=some (.int .i64 x1):=zab h0 0
 have hsrcD:∀ j v,([.int .i64 x1,.int .i64 x2,.int .i64 x3,.int .i64 x4]:List Value)[j]? = some v→W.drew.cell? ((⟨w.heap.size,0,none⟩:Addr).add j)=some v:=hsrc
 have h2D:W.drew.heap[w.heap.size+2]? = some (.cells #[.int .i64 0,.int .i64 0,.int .i64 0,.int .i64 0] 92 (0,0)):=h2
 have h1D:W.drew.heap[w.heap.size+1]? = some (.cells #[.int .i64 0,.int .i64 0,.int .i64 0,.int .i64 0] 92 (0,0)):=h1
 have hbD:Below w.heap.size w W.drew:=hb.trans (zar _ _)
 have hsD:W.drew.heap.size=w.heap.size+3:=hs
 have Hsrc:=zac hsrcD
 have H2:=zac h2D
 have H1:=zac h1D
 have Hb:=zac hbD
 clear hsrc h2 h1 hb hsrcD h2D h1D hbD
 go_region_law (refine step_copy_splice rfl (.tmp 7) (.tmp 8) 47 47 rfl 2 Tryz.underlying47 hsz _ _ _ _ _ _ rfl rfl (w.heap.size+2) 0 [.int .i64 0,.int .i64 0,.int .i64 0,.int .i64 0] 92 (zaa H2) [.int .i64 x1,.int .i64 x2,.int .i64 x3,.int .i64 x4] rfl (fun _=>⟨rfl,_,rfl,zaa Hsrc⟩) (by simp) (by simp [Value.oneCell']) (w.heap.size+2) W.drew (Below.refl _ _) (Nat.le_refl _) ?_;intro w4 hg4 hb4)
 all_goals
  have hg5:w4.heap[w.heap.size+2]? = some (.cells #[.int .i64 x1,.int .i64 x2,.int .i64 x3,.int .i64 x4] 92 (0,0)):=zaa hg4
  have hr5:w4.heap[w.heap.size+1]? = some (.cells #[.int .i64 0,.int .i64 0,.int .i64 0,.int .i64 0] 92 (0,0)):=(hb4.block _ (by omega)).trans (zaa H1)
  have HB4:=zac ((zaa Hb).trans (hb4.mono (by omega)))
  have d0:w4.cell? ⟨w.heap.size+2,0,none⟩=some _:=zab hg5 0
  have d1:w4.cell? ⟨w.heap.size+2,1,none⟩=some _:=zab hg5 1
  have d2:w4.cell? ⟨w.heap.size+2,2,none⟩=some _:=zab hg5 2
  have d3:w4.cell? ⟨w.heap.size+2,3,none⟩=some _:=zab hg5 3
  have r0:w4.cell? ⟨w.heap.size+1,0,none⟩=some (.int .i64 0):=zab hr5 0
  have r1:w4.cell? ⟨w.heap.size+1,1,none⟩=some (.int .i64 0):=zab hr5 1
  have r2:w4.cell? ⟨w.heap.size+1,2,none⟩=some (.int .i64 0):=zab hr5 2
  have r3:w4.cell? ⟨w.heap.size+1,3,none⟩=some (.int .i64 0):=zab hr5 3
  have f0:w4.frozen? ⟨w.heap.size+1,0,none⟩=false:=zad hr5 0
  have f1:w4.frozen? ⟨w.heap.size+1,1,none⟩=false:=zad hr5 1
  have f2:w4.frozen? ⟨w.heap.size+1,2,none⟩=false:=zad hr5 2
  have f3:w4.frozen? ⟨w.heap.size+1,3,none⟩=false:=zad hr5 3
  have hs4:=hb4.size
  clear hg4 hb4 hg5 hr5
  go_wp2
  refine bodyPost_ret (v:=.agg #[.int .i64 x1,.int .i64 x2,.int .i64 x3,.int .i64 x4]) (by simp [results,Tryz.results47,go_sem,r0,r1,r2,r3,f0,f1,f2,f3]) rfl ⟨rfl,?_⟩
  exact (((((zaa HB4).setCell (Nat.le_succ _) _).setCell (Nat.le_succ _) _).setCell (Nat.le_succ _) _).setCell (Nat.le_succ _) _)
theorem ydj (c:Nat) (hc:c≤4) (x1 x2 x3 x4:Int) (w:World) :
  Calls Tryz.prog 47 #[.agg #[.int .i64 x1,.int .i64 x2,.int .i64 x3,.int .i64 x4],.int .i64 c] w fun e w'=>e=.returned (.agg #[.int .i64 (zak c (x1,x2,x3,x4)).1,.int .i64 (zak c (x1,x2,x3,x4)).2.1,.int .i64 (zak c (x1,x2,x3,x4)).2.2.1,.int .i64 (zak c (x1,x2,x3,x4)).2.2.2])∧Below w.heap.size w w':=by
 rcases le4 hc with rfl|rfl|rfl|rfl|rfl
 ·exact yjh x1 x2 x3 x4 w
 ·exact yji x1 x2 x3 x4 w
 ·exact yjj x1 x2 x3 x4 w
 ·exact yjk x1 x2 x3 x4 w
 ·exact yjl x1 x2 x3 x4 w
attribute [local go_sem ↓] Go.wp_at_zero Go.wp_at_succ
theorem ydr (W:World):zeo (W.alloc (.map #[] 0)) W.heap.size 0 (fun _=>0):=
 ⟨.map [],World.ownsMap_made _ _ _ _,⟨fun _ _=>rfl,fun _ _=>by simp [Maps.has],fun _ h=>by simp [Maps.has] at h⟩⟩
theorem zk3 {w w':World} {b n:Nat} {f:H4→Int} (h:zeo w b n f) (hk:w'.heap[b]? = w.heap[b]?):zeo w' b n f:=zeo.keep (X:=fun _=>False) h hk
def grp (c:Nat) (f:H4→Int) (ls:List H4):H4→Int:=zhy (fun _=>0) (ls.map fun q=>(zak c q,f q))
theorem yg2 (c:Nat) (f:H4→Int) (ls:List H4) (x:H4):grp c f (ls ++ [x])=yb7 (grp c f ls) (zak c x) (wrap64 (grp c f ls (zak c x)+f x)):=by
 unfold grp
 rw [List.map_append,List.map_cons,List.map_nil,zmz]
theorem ydq (VB mb K c:Nat) (v0 v1 v2:Value) (f:H4→Int) (hc:c≤4) (w:World) (hV:w.heap[VB]? = some (.cells #[v0,v1,v2,.map (some mb)] 68 (0,0))) (hM:zeo w mb K f) (hK:K≤1000000000) :
  Calls Tryz.prog 30 #[.pointer (some ⟨VB,0,none⟩),.int .i64 c] w fun e w'=>∃ gb ls,e=.returned (.map (some gb))∧ls.Nodup∧(∀ q∈ls,WfH q)∧(∀ q,WfH q→(q∈ls↔f q≠0))∧ls.length≤K∧zeo w' gb ls.length (grp c f ls)∧Below w.heap.size w w':=by
 obtain ⟨D,hown,hrep⟩:=hM
 have hml:mb<w.heap.size:=hown.lt
 have hVl:VB<w.heap.size:=(Array.getElem?_eq_some_iff.1 hV).1
 have hszD:=hown.size_le
 have c3:(w.alloc (.map #[] 0)).cell? ⟨VB,3,none⟩=some (.map (some mb)):=by rw [World.cell?_of_block (a:=⟨VB,3,none⟩) (Below.heap_alloc _ _ _ hVl)];exact zab hV 3
 have hown0:=hown.alloc (.map #[] 0)
 have hG0:=ydr w
 have hB0:Below w.heap.size w (w.alloc (.map #[] 0)):=(Below.refl _ _).alloc (Nat.le_refl _) _
 have hs0':(w.alloc (.map #[] 0)).heap.size=w.heap.size+1:=by simp
 have hmk:∀ w,(Instr.makeMap 66 none).run Tryz.prog w=.ok (.map (some w.heap.size)) (w.alloc (.map #[] 0)):=fun _=>by kernel_rfl
 have Hrep:=zac hrep
 have HG0:=zac hG0
 have HB0:=zac hB0
 clear hrep hG0 hB0 hV hown
 go_enter Tryz.func30,Tryz.ntmps30
 go_wp2_with (first
  | (at_range;refine wpList_range_own _ rfl _ 66 rfl 92 2 zwf Tryz.underlying66 _ mb K D rfl hown0 ?_;intro w0 hrg0 hg0 hs0)
  | go_in)
 generalize (w.alloc (Obj.map #[] 0)).heap.size=it at *
 subst hs0'
 go_frame
 go_loopw [14] (fun _ wr=>∃ left cnt ls,wr.ranges Tryz.prog 92 (plainElem Tryz.prog 2) mb (w.heap.size+1) K D left cnt∧H.zcg D left ls∧ls.length+cnt≤K∧zeo wr w.heap.size ls.length (grp c f ls)∧Below w.heap.size w wr) (fun _ wr=>wr.rangeLeft mb (w.heap.size+1))
 case atStart =>
  refine ⟨_,_,[],hrg0,H.zcg.start D,by simp;omega,zk3 (zaa HG0) (hg0.block _ (by simp) (by simp)),(zaa HB0).grown hg0 (zaa HB0).size (fun j e=>by cases e)⟩
 case round =>
  obtain ⟨left,cnt,ls,hrg,hC,hcnt,hW,hB⟩:=hrel
  have HC:=zac hC
  have HW:=zac hW
  have HB:=zac hB
  have hBs:=hB.size
  clear hC hW hB
  go_wp2_with (first
   | (at_next;refine wpList_next_ranges _ rfl _ rfl 92 zwf (plainElem Tryz.prog 2) (fun x:H4=>.agg #[.int .i64 x.1,.int .i64 x.2.1,.int .i64 x.2.2.1,.int .i64 x.2.2.2]) (Value.int .i64) H.invH zo4 mb (w.heap.size+1) K D left cnt rfl hrg ?_ ?_)
   | go_in)
  ·intro _ hl0
   have HF:=zac (show ls.Nodup∧(∀ q∈ls,WfH q)∧(∀ q,WfH q→(q∈ls↔f q≠0))∧ls.length≤K∧zeo wr w.heap.size ls.length (grp c f ls)∧Below w.heap.size w wr from
    ⟨(zaa HC).apart,(zaa HC).wf,fun q hq=>by rw [(zaa HC).mem q hq,hl0,← (zaa Hrep).has_ q hq];simp,by omega,zaa HW,zaa HB⟩)
   clear hrg hl0
   go_wp2
   go_ret
   exact ⟨_,ls,rfl,zaa HF⟩
  ·intro x1 x2 x3 x4 wt kl y1 y2 w1 cnt1 hkey hlk hv hat hrg1 hlt hg1 hs1 hen
   obtain ⟨hwx,hkl,hwt⟩:=H.yla (zaa Hrep) (x:=(x1,x2,x3,x4)) (y:=(y1,y2)) hkey hv hat
   have hhas:Maps.has D (zjp (x1,x2,x3,x4))=true:=by rw [← hkl];exact has_true_of_atKey hat
   rw [hkl] at hlk hrg1
   have HC2:=zac ((zaa HC).step hwx hhas hlk)
   have hB1:Below w.heap.size w w1:=(zaa HB).grown hg1 hBs (fun j e=>by cases e;omega)
   have hW1:zeo w1 w.heap.size ls.length (grp c f ls):=zk3 (zaa HW) (hg1.block _ (zaa HW).lt (by simp))
   have hB2:Below w.heap.size w (w1.alloc (.cells #[.int .i64 x1,.int .i64 x2,.int .i64 x3,.int .i64 x4] 92)):=hB1.alloc hB1.size _
   have hW2:zeo (w1.alloc (.cells #[.int .i64 x1,.int .i64 x2,.int .i64 x3,.int .i64 x4] 92)) w.heap.size ls.length (grp c f ls):=zk3 hW1 (Below.heap_alloc _ _ _ hW1.lt)
   have hq2:=hrg1.alloc (.cells #[.int .i64 x1,.int .i64 x2,.int .i64 x3,.int .i64 x4] 92)
   have HB2:=zac hB2
   have HW2:=zac hW2
   have Hq2:=zac hq2
   have Hrg:=zac hrg
   have Hlt:=zac hlt
   have Hwt:=zac hwt
   have Hwx:=zac (zoy c hwx)
   clear hkey hlk hv hat hrg1 hrg hg1 hs1 hkl hB1 hW1 hB2 hW2 hq2 hlt hwt hwx hhas HB HW
   go_wp2_with (first
    | (go_at_call 47;refine (ydj c hc x1 x2 x3 x4 _).mono ?_;rintro e w2 ⟨rfl,hb2⟩;have hW3:=zk3 (zaa HW2) (hb2.block _ (zaa HW2).lt);have HB3:=zac ((zaa HB2).trans (hb2.mono (zaa HB2).size));have Hq3:=zac ((zaa Hq2).kept (za5 hb2 none) (by simp) (by simp));clear hb2)
    | (go_at_call 46;refine (zyr w.heap.size ls.length (grp c f ls) (zak c (x1,x2,x3,x4)) wt w2 hW3 (by omega) (zaa Hwx)).mono ?_;rintro e w3 ⟨rfl,hm3,hg3⟩))
   have HR:=zac ((zaa Hq3).kept hg3 (by simp;omega) (by simp))
   have HB4:=zac ((zaa HB3).grown hg3 (zaa HB3).size (fun j e=>by cases e;exact Nat.le_refl _))
   have Hm3:Hid (zeo w3 w.heap.size (ls ++ [(x1,x2,x3,x4)]).length (grp c f (ls ++ [(x1,x2,x3,x4)]))):=by
    rw [yg2,← zaa Hwt,List.length_append]
    exact hm3
   clear hg3 hm3 hW3
   go_wp2
   refine ⟨⟨_,cnt1,ls ++ [(x1,x2,x3,x4)],zaa HR,zaa HC2,by have:=zaa Hlt;rw [List.length_append];simp;omega,zaa Hm3,zaa HB4⟩,?_⟩
   rw [(zaa HR).left_eq,(zaa Hrg).left_eq]
   exact zaa Hlt
structure yky (c K:Nat) (f:H4→Int) (W w':World) (g:Value) (ls zs:List H4):Prop where
 nodup:ls.Nodup
 wf:∀ q∈ls,WfH q
 mem:∀ q,WfH q→(q∈ls↔f q≠0)
 rows:H.zhf (grp c f ls) zs
 at_:zc3 w' g (H.zcc c (grp c f ls) zs)
 len:zs.length≤K
 rng:∀ p,WfH p→-9223372036854775808≤grp c f ls p∧grp c f ls p≤9223372036854775807
 bel:Below W.heap.size W w'
theorem yae (W:World) {fix:Nat→Prop} {eb db nD nI nV N:Nat} {st:St} {ixs:IxS} {vws:VwS} (hE:EngV W fix eb db nD nI nV N st ixs vws) (nm:ByteArray) (v:zda) (hv:vws nm=some v) (c:Nat) (hc:c≤v.H.length) (K:Nat) (hK:K≤1000000000) (hM:zeo W v.mb K v.f) :
  Calls Tryz.prog 20 #[.pointer (some ⟨eb,0,none⟩),.string nm,.int .i64 c] W fun e w'=>∃ g ls zs,e=.returned (.tuple #[g,.int .i64 0])∧yky c K v.f W w' g ls zs:=by
 obtain ⟨iv,hb,_⟩:=(hE.vw nm v hv).1.blk
 have h4:v.H.length≤4:=(hE.vw nm v hv).1.fit.ok.h4
 have hlk:=hE.vhit hv
 have c2:=hE.c2
 have d2:W.cell? ⟨v.VB,2,none⟩=some (.int .i64 v.H.length):=zab hb 2
 have Hg:=zac (ydq v.VB v.mb K c _ _ _ v.f (by omega) W hb hM hK)
 have hx1:¬ (c:Int)<0:=by omega
 have hx2:¬ (v.H.length:Int)<(c:Int):=by omega
 clear hE hb hM
 go_enter Tryz.func20,Tryz.ntmps20
 go_wp2_with fail
 refine (zaa Hg).mono ?_
 rintro e w1 ⟨gb,ls,rfl,g1,g2,g3,g4,g5,g6⟩
 have HT:=zac (H.zlt w1 gb ls.length c (grp c v.f ls) (by omega) (by omega) g5)
 have Hg1:=zac (And.intro g1 (And.intro g2 (And.intro g3 (And.intro g4 (And.intro g5 g6)))))
 clear g1 g2 g3 g4 g5 g6 Hg
 go_wp2_with fail
 refine (zaa HT).mono ?_
 rintro e w2 ⟨o,ys,xs,rfl,h1,h2,h3,h5,h6,h7,h8⟩
 have HF:=zac (show yky c K v.f W w2 o ls ys from by
  obtain ⟨g1,g2,g3,g4,g5,g6⟩:=zaa Hg1
  exact ⟨g1,g2,g3,h1,h6,by omega,fun p hp=>zeo.range (b:=gb) (n:=ls.length) g5 hp,g6.trans (h8.mono g6.size)⟩)
 clear h1 h2 h3 h5 h6 h7 h8 HT Hg1
 go_wp2
 go_ret2
 exact ⟨o,ls,ys,rfl,zaa HF⟩
theorem yaf (W:World) {fix:Nat→Prop} {eb db nD nI nV N:Nat} {st:St} {ixs:IxS} {vws:VwS} (hE:EngV W fix eb db nD nI nV N st ixs vws) (nm:ByteArray) (v:zda) (hv:vws nm=some v) (c:Nat) (hc:v.H.length<c) :
  Calls Tryz.prog 20 #[.pointer (some ⟨eb,0,none⟩),.string nm,.int .i64 c] W fun e w'=>∃ g,e=.returned (.tuple #[g,.int .i64 2])∧Below W.heap.size W w':=by
 obtain ⟨iv,hb,_⟩:=(hE.vw nm v hv).1.blk
 have hlk:=hE.vhit hv
 have c2:=hE.c2
 have d2:W.cell? ⟨v.VB,2,none⟩=some (.int .i64 v.H.length):=zab hb 2
 have hx1:¬ (c:Int)<0:=by omega
 have hx2:(v.H.length:Int)<(c:Int):=by omega
 clear hE hb
 go_enter Tryz.func20,Tryz.ntmps20
 go_wp2
 go_ret2
 exact ⟨⟨_,rfl⟩,Below.refl _ _⟩
def yci (w:World) (v:Value) (n:Nat) (f:H4→Int) (ys:List H4):Prop:=
 ∃ a cap,v=.slice a ys.length cap∧∀ i (hi:i<ys.length),∃ b p,a=some ⟨b,0,none⟩∧w.cell? ⟨b,i*2,none⟩=some (.slice (some ⟨p,0,none⟩) n n)∧w.cell? ⟨b,i*2+1,none⟩=some (.int .i64 (f ys[i])) ∧
  ∀ j (hj:j<n),w.cell? ⟨p,j,none⟩=some (.int .i64 ((H.za0 n ys[i])[j]?.getD 0))
theorem yci.below {w w':World} {v:Value} {n:Nat} {f:H4→Int} {ys:List H4} (h:yci w v n f ys) (hb:Below w.heap.size w w'):yci w' v n f ys:=by
 obtain ⟨a,cap,rfl,hx⟩:=h
 refine ⟨a,cap,rfl,fun i hi=>?_⟩
 obtain ⟨b,p,h1,h2,h3,h4⟩:=hx i hi
 have up:∀ {q:Addr} {x:Value},w.cell? q=some x→w'.cell? q=some x:=fun {q x} h=>(hb.cell (p:=q) (World.block_lt_of_cell? w _ h)).trans h
 exact ⟨b,p,h1,up h2,up h3,fun j hj=>up (h4 j hj)⟩
theorem zo3 {w:World} {p n c:Nat} {q:H4} (hn:n≤4) (hc:c≤n) (h:∀ j (hj:j<n),w.cell? ⟨p,j,none⟩=some (.int .i64 ((H.za0 n q)[j]?.getD 0))):zbu w (.slice (some ⟨p,0,none⟩) c n) (H.za0 c q):=by
 have hl:=zlc (show c≤4 by omega) q
 refine ⟨some ⟨p,0,none⟩,n,by rw [hl],fun i hi=>?_⟩
 rw [hl] at hi
 refine ⟨p,0,rfl,?_⟩
 rw [Nat.zero_add,h i (by omega)]
 have:(H.za0 c q)[i]? = (H.za0 n q)[i]?:=by rw [← yej hc q,List.getElem?_take_of_lt hi]
 rw [this]
theorem zvl {w:World} {m n:Nat} {v:Value} {f:H4→Int} {ys:List H4} {xs:List ((H4×Int)×Nat)} (hn:n≤4) (hx:(xs.map fun p:(H4×Int)×Nat=>(H.za0 n p.1.1,p.1.2))=H.zcc n f ys) (h:w.ownsRow m 51 2 v xs.length (H.zcp n xs)) (hr:H.zdu w m n xs):yci w v n f ys:=by
 have hl:xs.length=ys.length:=by have:=congrArg List.length hx;simpa [H.zcc] using this
 rcases h.2 with ⟨rfl,h0⟩|⟨g,cap,cur,rfl,_,hg,_,_,_,ht⟩
 ·have:ys=[]:=List.eq_nil_of_length_eq_zero (by omega)
  subst this
  exact ⟨none,0,rfl,fun i hi=>by simp at hi⟩
 ·refine ⟨some ⟨g,0,none⟩,cap,by rw [hl],fun i hi=>?_⟩
  have hi':i<xs.length:=by omega
  have hcell:∀ j,j<2→cur[i*2+j]? = [Value.slice (some ⟨xs[i].2,0,none⟩) n n,.int .i64 xs[i].1.2][j]?:=by
   intro j hj
   rw [← H.zky n xs i j hi' hj,← ht,List.getElem?_take_of_lt (by omega)]
   simp
  have he:=congrArg (fun l=>l[i]?) hx
  simp [H.zcc,hi',hi] at he
  refine ⟨g,xs[i].2,rfl,?_,?_,fun j hj=>?_⟩
  ·rw [zab hg];exact hcell 0 (by omega)
  ·rw [zab hg,hcell 1 (by omega),← he.2];rfl
  ·have hb:=(hr.2 _ (List.getElem_mem hi')).1
   rw [H.zn6,he.1] at hb
   have hnl:=zlc hn ys[i]
   rw [zab hb]
   simp [show j<(H.za0 n ys[i]).length by omega]
structure ycb (c n:Nat) (w w2:World) (o g:Value) (f G:H4→Int) (ys zs:List H4):Prop where
 rows:yci w2 o n f ys
 grp:zc3 w2 g (H.zcc c G zs)
 fy:H.zhf f ys
 fz:H.zhf G zs
 ly:ys.length≤1000
 lz:zs.length≤1000
 val:∀ p,WfH p→G p=zqg c f p ys
 bel:Below w.heap.size w w2
theorem ycb.first {c n:Nat} {w w2:World} {o g:Value} {f G:H4→Int} {ys zs:List H4} (h:ycb c n w w2 o g f G ys zs):∀ z∈zs,zak c z=z:=by
 intro z hz
 have hw:=h.fz.wf z hz
 have h0:=(h.fz.mem z hw).1 hz
 rw [h.val z hw] at h0
 obtain ⟨y,_,rfl⟩:=List.mem_map.1 (zuq h0)
 exact zww c y
theorem zvk {w w':World} {v:Value} {rs:List (List Int×Int)} (h:zc3 w v rs) (hd:za9 w w'):zc3 w' v rs:=h.below (hd.below _)
theorem zls {ys:List H4} {k:Nat} (h:k<ys.length):ys.take (k+1)=ys.take k ++ [ys[k]]:=List.take_succ_eq_append_getElem h
theorem zht {ys:List H4} {j i:Nat} (hj:j<ys.length) (hji:j<i):ys.take (min (j+1) i)=ys.take (min j i) ++ [ys[j]]:=by
 rw [Nat.min_eq_left (by omega),Nat.min_eq_left (by omega)]
 exact zls hj
theorem zlr {ys:List H4} {j i:Nat} (hji:¬ j<i):ys.take (min (j+1) i)=ys.take (min j i):=by
 rw [Nat.min_eq_right (by omega),Nat.min_eq_right (by omega)]
theorem ym1 {c k j:Nat} {f:H4→Int} {ys:List H4} {y z:H4} {s:Int} {sb:Bool} (hj:j<ys.length) (hz:z=ys[j]) (hn:¬ zak c z=zak c y) (hs:s=zqg c f (zak c y) (ys.take j)) (hsb:sb=decide (zak c y∈(ys.take (min j k)).map (zak c))) :
  s=zqg c f (zak c y) (ys.take (j+1))∧sb=decide (zak c y∈(ys.take (min (j+1) k)).map (zak c)):=by
 refine ⟨?_,?_⟩
 ·rw [zls hj,zig,← hz,if_neg hn,hs]
 ·rw [hsb]
  by_cases h:j<k
  ·rw [zht hj h,List.map_append,List.map_cons,List.map_nil,← hz]
   have hne:¬ zak c y=zak c z:=fun e=>hn e.symm
   congr 1
   rw [List.mem_append,List.mem_singleton]
   exact propext ⟨fun h=>.inl h,fun h=>h.resolve_right hne⟩
  ·rw [zlr h]
theorem yli {c k j:Nat} {f:H4→Int} {ys:List H4} {y z:H4} {s:Int} (hj:j<ys.length) (hz:z=ys[j]) (hn:zak c z=zak c y) (hs:s=zqg c f (zak c y) (ys.take j)):wrap64 (s+f z)=zqg c f (zak c y) (ys.take (j+1)):=by
 rw [zls hj,zig,← hz,if_pos hn,hs]
theorem yhy {c k j:Nat} {ys:List H4} {y z:H4} (hj:j<ys.length) (hz:z=ys[j]) (hn:zak c z=zak c y) (h:j<k):true=decide (zak c y∈(ys.take (min (j+1) k)).map (zak c)):=by
 rw [zht hj h,List.map_append,List.map_cons,List.map_nil,← hz,hn]
 simp
theorem zrp {c k j:Nat} {ys:List H4} {y:H4} {sb:Bool} (hsb:sb=decide (zak c y∈(ys.take (min j k)).map (zak c))) (h:¬ j<k):sb=decide (zak c y∈(ys.take (min (j+1) k)).map (zak c)):=by
 rw [zlr h]
 exact hsb
theorem ye2 {c k j:Nat} {ys:List H4} {y:H4} (hj:j<ys.length) (hsb:true=decide (zak c y∈(ys.take (min j k)).map (zak c))):true=decide (zak c y∈(ys.take (min (j+1) k)).map (zak c)):=by
 by_cases h:j<k
 ·have h1:=of_decide_eq_true hsb.symm
  rw [zht hj h,List.map_append]
  exact (decide_eq_true (List.mem_append.2 (.inl h1))).symm
 ·exact zrp hsb h
theorem ybj {c:Nat} (hc:c≤4) {y z:H4} {b:Bool} (h:b=zfe (H.za0 c z) (H.za0 c y)):b=true↔zak c z=zak c y:=by
 rw [h,zfe,decide_eq_true_eq]
 exact zxn hc z y
theorem zwy (eb c n:Nat) (hcn:c≤n) (hn:n≤4) (w:World)
  (h:Calls Tryz.prog 14 #[.pointer (some ⟨eb,0,none⟩),.string ⟨#[118]⟩] w fun e w1=>∃ o,e=.returned (.tuple #[o,.int .i64 0]) ∧
   Calls Tryz.prog 20 #[.pointer (some ⟨eb,0,none⟩),.string ⟨#[118]⟩,.int .i64 c] w1 fun e w2=>∃ g f G ys zs,e=.returned (.tuple #[g,.int .i64 0])∧ycb c n w w2 o g f G ys zs) :
  Calls Tryz.prog 19 #[.pointer (some ⟨eb,0,none⟩),.int .i64 c] w fun e w'=>e=.returned (.bool true)∧Below w.heap.size w w':=by
 have H:=zac h
 clear h
 go_enter Tryz.func19,Tryz.ntmps19
 go_wp2_with fail
 refine (zaa H).mono ?_
 rintro e w1 ⟨o,rfl,h1⟩
 have H1:=zac h1
 clear h1 H
 go_wp2_with fail
 refine (zaa H1).mono ?_
 rintro e w2 ⟨g,f,G,ys,zs,rfl,hF⟩
 have hin:=hF.first
 have hly:=hF.ly
 have hlz:=hF.lz
 have hc4:c≤4:=by omega
 have hzl:(H.zcc c G zs).length=zs.length:=by simp [H.zcc]
 have Hr:=zac (ybd g _ w2 hF.grp (by omega) (zhq _ _ _) (ymb hc4 hin hF.fz))
 have HF:=zac hF
 have Hin:=zac hin
 obtain ⟨ga,gc,hg,_⟩:=hF.grp
 rw [hzl] at hg
 subst hg
 obtain ⟨a,cap,ho,_⟩:=hF.rows
 subst ho
 clear hF hin H1
 go_wp2_with fail
 refine (zaa Hr).mono ?_
 rintro e w3 ⟨rfl,hd3⟩
 have Hd3:=zac hd3
 clear hd3 Hr
 obtain ⟨F,hFd⟩:∃ F:H4→Int,F=fun p=>zqg c f p ys:=⟨_,rfl⟩
 have HFd:=zac hFd
 clear hFd
 go_wp2
 go_loopw [10,11] (fun nv i wr=>∃ k m:Nat,k≤ys.length∧m≤k∧i=.int .i64 k∧nv=.int .i64 m∧m=ydm c F (ys.take k)∧za9 w2 wr) (fun _ i _=>ys.length - (intOf i).toNat)
 case atStart=>exact ⟨0,0,Nat.zero_le _,Nat.le_refl _,rfl,rfl,rfl,zaa Hd3⟩
 case round =>
  obtain ⟨k,m,hk,hmk,rfl,rfl,hm,hdr⟩:=hrel
  have Hm:=zac hm
  have Hdr:=zac hdr
  clear hm hdr Hd3
  by_cases hlt:k<ys.length
  ·have hx:(k:Int)<(ys.length:Int):=by omega
   obtain ⟨y,hy⟩:∃ y,y=ys[k]:=⟨_,rfl⟩
   obtain ⟨a',cap',e',hxs⟩:=(zaa HF).rows
   cases e'
   obtain ⟨b,p,rfl,k1,k2,k3⟩:=hxs k hlt
   rw [← hy] at k2 k3
   have k1r:wr.cell? ⟨b,k*2,none⟩=some (.slice (some ⟨p,0,none⟩) n n):=((zaa Hdr).cell _).trans k1
   have Hy:=zac hy
   have K1:=zac k1
   have K3:=zac k3
   have Hxs:=zac hxs
   obtain ⟨wo,hwo⟩:∃ wo,wo=wr:=⟨_,rfl⟩
   subst hwo
   have hnc:¬ (n:Int)<(c:Int):=by omega
   clear hy k1 k2 k3 hxs k1r
   go_wp2
   go_loopw [12,13,14] (fun sv bv jv wr=>∃ (j:Nat) (s:Int) (sb:Bool),j≤ys.length∧jv=.int .i64 j∧sv=.int .i64 s∧bv=.bool sb∧s=zqg c f (zak c y) (ys.take j)∧sb=decide (zak c y∈(ys.take (min j k)).map (zak c))∧za9 w2 wr) (fun _ _ jv _=>ys.length - (intOf jv).toNat)
   case atStart=>exact ⟨0,0,false,Nat.zero_le _,rfl,rfl,rfl,rfl,by simp,zaa Hdr⟩
   case round =>
    obtain ⟨j,s,sb,hj,rfl,rfl,rfl,hs,hsb,hdw⟩:=hrel
    have hsr:=zq8 c f (zak c y) (ys.take j)
    rw [← hs] at hsr
    have Hs:=zac hs
    have Hsb:=zac hsb
    have Hdw:=zac hdw
    clear hs hsb hdw
    have k1r:wr.cell? ⟨b,k*2,none⟩=some (.slice (some ⟨p,0,none⟩) n n):=((zaa Hdw).cell _).trans (zaa K1)
    by_cases hjl:j<ys.length
    ·have hxj:(j:Int)<(ys.length:Int):=by omega
     obtain ⟨z,hz⟩:∃ z,z=ys[j]:=⟨_,rfl⟩
     obtain ⟨b',p',e',j1,j2,j3⟩:=(zaa Hxs) j hjl
     cases e'
     rw [← hz] at j2 j3
     have j1r:wr.cell? ⟨b,j*2,none⟩=some (.slice (some ⟨p',0,none⟩) n n):=((zaa Hdw).cell _).trans j1
     have j2r:wr.cell? ⟨b,j*2+1,none⟩=some (.int .i64 (f z)):=((zaa Hdw).cell _).trans j2
     have Hsame:=fun W (hW:za9 wr W)=>zac (zlj (.slice (some ⟨p',0,none⟩) c n) (.slice (some ⟨p,0,none⟩) c n) (H.za0 c z) (H.za0 c y) W ((zo3 hn hcn j3).drawn ((zaa Hdw).trans hW)) ((zo3 hn hcn (zaa K3)).drawn ((zaa Hdw).trans hW)) (by rw [zlc hc4];omega) (by rw [zlc hc4];omega))
     have Hz:=zac hz
     have hwD:za9 wr wr.drew:=za9.ofN wr 1
     have Hcall:=Hsame wr.drew hwD
     have J2:=zac j2r
     clear hz j1 j2 j3 j2r Hsame hwD
     go_wp2
     go_region_with (first
      | (go_at_call 27;refine (zaa Hcall).mono ?_;rintro e w4 ⟨rfl,hd4⟩))
     all_goals
      have Hd4:=zac ((zaa Hdw).trans ((za9.ofN wr 1).trans hd4))
      have j2q:w4.cell? ⟨b,j*2+1,none⟩=some (.int .i64 (f z)):=(((za9.ofN wr 1).trans hd4).cell _).trans (zaa J2)
      clear hd4 Hcall
      obtain ⟨bb,hbb⟩:∃ bb,bb=zfe (H.za0 c z) (H.za0 c y):=⟨_,rfl⟩
      rw [← hbb]
      have Hbb:=zac hbb
      clear hbb
      have hsf:=ybj hc4 (zaa Hbb)
      have Hsf:=zac hsf
      clear hsf
      cases bb
      ·have hno:=ym1 hjl (zaa Hz) (fun e=>by have:=(zaa Hsf).2 e;cases this) (zaa Hs) (zaa Hsb)
       have Hno:=zac hno
       clear hno
       go_wp2
       exact ⟨⟨j+1,_,_,by omega,by go_num,rfl,rfl,(zaa Hno).1,(zaa Hno).2,zaa Hd4⟩,by simp [intOf];omega⟩
      ·have hyes:=yli (k:=k) hjl (zaa Hz) ((zaa Hsf).1 rfl) (zaa Hs)
       have Hyes:=zac hyes
       clear hyes
       cases sb
       ·by_cases hjk:(j:Int)<(k:Int)
        ·go_wp2
         exact ⟨⟨j+1,_,_,by omega,by go_num,rfl,rfl,zaa Hyes,yhy hjl (zaa Hz) ((zaa Hsf).1 rfl) (by omega),zaa Hd4⟩,by simp [intOf];omega⟩
        ·go_wp2
         exact ⟨⟨j+1,_,_,by omega,by go_num,rfl,rfl,zaa Hyes,zrp (zaa Hsb) (by omega),zaa Hd4⟩,by simp [intOf];omega⟩
       ·go_wp2
        exact ⟨⟨j+1,_,_,by omega,by go_num,rfl,rfl,zaa Hyes,ye2 hjl (zaa Hsb),zaa Hd4⟩,by simp [intOf];omega⟩
    ·have hje:j=ys.length:=by omega
     subst hje
     have hs:=zaa Hs
     rw [List.take_length] at hs
     have hsb:=zaa Hsb
     rw [Nat.min_eq_right hk] at hsb
     have hwy:WfH (zak c y):=zoy c ((zaa HF).fy.wf y (by rw [zaa Hy];exact List.getElem_mem hlt))
     have hwe:zb5 (H.zcc c G zs) (H.za0 c y)=s:=by rw [yb1 hc4 (zaa Hin) (zaa HF).fz hwy,(zaa HF).val _ hwy,hs]
     have hcall:=zmt (.slice ga zs.length gc) (.slice (some ⟨p,0,none⟩) c n) (H.zcc c G zs) (H.za0 c y) wr (zvk (zaa HF).grp (zaa Hdw)) ((zo3 hn hcn (zaa K3)).drawn (zaa Hdw)) (by omega) (zhq _ _ _) (by rw [zlc hc4];omega)
     rw [hwe] at hcall
     have Hcall:=zac hcall
     have hFy:F (zak c y)=s:=by rw [zaa HFd];exact hs.symm
     have htk:ys.take (k+1)=ys.take k ++ [y]:=by rw [zls hlt,zaa Hy]
     have HFy:=zac hFy
     have Htk:=zac htk
     have Hsb2:=zac hsb
     clear hs hsb hwy hwe hcall hFy htk hsr Hs Hsb
     cases sb
     ·have hnew:zak c y ∉ (ys.take k).map (zak c):=of_decide_eq_false (zaa Hsb2).symm
      have Hnew:=zac hnew
      clear hnew
      by_cases hs0:s=0
      ·subst hs0
       go_wp2_with (first
        | (go_at_call 29;refine (zaa Hcall).mono ?_;rintro e w4 ⟨rfl,hd4⟩;have Hd4:=zac ((zaa Hdw).trans hd4);clear hd4))
       refine ⟨⟨k+1,m,by omega,by omega,by go_num,rfl,?_,zaa Hd4⟩,by simp [intOf];omega⟩
       rw [zaa Htk,ydn (zaa HFy)]
       exact zaa Hm
      ·go_wp2_with (first
        | (go_at_call 29;refine (zaa Hcall).mono ?_;rintro e w4 ⟨rfl,hd4⟩;have Hd4:=zac ((zaa Hdw).trans hd4);clear hd4))
       refine ⟨⟨k+1,m+1,by omega,by omega,by go_num,by go_num,?_,zaa Hd4⟩,by simp [intOf];omega⟩
       rw [zaa Htk,yg0 (zaa Hnew) (by rw [zaa HFy];exact hs0),zaa Hm]
     ·have hold:zak c y∈(ys.take k).map (zak c):=of_decide_eq_true (zaa Hsb2).symm
      have Hold:=zac hold
      clear hold
      go_wp2_with (first
       | (go_at_call 29;refine (zaa Hcall).mono ?_;rintro e w4 ⟨rfl,hd4⟩;have Hd4:=zac ((zaa Hdw).trans hd4);clear hd4))
      refine ⟨⟨k+1,m,by omega,by omega,by go_num,rfl,?_,zaa Hd4⟩,by simp [intOf];omega⟩
      rw [zaa Htk,yg1 (zaa Hold)]
      exact zaa Hm
  ·have hke:k=ys.length:=by omega
   subst hke
   have hm:=zaa Hm
   rw [List.take_length,ygz (zaa HF).fz (fun p hp=>by rw [zaa HFd];exact (zaa HF).val p hp) (fun p hp=>by rw [zaa HFd] at hp;exact zuq hp) (zaa HF).fy.wf] at hm
   subst hm
   have HB:=zac ((zaa HF).bel.trans ((zaa Hdr).below _))
   go_wp2
   go_ret
   exact ⟨rfl,zaa HB⟩
def zko (vc:Value) (k:Int) (m:Nat) (w:World):Prop:=
 Calls Tryz.prog 6 #[] w fun e w1=>∃ eb,e=.returned (.pointer (some ⟨eb,0,none⟩)) ∧
  Calls Tryz.prog 7 #[] w1 fun e w2=>e=.returned (.bool true)∧∀ w3,Below w2.heap.size w2 w3 →
  Calls Tryz.prog 10 #[.pointer (some ⟨eb,0,none⟩),.string ⟨#[118]⟩,.string (zkf k),.string ⟨#[]⟩] w3 fun e w4=>e=.returned (.bool true) ∧
  Calls Tryz.prog 9 #[vc] w4 fun e w5=>∃ u,e=.returned u ∧
  Calls Tryz.prog 11 #[.pointer (some ⟨eb,0,none⟩),u] w5 fun e w6=>e=.returned (.bool true)∧∃ I:World→Prop,I w6 ∧
   (∀ (c:Nat) wr,c≤m→I wr→Calls Tryz.prog 19 #[.pointer (some ⟨eb,0,none⟩),.int .i64 c] wr fun e w'=>e=.returned (.bool true)∧I w') ∧
   ∀ wr,I wr→Calls Tryz.prog 20 #[.pointer (some ⟨eb,0,none⟩),.string ⟨#[118]⟩,.int .i64 ((m:Int)+1)] wr fun e w'=>∃ g,e=.returned (.tuple #[g,.int .i64 2])∧Below w.heap.size w w'
theorem ygt (vc:Value) (which:Int) (w:World) (hw1:-9223372036854775808≤which∧which≤9223372036854775807) (hp:zbd which 4=0) (h:zko vc 0 2 w) :
  Calls Tryz.prog 5 #[vc,.int .i64 which] w fun e w'=>e=.returned (.bool true)∧Below w.heap.size w w':=by
 have Hq:∀ W,Hid (Calls Tryz.prog 8 #[.int .i64 0] W fun e w'=>e=.returned (.tuple #[.string (zkf 0),.string (yba 0)])∧w'=W):=fun W=>zg7 0 W (by omega) (by omega)
 have Hp:∀ W,Hid (Calls Tryz.prog 18 #[.int .i64 which,.int .i64 4] W fun e w'=>e=.returned (.int .i64 0)∧w'=W):=fun W=>by
  have:=zfm which 4 W hw1.1 hw1.2 (by omega) (by omega)
  rw [hp] at this
  exact this
 have H:=zac h
 clear h hw1 hp
 unfold zko at H
 generalize zkf 0=qt at *
 generalize yba 0=qv at *
 go_enter Tryz.func5,Tryz.ntmps5
 go_wp2_with fail
 refine (zaa H).mono ?_
 rintro e w1 ⟨eb,rfl,h1⟩
 have H1:=zac h1
 clear h1 H
 go_wp2_with fail
 refine (zaa H1).mono ?_
 rintro e w2 ⟨rfl,h2⟩
 have H2:=zac h2
 clear h2 H1
 go_wp2_with (first
  | (go_at_call 18;refine (zaa (Hp _)).mono ?_;rintro e w' ⟨rfl,hw⟩;replace hw:=hw.symm;subst hw)
  | (go_at_call 8;refine (zaa (Hq _)).mono ?_;rintro e w' ⟨rfl,hw⟩;replace hw:=hw.symm;subst hw))
 refine ((zaa H2) _ ((Below.refl _ _).alloc (Nat.le_refl _) _)).mono ?_
 rintro e w4 ⟨rfl,h4⟩
 have H4:=zac h4
 clear h4 H2 Hp Hq
 go_wp2_with fail
 refine (zaa H4).mono ?_
 rintro e w5 ⟨u,rfl,h5⟩
 have H5:=zac h5
 clear h5 H4
 go_wp2_with fail
 refine (zaa H5).mono ?_
 rintro e w6 ⟨rfl,I,hI,hg,hl⟩
 have HI:=zac hI
 have HG:=zac hg
 have HL:=zac hl
 clear hI hg hl H5
 go_wp2
 go_loopw [13] (fun i wr=>∃ c:Nat,c≤3∧i=.int .i64 c∧I wr) (fun i _=>3 - (intOf i).toNat)
 case atStart=>exact ⟨0,Nat.zero_le _,rfl,zaa HI⟩
 case round =>
  obtain ⟨c,hc,rfl,hI⟩:=hrel
  clear HI
  by_cases hlt:c≤2
  ·have hx:(c:Int)≤2:=by omega
   have HC:=zac ((zaa HG) c wr hlt hI)
   clear hI
   go_wp2_with fail
   refine (zaa HC).mono ?_
   rintro e w7 ⟨rfl,h7⟩
   have H7:=zac h7
   clear h7 HC
   go_wp2
   exact ⟨⟨c+1,by omega,by go_num,zaa H7⟩,by simp [intOf];omega⟩
  ·have hce:c=3:=by omega
   subst hce
   have HC:=zac ((zaa HL) wr hI)
   clear hI
   go_wp2_with fail
   refine (zaa HC).mono ?_
   rintro e w7 ⟨g,rfl,h7⟩
   have H7:=zac h7
   clear h7 HC
   go_wp2
   go_ret
   exact ⟨rfl,zaa H7⟩
theorem ygu (vc:Value) (which:Int) (w:World) (hw1:-9223372036854775808≤which∧which≤9223372036854775807) (hp:zbd which 4=1) (h:zko vc 2 3 w) :
  Calls Tryz.prog 5 #[vc,.int .i64 which] w fun e w'=>e=.returned (.bool true)∧Below w.heap.size w w':=by
 have Hq:∀ W,Hid (Calls Tryz.prog 8 #[.int .i64 2] W fun e w'=>e=.returned (.tuple #[.string (zkf 2),.string (yba 2)])∧w'=W):=fun W=>zg7 2 W (by omega) (by omega)
 have Hp:∀ W,Hid (Calls Tryz.prog 18 #[.int .i64 which,.int .i64 4] W fun e w'=>e=.returned (.int .i64 1)∧w'=W):=fun W=>by
  have:=zfm which 4 W hw1.1 hw1.2 (by omega) (by omega)
  rw [hp] at this
  exact this
 have H:=zac h
 clear h hw1 hp
 unfold zko at H
 generalize zkf 2=qt at *
 generalize yba 2=qv at *
 go_enter Tryz.func5,Tryz.ntmps5
 go_wp2_with fail
 refine (zaa H).mono ?_
 rintro e w1 ⟨eb,rfl,h1⟩
 have H1:=zac h1
 clear h1 H
 go_wp2_with fail
 refine (zaa H1).mono ?_
 rintro e w2 ⟨rfl,h2⟩
 have H2:=zac h2
 clear h2 H1
 go_wp2_with (first
  | (go_at_call 18;refine (zaa (Hp _)).mono ?_;rintro e w' ⟨rfl,hw⟩;replace hw:=hw.symm;subst hw)
  | (go_at_call 8;refine (zaa (Hq _)).mono ?_;rintro e w' ⟨rfl,hw⟩;replace hw:=hw.symm;subst hw))
 refine ((zaa H2) _ ((Below.refl _ _).alloc (Nat.le_refl _) _)).mono ?_
 rintro e w4 ⟨rfl,h4⟩
 have H4:=zac h4
 clear h4 H2 Hp Hq
 go_wp2_with fail
 refine (zaa H4).mono ?_
 rintro e w5 ⟨u,rfl,h5⟩
 have H5:=zac h5
 clear h5 H4
 go_wp2_with fail
 refine (zaa H5).mono ?_
 rintro e w6 ⟨rfl,I,hI,hg,hl⟩
 have HI:=zac hI
 have HG:=zac hg
 have HL:=zac hl
 clear hI hg hl H5
 go_wp2
 go_loopw [13] (fun i wr=>∃ c:Nat,c≤4∧i=.int .i64 c∧I wr) (fun i _=>4 - (intOf i).toNat)
 case atStart=>exact ⟨0,Nat.zero_le _,rfl,zaa HI⟩
 case round =>
  obtain ⟨c,hc,rfl,hI⟩:=hrel
  clear HI
  by_cases hlt:c≤3
  ·have hx:(c:Int)≤3:=by omega
   have HC:=zac ((zaa HG) c wr hlt hI)
   clear hI
   go_wp2_with fail
   refine (zaa HC).mono ?_
   rintro e w7 ⟨rfl,h7⟩
   have H7:=zac h7
   clear h7 HC
   go_wp2
   exact ⟨⟨c+1,by omega,by go_num,zaa H7⟩,by simp [intOf];omega⟩
  ·have hce:c=4:=by omega
   subst hce
   have HC:=zac ((zaa HL) wr hI)
   clear hI
   go_wp2_with fail
   refine (zaa HC).mono ?_
   rintro e w7 ⟨g,rfl,h7⟩
   have H7:=zac h7
   clear h7 HC
   go_wp2
   go_ret
   exact ⟨rfl,zaa H7⟩
theorem ygv (vc:Value) (which:Int) (w:World) (hw1:-9223372036854775808≤which∧which≤9223372036854775807) (hp:zbd which 4=2) (h:zko vc 6 2 w) :
  Calls Tryz.prog 5 #[vc,.int .i64 which] w fun e w'=>e=.returned (.bool true)∧Below w.heap.size w w':=by
 have Hq:∀ W,Hid (Calls Tryz.prog 8 #[.int .i64 6] W fun e w'=>e=.returned (.tuple #[.string (zkf 6),.string (yba 6)])∧w'=W):=fun W=>zg7 6 W (by omega) (by omega)
 have Hp:∀ W,Hid (Calls Tryz.prog 18 #[.int .i64 which,.int .i64 4] W fun e w'=>e=.returned (.int .i64 2)∧w'=W):=fun W=>by
  have:=zfm which 4 W hw1.1 hw1.2 (by omega) (by omega)
  rw [hp] at this
  exact this
 have H:=zac h
 clear h hw1 hp
 unfold zko at H
 generalize zkf 6=qt at *
 generalize yba 6=qv at *
 go_enter Tryz.func5,Tryz.ntmps5
 go_wp2_with fail
 refine (zaa H).mono ?_
 rintro e w1 ⟨eb,rfl,h1⟩
 have H1:=zac h1
 clear h1 H
 go_wp2_with fail
 refine (zaa H1).mono ?_
 rintro e w2 ⟨rfl,h2⟩
 have H2:=zac h2
 clear h2 H1
 go_wp2_with (first
  | (go_at_call 18;refine (zaa (Hp _)).mono ?_;rintro e w' ⟨rfl,hw⟩;replace hw:=hw.symm;subst hw)
  | (go_at_call 8;refine (zaa (Hq _)).mono ?_;rintro e w' ⟨rfl,hw⟩;replace hw:=hw.symm;subst hw))
 refine ((zaa H2) _ ((Below.refl _ _).alloc (Nat.le_refl _) _)).mono ?_
 rintro e w4 ⟨rfl,h4⟩
 have H4:=zac h4
 clear h4 H2 Hp Hq
 go_wp2_with fail
 refine (zaa H4).mono ?_
 rintro e w5 ⟨u,rfl,h5⟩
 have H5:=zac h5
 clear h5 H4
 go_wp2_with fail
 refine (zaa H5).mono ?_
 rintro e w6 ⟨rfl,I,hI,hg,hl⟩
 have HI:=zac hI
 have HG:=zac hg
 have HL:=zac hl
 clear hI hg hl H5
 go_wp2
 go_loopw [13] (fun i wr=>∃ c:Nat,c≤3∧i=.int .i64 c∧I wr) (fun i _=>3 - (intOf i).toNat)
 case atStart=>exact ⟨0,Nat.zero_le _,rfl,zaa HI⟩
 case round =>
  obtain ⟨c,hc,rfl,hI⟩:=hrel
  clear HI
  by_cases hlt:c≤2
  ·have hx:(c:Int)≤2:=by omega
   have HC:=zac ((zaa HG) c wr hlt hI)
   clear hI
   go_wp2_with fail
   refine (zaa HC).mono ?_
   rintro e w7 ⟨rfl,h7⟩
   have H7:=zac h7
   clear h7 HC
   go_wp2
   exact ⟨⟨c+1,by omega,by go_num,zaa H7⟩,by simp [intOf];omega⟩
  ·have hce:c=3:=by omega
   subst hce
   have HC:=zac ((zaa HL) wr hI)
   clear hI
   go_wp2_with fail
   refine (zaa HC).mono ?_
   rintro e w7 ⟨g,rfl,h7⟩
   have H7:=zac h7
   clear h7 HC
   go_wp2
   go_ret
   exact ⟨rfl,zaa H7⟩
theorem ygw (vc:Value) (which:Int) (w:World) (hw1:-9223372036854775808≤which∧which≤9223372036854775807) (hp:zbd which 4=3) (h:zko vc 4 2 w) :
  Calls Tryz.prog 5 #[vc,.int .i64 which] w fun e w'=>e=.returned (.bool true)∧Below w.heap.size w w':=by
 have Hq:∀ W,Hid (Calls Tryz.prog 8 #[.int .i64 4] W fun e w'=>e=.returned (.tuple #[.string (zkf 4),.string (yba 4)])∧w'=W):=fun W=>zg7 4 W (by omega) (by omega)
 have Hp:∀ W,Hid (Calls Tryz.prog 18 #[.int .i64 which,.int .i64 4] W fun e w'=>e=.returned (.int .i64 3)∧w'=W):=fun W=>by
  have:=zfm which 4 W hw1.1 hw1.2 (by omega) (by omega)
  rw [hp] at this
  exact this
 have H:=zac h
 clear h hw1 hp
 unfold zko at H
 generalize zkf 4=qt at *
 generalize yba 4=qv at *
 go_enter Tryz.func5,Tryz.ntmps5
 go_wp2_with fail
 refine (zaa H).mono ?_
 rintro e w1 ⟨eb,rfl,h1⟩
 have H1:=zac h1
 clear h1 H
 go_wp2_with fail
 refine (zaa H1).mono ?_
 rintro e w2 ⟨rfl,h2⟩
 have H2:=zac h2
 clear h2 H1
 go_wp2_with (first
  | (go_at_call 18;refine (zaa (Hp _)).mono ?_;rintro e w' ⟨rfl,hw⟩;replace hw:=hw.symm;subst hw)
  | (go_at_call 8;refine (zaa (Hq _)).mono ?_;rintro e w' ⟨rfl,hw⟩;replace hw:=hw.symm;subst hw))
 refine ((zaa H2) _ ((Below.refl _ _).alloc (Nat.le_refl _) _)).mono ?_
 rintro e w4 ⟨rfl,h4⟩
 have H4:=zac h4
 clear h4 H2 Hp Hq
 go_wp2_with fail
 refine (zaa H4).mono ?_
 rintro e w5 ⟨u,rfl,h5⟩
 have H5:=zac h5
 clear h5 H4
 go_wp2_with fail
 refine (zaa H5).mono ?_
 rintro e w6 ⟨rfl,I,hI,hg,hl⟩
 have HI:=zac hI
 have HG:=zac hg
 have HL:=zac hl
 clear hI hg hl H5
 go_wp2
 go_loopw [13] (fun i wr=>∃ c:Nat,c≤3∧i=.int .i64 c∧I wr) (fun i _=>3 - (intOf i).toNat)
 case atStart=>exact ⟨0,Nat.zero_le _,rfl,zaa HI⟩
 case round =>
  obtain ⟨c,hc,rfl,hI⟩:=hrel
  clear HI
  by_cases hlt:c≤2
  ·have hx:(c:Int)≤2:=by omega
   have HC:=zac ((zaa HG) c wr hlt hI)
   clear hI
   go_wp2_with fail
   refine (zaa HC).mono ?_
   rintro e w7 ⟨rfl,h7⟩
   have H7:=zac h7
   clear h7 HC
   go_wp2
   exact ⟨⟨c+1,by omega,by go_num,zaa H7⟩,by simp [intOf];omega⟩
  ·have hce:c=3:=by omega
   subst hce
   have HC:=zac ((zaa HL) wr hI)
   clear hI
   go_wp2_with fail
   refine (zaa HC).mono ?_
   rintro e w7 ⟨g,rfl,h7⟩
   have H7:=zac h7
   clear h7 HC
   go_wp2
   go_ret
   exact ⟨rfl,zaa H7⟩
theorem yeq {f:H4→Int} {ls ys:List H4} (hn:ls.Nodup) (hw:∀ q∈ls,WfH q) (hm:∀ q,WfH q→(q∈ls↔f q≠0)) (hy:H.zhf f ys):ls.Perm ys:=by
 have hyn:ys.Nodup:=hy.rising.imp (fun {a b} h e=>by subst e;unfold H.ltR at h;omega)
 refine (List.perm_ext_iff_of_nodup hn hyn).2 fun p=>⟨fun h=>?_,fun h=>?_⟩
 ·exact (hy.mem p (hw p h)).2 ((hm p (hw p h)).1 h)
 ·exact (hm p (hy.wf p h)).2 ((hy.mem p (hy.wf p h)).1 h)
theorem zz4 (c n:Nat) (W:World) {s:ES} {B0:Nat} (hs:s.At B0 W) {Hq:List (Nat×Nat)} {B:List za7} (hv:s.has nmV Hq B) (hn:Hq.length=n) (hcn:c≤n) :
  Calls Tryz.prog 19 #[.pointer (some ⟨s.eb,0,none⟩),.int .i64 c] W fun e w'=>e=.returned (.bool true)∧Below W.heap.size W w':=by
 obtain ⟨v,v1,v2,v3⟩:=hv
 have hvn:v.H.length=n:=by rw [v2,hn]
 have h4:v.H.length≤4:=(hs.eng.vw nmV v v1).1.fit.ok.h4
 refine zwy s.eb c n hcn (by omega) W ?_
 refine (zlg W hs.eng nmV v v1 256 (by omega) (Stg.map256 hs v1)).mono ?_
 rintro e w1 ⟨o,ys,xs,rfl,r1,r2,r3,r4,r5,r6,r7⟩
 have hs1:=hs.below r7
 refine ⟨o,rfl,(yae w1 hs1.eng nmV v v1 c (by omega) 256 (by omega) (Stg.map256 hs1 v1)).mono ?_⟩
 rintro e w2 ⟨g,ls,zs,rfl,hT⟩
 rw [hvn] at r2 r3 r4
 refine ⟨g,v.f,grp c v.f ls,ys,zs,rfl,⟨(zvl (by omega) r2 r3 r4).below hT.bel,hT.at_,r1,hT.rows,by omega,by have:=hT.len;omega,fun p hp=>?_,r7.trans (hT.bel.mono r7.size)⟩⟩
 exact zzp (yeq hT.nodup hT.wf hT.mem r1) (hT.rng p hp)
theorem zyn (vc:Value) (codes:List Int) (k:Int) (m:Nat) (w:World) (hc:zbu w vc codes) (hcl:codes.length≤9223372036854775807) (hcb:∀ c∈codes,-9223372036854775808≤c∧c≤9223372036854775807)
  (hread:zfd (zkf k)=.ok (zkn k)) (hfit:zyo (zkn k).1 ((zkn k).2.map zb3.q)=true) (hsz:(zkf k).size≤300) (hm:(zkn k).1.length=m):zko vc k m w:=by
 have hbl:=zoi codes
 have hbm:=zl7 codes
 have hbsh:=zj1 codes
 have hbf:=zl6 codes
 refine (zk2 w).mono ?_
 rintro e w1 ⟨s,rfl,hs,hsf,hsI,hsV,hsM,hsv,hb1⟩
 refine ⟨s.eb,rfl,(zp3 w1).mono ?_⟩
 rintro e w2 ⟨rfl,hb2⟩
 refine ⟨rfl,fun w3 hb3=>?_⟩
 have hs3:=(hs.below hb2).below hb3
 have hB2:=hb1.trans (hb2.mono hb1.size)
 have hB3:=hB2.trans (hb3.mono hB2.size)
 refine (zid nmV _ noO _ _ w3 hs3 hB3.size yee (by decide) (by rw [hsv]) (by omega) hsz hread hfit (.inl rfl) (by omega)).mono ?_
 rintro e w4 ⟨rfl,s4,hs4,ht4,heb4,hfl4,hnI4,hnV4,hM4,v,hvw,hvH,hvB⟩
 have hB4:=ht4.below hs3 hB3 hB3.size
 have hhas4:s4.has nmV (zkn k).1 ((zkn k).2.map zb3.q):=⟨v,by rw [hvw];exact zbi _ _ _,hvH,hvB⟩
 rw [← heb4]
 refine ⟨rfl,(zr5 vc codes w4 (hc.below hB4) hcl hcb).mono ?_⟩
 rintro e w5 ⟨u,rfl,hu,hb5⟩
 have hs5:=hs4.below hb5
 have hB5:=hB4.trans (hb5.mono hB4.size)
 generalize zib codes=bs at *
 refine ⟨u,rfl,(zi2 u bs w5 hs5 hB5.size hu.stable hbsh hbf (by rw [hfl4,hsf];simpa using hbm) (by omega) (by rw [hM4,hsM];omega)).mono ?_⟩
 rintro e w6 ⟨rfl,s6,hs6,ht6,heb6,_,_,_,_,hsame6⟩
 have hB6:=ht6.below hs5 hB5 hB5.size
 have hhas6:=hsame6.has hhas4
 rw [← heb6]
 refine ⟨rfl,fun W=>s6.At w.heap.size W∧Below w.heap.size w W,⟨hs6,hB6⟩,fun c wr hcm hI=>?_,fun wr hI=>?_⟩
 ·refine (zz4 c m wr hI.1 hhas6 hm hcm).mono ?_
  rintro e w' ⟨rfl,hb⟩
  exact ⟨rfl,hI.1.below hb,hI.2.trans (hb.mono hI.2.size)⟩
 ·obtain ⟨v6,v1,v2,v3⟩:=hhas6
  have hfar:=yaf wr hI.1.eng nmV v6 v1 (m+1) (by rw [v2,hm];omega)
  refine hfar.mono ?_
  rintro e w' ⟨g,rfl,hb⟩
  exact ⟨g,rfl,hI.2.trans (hb.mono hI.2.size)⟩
theorem zz7 (vc:Value) (codes:List Int) (which:Int) (w:World) (hc:zbu w vc codes) (hcl:codes.length≤9223372036854775807) (hcb:∀ c∈codes,-9223372036854775808≤c∧c≤9223372036854775807)
  (hw1:-9223372036854775808≤which∧which≤9223372036854775807) :
  Calls Tryz.prog 5 #[vc,.int .i64 which] w fun e w'=>e=.returned (.bool true)∧Below w.heap.size w w':=by
 have hr:=zdm which 4 (by omega)
 obtain h|h|h|h:zbd which 4=0∨zbd which 4=1∨zbd which 4=2∨zbd which 4=3:=by omega
 ·exact ygt vc which w hw1 h (zyn vc codes 0 2 w hc hcl hcb (zje 0) (zjd 0) (zjf 0) (by decide +kernel))
 ·exact ygu vc which w hw1 h (zyn vc codes 2 3 w hc hcl hcb (zje 2) (zjd 2) (zjf 2) (by decide +kernel))
 ·exact ygv vc which w hw1 h (zyn vc codes 6 2 w hc hcl hcb (zje 6) (zjd 6) (zjf 6) (by decide +kernel))
 ·exact ygw vc which w hw1 h (zyn vc codes 4 2 w hc hcl hcb (zje 4) (zjd 4) (zjf 4) (by decide +kernel))
end K
end Go.Proofs.YtoifcnidhfnapabGreatDoor
