import Derived.Test.YtoifcnidhfnapaaGreatDoorB01
import Derived.Test.YtoifcnidhfnapaaGreatDoorB02
import Derived.Test.YtoifcnidhfnapaaGreatDoorB03
import Derived.Test.YtoifcnidhfnapaaGreatDoorB04
import Derived.Test.YtoifcnidhfnapaaGreatDoorB05
import Derived.Test.YtoifcnidhfnapaaGreatDoorB06
import Derived.Test.YtoifcnidhfnapaaGreatDoorB07
import Derived.Test.YtoifcnidhfnapaaGreatDoorB08
import Derived.Test.YtoifcnidhfnapaaGreatDoorB09
import Derived.Test.YtoifcnidhfnapaaGreatDoorB10
import Derived.Test.YtoifcnidhfnapaaGreatDoorB11
import Derived.Test.YtoifcnidhfnapaaGreatDoorB12
import Derived.Test.YtoifcnidhfnapaaGreatDoorB13
import Derived.Test.YtoifcnidhfnapaaGreatDoorB14
import Derived.Test.YtoifcnidhfnapaaGreatDoorB15
import Derived.Test.YtoifcnidhfnapaaGreatDoorB16
import Derived.Test.YtoifcnidhfnapaaGreatDoorB17
import Derived.Test.YtoifcnidhfnapaaGreatDoorB18
import Derived.Test.YtoifcnidhfnapaaGreatDoorB19
import Derived.Test.YtoifcnidhfnapaaGreatDoorB20
import Derived.Test.YtoifcnidhfnapaaGreatDoorB21
import Derived.Test.YtoifcnidhfnapaaGreatDoorB22
import Derived.Test.YtoifcnidhfnapaaGreatDoorB23
import Derived.Test.YtoifcnidhfnapaaGreatDoorB24
import Derived.Test.YtoifcnidhfnapaaGreatDoorB25
import Derived.Test.YtoifcnidhfnapaaGreatDoorB26
import Derived.Test.YtoifcnidhfnapaaGreatDoorB27
import Derived.Test.YtoifcnidhfnapaaGreatDoorB28
import Derived.Test.YtoifcnidhfnapaaGreatDoorB29
import Derived.Test.YtoifcnidhfnapaaGreatDoorB30
import Derived.Test.YtoifcnidhfnapaaGreatDoorB31
import Derived.Test.YtoifcnidhfnapaaGreatDoorB32
import Derived.Test.YtoifcnidhfnapaaGreatDoorB33
import Derived.Test.YtoifcnidhfnapaaGreatDoorB34
import Derived.Test.YtoifcnidhfnapaaGreatDoorB35
import Derived.Test.YtoifcnidhfnapaaGreatDoorB36
import Derived.Test.YtoifcnidhfnapaaGreatDoorB37
import Derived.Test.YtoifcnidhfnapaaGreatDoorB38
import Derived.Test.YtoifcnidhfnapaaGreatDoorB39
import Derived.Test.YtoifcnidhfnapaaGreatDoorB40
import Derived.Test.YtoifcnidhfnapaaGreatDoorB41
import Derived.Test.YtoifcnidhfnapaaGreatDoorB42
import Derived.Test.YtoifcnidhfnapaaGreatDoorB43
import Derived.Test.YtoifcnidhfnapaaGreatDoorB44
import Derived.Test.YtoifcnidhfnapaaGreatDoorB45
import Derived.Test.YtoifcnidhfnapaaGreatDoorB46
import Derived.Test.YtoifcnidhfnapaaGreatDoorB47
import Derived.Test.YtoifcnidhfnapaaGreatDoorB48
import Derived.Laws.CopyRow
import Derived.Deep.CutRange
set_option linter.unusedVariables false
set_option linter.unusedSimpArgs false
set_option maxRecDepth 100000
set_option maxHeartbeats 16000000
namespace Go.Proofs.YtoifcnidhfnapaaGreatDoor
open Go.RowKit Go.Maps Go.Sort Go.Shelf
attribute [local go_sem] Oper.semAt_some
section
attribute [local go_sem ↓] zhb
end
theorem zb9:∀ (xs ys:List Row),ze9 xs→ze9 ys→(∀ r,r∈xs↔r∈ys)→xs=ys
 | [],[],_,_,_=>rfl
 | [],y :: ys,_,_,h=>by have:=(h y).2 (by simp);simp at this
 | x :: xs,[],_,_,h=>by have:=(h x).1 (by simp);simp at this
 | x :: xs,y :: ys,hx,hy,h=>by
  have hx1:=List.pairwise_cons.1 hx
  have hy1:=List.pairwise_cons.1 hy
  have irr:∀ a:Row,¬ ltR a a:=fun a h=>by unfold ltR at h;omega
  have asym:∀ a b:Row,ltR a b→ltR b a→False:=fun a b h1 h2=>by unfold ltR at *;omega
  have e:x=y:=by
   rcases List.mem_cons.1 ((h x).1 (by simp)) with e|e
   ·exact e
   ·rcases List.mem_cons.1 ((h y).2 (by simp)) with e2|e2
    ·exact e2.symm
    ·exact (asym _ _ (hy1.1 x e) (hx1.1 y e2)).elim
  subst e
  congr 1
  refine zb9 xs ys hx1.2 hy1.2 (fun r=>⟨fun hr=>?_,fun hr=>?_⟩)
  ·rcases List.mem_cons.1 ((h r).1 (List.mem_cons_of_mem _ hr)) with e|e
   ·subst e;exact (irr _ (hx1.1 _ hr)).elim
   ·exact e
  ·rcases List.mem_cons.1 ((h r).2 (List.mem_cons_of_mem _ hr)) with e|e
   ·subst e;exact (irr _ (hy1.1 _ hr)).elim
   ·exact e
def Own (fix:Nat→Prop) (db:Nat) (st:St) (ixs:IxS) (vws:VwS) (q:Nat):Prop:=fix q∨q=db∨q=db+1∨q=db+2∨zcs st ixs vws q
section
variable {W W':World} {fix:Nat→Prop} {eb db nD nI nV N:Nat} {st:St} {ixs:IxS} {vws:VwS}
theorem EngV.ownlt (h:EngV W fix eb db nD nI nV N st ixs vws) {q:Nat} (hq:Own fix db st ixs vws q):q<W.heap.size:=by
 have h3:=h.eb3
 have hel:=h.flt _ h.feb
 rcases hq with hq|rfl|rfl|rfl|hq
 ·exact h.flt q hq
 ·omega
 ·omega
 ·omega
 ·exact h.xlt q hq
theorem EngV.asideX (h:EngV W fix eb db nD nI nV N st ixs vws) {X:Nat→Prop} (hk:KeepX X W W') (hX:∀ q,X q→¬ Own fix db st ixs vws q) (hE:∀ q,X q→¬ zct W q):EngV W' fix eb db nD nI nV N st ixs vws:=by
 have blk:∀ q,Own fix db st ixs vws q→W'.heap[q]? = W.heap[q]?:=fun q hq=>hk.blk q (h.ownlt hq) fun hx=>hX q hx hq
 have hf:∀ k,fix k→W'.heap[k]? = W.heap[k]?:=fun k hk=>blk k (.inl hk)
 have hx:∀ q,zcs st ixs vws q→W'.heap[q]? = W.heap[q]?:=fun q hq=>blk q (.inr (.inr (.inr (.inr hq))))
 refine ⟨(h.rep.keptW hk.size (hf _ h.feb) (blk db (.inr (.inl rfl))) fun nm R hR=>⟨hf _ (h.frb nm R hR).1,hx _ (.inl ⟨nm,R,hR,rfl⟩)⟩).topW,fun k hk'=>Nat.lt_of_lt_of_le (h.flt k hk') hk.size,h.feb,h.frb,h.fdb,?_,fun k x hxk=>?_,h.iap,?_,fun nm v hv=>?_,h.vap,h.vrel⟩
 ·obtain ⟨D,h1,h2⟩:=h.imap
  exact ⟨D,zau h1 (blk _ (.inr (.inr (.inl rfl)))),h2⟩
 ·obtain ⟨a,b,R,c,d⟩:=h.idx k x hxk
  exact ⟨a,b,R,c,d.kept hk hE (fun hq=>hX _ hq (.inr (.inr (.inr (.inr (.inr (.inl ⟨k,x,hxk,.inl rfl⟩))))))) fun g hg hq=>hX _ hq (.inr (.inr (.inr (.inr (.inr (.inl ⟨k,x,hxk,.inr hg⟩))))))⟩
 ·obtain ⟨D,h1,h2⟩:=h.vmap
  exact ⟨D,zau h1 (blk _ (.inr (.inr (.inr (.inl rfl))))),h2⟩
 ·obtain ⟨a,b⟩:=h.vw nm v hv
  exact ⟨a.kept hf (hx _ (.inr (.inr ⟨nm,v,hv,rfl⟩))),b⟩
end
end Go.Proofs.YtoifcnidhfnapaaGreatDoor
namespace Go.Proofs.YtoifcnidhfnapaaGreatDoor
namespace K
open Go.RowKit Go.Maps Go.Sort Go.Shelf
theorem zew.trans {a b c:World} (h:zew a b) (k:zew b c):zew a c:=
 ⟨Nat.le_trans h.size k.size,fun q cs t p hq h1 h2=>(k.blk q cs t p ((h.blk q cs t p hq h1 h2).trans hq) h1 h2).trans (h.blk q cs t p hq h1 h2)⟩
theorem zew.ofX {w w':World} {fix:Nat→Prop} {eb db nD nI nV N:Nat} {st:St} {ixs:IxS} {vws:VwS} (hE:EngV w fix eb db nD nI nV N st ixs vws) (h:KeepX (zcs st ixs vws) w w'):zew w w':=
 ⟨h.size,fun q cs t p hq h1 h2=>h.blk q (Array.getElem?_eq_some_iff.1 hq).1 fun hx=>(hE.xtype q hx cs t p hq).elim h1 h2⟩
theorem _root_.Go.Proofs.YtoifcnidhfnapaaGreatDoor.KeepX.trans' {X Y:Nat→Prop} {a b c:World} (h:KeepX X a b) (k:KeepX Y b c) (hY:∀ q,Y q→X q∨a.heap.size≤q):KeepX X a c:=
 ⟨k.os.trans h.os,k.tape.trans h.tape,k.output.trans h.output,Nat.le_trans h.size k.size,fun q hq hx=>(k.blk q (Nat.lt_of_lt_of_le hq h.size) (fun hy=>(hY q hy).elim hx (fun h=>by omega))).trans (h.blk q hq hx)⟩
theorem zer.keep {w w':World} {v:Value} {bs:List (List Ent)} (h:zer w v bs) (hk:zew w w'):zer w' v bs:=fun w2 h2=>h w2 (hk.trans h2)
theorem zbi.refl (vws:VwS):zbi vws vws:=⟨fun _ h=>h,fun nm v h=>⟨v.n,v.f,h⟩⟩
theorem zbi.trans {a b c:VwS} (h:zbi a b) (k:zbi b c):zbi a c:=
 ⟨fun nm hn=>k.1 nm (h.1 nm hn),fun nm v hv=>by
  obtain ⟨n,f,h1⟩:=h.2 nm v hv
  obtain ⟨n',f',h2⟩:=k.2 nm _ h1
  exact ⟨n',f',h2⟩⟩
theorem zil (v:Value) (bs:List (List Ent)) (w:World) {fix:Nat→Prop} {eb db nD nI nV N M cnt:Nat} {R S T:Rel} {ixs:IxS} {vws:VwS} (hE:EngV w fix eb db nD nI nV N (st3 R S T) ixs vws) (h3:zpv R S T cnt) (hv:zer w v bs) (hl:∀ b∈bs,b.length≤12) (hf:∀ b∈bs,∀ x∈b,Fine x) (hc:cnt+bs.flatten.length≤400) (hbl:bs.length≤1000) (hN:N+2*bs.flatten.length≤1000) (hN1:1≤N) (hM:zes M vws) (hM2:M≤4000000000000000000) :
  Calls Tryz.prog 17 #[.pointer (some ⟨eb,0,none⟩),v] w fun e w'=>e=.returned (.bool true)∧KeepX (zcs (st3 R S T) ixs vws) w w'∧∃ ixs' vws',EngV w' fix eb db nD nI nV (N+2*bs.flatten.length) (st3 (zah R bs.flatten nmR) (zah S bs.flatten nmS) (zah T bs.flatten nmT)) ixs' vws'∧zbi vws vws'∧zes (M+bs.length*4000000000000) vws'∧(∀ k,(ixs' k).isSome=(ixs k).isSome)∧∀ q,zcs (st3 (zah R bs.flatten nmR) (zah S bs.flatten nmS) (zah T bs.flatten nmT)) ixs' vws' q→zcs (st3 R S T) ixs vws q∨w.heap.size≤q:=by
 have h0:=hv w (zew.refl w)
 obtain ⟨a,cap,rfl,_⟩:=h0
 have Hv:=zac hv
 have HE:=zac hE
 have H3:=zac h3
 have Hl:=zac hl
 have Hf:=zac hf
 have HM:=zac hM
 clear hv hE h3 hl hf hM
 go_enter Tryz.func17,Tryz.ntmps17
 go_wp2
 go_loopw [5] (fun i wr=>∃ k:Nat,k≤bs.length∧i=.int .i64 k∧KeepX (zcs (st3 R S T) ixs vws) w wr∧∃ ixs' vws',EngV wr fix eb db nD nI nV (N+2*(bs.take k).flatten.length) (st3 (zah R (bs.take k).flatten nmR) (zah S (bs.take k).flatten nmS) (zah T (bs.take k).flatten nmT)) ixs' vws'∧zbi vws vws'∧zes (M+k*4000000000000) vws'∧(∀ k,(ixs' k).isSome=(ixs k).isSome)∧∀ q,zcs (st3 (zah R (bs.take k).flatten nmR) (zah S (bs.take k).flatten nmS) (zah T (bs.take k).flatten nmT)) ixs' vws' q→zcs (st3 R S T) ixs vws q∨w.heap.size≤q) (fun i _=>bs.length - (intOf i).toNat)
 case atStart =>
  refine ⟨0,Nat.zero_le _,rfl,KeepX.refl _ _,ixs,vws,?_⟩
  simp only [List.take_zero,List.flatten_nil,zb2,List.length_nil,Nat.mul_zero,Nat.add_zero,Nat.zero_mul]
  exact ⟨zaa HE,zbi.refl _,zaa HM,fun _=>trivial,fun q hq=>.inl hq⟩
 case round =>
  obtain ⟨k,hk,rfl,hkx,ixs',vws',hEk,hsame,hmost,hixs,hnew⟩:=hrel
  by_cases hlt:k<bs.length
  ·have hx:(k:Int)<(bs.length:Int):=by omega
   obtain ⟨a',cap',hsl,hcs⟩:=(zaa Hv) wr (zew.ofX (zaa HE) hkx)
   cases hsl
   obtain ⟨b,o,sv,rfl,h1,hd'⟩:=hcs k hlt
   have hbe:bs[k]?.getD []=bs[k]:=by simp [hlt]
   rw [hbe] at hd'
   have hmem:bs[k]∈bs:=List.getElem_mem hlt
   have hfl:∀ x∈(bs.take k).flatten,Fine x:=fun x hx=>by
    obtain ⟨y,hy,hxy⟩:=List.mem_flatten.1 hx
    exact (zaa Hf) y (List.mem_of_mem_take hy) x hxy
   have h3k:=(zaa H3).add hfl
   have hcl:(bs.take k).flatten.length+bs[k].length≤bs.flatten.length:=by
    have:=zgm bs (k+1)
    rw [zca hlt] at this
    simp only [List.length_append] at this
    omega
   have Hcall:=zac (zht sv bs[k] wr hEk h3k hd' (by have:=(zaa Hl) _ hmem;omega) ((zaa Hf) _ hmem) (by omega) (by omega) (by omega) hmost (by omega))
   have Hsame:=zac hsame
   have Hixs:=zac hixs
   have Hnew:=zac hnew
   have Hkx:=zac hkx
   clear hd' hEk hfl h3k hbe hcl hmem hcs hsame hmost hixs hnew hkx
   go_wp2_with (first|(go_at_call 28;refine (zaa Hcall).mono ?_;rintro e w1 ⟨rfl,hk1,ixs1,vws1,hE1,hs1,hm1,hi1,hn1⟩))
   rw [zb8,zb8,zb8,← zca hlt] at hE1 hn1
   have HF:=zac (show KeepX (zcs (st3 R S T) ixs vws) w w1∧∃ ixs' vws',EngV w1 fix eb db nD nI nV (N+2*(bs.take (k+1)).flatten.length) (st3 (zah R (bs.take (k+1)).flatten nmR) (zah S (bs.take (k+1)).flatten nmS) (zah T (bs.take (k+1)).flatten nmT)) ixs' vws'∧zbi vws vws'∧zes (M+(k+1)*4000000000000) vws'∧(∀ k,(ixs' k).isSome=(ixs k).isSome)∧∀ q,zcs (st3 (zah R (bs.take (k+1)).flatten nmR) (zah S (bs.take (k+1)).flatten nmS) (zah T (bs.take (k+1)).flatten nmT)) ixs' vws' q→zcs (st3 R S T) ixs vws q∨w.heap.size≤q from
    ⟨(zaa Hkx).trans' hk1 (zaa Hnew),ixs1,vws1,by
     have e:N+2*(bs.take (k+1)).flatten.length=N+2*(bs.take k).flatten.length+2*bs[k].length:=by rw [zca hlt,List.length_append];omega
     rw [e];exact hE1,(zaa Hsame).trans hs1,by
     have e:M+(k+1)*4000000000000=M+k*4000000000000+4000000000000:=by omega
     rw [e];exact hm1,fun k=>(hi1 k).trans ((zaa Hixs) k),fun q hq=>by
     rcases hn1 q hq with h|h
     ·exact (zaa Hnew) q h
     ·exact .inr (Nat.le_trans (zaa Hkx).size h)⟩)
   clear hk1 hE1 hs1 hm1 hi1 hn1
   go_roundw
   case rel=>exact ⟨k+1,by omega,by go_num,zaa HF⟩
   case measure=>simp [intOf];omega
  ·have:k=bs.length:=by omega
   subst this
   rw [List.take_length] at hEk hnew
   have HF:=zac (show KeepX (zcs (st3 R S T) ixs vws) w wr∧∃ ixs' vws',EngV wr fix eb db nD nI nV (N+2*bs.flatten.length) (st3 (zah R bs.flatten nmR) (zah S bs.flatten nmS) (zah T bs.flatten nmT)) ixs' vws'∧zbi vws vws'∧zes (M+bs.length*4000000000000) vws'∧(∀ k,(ixs' k).isSome=(ixs k).isSome)∧∀ q,zcs (st3 (zah R bs.flatten nmR) (zah S bs.flatten nmS) (zah T bs.flatten nmT)) ixs' vws' q→zcs (st3 R S T) ixs vws q∨w.heap.size≤q from ⟨hkx,ixs',vws',hEk,hsame,hmost,hixs,hnew⟩)
   clear hkx hEk hsame hmost hixs hnew
   go_wp2
   go_ret
   exact ⟨rfl,zaa HF⟩
end K
end Go.Proofs.YtoifcnidhfnapaaGreatDoor
namespace Go.Proofs.YtoifcnidhfnapaaGreatDoor
open Go.RowKit Go.Maps Go.Sort Go.Shelf
attribute [local go_sem] Oper.semAt_some
namespace H
section
attribute [local go_sem ↓] zhb
end
theorem zb9:∀ (xs ys:List H4),ze9 xs→ze9 ys→(∀ r,r∈xs↔r∈ys)→xs=ys
 | [],[],_,_,_=>rfl
 | [],y :: ys,_,_,h=>by have:=(h y).2 (by simp);simp at this
 | x :: xs,[],_,_,h=>by have:=(h x).1 (by simp);simp at this
 | x :: xs,y :: ys,hx,hy,h=>by
  have hx1:=List.pairwise_cons.1 hx
  have hy1:=List.pairwise_cons.1 hy
  have irr:∀ a:H4,¬ ltR a a:=fun a h=>by unfold ltR at h;omega
  have asym:∀ a b:H4,ltR a b→ltR b a→False:=fun a b h1 h2=>by unfold ltR at *;omega
  have e:x=y:=by
   rcases List.mem_cons.1 ((h x).1 (by simp)) with e|e
   ·exact e
   ·rcases List.mem_cons.1 ((h y).2 (by simp)) with e2|e2
    ·exact e2.symm
    ·exact (asym _ _ (hy1.1 x e) (hx1.1 y e2)).elim
  subst e
  congr 1
  refine zb9 xs ys hx1.2 hy1.2 (fun r=>⟨fun hr=>?_,fun hr=>?_⟩)
  ·rcases List.mem_cons.1 ((h r).1 (List.mem_cons_of_mem _ hr)) with e|e
   ·subst e;exact (irr _ (hx1.1 _ hr)).elim
   ·exact e
  ·rcases List.mem_cons.1 ((h r).2 (List.mem_cons_of_mem _ hr)) with e|e
   ·subst e;exact (irr _ (hy1.1 _ hr)).elim
   ·exact e
end H
end Go.Proofs.YtoifcnidhfnapaaGreatDoor
namespace Go.Proofs.YtoifcnidhfnapaaGreatDoor
namespace K
open Go.RowKit Go.Maps Go.Sort Go.Shelf
section
variable {B0:Nat} {W:World} {fix:Nat→Prop} {eb db nI nV M:Nat} {fl:List Ent} {R S T:Rel} {ixs:IxS} {vws:VwS}
end
theorem zkh (u:Value) (bs:List (List Ent)) (W:World) {B0:Nat} {fix:Nat→Prop} {eb db nI nV M:Nat} {fl:List Ent} {R S T:Rel} {ixs:IxS} {vws:VwS} (h:Stg B0 W fix eb db nI nV M fl R S T ixs vws) (hB0:B0≤W.heap.size) (hv:zer W u bs) (hl:∀ b∈bs,b.length≤12) (hf:∀ b∈bs,∀ x∈b,Fine x) (hc:fl.length+bs.flatten.length≤400) (hbl:bs.length≤1000) (hM:M≤4000000000000000000) :
  Calls Tryz.prog 17 #[.pointer (some ⟨eb,0,none⟩),u] W fun e w'=>e=.returned (.bool true)∧∃ ixs' vws',Stg B0 w' fix eb db nI nV (M+bs.length*4000000000000) (fl ++ bs.flatten) R S T ixs' vws'∧zbi vws vws'∧KeepX (zcs (stF R S T fl) ixs vws) W w'∧∀ q,zcs (stF R S T (fl ++ bs.flatten)) ixs' vws' q→zcs (stF R S T fl) ixs vws q∨W.heap.size≤q:=by
 refine (zil u bs W h.eng h.three hv hl hf hc hbl (by omega) (by omega) h.most hM).mono ?_
 rintro e w' ⟨rfl,hk,ixs',vws',h1,h2,h3,h4,h5⟩
 rw [zls] at h1 h5
 refine ⟨rfl,ixs',vws',⟨?_,h.fr,h.fs,h.ft,fun x hx=>?_,by rw [List.length_append];omega,h3,fun q hq=>(h5 q hq).elim (h.low q) (fun h=>by omega),h.db0,h.fix0⟩,h2,hk,h5⟩
 ·have e:1+2*(fl ++ bs.flatten).length=1+2*fl.length+2*bs.flatten.length:=by rw [List.length_append];omega
  rw [e]
  exact h1
 ·rcases List.mem_append.1 hx with hx|hx
  ·exact h.fine x hx
  ·obtain ⟨b,hb,hxb⟩:=List.mem_flatten.1 hx
   exact hf b hb x hxb
section
variable {B0:Nat} {W:World} {fix:Nat→Prop} {eb db nI nV M:Nat} {fl:List Ent} {R S T:Rel} {ixs:IxS} {vws:VwS}
end
structure ES where
 fix:Nat→Prop
 eb:Nat
 db:Nat
 nI:Nat
 nV:Nat
 M:Nat
 fl:List Ent
 R:Rel
 S:Rel
 T:Rel
 ixs:IxS
 vws:VwS
def ES.At (s:ES) (B0:Nat) (W:World):Prop:=Stg B0 W s.fix s.eb s.db s.nI s.nV s.M s.fl s.R s.S s.T s.ixs s.vws
def ES.own (s:ES) (q:Nat):Prop:=Own s.fix s.db (stF s.R s.S s.T s.fl) s.ixs s.vws q
def ES.apart (s t:ES):Prop:=∀ q,s.own q→¬ t.own q
theorem ES.apart.symm {s t:ES} (h:s.apart t):t.apart s:=fun q h1 h2=>h q h2 h1
theorem ES.At.lt {s:ES} {B0:Nat} {W:World} (h:s.At B0 W) {q:Nat} (hq:s.own q):q<W.heap.size:=h.eng.ownlt hq
theorem ES.At.ge {s:ES} {B0:Nat} {W:World} (h:s.At B0 W) {q:Nat} (hq:s.own q):B0≤q:=by
 have hdb:=h.db0
 rcases hq with hq|rfl|rfl|rfl|hq
 ·exact h.fix0 q hq
 ·omega
 ·omega
 ·omega
 ·exact h.low q hq
theorem ES.At.below {s:ES} {B0:Nat} {W W':World} (h:s.At B0 W) (hb:Below W.heap.size W W'):s.At B0 W':=Stg.below h hb
theorem ES.At.mono {s:ES} {B0 B1:Nat} {W:World} (h:s.At B0 W) (hB:B1≤B0):s.At B1 W:=
 ⟨h.eng,h.fr,h.fs,h.ft,h.fine,h.len,h.most,fun q hq=>Nat.le_trans hB (h.low q hq),Nat.le_trans hB h.db0,fun q hq=>Nat.le_trans hB (h.fix0 q hq)⟩
structure zgi (s s':ES) (W w':World):Prop where
 ex:∃ X:Nat→Prop,KeepX X W w'∧(∀ q,X q→s.own q)∧(∀ q,X q→∀ cs t p,W.heap[q]? = some (Obj.cells cs t p)→t=144∨t=141)
 new:∀ q,s'.own q→s.own q∨W.heap.size≤q
theorem zgi.keepC {s s':ES} {W w':World} (h:zgi s s' W w'):zew W w':=by
 obtain ⟨X,hk,_,hX⟩:=h.ex
 exact ⟨hk.size,fun q cs t p hq h1 h2=>hk.blk q (Array.getElem?_eq_some_iff.1 hq).1 fun hx=>(hX q hx cs t p hq).elim h1 h2⟩
theorem zgi.other {s s' t:ES} {W w':World} (h:zgi s s' W w') {B1:Nat} (ht:t.At B1 W) (ha:s.apart t):t.At B1 w'∧s'.apart t:=by
 obtain ⟨X,hk,hX,hT⟩:=h.ex
 refine ⟨⟨ht.eng.asideX hk (fun q hq=>ha q (hX q hq)) (fun q hq ⟨cs,hcs⟩=>by rcases hT q hq _ _ _ hcs with h|h <;> cases h),ht.fr,ht.fs,ht.ft,ht.fine,ht.len,ht.most,ht.low,ht.db0,ht.fix0⟩,fun q hq hq'=>?_⟩
 rcases h.new q hq with h1|h1
 ·exact ha q h1 hq'
 ·have:=ht.lt hq'
  omega
theorem zgi.below {s s':ES} {w W w':World} (h:zgi s s' W w') {B0:Nat} (hs:s.At B0 W) (hb:Below B0 w W) (hB:B0≤W.heap.size):Below B0 w w':=by
 obtain ⟨X,hk,hX,_⟩:=h.ex
 exact zf1 hb hB hk fun q hq=>hs.ge (hX q hq)
def ES.has (s:ES) (nm:ByteArray) (H:List (Nat×Nat)) (B:List zbb):Prop:=∃ v,s.vws nm=some v∧v.H=H∧v.B=B
theorem zhw (w:World):Calls Tryz.prog 14 #[] w fun e w'=>∃ s:ES,e=.returned (.pointer (some ⟨s.eb,0,none⟩))∧s.At w.heap.size w'∧s.fl=[]∧s.nI=0∧s.nV=0∧s.M=0∧s.vws=(fun _=>none)∧Below w.heap.size w w':=by
 refine (zpc w).mono ?_
 rintro e w' ⟨eb,rfl,⟨fix,db,R,S,T,hS⟩,hb⟩
 exact ⟨⟨fix,eb,db,0,0,0,[],R,S,T,_,_⟩,rfl,hS,rfl,rfl,rfl,rfl,rfl,hb⟩
theorem zfa (nm qt o:ByteArray) (hs:List (Nat×Nat)) (ats:List zba) (W:World) {s:ES} {B0:Nat} (h:s.At B0 W) (hB0:B0≤W.heap.size) (hn:zfv nm=true) (hn8:nm.size≤8) (hx:s.vws nm=none) (hnV:s.nV≤5) (hsz:qt.size≤300)
  (hp:zff qt=.ok (hs,ats)) (hf:zwu hs (ats.map zba.q)=true) (ho:o=⟨#[]⟩∨(zaz o).Perm (zbl ((ats.map zba.q).map (·.ts)))) (hnI:s.nI≤100000) :
  Calls Tryz.prog 16 #[.pointer (some ⟨s.eb,0,none⟩),.string nm,.string qt,.string o] W fun e w'=>e=.returned (.bool true)∧∃ s':ES,s'.At B0 w'∧zgi s s' W w'∧s'.eb=s.eb∧s'.fl=s.fl∧s'.nI≤s.nI+4∧s'.nV=s.nV+1∧s'.M=s.M+1000000000000∧(∃ v,s'.vws=zib s.vws nm v∧v.H=hs∧v.B=ats.map zba.q):=by
 have hF:=Stg.fit h hf
 refine (zmm nm qt o hs ats W h hB0 hn hn8 hx hnV hsz hp hF.1 hF.2 ho hnI).mono ?_
 rintro e w' ⟨rfl,fix',ixs',nI',v,hS,h1,h2,h3,h4,h5,h6,h7⟩
 refine ⟨rfl,⟨fix',s.eb,s.db,nI',s.nV+1,s.M+1000000000000,s.fl,s.R,s.S,s.T,ixs',_⟩,hS,⟨⟨_,h4,fun q hq=>?_,fun q hq cs t p hc=>?_⟩,fun q hq=>?_⟩,rfl,rfl,h3,rfl,rfl,v,rfl,h1,h2⟩
 ·rcases hq with rfl|rfl
  ·exact .inr (.inr (.inl rfl))
  ·exact .inr (.inr (.inr (.inl rfl)))
 ·rcases hq with rfl|rfl
  ·obtain ⟨D,⟨es,cl,hm,_⟩,_⟩:=h.eng.imap
   rw [hm] at hc;cases hc
  ·obtain ⟨D,⟨es,cl,hm,_⟩,_⟩:=h.eng.vmap
   rw [hm] at hc;cases hc
 ·rcases hq with hq|rfl|rfl|rfl|hq
  ·exact (h6 q hq).imp (fun h=>.inl h) id
  ·exact .inl (.inr (.inl rfl))
  ·exact .inl (.inr (.inr (.inl rfl)))
  ·exact .inl (.inr (.inr (.inr (.inl rfl))))
  ·exact (h7 q hq).imp (fun h=>.inr (.inr (.inr (.inr h)))) id
theorem zl3 (u:Value) (bs:List (List Ent)) (W:World) {s:ES} {B0:Nat} (h:s.At B0 W) (hB0:B0≤W.heap.size) (hv:zer W u bs) (hl:∀ b∈bs,b.length≤12) (hf:∀ b∈bs,∀ x∈b,Fine x) (hc:s.fl.length+bs.flatten.length≤400) (hbl:bs.length≤1000) (hM:s.M≤4000000000000000000) :
  Calls Tryz.prog 17 #[.pointer (some ⟨s.eb,0,none⟩),u] W fun e w'=>e=.returned (.bool true)∧∃ s':ES,s'.At B0 w'∧zgi s s' W w'∧s'.eb=s.eb∧s'.fl=s.fl ++ bs.flatten∧s'.nI=s.nI∧s'.nV=s.nV∧s'.M=s.M+bs.length*4000000000000∧zbi s.vws s'.vws:=by
 refine (zkh u bs W h hB0 hv hl hf hc hbl hM).mono ?_
 rintro e w' ⟨rfl,ixs',vws',hS,h1,h2,h3⟩
 refine ⟨rfl,⟨s.fix,s.eb,s.db,s.nI,s.nV,_,_,s.R,s.S,s.T,ixs',vws'⟩,hS,⟨⟨_,h2,fun q hq=>.inr (.inr (.inr (.inr hq))),fun q hq=>h.eng.xtype q hq⟩,fun q hq=>?_⟩,rfl,rfl,rfl,rfl,rfl,h1⟩
 rcases hq with hq|hq|hq|hq|hq
 ·exact .inl (.inl hq)
 ·exact .inl (.inr (.inl hq))
 ·exact .inl (.inr (.inr (.inl hq)))
 ·exact .inl (.inr (.inr (.inr (.inl hq))))
 ·exact (h3 q hq).imp (fun h=>.inr (.inr (.inr (.inr h)))) id
theorem zbi.has {s s':ES} (h:zbi s.vws s'.vws) {nm:ByteArray} {H:List (Nat×Nat)} {B:List zbb} (hv:s.has nm H B):s'.has nm H B:=by
 obtain ⟨v,h1,h2,h3⟩:=hv
 obtain ⟨n,f,h4⟩:=h.2 nm v h1
 exact ⟨_,h4,h2,h3⟩
theorem zo6 {s t:ES} {B0 B1:Nat} {W W':World} (hs:s.At B0 W) (ht:t.At B1 W') (he:∀ nm r,zcx s.fl nm r=zcx t.fl nm r) (B:List zbb):zfh (stF s.R s.S s.T s.fl) B=zfh (stF t.R t.S t.T t.fl) B:=by
 have hR:(zah s.R s.fl nmR).f=(zah t.R t.fl nmR).f:=by funext r;simp only [zah];rw [hs.fr.2.2,ht.fr.2.2,he]
 have hS:(zah s.S s.fl nmS).f=(zah t.S t.fl nmS).f:=by funext r;simp only [zah];rw [hs.fs.2.2,ht.fs.2.2,he]
 have hT:(zah s.T s.fl nmT).f=(zah t.T t.fl nmT).f:=by funext r;simp only [zah];rw [hs.ft.2.2,ht.ft.2.2,he]
 have aR:(zah s.R s.fl nmR).ar=(zah t.R t.fl nmR).ar:=hs.fr.1.trans ht.fr.1.symm
 have aS:(zah s.S s.fl nmS).ar=(zah t.S t.fl nmS).ar:=hs.fs.1.trans ht.fs.1.symm
 have aT:(zah s.T s.fl nmT).ar=(zah t.T t.fl nmT).ar:=hs.ft.1.trans ht.ft.1.symm
 funext i
 unfold zfh stF
 generalize (B[i]?.getD zat).nm=nm
 by_cases h1:nm=nmR
 ·subst h1;rw [zia,zia];dsimp only;rw [hR,aR]
 ·by_cases h2:nm=nmS
  ·subst h2;rw [zni,zni];dsimp only;rw [hS,aS]
  ·by_cases h3:nm=nmT
   ·subst h3;rw [zp6,zp6];dsimp only;rw [hT,aT]
   ·rw [zh3 h1 h2 h3,zh3 h1 h2 h3]
theorem zyb {s t:ES} {B0 B1:Nat} {W W':World} (hs:s.At B0 W) (ht:t.At B1 W') (he:∀ nm r,zcx s.fl nm r=zcx t.fl nm r) {n m:ByteArray} {v u:zec} (hv:s.vws n=some v) (hu:t.vws m=some u) (hH:v.H=u.H) (hB:v.B=u.B) {q:H4} (hq:WfH q):v.f q=u.f q:=by
 refine zek (Stg.range hs hv hq) (Stg.range ht hu hq) ?_
 rw [Stg.val hs hv q,Stg.val ht hu q,hH,hB,zo6 hs ht he]
theorem zsz {f g:H4→Int} (h:∀ q,WfH q→f q=g q) {ys zs:List H4} (hy:H.zg3 f ys) (hz:H.zg3 g zs) (n:Nat):H.zbj n f ys=H.zbj n g zs:=by
 have e:ys=zs:=H.zb9 ys zs hy.rising hz.rising fun r=>by
  constructor
  ·intro hr
   have hw:=hy.wf r hr
   exact (hz.mem r hw).2 (by rw [← h r hw];exact (hy.mem r hw).1 hr)
  ·intro hr
   have hw:=hz.wf r hr
   exact (hy.mem r hw).2 (by rw [h r hw];exact (hz.mem r hw).1 hr)
 subst e
 unfold H.zbj
 exact List.map_congr_left fun y hy'=>by rw [h y (hy.wf y hy')]
theorem znn (n m:ByteArray) (W:World) {s t:ES} {B0 B1:Nat} (hs:s.At B0 W) (ht:t.At B1 W) (he:∀ nm r,zcx s.fl nm r=zcx t.fl nm r) {Hq:List (Nat×Nat)} {B:List zbb} (hv:s.has n Hq B) (hu:t.has m Hq B) :
  Calls Tryz.prog 26 #[.pointer (some ⟨s.eb,0,none⟩),.string n,.pointer (some ⟨t.eb,0,none⟩),.string m] W fun e w'=>e=.returned (.bool true)∧Below W.heap.size W w':=by
 obtain ⟨v,v1,v2,v3⟩:=hv
 obtain ⟨u,u1,u2,u3⟩:=hu
 have hfe:∀ q,WfH q→v.f q=u.f q:=fun q hq=>zyb hs ht he v1 u1 (v2.trans u2.symm) (v3.trans u3.symm) hq
 have hHl:v.H.length=u.H.length:=by rw [v2,u2]
 have H1:=zac (zlf n W hs v1)
 have H2:∀ W',Below W.heap.size W W'→Hid _:=fun W' hb=>zac (zlf m W' (ht.below hb) u1)
 have Hfe:=zac hfe
 have HHl:=zac hHl
 clear hs ht he v1 v2 v3 u1 u2 u3 hfe hHl
 go_enter Tryz.func26,Tryz.ntmps26
 go_wp2_with fail
 refine (zaa H1).mono ?_
 rintro e w1 ⟨o,ys,rfl,r1,r2,r3,b1⟩
 have H3:=H2 w1 b1
 have Hr:=zac (And.intro r1 r2)
 have Hb1:=zac b1
 clear H1 H2 r1 r2 b1
 go_wp2_with fail
 refine (zaa H3).mono ?_
 rintro e w2 ⟨o',zs,rfl,s1,s2,s3,b2⟩
 have hrows:=zsz (zaa Hfe) (zaa Hr).1 s1 v.H.length
 rw [← zaa HHl,← hrows] at s2
 have hlen:(H.zbj v.H.length v.f ys).length≤1000000000:=by simp [H.zbj];omega
 have H4:=zac (zkg o o' (H.zbj v.H.length v.f ys) w2 ((zaa Hr).2.below b2) s2 hlen (zgd _ _ _))
 have Hb2:=zac ((zaa Hb1).trans (b2.mono (zaa Hb1).size))
 clear H3 s1 s2 b2 hrows hlen
 go_wp2_with fail
 refine (zaa H4).mono ?_
 rintro e w3 ⟨rfl,hd⟩
 have Hb3:=zac ((zaa Hb2).trans (hd.below _))
 clear hd H4
 go_wp2
 go_ret
 exact ⟨rfl,zaa Hb3⟩
def wkQ:ByteArray:=⟨#[40,88,44,90,41,58,45,114,40,88,44,89,41,44,114,40,89,44,90,41]⟩
def wkO:ByteArray:=⟨#[89,88,90]⟩
def wkP:List (Nat×Nat)×List zba:=([(88,1),(90,3)],[⟨nmR,7,[(88,0),(89,0)]⟩,⟨nmR,14,[(89,0),(90,0)]⟩])
theorem zyf:zff wkQ=.ok wkP:=by kernel_rfl
theorem yff:zwu wkP.1 (wkP.2.map zba.q)=true:=by decide +kernel
theorem yfg:(zaz wkO).Perm (zbl ((wkP.2.map zba.q).map (·.ts))):=by decide +kernel
def wkE:List Ent:=[⟨nmR,[1,2],1⟩,⟨nmR,[2,3],2⟩]
def wkR:List Row:=[(1,2,0),(2,3,0)]
theorem zv1 (r:Row):zcx wkE nmR r=(if (1,2,0)=r then 1 else 0)+(if (2,3,0)=r then 2 else 0):=by
 simp [zcx,wkE,zb7]
theorem zyh (r:Row):zcx wkE nmS r=0:=by
 simp [zcx,wkE,yjy]
theorem zyi (r:Row):zcx wkE nmT r=0:=by
 simp [zcx,wkE,yjz]
theorem yjq:∀ y∈wkR,zaw y:=by
 intro y hy
 simp only [wkR,List.mem_cons,List.not_mem_nil,or_false] at hy
 rcases hy with rfl|rfl <;> exact ⟨zbm (by decide),zbm (by decide),zbm (by decide)⟩
theorem zyg {f:Row→Int} (hf:∀ r,f r=(if (1,2,0)=r then 1 else 0)+(if (2,3,0)=r then 2 else 0)):zkq f wkR:=by
 refine ⟨yjq,by decide,fun r _=>?_⟩
 rw [hf]
 simp only [wkR,List.mem_cons,List.not_mem_nil,or_false]
 by_cases h1:(1,2,0)=r
 ·subst h1;decide
 ·by_cases h2:(2,3,0)=r
  ·subst h2;decide
  ·rw [if_neg h1,if_neg h2]
   constructor
   ·rintro (h|h)
    ·exact absurd h.symm h1
    ·exact absurd h.symm h2
   ·intro h;exact absurd rfl h
theorem yfh:zpj zc9 zeo (fun _=>[((1,2,0),1),((2,3,0),2)]) (1,3,0,0)=2#64:=by decide +kernel
theorem zyj {F:H4→Int} (hF:∀ q,BitVec.ofInt 64 (F q)=zpj zc9 zeo (fun _=>[((1,2,0),1),((2,3,0),2)]) q) (hr:∀ q,WfH q→-9223372036854775808≤F q∧F q≤9223372036854775807):F (1,3,0,0)=2∧∀ q,WfH q→F q≠0→q=(1,3,0,0):=by
 refine ⟨zek (hr _ ⟨zbm (by decide),zbm (by decide),zbm (by decide),zbm (by decide)⟩) (by omega) ((hF _).trans yfh),fun q hq h0=>?_⟩
 have hz:zpj zc9 zeo (fun _=>[((1,2,0),1),((2,3,0),2)]) q≠0#64:=fun hz=>h0 (zek (hr q hq) (by omega) ((hF q).trans hz))
 obtain ⟨r,hrr,hfit,rfl⟩:=zln hz
 rw [zmj] at hfit
 rw [zjf]
 obtain ⟨x0,hx0,e0⟩:=hrr 0 (by decide)
 obtain ⟨x1,hx1,e1⟩:=hrr 1 (by decide)
 simp only [List.mem_cons,List.not_mem_nil,or_false] at hx0 hx1
 rw [← e0,← e1] at hfit
 rw [← e0,← e1]
 rcases hx0 with rfl|rfl <;> rcases hx1 with rfl|rfl
 ·exact absurd hfit (by decide)
 ·rfl
 ·exact absurd hfit (by decide)
 ·exact absurd hfit (by decide)
section
variable {s:ES} {B0:Nat} {W:World}
theorem zf0 (h:s.At B0 W) (hfl:s.fl=[]) {nm:ByteArray} {Q:Rel} (hQ:stF s.R s.S s.T s.fl nm=some Q):Q.n=0∧∀ r,Q.f r=0:=by
 rw [hfl] at hQ
 rcases zgt hQ with ⟨_,rfl⟩|⟨_,rfl⟩|⟨_,rfl⟩
 ·rw [zb2];exact ⟨h.fr.2.1,fun r=>by rw [h.fr.2.2]⟩
 ·rw [zb2];exact ⟨h.fs.2.1,fun r=>by rw [h.fs.2.2]⟩
 ·rw [zb2];exact ⟨h.ft.2.1,fun r=>by rw [h.ft.2.2]⟩
theorem zfj (nm:ByteArray) (hn:nm=nmR∨nm=nmS∨nm=nmT) (r:Row):-1000≤zcx wkE nm r∧zcx wkE nm r≤1000∧(zcx wkE nm r≠0→r∈wkR):=by
 rcases hn with rfl|rfl|rfl
 ·rw [zv1]
  by_cases h1:(1,2,0)=r
  ·subst h1;decide
  ·by_cases h2:(2,3,0)=r
   ·subst h2;decide
   ·rw [if_neg h1,if_neg h2];exact ⟨by omega,by omega,fun h=>absurd rfl h⟩
 ·rw [zyh];exact ⟨by omega,by omega,fun h=>absurd rfl h⟩
 ·rw [zyi];exact ⟨by omega,by omega,fun h=>absurd rfl h⟩
theorem ztb (h:s.At B0 W) (hfl:s.fl=[]) (v:Value) (hv:zf5 W v wkE) (hM:s.M≤8000000000000000000) :
  Calls Tryz.prog 28 #[.pointer (some ⟨s.eb,0,none⟩),v] W fun e w'=>e=.returned (.bool true)∧KeepX (zcs (stF s.R s.S s.T s.fl) s.ixs s.vws) W w'∧∃ ixs' vws',EngV w' s.fix s.eb s.db 3 s.nI s.nV 5 (zjk (stF s.R s.S s.T s.fl) wkE) ixs' vws'∧zbi s.vws vws':=by
 have hlen:s.fl.length=0:=by rw [hfl];rfl
 have hE:=h.eng
 have hN:1+2*s.fl.length=1:=by omega
 rw [hN] at hE
 have hQR:stF s.R s.S s.T s.fl nmR=some (zah s.R s.fl nmR):=zia _ _ _
 have har:(zah s.R s.fl nmR).ar=2:=h.three.r.ar_
 have hnm:∀ nm Q,stF s.R s.S s.T s.fl nm=some Q→nm=nmR∨nm=nmS∨nm=nmT:=fun nm Q hQ=>by
  rcases zgt hQ with ⟨e,_⟩|⟨e,_⟩|⟨e,_⟩
  ·exact .inl e
  ·exact .inr (.inl e)
  ·exact .inr (.inr e)
 have hmem:∀ x∈wkE,x=⟨nmR,[1,2],1⟩∨x=⟨nmR,[2,3],2⟩:=fun x hx=>by simpa [wkE] using hx
 have hW:∀ nm Q,stF s.R s.S s.T s.fl nm=some Q→zkl Q.f (zcx wkE nm):=fun nm Q hQ r hr _=>by
  rw [(zf0 h hfl hQ).2 r,Int.zero_add]
  have:=zfj nm (hnm nm Q hQ) r
  exact ⟨this.1,this.2.1⟩
 have hR:∀ nm Q,stF s.R s.S s.T s.fl nm=some Q→zqc wkE nm Q.f:=fun nm Q hQ _=>⟨wkR,by decide,fun r hr h0=>by
  rw [(zf0 h hfl hQ).2 r,Int.zero_add] at h0
  exact (zfj nm (hnm nm Q hQ) r).2.2 h0⟩
 have H:=zac ((zlt v wkE W hE hv (by decide) (fun x hx=>by
   rcases hmem x hx with rfl|rfl
   ·exact ⟨by decide,by simp,⟨zbm (by decide),zbm (by decide),zbm (by decide)⟩,by simp,by simp⟩
   ·exact ⟨by decide,by simp,⟨zbm (by decide),zbm (by decide),zbm (by decide)⟩,by simp,by simp⟩) (fun i hi=>by
   have hx:wkE[i]?.getD zg1∈wkE:=by simp [hi]
   rcases hmem _ hx with e|e
   ·rw [e];exact zn8 (by decide) hQR (by simp) (by rw [har];rfl) (by simp)
   ·rw [e];exact zn8 (by decide) hQR (by simp) (by rw [har];rfl) (by simp)) (fun x hx=>by
   rcases hmem x hx with rfl|rfl
   ·show stF s.R s.S s.T s.fl nmR≠none;rw [hQR];simp
   ·show stF s.R s.S s.T s.fl nmR≠none;rw [hQR];simp) (fun nm Q hQ=>by
   obtain ⟨h1,h2⟩:=zf0 h hfl hQ
   exact ⟨by rw [h1];decide,fun r _=>by rw [h2 r];omega⟩) (by omega) (by omega) (fun nm u hu=>by
   have:=h.most nm u hu
   have e:4*(1+2*wkE.length) ^ 4=2500:=by decide
   omega)).mono (R':=fun e w'=>e=.returned (.tuple #[.int .i64 0,.int .i64 0])∧KeepX (zcs (stF s.R s.S s.T s.fl) s.ixs s.vws) W w'∧∃ ixs' vws',EngV w' s.fix s.eb s.db 3 s.nI s.nV 5 (zjk (stF s.R s.S s.T s.fl) wkE) ixs' vws'∧zbi s.vws vws') (by
  rintro e w' ⟨c,rfl,hk,⟨rfl,h1,_⟩|⟨rfl,_,h1,_⟩|⟨rfl,_,_,ixs',vws',h1,h2,h4,h5⟩⟩
  ·exact absurd hW h1
  ·exact absurd hR h1
  ·exact ⟨rfl,hk,ixs',vws',h1,zbi.ofKept h2⟩))
 clear h hv hE hW hR
 go_enter Tryz.func28,Tryz.ntmps28
 go_wp2_with fail
 refine (zaa H).mono ?_
 rintro e w1 ⟨rfl,h1⟩
 have H1:=zac h1
 clear h1 H
 go_wp2
 go_ret
 exact ⟨rfl,zaa H1⟩
theorem zpm {ixs':IxS} {vws':VwS} (h:s.At B0 W) (hfl:s.fl=[]) {w':World} (hE:EngV w' s.fix s.eb s.db 3 s.nI s.nV 5 (zjk (stF s.R s.S s.T s.fl) wkE) ixs' vws') {v:zec} (hv:vws' nmV=some v) (hH:v.H=wkP.1) (hB:v.B=wkP.2.map zba.q) :
  Calls Tryz.prog 20 #[.pointer (some ⟨s.eb,0,none⟩),.string nmV] w' fun e w2=>∃ o,e=.returned (.tuple #[o,.int .i64 0])∧zdf w2 o [([1,3],2)]∧Below w'.heap.size w' w2:=by
 obtain ⟨hV,hHo⟩:=hE.vw nmV v hv
 obtain ⟨Q,hst,hQf⟩:∃ Q,zjk (stF s.R s.S s.T s.fl) wkE nmR=some Q∧Q.f=fun r=>(zah s.R s.fl nmR).f r+zcx wkE nmR r:=by
  unfold zjk
  rw [show stF s.R s.S s.T s.fl nmR=some (zah s.R s.fl nmR) from zia _ _ _]
  exact ⟨_,rfl,rfl⟩
 have hf:∀ r,(zah s.R s.fl nmR).f r+zcx wkE nmR r=(if (1,2,0)=r then 1 else 0)+(if (2,3,0)=r then 2 else 0):=fun r=>by
  rw [(zf0 h hfl (show stF s.R s.S s.T s.fl nmR=some (zah s.R s.fl nmR) from zia _ _ _)).2 r,Int.zero_add,zv1]
 have hL:za6 (fun r=>(zah s.R s.fl nmR).f r+zcx wkE nmR r) wkR=[((1,2,0),1),((2,3,0),2)]:=by
  unfold za6
  simp only [hf]
  rfl
 have hval:∀ q,BitVec.ofInt 64 (v.f q)=zpj zc9 zeo (fun _=>[((1,2,0),1),((2,3,0),2)]) q:=fun q=>by
  have:=hHo (fun _=>[((1,2,0),1),((2,3,0),2)]) (fun i hi=>⟨Q,?_,wkR,by rw [hQf];exact zyg hf,by rw [hQf];exact hL.symm⟩) q
  ·rw [hH,hB] at this
   exact this
  ·rw [hB] at hi ⊢
   have hi2:i<2:=hi
   match i,hi2 with
   | 0,_=>exact hst
   | 1,_=>exact hst
 obtain ⟨h2,hs⟩:=zyj hval fun q hq=>hV.map.range hq
 have hM:=hV.map.tight [(1,3,0,0)] fun q hq h0=>by simp [hs q hq h0]
 refine (zo5 w' hE nmV v hv 1 (by omega) hM).mono ?_
 rintro e w2 ⟨o,ys,xs,rfl,r1,_,_,_,r2,r3,b⟩
 refine ⟨o,rfl,?_,b⟩
 have hw:WfH (1,3,0,0):=⟨zbm (by decide),zbm (by decide),zbm (by decide),zbm (by decide)⟩
 have hin:((1,3,0,0):H4)∈ys:=(r1.mem _ hw).2 (by rw [h2];decide)
 have hys:ys=[(1,3,0,0)]:=by
  match ys,hin,r3 with
  | [y],hin,_=>simp at hin;rw [hin]
 rw [hys] at r2
 have hl:v.H.length=2:=by rw [hH];rfl
 rw [hl] at r2
 have e:H.zbj 2 v.f [(1,3,0,0)]=[([1,3],2)]:=by unfold H.zbj;simp [H.zcv,h2]
 rw [e] at r2
 exact r2
end
theorem zpn (w:World):Calls Tryz.prog 24 #[] w fun e w'=>e=.returned (.bool true)∧Below w.heap.size w w':=by
 go_enter Tryz.func24,Tryz.ntmps24
 go_wp2_with fail
 refine (zhw w).mono ?_
 rintro e w1 ⟨s,rfl,hs,hfl,hnI,hnV,hM,hvw,hb⟩
 have Hv:=zac (zfa nmV wkQ wkO wkP.1 wkP.2 w1 hs hb.size yau (by decide) (by rw [hvw]) (by omega) (by decide) zyf yff (.inr yfg) (by omega))
 have Hb:=zac hb
 have Hs:=zac hs
 have Hfl:=zac hfl
 have HM:=zac hM
 clear hs hfl hnI hnV hM hvw hb
 go_wp2_with fail
 refine (zaa Hv).mono ?_
 rintro e w2 ⟨rfl,s2,hs2,ht,heb,hfl2,_,_,hM2,v,hvw,hH,hB⟩
 have hb2:=ht.below (zaa Hs) (zaa Hb) (zaa Hb).size
 have hfl2':s2.fl=[]:=hfl2.trans (zaa Hfl)
 have hM3:s2.M≤8000000000000000000:=by rw [hM2,zaa HM];omega
 obtain ⟨w3,hw3⟩:∃ w3,w3=((w2.alloc (.cells #[.int .i64 1,.int .i64 2] 2)).alloc (.cells #[.int .i64 2,.int .i64 3] 2)).alloc (.cells #[.string nmR,.slice (some ⟨w2.heap.size,0,none⟩) 2 2,.int .i64 1,.string nmR,.slice (some ⟨w2.heap.size+1,0,none⟩) 2 2,.int .i64 2] 64):=⟨_,rfl⟩
 have hb3:Below w2.heap.size w2 w3:=by rw [hw3];exact (((Below.refl _ _).alloc (Nat.le_refl _) _).alloc (by simp) _).alloc (by simp;omega) _
 have g0:w3.heap[w2.heap.size]? = some (.cells #[.int .i64 1,.int .i64 2] 2 (0,0)):=by rw [hw3,Below.heap_alloc _ _ _ (by simp;omega),Below.heap_alloc _ _ _ (by simp)];exact zae _ _ _ rfl
 have g1:w3.heap[w2.heap.size+1]? = some (.cells #[.int .i64 2,.int .i64 3] 2 (0,0)):=by rw [hw3,Below.heap_alloc _ _ _ (by simp)];exact zae _ _ _ (by simp)
 have g2:w3.heap[w2.heap.size+2]? = some (.cells #[.string nmR,.slice (some ⟨w2.heap.size,0,none⟩) 2 2,.int .i64 1,.string nmR,.slice (some ⟨w2.heap.size+1,0,none⟩) 2 2,.int .i64 2] 64 (0,0)):=by rw [hw3];exact zae _ _ _ (by simp)
 have hents:zf5 w3 (.slice (some ⟨w2.heap.size+2,0,none⟩) 2 2) wkE:=⟨some ⟨w2.heap.size+2,0,none⟩,2,rfl,fun i hi=>by
  have hi2:i<2:=hi
  match i,hi2 with
  | 0,_=>exact ⟨_,0,_,rfl,zab g2 0,zab g2 1,zcj (zs:=[1,2]) g0 2,zab g2 2⟩
  | 1,_=>exact ⟨_,0,_,rfl,zab g2 3,zab g2 4,zcj (zs:=[2,3]) g1 2,zab g2 5⟩⟩
 have hs3:=hs2.below hb3
 have ha:=ztb hs3 hfl2' _ hents hM3
 rw [heb] at ha
 have Heb:=zac heb
 have Ha:=zac ha
 have hel:s.eb<w3.heap.size:=by rw [← heb];exact hs3.eng.flt _ hs3.eng.feb
 have hb3':=hb2.trans (hb3.mono hb2.size)
 have Hb3:=zac hb3'
 have Hs3:=zac hs3
 have Hfl2:=zac hfl2'
 have Hhas:=zac (show s2.has nmV wkP.1 (wkP.2.map zba.q) from ⟨v,by rw [hvw];exact za7 _ _ _,hH,hB⟩)
 clear hs2 ht hfl2 hfl2' hM2 hM3 hvw hH hB hb2 hb3 hb3' g0 g1 g2 hents hs3 Hv Hs Hfl HM Hb ha heb hel
 subst hw3
 go_wp2_with fail
 refine (zaa Ha).mono ?_
 rintro e w4 ⟨rfl,hk,ixs',vws',hE,hsame⟩
 obtain ⟨v0,hv0,hH0,hB0⟩:=zaa Hhas
 obtain ⟨n',f',hv'⟩:=hsame.2 nmV v0 hv0
 have hr:Calls Tryz.prog 20 #[.pointer (some ⟨s.eb,0,none⟩),.string nmV] w4 fun e w2=>∃ o,e=.returned (.tuple #[o,.int .i64 0])∧zdf w2 o [([1,3],2)]∧Below w4.heap.size w4 w2:=by
  rw [← zaa Heb] at hE ⊢
  exact zpm (zaa Hs3) (zaa Hfl2) hE hv' hH0 hB0
 have Hr:=zac hr
 have Hb4:=zac (zf1 (zaa Hb3) (zaa Hb3).size hk (zaa Hs3).low)
 clear hk hE hsame hv0 hH0 hB0 hv' hr Ha Hhas Hs3 Hb3
 go_wp2_with fail
 refine (zaa Hr).mono ?_
 rintro e w5 ⟨o,rfl,hrows,hb5⟩
 have Hb5:=zac ((zaa Hb4).trans (hb5.mono (zaa Hb4).size))
 obtain ⟨a,cap,rfl,hc⟩:=hrows
 obtain ⟨b,o,sv,rfl,c0,hi,c1⟩:=hc 0 (by decide)
 obtain ⟨a2,cap2,rfl,hi⟩:=hi
 obtain ⟨b2,o2,rfl,i0⟩:=hi 0 (by decide)
 obtain ⟨b3,o3,hbo,i1⟩:=hi 1 (by decide)
 cases hbo
 simp only [Nat.zero_mul,Nat.add_zero,List.length_cons,List.length_nil,Nat.zero_add,List.getElem?_cons_zero,Option.getD_some] at c0 c1 i0
 have i1':w5.cell? ⟨b2,o2+1,none⟩=some (.int .i64 3):=i1
 clear hc hi hb5 i1 Hb4 Hr
 go_wp2
 go_ret
 exact ⟨rfl,zaa Hb5⟩
def nmW:ByteArray:=⟨#[119]⟩
theorem yi3:zfv nmW=true:=by decide
structure Two (w:World) (s t:ES) (W:World):Prop where
 one:s.At w.heap.size W
 two:t.At w.heap.size W
 ap:s.apart t
 bel:Below w.heap.size w W
theorem Two.below {w W W':World} {s t:ES} (h:Two w s t W) (hb:Below W.heap.size W W'):Two w s t W':=⟨h.one.below hb,h.two.below hb,h.ap,h.bel.trans (hb.mono h.bel.size)⟩
theorem Two.left {w W W':World} {s t s':ES} (h:Two w s t W) (ht:zgi s s' W W') (hs:s'.At w.heap.size W'):Two w s' t W':=by
 obtain ⟨h1,h2⟩:=ht.other h.two h.ap
 exact ⟨hs,h1,h2,ht.below h.one h.bel h.bel.size⟩
theorem Two.right {w W W':World} {s t t':ES} (h:Two w s t W) (ht:zgi t t' W W') (hs:t'.At w.heap.size W'):Two w s t' W':=by
 obtain ⟨h1,h2⟩:=ht.other h.one h.ap.symm
 exact ⟨h1,hs,h2.symm,ht.below h.two h.bel h.bel.size⟩
theorem ye8 {w w1 w2:World} {s t:ES} (hs:s.At w.heap.size w1) (hb:Below w.heap.size w w1) (ht:t.At w1.heap.size w2) (hb2:Below w1.heap.size w1 w2):Two w s t w2:=
 ⟨hs.below hb2,ht.mono hb.size,fun q h1 h2=>by have:=hs.lt h1;have:=ht.ge h2;omega,hb.trans (hb2.mono hb.size)⟩
theorem zer.form {W:World} {u:Value} {bs:List (List Ent)} (h:zer W u bs):∃ a cap,u=.slice a bs.length cap∧(0<bs.length→∃ b o,a=some ⟨b,o,none⟩):=by
 obtain ⟨a,cap,rfl,hx⟩:=h W (zew.refl W)
 refine ⟨a,cap,rfl,fun h0=>?_⟩
 obtain ⟨b,o,sv,rfl,_⟩:=hx 0 h0
 exact ⟨b,o,rfl⟩
theorem zer.take {W:World} {a:Option Addr} {n cap:Nat} {bs:List (List Ent)} (h:zer W (.slice a n cap) bs) {k:Nat} (hk:k≤n) (cap':Nat):zer W (.slice a k cap') (bs.take k):=by
 intro w' hk'
 obtain ⟨a',cap2,e,hx⟩:=h w' hk'
 cases e
 have hl:(bs.take k).length=k:=by simp;omega
 refine ⟨a,cap',by rw [hl],fun i hi=>?_⟩
 rw [hl] at hi
 obtain ⟨b,o,sv,h1,h2,h3⟩:=hx i (by omega)
 exact ⟨b,o,sv,h1,h2,by rw [List.getElem?_take_of_lt hi];exact h3⟩
theorem zer.drop {W:World} {b o n cap:Nat} {bs:List (List Ent)} (h:zer W (.slice (some ⟨b,o,none⟩) n cap) bs) {k:Nat} (hk:k≤n) (cap':Nat):zer W (.slice (some ⟨b,o+k,none⟩) (n - k) cap') (bs.drop k):=by
 intro w' hk'
 obtain ⟨a',cap2,e,hx⟩:=h w' hk'
 cases e
 have hl:(bs.drop k).length=bs.length - k:=by simp
 refine ⟨_,cap',by rw [hl],fun i hi=>?_⟩
 rw [hl] at hi
 obtain ⟨b',o',sv,h1,h2,h3⟩:=hx (k+i) (by omega)
 cases h1
 refine ⟨b,o+k,sv,rfl,by rw [Nat.add_assoc];exact h2,by rw [List.getElem?_drop];exact h3⟩
theorem zer.nil {W:World} (a:Option Addr) (cap:Nat):zer W (.slice a 0 cap) []:=fun w' _=>⟨a,cap,rfl,fun i hi=>by simp at hi⟩
def yj5 (a:Option Addr) (n k:Nat) (u:Value):Prop:=(n≤k∧∃ a' m c,m=0∧u=.slice a' m c)∨∃ b o c,a=some ⟨b,o,none⟩∧u=.slice (some ⟨b,o+k,none⟩) (n - k) c
theorem yc2 (vc:Value) (which when_:Int) (w:World) (hw1:-9223372036854775808≤which∧which≤9223372036854775807) (hw2:-9223372036854775808≤when_∧when_≤9223372036854775807)
  (h:Calls Tryz.prog 14 #[] w fun e w1=>∃ eb,e=.returned (.pointer (some ⟨eb,0,none⟩))∧Calls Tryz.prog 14 #[] w1 fun e w2=>∃ fb,e=.returned (.pointer (some ⟨fb,0,none⟩)) ∧
   Calls Tryz.prog 24 #[] w2 fun e w3=>e=.returned (.bool true)∧Calls Tryz.prog 18 #[vc] w3 fun e w4=>∃ a n cap,e=.returned (.slice a n cap)∧n≤cap∧n≤401∧(0<n→∃ b o,a=some ⟨b,o,none⟩)∧∀ k,k≤n →
   Calls Tryz.prog 16 #[.pointer (some ⟨eb,0,none⟩),.string nmV,.string (zlp (za3 which 8)),.string noO] w4 fun e w5=>e=.returned (.bool true) ∧
   Calls Tryz.prog 17 #[.pointer (some ⟨eb,0,none⟩),.slice a n cap] w5 fun e w6=>e=.returned (.bool true) ∧
   Calls Tryz.prog 17 #[.pointer (some ⟨fb,0,none⟩),.slice a k cap] w6 fun e w7=>e=.returned (.bool true) ∧
   Calls Tryz.prog 16 #[.pointer (some ⟨fb,0,none⟩),.string nmW,.string (zlp (za3 which 8)),.string noO] w7 fun e w8=>e=.returned (.bool true)∧∀ u,yj5 a n k u →
   Calls Tryz.prog 17 #[.pointer (some ⟨fb,0,none⟩),u] w8 fun e w9=>e=.returned (.bool true) ∧
   Calls Tryz.prog 26 #[.pointer (some ⟨eb,0,none⟩),.string nmV,.pointer (some ⟨fb,0,none⟩),.string nmW] w9 fun e w10=>e=.returned (.bool true)∧Below w.heap.size w w10) :
  Calls Tryz.prog 11 #[vc,.int .i64 which,.int .i64 when_] w fun e w'=>e=.returned (.bool true)∧Below w.heap.size w w':=by
 have Hq:∀ W,Hid (Calls Tryz.prog 15 #[.int .i64 which] W fun e w'=>e=.returned (.tuple #[.string (zlp (za3 which 8)),.string (ya8 (za3 which 8))])∧w'=W):=fun W=>zo3 which W hw1.1 hw1.2
 have H:=zac h
 clear h
 generalize zlp (za3 which 8)=qt at *
 generalize ya8 (za3 which 8)=qv at *
 go_enter Tryz.func11,Tryz.ntmps11
 go_wp2_with fail
 refine (zaa H).mono ?_
 rintro e w1 ⟨eb,rfl,h1⟩
 have H1:=zac h1
 clear h1 H
 go_wp2_with fail
 refine (zaa H1).mono ?_
 rintro e w2 ⟨fb,rfl,h2⟩
 have H2:=zac h2
 clear h2 H1
 go_wp2_with fail
 refine (zaa H2).mono ?_
 rintro e w3 ⟨rfl,h3⟩
 have H3:=zac h3
 clear h3 H2
 go_wp2_with (first|(go_at_call 15;refine (zaa (Hq _)).mono ?_;rintro e w' ⟨rfl,hw⟩;replace hw:=hw.symm;subst hw))
 refine (zaa H3).mono ?_
 rintro e w4 ⟨a,n,cap,rfl,hcap,hn,ha,h4⟩
 obtain ⟨k,hk⟩:∃ k:Nat,(k:Int)=za3 when_ ((n:Int)+1):=⟨(za3 when_ ((n:Int)+1)).toNat,by have:=zb5 when_ ((n:Int)+1) (by omega);omega⟩
 have hkr:=zb5 when_ ((n:Int)+1) (by omega)
 rw [← hk] at hkr
 have Hp:∀ W,Hid (Calls Tryz.prog 25 #[.int .i64 when_,.int .i64 ((n:Int)+1)] W fun e w'=>e=.returned (.int .i64 k)∧w'=W):=fun W=>by
  have:=zfw when_ ((n:Int)+1) W hw2.1 hw2.2 (by omega) (by omega)
  rw [← hk] at this
  exact this
 have hkl:k≤n:=by omega
 have H4:=zac (h4 k hkl)
 have Ha:=zac ha
 clear hk hkr h4 ha H3 hw1 hw2 Hq
 go_wp2_with (first|(go_at_call 25;refine (zaa (Hp _)).mono ?_;rintro e w' ⟨rfl,hw⟩;replace hw:=hw.symm;subst hw))
 refine (zaa H4).mono ?_
 rintro e w5 ⟨rfl,h5⟩
 have H5:=zac h5
 clear h5 H4 Hp
 go_wp2_with fail
 refine (zaa H5).mono ?_
 rintro e w6 ⟨rfl,h6⟩
 have H6:=zac h6
 clear h6 H5
 go_wp2_with fail
 refine (zaa H6).mono ?_
 rintro e w7 ⟨rfl,h7⟩
 have H7:=zac h7
 clear h7 H6
 go_wp2_with fail
 refine (zaa H7).mono ?_
 rintro e w8 ⟨rfl,h8⟩
 have H8:=zac h8
 clear h8 H7
 rcases Nat.eq_zero_or_pos n with h0|h0
 ·subst h0
  have hk0:k=0:=by omega
  subst hk0
  rcases a with _|ad
  ·go_wp2_with fail
   refine ((zaa H8) _ (.inl ⟨Nat.le_refl _,_,_,_,(by omega),rfl⟩)).mono ?_
   rintro e w9 ⟨rfl,h9⟩
   have H9:=zac h9
   clear h9 H8
   go_wp2_with fail
   refine (zaa H9).mono ?_
   rintro e w10 ⟨rfl,h10⟩
   have H10:=zac h10
   clear h10 H9
   go_wp2
   go_ret
   exact ⟨rfl,zaa H10⟩
  ·by_cases hck:cap=0
   ·subst hck
    go_wp2_with fail
    refine ((zaa H8) _ (.inl ⟨Nat.le_refl _,_,_,_,(by omega),rfl⟩)).mono ?_
    rintro e w9 ⟨rfl,h9⟩
    have H9:=zac h9
    clear h9 H8
    go_wp2_with fail
    refine (zaa H9).mono ?_
    rintro e w10 ⟨rfl,h10⟩
    have H10:=zac h10
    clear h10 H9
    go_wp2
    go_ret
    exact ⟨rfl,zaa H10⟩
   ·go_wp2_with fail
    refine ((zaa H8) _ (.inl ⟨Nat.le_refl _,_,_,_,(by omega),rfl⟩)).mono ?_
    rintro e w9 ⟨rfl,h9⟩
    have H9:=zac h9
    clear h9 H8
    go_wp2_with fail
    refine (zaa H9).mono ?_
    rintro e w10 ⟨rfl,h10⟩
    have H10:=zac h10
    clear h10 H9
    go_wp2
    go_ret
    exact ⟨rfl,zaa H10⟩
 ·obtain ⟨b,o,rfl⟩:=(zaa Ha) h0
  by_cases hck:cap=k
  ·subst hck
   have hnk:n=cap:=by omega
   subst hnk
   have hle:n≤n:=Nat.le_refl _
   go_wp2_with fail
   refine ((zaa H8) _ (.inl ⟨hle,_,_,_,(by omega),rfl⟩)).mono ?_
   rintro e w9 ⟨rfl,h9⟩
   have H9:=zac h9
   clear h9 H8
   go_wp2_with fail
   refine (zaa H9).mono ?_
   rintro e w10 ⟨rfl,h10⟩
   have H10:=zac h10
   clear h10 H9
   go_wp2
   go_ret
   exact ⟨rfl,zaa H10⟩
  ·go_wp2_with fail
   refine ((zaa H8) _ (.inr ⟨_,_,_,rfl,rfl⟩)).mono ?_
   rintro e w9 ⟨rfl,h9⟩
   have H9:=zac h9
   clear h9 H8
   go_wp2_with fail
   refine (zaa H9).mono ?_
   rintro e w10 ⟨rfl,h10⟩
   have H10:=zac h10
   clear h10 H9
   go_wp2
   go_ret
   exact ⟨rfl,zaa H10⟩
theorem yc1 (vc:Value) (codes:List Int) (which when_:Int) (w:World) (hc:zbn w vc codes) (hcl:codes.length≤9223372036854775807) (hcb:∀ c∈codes,-9223372036854775808≤c∧c≤9223372036854775807)
  (hw1:-9223372036854775808≤which∧which≤9223372036854775807) (hw2:-9223372036854775808≤when_∧when_≤9223372036854775807) :
  Calls Tryz.prog 11 #[vc,.int .i64 which,.int .i64 when_] w fun e w'=>e=.returned (.bool true)∧Below w.heap.size w w':=by
 refine yc2 vc which when_ w hw1 hw2 ?_
 have hread:=zss which
 have hfit:=zsr which
 have hsz:=zst which
 have hbl:=zn3 codes
 have hbm:=zly codes
 have hbsh:=zjz codes
 have hbf:=zlx codes
 refine (zhw w).mono ?_
 rintro e w1 ⟨s,rfl,hs,hsf,hsI,hsV,hsM,hsv,hb1⟩
 refine ⟨s.eb,rfl,(zhw w1).mono ?_⟩
 rintro e w2 ⟨t,rfl,ht,htf,htI,htV,htM,htv,hb2⟩
 have H2:=ye8 hs hb1 ht hb2
 refine ⟨t.eb,rfl,(zpn w2).mono ?_⟩
 rintro e w3 ⟨rfl,hb3⟩
 have H3:=H2.below hb3
 refine ⟨rfl,(zrt vc codes w3 (hc.below H3.bel) hcl hcb).mono ?_⟩
 rintro e w4 ⟨u,rfl,hu0,hb4⟩
 have hu:=hu0.stable
 obtain ⟨a,cap,rfl,hcap,_⟩:=hu0
 have H4:=H3.below hb4
 generalize zf6 codes=bs at *
 refine ⟨a,bs.length,cap,rfl,hcap,hbl,fun h0=>?_,fun k hk=>?_⟩
 ·obtain ⟨a',cap',e,h1⟩:=hu.form
  cases e
  exact h1 h0
 refine (zfa nmV _ noO _ _ w4 H4.one H4.bel.size yau (by decide) (by rw [hsv]) (by omega) hsz hread hfit (.inl rfl) (by omega)).mono ?_
 rintro e w5 ⟨rfl,s2,hs2,ht2,heb2,hfl2,hnI2,hnV2,hM2,v,hvw,hvH,hvB⟩
 have H5:=H4.left ht2 hs2
 have hu5:=hu.keep ht2.keepC
 have hhas2:s2.has nmV (zgs (za3 which 8)).1 ((zgs (za3 which 8)).2.map zba.q):=⟨v,by rw [hvw];exact za7 _ _ _,hvH,hvB⟩
 rw [← heb2]
 refine ⟨rfl,(zl3 _ bs w5 H5.one H5.bel.size hu5 hbsh hbf (by rw [hfl2,hsf];simpa using hbm) (by omega) (by rw [hM2,hsM];omega)).mono ?_⟩
 rintro e w6 ⟨rfl,s3,hs3,ht3,heb3,hfl3,_,_,_,hsame3⟩
 have H6:=H5.left ht3 hs3
 have hu6:=hu5.keep ht3.keepC
 have hhas3:=hsame3.has hhas2
 have hfl3':s3.fl=bs.flatten:=by rw [hfl3,hfl2,hsf,List.nil_append]
 rw [← heb3]
 refine ⟨rfl,(zl3 _ (bs.take k) w6 H6.two H6.bel.size (hu6.take hk cap) (fun b hb=>hbsh b (List.mem_of_mem_take hb)) (fun b hb=>hbf b (List.mem_of_mem_take hb)) (by have:=zgm bs k;rw [htf];simp only [List.length_nil];omega) (by rw [List.length_take];omega) (by rw [htM];omega)).mono ?_⟩
 rintro e w7 ⟨rfl,t2,ht2',htt2,hebt2,hflt2,hnIt,hnVt,hMt,hsamet⟩
 have H7:=H6.right htt2 ht2'
 have hu7:=hu6.keep htt2.keepC
 have hMt':t2.M≤1604000000000000:=by rw [hMt,htM,List.length_take];omega
 rw [← hebt2]
 refine ⟨rfl,(zfa nmW _ noO _ _ w7 H7.two H7.bel.size yi3 (by decide) (hsamet.1 nmW (by rw [htv])) (by omega) hsz hread hfit (.inl rfl) (by omega)).mono ?_⟩
 rintro e w8 ⟨rfl,t3,ht3',htt3,hebt3,hflt3,hnI3,hnV3,hM3,v',hvw',hvH',hvB'⟩
 have H8:=H7.right htt3 ht3'
 have hu8:=hu7.keep htt3.keepC
 have hhast:t3.has nmW (zgs (za3 which 8)).1 ((zgs (za3 which 8)).2.map zba.q):=⟨v',by rw [hvw'];exact za7 _ _ _,hvH',hvB'⟩
 have hflt3':t3.fl=(bs.take k).flatten:=by rw [hflt3,hflt2,htf,List.nil_append]
 rw [← hebt3]
 refine ⟨rfl,fun u hd=>?_⟩
 have hud:zer w8 u (bs.drop k):=by
  rcases hd with ⟨h1,a',m,c,rfl,rfl⟩|⟨b,o,c,rfl,rfl⟩
  ·rw [List.drop_eq_nil_of_le h1]
   exact zer.nil a' c
  ·exact hu8.drop hk c
 have hjoin:(bs.take k).flatten ++ (bs.drop k).flatten=bs.flatten:=by rw [← List.flatten_append,List.take_append_drop]
 refine (zl3 u (bs.drop k) w8 H8.two H8.bel.size hud (fun b hb=>hbsh b (List.mem_of_mem_drop hb)) (fun b hb=>hbf b (List.mem_of_mem_drop hb)) (by
   have:=congrArg List.length hjoin
   rw [List.length_append] at this
   rw [hflt3']
   omega) (by rw [List.length_drop];omega) (by rw [hM3];omega)).mono ?_
 rintro e w9 ⟨rfl,t4,ht4,htt4,hebt4,hflt4,_,_,_,hsamet4⟩
 have H9:=H8.right htt4 ht4
 rw [← hebt4]
 refine ⟨rfl,(znn nmV nmW w9 H9.one H9.two (fun nm r=>by rw [hfl3',hflt4,hflt3',hjoin]) hhas3 (hsamet4.has hhast)).mono ?_⟩
 rintro e w10 ⟨rfl,hb10⟩
 exact ⟨rfl,H9.bel.trans (hb10.mono H9.bel.size)⟩
end K
end Go.Proofs.YtoifcnidhfnapaaGreatDoor
