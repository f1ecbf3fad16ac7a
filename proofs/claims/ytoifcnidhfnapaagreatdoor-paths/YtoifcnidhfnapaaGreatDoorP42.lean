import Derived.Test.YtoifcnidhfnapaaGreatDoorP06
import Derived.Test.YtoifcnidhfnapaaGreatDoorP41
import Derived.Test.YtoifcnidhfnapaaGreatDoorP01
import Derived.Test.YtoifcnidhfnapaaGreatDoorP12
import Derived.Test.YtoifcnidhfnapaaGreatDoorP19
import Derived.Deep.RegionHeld3
set_option linter.unusedVariables false
set_option linter.unusedSimpArgs false
namespace Go.Proofs.YtoifcnidhfnapaaGreatDoor
namespace K
open Go.RowKit Go.Maps Go.Sort Go.Shelf
structure zqb (R S T:Rel) (cnt:Nat):Prop where
 r:Tame R 2 cnt zdt
 s:Tame S 2 cnt zdt
 t:Tame T 1 cnt zhz
theorem zqb.add {R S T:Rel} {cnt:Nat} (h:zqb R S T cnt) {es:List Ent} (hf:∀ x∈es,Fine x):zqb (zao R es nmR) (zao S es nmS) (zao T es nmT) (cnt+es.length):=
 ⟨h.r.add hf (fun _ h0=>(zfx hf h0).1 rfl),h.s.add hf (fun _ h0=>(zfx hf h0).2.1 rfl),h.t.add hf (fun _ h0=>(zfx hf h0).2.2 rfl)⟩
theorem Fine.chk {x:Ent} (h:Fine x) {R S T:Rel} {cnt:Nat} (h3:zqb R S T cnt):Chk (st3 R S T) x 0:=by
 have hg:=h.good
 have hn:x.nm.size≤maxLen:=Nat.le_trans hg.1 (by unfold maxLen;omega)
 have hw:-1000≤x.wt∧x.wt≤1000:=hg.2.2.2
 have hl:x.row.length≤1000000000:=by have:=hg.2.1;omega
 rcases h.name with ⟨e,e2,_⟩|⟨e,e2,_⟩|⟨e,e2,_⟩
 ·exact zyv hn (by rw [e];exact zsj _ _ _) hl (by rw [e2,h3.r.ar_]) hw
 ·exact zyv hn (by rw [e];exact zrr _ _ _) hl (by rw [e2,h3.s.ar_]) hw
 ·exact zyv hn (by rw [e];exact zyc _ _ _) hl (by rw [e2,h3.t.ar_]) hw
theorem Fine.known {x:Ent} (h:Fine x) (R S T:Rel):st3 R S T x.nm≠none:=by
 rcases h.name with ⟨e,_⟩|⟨e,_⟩|⟨e,_⟩
 ·rw [e,zsj];simp
 ·rw [e,zrr];simp
 ·rw [e,zyc];simp
theorem zqd {R:Rel} {ar cnt:Nat} {G:List Row} (h:Tame R ar cnt G) {es:List Ent} (hf:∀ x∈es,Fine x) {nm:ByteArray} (hG:∀ r,sumE es nm r≠0→r∈G) (hGl:G.length≤16) (hc:cnt+es.length≤400) :
  R.n+2*es.length≤100000∧(∀ r,zav r→-1000≤R.f r+sumE es nm r∧R.f r+sumE es nm r≤1000)∧(∀ r,zav r→-1000≤R.f r∧R.f r≤1000)∧∃ G:List Row,G.length≤16∧∀ r,zav r→R.f r+sumE es nm r≠0→r∈G:=by
 have h2:=h.add hf hG
 refine ⟨by have:=h.n_;omega,fun r hr=>?_,fun r hr=>?_,G,hGl,fun r hr h0=>h2.supp r hr h0⟩
 ·have a:=h2.lo r hr;have b:=h2.hi r hr
  simp only [zao] at a b
  push_cast at a b
  omega
 ·have a:=h.lo r hr;have b:=h.hi r hr
  omega
theorem Done.ents {w:World} {B m:Nat} {v:Value} {es:List Ent} (hd:Done w B m v es):zh4 w v es:=by
 obtain ⟨g,cap,cur,xs,rfl,h1,h2,h3,h4,h5,h6,h7⟩:=hd
 rw [← h6]
 exact zo1 h3 h4 h5 cap
theorem zgh {bs:List (List Ent)} {k:Nat} (h:k<bs.length):(bs.take (k+1)).flatten=(bs.take k).flatten ++ bs[k]:=by
 rw [List.take_succ_eq_append_getElem h,List.flatten_append]
 simp only [List.flatten_cons,List.flatten_nil,List.append_nil]
theorem zqq (bs:List (List Ent)) (k:Nat):(bs.take k).flatten.length≤bs.flatten.length:=by
 have:bs.flatten=(bs.take k).flatten ++ (bs.drop k).flatten:=by rw [← List.flatten_append,List.take_append_drop]
 rw [this];simp
theorem zc6 (R:Rel) (a b:List Ent) (nm:ByteArray):zao (zao R a nm) b nm=zao R (a ++ b) nm:=by
 unfold zao
 simp only [Rel.mk.injEq,true_and]
 refine ⟨by simp;omega,?_⟩
 funext r
 rw [zt1];omega
theorem zeg (R:Rel) (nm:ByteArray):zao R [] nm=R:=by
 unfold zao
 simp [sumE]
structure zs3 (w w':World):Prop where
 size:w.heap.size≤w'.heap.size
 blk:∀ (q:Nat) cs t p,w.heap[q]? = some (Obj.cells cs t p)→t≠144→t≠141→w'.heap[q]? = w.heap[q]?
theorem zs3.refl (w:World):zs3 w w:=⟨Nat.le_refl _,fun _ _ _ _ _ _ _=>rfl⟩
theorem zs3.ofX {w w':World} {fix:Nat→Prop} {eb db nD nI nV N:Nat} {st:St} {ixs:IxS} {vws:VwS} (hE:EngV w fix eb db nD nI nV N st ixs vws) (h:KeepX (EngX st ixs vws) w w'):zs3 w w':=
 ⟨h.size,fun q cs t p hq h1 h2=>h.blk q (Array.getElem?_eq_some_iff.1 hq).1 fun hx=>(hE.xtype q hx cs t p hq).elim h1 h2⟩
theorem _root_.Go.Proofs.YtoifcnidhfnapaaGreatDoor.KeepX.trans' {X Y:Nat→Prop} {a b c:World} (h:KeepX X a b) (k:KeepX Y b c) (hY:∀ q,Y q→X q∨a.heap.size≤q):KeepX X a c:=
 ⟨k.os.trans h.os,k.tape.trans h.tape,k.output.trans h.output,Nat.le_trans h.size k.size,fun q hq hx=>(k.blk q (Nat.lt_of_lt_of_le hq h.size) (fun hy=>(hY q hy).elim hx (fun h=>by omega))).trans (h.blk q hq hx)⟩
def zwr (w:World) (v:Value) (bs:List (List Ent)):Prop:=∀ w',zs3 w w'→BatsAt w' v bs
theorem Done.keepC {w w':World} {B m:Nat} {v:Value} {es:List Ent} (hd:Done w B m v es) (h:zs3 w w'):Done w' B m v es:=by
 obtain ⟨g,cap,cur,xs,rfl,h1,h2,h3,h4,h5,h6,h7⟩:=hd
 exact ⟨g,cap,cur,xs,rfl,h1,h2,(h.blk g _ _ _ h3 (by decide) (by decide)).trans h3,h4,fun p hp=>(h.blk p.2 _ _ _ (h5 p hp) (by decide) (by decide)).trans (h5 p hp),h6,h7⟩
theorem zrk.stable {w:World} {B:Nat} {v:Value} {bs:List (List Ent)} (h:zrk w B v bs):zwr w v bs:=by
 obtain ⟨a,cap,rfl,_,hx⟩:=h
 intro w' hk
 refine ⟨a,cap,rfl,fun i hi=>?_⟩
 obtain ⟨b,sv,m,rfl,_,hc,hd,cur,hb⟩:=hx i hi
 exact ⟨b,0,sv,rfl,by rw [Nat.zero_add];exact (World.cell?_of_block (a:=⟨b,i,none⟩) (hk.blk b _ _ _ hb (by decide) (by decide))).trans hc,(hd.keepC hk).ents⟩
def zeo (vws vws':VwS):Prop:=(∀ nm,vws nm=none→vws' nm=none)∧∀ nm v,vws nm=some v→∃ n' f',vws' nm=some { v with n:=n',f:=f' }
theorem zeo.refl (vws:VwS):zeo vws vws:=⟨fun _ h=>h,fun nm v h=>⟨v.n,v.f,h⟩⟩
theorem zeo.trans {a b c:VwS} (h:zeo a b) (k:zeo b c):zeo a c:=
 ⟨fun nm hn=>k.1 nm (h.1 nm hn),fun nm v hv=>by
  obtain ⟨n,f,h1⟩:=h.2 nm v hv
  obtain ⟨n',f',h2⟩:=k.2 nm _ h1
  exact ⟨n',f',h2⟩⟩
theorem zeo.ofKept {N n:Nat} {a b:VwS} (h:zzv N n a b):zeo a b:=⟨h.1,fun nm v hv=>by obtain ⟨n',f',h1,_⟩:=h.2 nm v hv;exact ⟨n',f',h1⟩⟩
def zf4 (M:Nat) (vws:VwS):Prop:=∀ nm v,vws nm=some v→v.n≤M
theorem zf4.kept {N n M K:Nat} {a b:VwS} (h:zzv N n a b) (hm:zf4 M a) (hK:4*(N+n) ^ 4≤K):zf4 (M+K) b:=by
 intro nm v hv
 cases ha:a nm with
 | none=>rw [h.1 nm ha] at hv;cases hv
 | some u =>
  obtain ⟨n',f',h1,h2⟩:=h.2 nm u ha
  rw [h1] at hv
  cases hv
  have:=hm nm u ha
  show n'≤M+K
  omega
theorem pow4 {a b:Nat} (h:a≤b):a ^ 4≤b ^ 4:=Nat.pow_le_pow_left h 4
set_option maxRecDepth 100000 in
set_option maxHeartbeats 1000000 in
theorem zty (v:Value) (es:List Ent) (w:World) {fix:Nat→Prop} {eb db nD nI nV N M cnt:Nat} {R S T:Rel} {ixs:IxS} {vws:VwS} (hE:EngV w fix eb db nD nI nV N (st3 R S T) ixs vws) (h3:zqb R S T cnt) (hv:zh4 w v es) (hl:es.length≤64) (hf:∀ x∈es,Fine x) (hc:cnt+es.length≤400) (hN:N+2*es.length≤1000) (hN1:1≤N) (hM:zf4 M vws) (hM2:M≤8000000000000000000) :
  Calls Tryz.prog 44 #[.pointer (some ⟨eb,0,none⟩),v] w fun e w'=>e=.returned (.tuple #[.int .i64 0,.int .i64 0])∧KeepX (EngX (st3 R S T) ixs vws) w w'∧∃ ixs' vws',EngV w' fix eb db nD nI nV (N+2*es.length) (st3 (zao R es nmR) (zao S es nmS) (zao T es nmT)) ixs' vws'∧zeo vws vws'∧zf4 (M+4000000000000) vws'∧(∀ k,(ixs' k).isSome=(ixs k).isSome)∧∀ q,EngX (st3 (zao R es nmR) (zao S es nmS) (zao T es nmT)) ixs' vws' q→EngX (st3 R S T) ixs vws q∨w.heap.size≤q:=by
 rw [← zzs]
 have hp:4*(N+2*es.length) ^ 4≤4000000000000:=by
  have:=pow4 hN
  have e:(1000:Nat) ^ 4=1000000000000:=by decide
  omega
 have hfit:∀ nm Q,st3 R S T nm=some Q→Q.n+2*es.length≤100000∧(∀ r,zav r→-1000≤Q.f r+sumE es nm r∧Q.f r+sumE es nm r≤1000)∧(∀ r,zav r→-1000≤Q.f r∧Q.f r≤1000)∧∃ G:List Row,G.length≤16∧∀ r,zav r→Q.f r+sumE es nm r≠0→r∈G:=by
  intro nm Q hQ
  rcases zv2 hQ with ⟨rfl,rfl⟩|⟨rfl,rfl⟩|⟨rfl,rfl⟩
  ·exact zqd h3.r hf (fun _ h0=>(zfx hf h0).1 rfl) (by rw [zq1];omega) hc
  ·exact zqd h3.s hf (fun _ h0=>(zfx hf h0).2.1 rfl) (by rw [zq1];omega) hc
  ·exact zqd h3.t hf (fun _ h0=>(zfx hf h0).2.2 rfl) (by rw [zyh];omega) hc
 refine (zxi v es w hE hv hl (fun x hx=>(hf x hx).good) (fun i hi=>?_) (fun x hx=>(hf x hx).known R S T) (fun nm Q hQ=>⟨by have:=(hfit nm Q hQ).1;omega,(hfit nm Q hQ).2.2.1⟩) (by omega) hN1 (fun nm v hv=>by have:=hM nm v hv;omega)).mono ?_
 ·have:es[i]?.getD zg0=es[i]:=by simp [hi]
  rw [this]
  exact (hf _ (List.getElem_mem hi)).chk h3
 ·have hW:∀ nm Q,st3 R S T nm=some Q→zk4 Q.f (sumE es nm):=fun nm Q hQ r hr _=>(hfit nm Q hQ).2.1 r hr
  have hR:∀ nm Q,st3 R S T nm=some Q→zv6 es nm Q.f:=fun nm Q hQ _=>(hfit nm Q hQ).2.2.2
  rintro e w' ⟨c,rfl,hk,⟨rfl,h1,_⟩|⟨rfl,_,h1,_⟩|⟨rfl,_,_,ixs',vws',h1,h2,h4,h5⟩⟩
  ·exact absurd hW h1
  ·exact absurd hR h1
  ·exact ⟨rfl,hk,ixs',vws',h1,zeo.ofKept h2,hM.kept h2 hp,h4,h5⟩
set_option maxHeartbeats 400000 in
theorem zpe (v:Value) (es:List Ent) (w:World) {fix:Nat→Prop} {eb db nD nI nV N M cnt:Nat} {R S T:Rel} {ixs:IxS} {vws:VwS} (hE:EngV w fix eb db nD nI nV N (st3 R S T) ixs vws) (h3:zqb R S T cnt) (hv:zh4 w v es) (hl:es.length≤64) (hf:∀ x∈es,Fine x) (hc:cnt+es.length≤400) (hN:N+2*es.length≤1000) (hN1:1≤N) (hM:zf4 M vws) (hM2:M≤8000000000000000000) :
  Calls Tryz.prog 28 #[.pointer (some ⟨eb,0,none⟩),v] w fun e w'=>e=.returned (.bool true)∧KeepX (EngX (st3 R S T) ixs vws) w w'∧∃ ixs' vws',EngV w' fix eb db nD nI nV (N+2*es.length) (st3 (zao R es nmR) (zao S es nmS) (zao T es nmT)) ixs' vws'∧zeo vws vws'∧zf4 (M+4000000000000) vws'∧(∀ k,(ixs' k).isSome=(ixs k).isSome)∧∀ q,EngX (st3 (zao R es nmR) (zao S es nmS) (zao T es nmT)) ixs' vws' q→EngX (st3 R S T) ixs vws q∨w.heap.size≤q:=by
 have H:=hide (zty v es w hE h3 hv hl hf hc hN hN1 hM hM2)
 clear hE h3 hv hf hM
 go_enter Tryz.func28,Tryz.ntmps28
 go_wp2_with fail
 refine (zaa H).mono ?_
 rintro e w1 ⟨rfl,h1⟩
 have H1:=hide h1
 clear h1 H
 go_wp2
 go_ret
 exact ⟨rfl,zaa H1⟩
set_option maxRecDepth 100000 in
set_option maxHeartbeats 1000000 in
theorem zsx (v:Value) (bs:List (List Ent)) (w:World) {fix:Nat→Prop} {eb db nD nI nV N M cnt:Nat} {R S T:Rel} {ixs:IxS} {vws:VwS} (hE:EngV w fix eb db nD nI nV N (st3 R S T) ixs vws) (h3:zqb R S T cnt) (hv:zwr w v bs) (hl:∀ b∈bs,b.length≤12) (hf:∀ b∈bs,∀ x∈b,Fine x) (hc:cnt+bs.flatten.length≤400) (hbl:bs.length≤1000) (hN:N+2*bs.flatten.length≤1000) (hN1:1≤N) (hM:zf4 M vws) (hM2:M≤4000000000000000000) :
  Calls Tryz.prog 17 #[.pointer (some ⟨eb,0,none⟩),v] w fun e w'=>e=.returned (.bool true)∧KeepX (EngX (st3 R S T) ixs vws) w w'∧∃ ixs' vws',EngV w' fix eb db nD nI nV (N+2*bs.flatten.length) (st3 (zao R bs.flatten nmR) (zao S bs.flatten nmS) (zao T bs.flatten nmT)) ixs' vws'∧zeo vws vws'∧zf4 (M+bs.length*4000000000000) vws'∧(∀ k,(ixs' k).isSome=(ixs k).isSome)∧∀ q,EngX (st3 (zao R bs.flatten nmR) (zao S bs.flatten nmS) (zao T bs.flatten nmT)) ixs' vws' q→EngX (st3 R S T) ixs vws q∨w.heap.size≤q:=by
 have h0:=hv w (zs3.refl w)
 obtain ⟨a,cap,rfl,_⟩:=h0
 have Hv:=hide hv
 have HE:=hide hE
 have H3:=hide h3
 have Hl:=hide hl
 have Hf:=hide hf
 have HM:=hide hM
 clear hv hE h3 hl hf hM
 go_enter Tryz.func17,Tryz.ntmps17
 go_wp2
 go_loopw [5] (fun i wr=>∃ k:Nat,k≤bs.length∧i=.int .i64 k∧KeepX (EngX (st3 R S T) ixs vws) w wr∧∃ ixs' vws',EngV wr fix eb db nD nI nV (N+2*(bs.take k).flatten.length) (st3 (zao R (bs.take k).flatten nmR) (zao S (bs.take k).flatten nmS) (zao T (bs.take k).flatten nmT)) ixs' vws'∧zeo vws vws'∧zf4 (M+k*4000000000000) vws'∧(∀ k,(ixs' k).isSome=(ixs k).isSome)∧∀ q,EngX (st3 (zao R (bs.take k).flatten nmR) (zao S (bs.take k).flatten nmS) (zao T (bs.take k).flatten nmT)) ixs' vws' q→EngX (st3 R S T) ixs vws q∨w.heap.size≤q) (fun i _=>bs.length - (intOf i).toNat)
 case atStart =>
  refine ⟨0,Nat.zero_le _,rfl,KeepX.refl _ _,ixs,vws,?_⟩
  simp only [List.take_zero,List.flatten_nil,zeg,List.length_nil,Nat.mul_zero,Nat.add_zero,Nat.zero_mul]
  exact ⟨zaa HE,zeo.refl _,zaa HM,fun _=>trivial,fun q hq=>.inl hq⟩
 case round =>
  obtain ⟨k,hk,rfl,hkx,ixs',vws',hEk,hsame,hmost,hixs,hnew⟩:=hrel
  by_cases hlt:k<bs.length
  ·have hx:(k:Int)<(bs.length:Int):=by omega
   obtain ⟨a',cap',hsl,hcs⟩:=(zaa Hv) wr (zs3.ofX (zaa HE) hkx)
   cases hsl
   obtain ⟨b,o,sv,rfl,h1,hd'⟩:=hcs k hlt
   have hbe:bs[k]?.getD []=bs[k]:=by simp [hlt]
   rw [hbe] at hd'
   have hmem:bs[k]∈bs:=List.getElem_mem hlt
   have hfl:∀ x∈(bs.take k).flatten,Fine x:=fun x hx=>by
    obtain ⟨y,hy,hxy⟩:=List.mem_flatten.1 hx
    exact (zaa Hf) y (List.mem_of_mem_take hy) x hxy
   have h3k:=(zaa H3).add hfl
   have hcl:(bs.take k).flatten.length+bs[k].length≤bs.flatten.length:=by
    have:=zqq bs (k+1)
    rw [zgh hlt] at this
    simp only [List.length_append] at this
    omega
   have Hcall:=hide (zpe sv bs[k] wr hEk h3k hd' (by have:=(zaa Hl) _ hmem;omega) ((zaa Hf) _ hmem) (by omega) (by omega) (by omega) hmost (by omega))
   have Hsame:=hide hsame
   have Hixs:=hide hixs
   have Hnew:=hide hnew
   have Hkx:=hide hkx
   clear hd' hEk hfl h3k hbe hcl hmem hcs hsame hmost hixs hnew hkx
   go_wp2_with (first|(go_at_call 28;refine (zaa Hcall).mono ?_;rintro e w1 ⟨rfl,hk1,ixs1,vws1,hE1,hs1,hm1,hi1,hn1⟩))
   rw [zc6,zc6,zc6,← zgh hlt] at hE1 hn1
   have HF:=hide (show KeepX (EngX (st3 R S T) ixs vws) w w1∧∃ ixs' vws',EngV w1 fix eb db nD nI nV (N+2*(bs.take (k+1)).flatten.length) (st3 (zao R (bs.take (k+1)).flatten nmR) (zao S (bs.take (k+1)).flatten nmS) (zao T (bs.take (k+1)).flatten nmT)) ixs' vws'∧zeo vws vws'∧zf4 (M+(k+1)*4000000000000) vws'∧(∀ k,(ixs' k).isSome=(ixs k).isSome)∧∀ q,EngX (st3 (zao R (bs.take (k+1)).flatten nmR) (zao S (bs.take (k+1)).flatten nmS) (zao T (bs.take (k+1)).flatten nmT)) ixs' vws' q→EngX (st3 R S T) ixs vws q∨w.heap.size≤q from
    ⟨(zaa Hkx).trans' hk1 (zaa Hnew),ixs1,vws1,by
     have e:N+2*(bs.take (k+1)).flatten.length=N+2*(bs.take k).flatten.length+2*bs[k].length:=by rw [zgh hlt,List.length_append];omega
     rw [e];exact hE1,(zaa Hsame).trans hs1,by
     have e:M+(k+1)*4000000000000=M+k*4000000000000+4000000000000:=by omega
     rw [e];exact hm1,fun k=>(hi1 k).trans ((zaa Hixs) k),fun q hq=>by
     rcases hn1 q hq with h|h
     ·exact (zaa Hnew) q h
     ·exact .inr (Nat.le_trans (zaa Hkx).size h)⟩)
   clear hk1 hE1 hs1 hm1 hi1 hn1
   go_roundw
   case rel=>exact ⟨k+1,by omega,by go_num,zaa HF⟩
   case measure=>simp [intOf];omega
  ·have:k=bs.length:=by omega
   subst this
   rw [List.take_length] at hEk hnew
   have HF:=hide (show KeepX (EngX (st3 R S T) ixs vws) w wr∧∃ ixs' vws',EngV wr fix eb db nD nI nV (N+2*bs.flatten.length) (st3 (zao R bs.flatten nmR) (zao S bs.flatten nmS) (zao T bs.flatten nmT)) ixs' vws'∧zeo vws vws'∧zf4 (M+bs.length*4000000000000) vws'∧(∀ k,(ixs' k).isSome=(ixs k).isSome)∧∀ q,EngX (st3 (zao R bs.flatten nmR) (zao S bs.flatten nmS) (zao T bs.flatten nmT)) ixs' vws' q→EngX (st3 R S T) ixs vws q∨w.heap.size≤q from ⟨hkx,ixs',vws',hEk,hsame,hmost,hixs,hnew⟩)
   clear hkx hEk hsame hmost hixs hnew
   go_wp2
   go_ret
   exact ⟨rfl,zaa HF⟩
end K
end Go.Proofs.YtoifcnidhfnapaaGreatDoor
namespace Go.Proofs.YtoifcnidhfnapaaGreatDoor
open Go.RowKit
theorem zzb (a b:Nat) (ha:a<4294967296) (hb:b<4294967296):bits .or .u32 (a:Int) (b:Int)=((a ||| b:Nat):Int):=by
 have hx:a ||| b<2 ^ 32:=Nat.or_lt_two_pow (by omega) (by omega)
 have h1:(BitVec.ofInt 32 (a:Int)).toNat=a:=by
  rw [BitVec.ofInt_natCast,BitVec.toNat_ofNat];exact Nat.mod_eq_of_lt (by omega)
 have h2:(BitVec.ofInt 32 (b:Int)).toNat=b:=by
  rw [BitVec.ofInt_natCast,BitVec.toNat_ofNat];exact Nat.mod_eq_of_lt (by omega)
 show IntKind.u32.wrap ((BitVec.ofInt 32 (a:Int) ||| BitVec.ofInt 32 (b:Int)).toNat:Int)=_
 rw [BitVec.toNat_or,h1,h2,IntKind.wrap_u32]
 omega
theorem zyd (a b:Nat) (ha:a<4294967296) (hb:b<4294967296):bits .and .u32 (a:Int) (b:Int)=((a &&& b:Nat):Int):=by
 have hx:a &&& b<2 ^ 32:=Nat.and_lt_two_pow _ (by omega)
 have h1:(BitVec.ofInt 32 (a:Int)).toNat=a:=by
  rw [BitVec.ofInt_natCast,BitVec.toNat_ofNat];exact Nat.mod_eq_of_lt (by omega)
 have h2:(BitVec.ofInt 32 (b:Int)).toNat=b:=by
  rw [BitVec.ofInt_natCast,BitVec.toNat_ofNat];exact Nat.mod_eq_of_lt (by omega)
 show IntKind.u32.wrap ((BitVec.ofInt 32 (a:Int) &&& BitVec.ofInt 32 (b:Int)).toNat:Int)=_
 rw [BitVec.toNat_and,h1,h2,IntKind.wrap_u32]
 omega
theorem two26 {k:Nat} (hk:k≤25):2 ^ k<67108865:=by
 have:2 ^ k≤2 ^ 25:=Nat.pow_le_pow_right (by omega) hk
 omega
theorem shl32 {k:Nat} (hk:k≤25):(2:Int) ^ k % 4294967296=((2 ^ k:Nat):Int):=by
 have h1:=two26 hk
 have h2:((2 ^ k:Nat):Int)=(2:Int) ^ k:=by push_cast;rfl
 rw [← h2]
 generalize 2 ^ k=y at h1
 omega
theorem and_bit (m k:Nat):(((m &&& 2 ^ k:Nat):Int) != 0)=m.testBit k:=by
 cases ht:m.testBit k
 ·have:m &&& 2 ^ k=0:=by
   apply Nat.eq_of_testBit_eq
   intro i
   rw [Nat.testBit_and,Nat.testBit_two_pow,Nat.zero_testBit]
   by_cases e:k=i
   ·subst e;rw [ht];rfl
   ·simp [e]
  rw [this];rfl
 ·have:(m &&& 2 ^ k).testBit k=true:=by rw [Nat.testBit_and,ht,Nat.testBit_two_pow];simp
  have h0:m &&& 2 ^ k≠0:=fun e=>by rw [e,Nat.zero_testBit] at this;cases this
  simp only [bne_iff_ne,ne_eq]
  omega
theorem zvm (m x:Nat) (W:World) (hm:m<4294967296) (h1:65≤x) (h2:x≤90):Calls Tryz.prog 102 #[.int .u32 m,.int .u8 x] W fun e w'=>e=.returned (.bool (m.testBit (x - 65)))∧w'=W:=by
 obtain ⟨k,rfl⟩:∃ k,x=k+65:=⟨x - 65,by omega⟩
 have hk:k≤25:=by omega
 have hb:(bits .and .u32 (m:Int) (2 ^ k % 4294967296) != 0)=m.testBit k:=by
  rw [shl32 hk,zyd _ _ hm (by have:=two26 hk;omega),and_bit]
 rw [Nat.add_sub_cancel]
 go_enter Tryz.func102,Tryz.ntmps102
 go_wp2
 go_ret
 exact ⟨rfl,rfl⟩
theorem zvu (B m x:Nat) (W:World) (hB:W.heap[B]? = some (.cells #[.int .u32 m] 180 (0,0))) (hm:m<4294967296) (h1:65≤x) (h2:x≤90):Calls Tryz.prog 103 #[.pointer (some ⟨B,0,none⟩),.int .u8 x] W fun e w'=>e=.returned (.tuple #[])∧w'.heap[B]? = some (.cells #[.int .u32 ((m ||| 2 ^ (x - 65):Nat):Int)] 180 (0,0))∧w'=W.setCell ⟨B,0,none⟩ (.int .u32 ((m ||| 2 ^ (x - 65):Nat):Int)):=by
 obtain ⟨k,rfl⟩:∃ k,x=k+65:=⟨x - 65,by omega⟩
 have hk:k≤25:=by omega
 have hb:bits .or .u32 (m:Int) (2 ^ k % 4294967296)=((m ||| 2 ^ k:Nat):Int):=by
  rw [shl32 hk,zzb _ _ hm (by have:=two26 hk;omega)]
 have c0:W.cell? ⟨B,0,none⟩=some (.int .u32 m):=by simp [World.cell?,hB]
 have f0:W.frozen? ⟨B,0,none⟩=false:=by simp [World.frozen?,hB]
 rw [Nat.add_sub_cancel]
 go_enter Tryz.func103,Tryz.ntmps103
 go_wp2
 go_end0
 refine ⟨rfl,?_,rfl⟩
 simp [World.setCell,Array.getElem?_modify,hB]
def zr8 (m:Nat) (l:List Nat):Nat:=l.foldl (fun m x=>m ||| 2 ^ (x - 65)) m
def zc2 (l:List Nat):Nat:=zr8 0 l
theorem zou (m:Nat) (l:List Nat) (x:Nat):zr8 m (l ++ [x])=zr8 m l ||| 2 ^ (x - 65):=by simp [zr8,List.foldl_append]
theorem zhu (k:Nat):∀ (l:List Nat) (m:Nat),(zr8 m l).testBit k=(m.testBit k || l.any fun x=>decide (x - 65=k))
 | [],m=>by simp [zr8]
 | x :: l,m=>by
  have ih:=zhu k l (m ||| 2 ^ (x - 65))
  unfold zr8 at ih ⊢
  rw [List.foldl_cons,ih,Nat.testBit_or,Nat.testBit_two_pow]
  simp [Bool.or_assoc]
theorem znw {l:List Nat} (hl:∀ x∈l,65≤x) {x:Nat} (hx:65≤x):(zc2 l).testBit (x - 65)=decide (x∈l):=by
 unfold zc2
 rw [zhu]
 simp only [Nat.zero_testBit,Bool.false_or]
 rw [Bool.eq_iff_iff]
 simp only [List.any_eq_true,decide_eq_true_eq]
 constructor
 ·rintro ⟨y,hy,e⟩
  have:=hl y hy
  have:y=x:=by omega
  exact this ▸ hy
 ·exact fun h=>⟨x,h,rfl⟩
theorem zvp:∀ (l:List Nat) (m:Nat),(∀ x∈l,x≤90)→m<2 ^ 26→zr8 m l<2 ^ 26
 | [],m,_,h=>h
 | x :: l,m,hl,h=>by
  have hx:=hl x (by simp)
  exact zvp l (m ||| 2 ^ (x - 65)) (fun y hy=>hl y (by simp [hy])) (Nat.or_lt_two_pow h (by have:=two26 (show x - 65≤25 by omega);have:2 ^ (x - 65)≤2 ^ 25:=Nat.pow_le_pow_right (by omega) (by omega);omega))
theorem zph {l:List Nat} (hl:∀ x∈l,x≤90):zc2 l<4294967296:=by
 have:=zvp l 0 hl (by omega)
 unfold zc2
 omega
theorem zw3 {l l':List Nat} (h:l.Perm l'):zc2 l=zc2 l':=by
 apply Nat.eq_of_testBit_eq
 intro i
 unfold zc2
 rw [zhu,zhu]
 congr 1
 rw [Bool.eq_iff_iff]
 simp only [List.any_eq_true,decide_eq_true_eq]
 constructor
 ·rintro ⟨y,hy,e⟩;exact ⟨y,h.mem_iff.1 hy,e⟩
 ·rintro ⟨y,hy,e⟩;exact ⟨y,h.mem_iff.2 hy,e⟩
end Go.Proofs.YtoifcnidhfnapaaGreatDoor
namespace Go.Proofs.YtoifcnidhfnapaaGreatDoor
open Go.RowKit Go.Maps
structure Rdr (W:World) (RB:Nat) (s:ByteArray) (p:Nat):Prop where
 blk:W.heap[RB]? = some (.cells #[.string s,.int .i64 p] 245 (0,0))
 le:p≤s.size
 sz:s.size≤300
theorem Rdr.keep {W W':World} {RB:Nat} {s:ByteArray} {p:Nat} (h:Rdr W RB s p) (hb:W'.heap[RB]? = W.heap[RB]?):Rdr W' RB s p:=⟨hb.trans h.blk,h.le,h.sz⟩
theorem Rdr.lt {W:World} {RB:Nat} {s:ByteArray} {p:Nat} (h:Rdr W RB s p):RB<W.heap.size:=(Array.getElem?_eq_some_iff.1 h.blk).1
theorem Rdr.below {W W':World} {RB:Nat} {s:ByteArray} {p:Nat} (h:Rdr W RB s p) (hb:Below W.heap.size W W'):Rdr W' RB s p:=h.keep (hb.block RB h.lt)
theorem zd2 (n q:Nat) (w:World):Below n w (w.drewN q):=⟨rfl,rfl,rfl,Nat.le_refl _,fun _ _=>rfl⟩
theorem ze0 {W:World} {RB:Nat} {s:ByteArray} {p q:Nat} (h:Rdr W RB s p) (hq:q≤s.size):Rdr (W.setCell ⟨RB,1,none⟩ (.int .i64 q)) RB s q:=by
 refine ⟨?_,hq,h.sz⟩
 simp only [World.setCell]
 rw [Array.getElem?_modify,if_pos rfl,h.blk]
 rfl
theorem za0 (w:World) (b o:Nat) (v:Value):KeepX (fun q=>q=b) w (w.setCell ⟨b,o,none⟩ v):=
 ⟨rfl,rfl,rfl,(KeepsWalks.setCell w _ v).size,fun k _ hk=>Below.heap_setCell _ _ _ k (fun e=>hk (by rw [e]))⟩
theorem Rdr.c0 {W:World} {RB:Nat} {s:ByteArray} {p:Nat} (h:Rdr W RB s p):W.cell? ⟨RB,0,none⟩=some (.string s):=zab h.blk 0
theorem Rdr.c1 {W:World} {RB:Nat} {s:ByteArray} {p:Nat} (h:Rdr W RB s p):W.cell? ⟨RB,1,none⟩=some (.int .i64 p):=zab h.blk 1
theorem Rdr.f1 {W:World} {RB:Nat} {s:ByteArray} {p:Nat} (h:Rdr W RB s p):W.frozen? ⟨RB,1,none⟩=false:=zac h.blk 1
set_option maxRecDepth 100000 in
set_option maxHeartbeats 1000000 in
theorem ze2 (RB:Nat) (s:ByteArray) (p:Nat) (W:World) (h:Rdr W RB s p) :
  Calls Tryz.prog 182 #[.pointer (some ⟨RB,0,none⟩)] W fun e w'=>e=.returned (.int .u8 (zam s p))∧za4 W w':=by
 have c0:=h.c0
 have c1:=h.c1
 have hle:=h.le
 have hsz:=h.sz
 clear h
 by_cases hp:p=s.size
 ·rw [zn6 (by omega)]
  have hpz:(p:Int)=(s.size:Int):=by omega
  subst hp
  clear hpz
  go_enter Tryz.func182,Tryz.ntmps182
  go_wp2_with fail
  go_quiet (fail)
  go_wp2
  go_ret
  exact ⟨rfl,⟨_,rfl⟩⟩
 ·have hlt:p<s.size:=by omega
  have hpz:¬ (p:Int)=(s.size:Int):=by omega
  rw [zzu hlt]
  go_enter Tryz.func182,Tryz.ntmps182
  go_wp2_with fail
  go_quiet (fail)
  go_wp2_with fail
  go_quiet (fail)
  go_wp2
  go_ret
  exact ⟨rfl,za4.trans ⟨_,rfl⟩ ⟨_,rfl⟩⟩
theorem za4.bel {W W':World} (h:za4 W W'):Below W.heap.size W W':=by
 obtain ⟨n,rfl⟩:=h
 exact zd2 _ _ _
set_option maxRecDepth 100000 in
set_option maxHeartbeats 1000000 in
theorem zvs (RB:Nat) (s:ByteArray) (p:Nat) (W:World) (h:Rdr W RB s p) :
  Calls Tryz.prog 185 #[.pointer (some ⟨RB,0,none⟩)] W fun e w'=>e=.returned (.tuple #[])∧Rdr w' RB s (za2 s p)∧KeepX (fun q=>q=RB) W w':=by
 have H:=hide h
 clear h
 go_enter Tryz.func185,Tryz.ntmps185
 go_wp2
 go_loopw [] (fun wr=>∃ q,Rdr wr RB s q∧za2 s q=za2 s p∧KeepX (fun q=>q=RB) W wr) (fun wr=>s.size - (match wr.cell? ⟨RB,1,none⟩ with|some (.int _ z)=>z.toNat|_=>0))
 case atStart=>exact ⟨p,zaa H,rfl,KeepX.refl _ _⟩
 case round =>
  obtain ⟨q,hR,hs,hK⟩:=hrel
  have hh:=ze2 RB s q wr hR
  by_cases hb:zam s q=32
  ·have hlt:q<s.size:=zc9 (by omega)
   have hgo:za2 s q=za2 s (q+1):=ybl hlt (by simp [isBl,hb])
   rw [hb] at hh
   have c1:=hR.c1
   have hsz:=hR.sz
   have Hh:=hide hh
   have HR:=hide hR
   have HK:=hide hK
   have Hs:=hide (hgo.symm.trans hs)
   clear hh hR hK hs hgo
   go_wp2_with (first|(go_at_call 182;refine (zaa Hh).mono ?_;rintro e w1 ⟨rfl,hd⟩;have hR1:=(zaa HR).below hd.bel;have d1:=hR1.c1;have f1:=hR1.f1;have HR1:=hide hR1;have Hd:=hide hd;clear hR1 hd))
   have hR2:=ze0 (q:=q+1) (zaa HR1) (by omega)
   have hR2':Rdr (w1.setCell ⟨RB,1,none⟩ (.int .i64 ((q:Int)+1))) RB s (q+1):=hR2
   refine ⟨⟨q+1,hR2',zaa Hs,((zaa HK).trans (KeepX.ofBelow (zaa Hd).bel)).trans (za0 _ _ _ _)⟩,?_⟩
   rw [hR2'.c1,c1]
   simp
   omega
  ·have hst:za2 s q=q:=zsn (by simp [isBl,hb])
   have hbz:¬ (zam s q:Int)=32:=by omega
   have Hh:=hide hh
   have HR:=hide hR
   have HK:=hide hK
   have Hs:=hide (hst.symm.trans hs)
   clear hh hR hK hs hst
   generalize zam s q=bq at *
   go_wp2_with (first|(go_at_call 182;refine (zaa Hh).mono ?_;rintro e w1 ⟨rfl,hd⟩;have Hd:=hide hd;clear hd))
   go_end0
   refine ⟨rfl,?_,(zaa HK).trans (KeepX.ofBelow (zaa Hd).bel)⟩
   rw [← zaa Hs]
   exact (zaa HR).below (zaa Hd).bel
set_option maxRecDepth 100000 in
set_option maxHeartbeats 1000000 in
theorem zfk (RB:Nat) (s:ByteArray) (p:Nat) (W:World) (h:Rdr W RB s p) :
  Calls Tryz.prog 180 #[.pointer (some ⟨RB,0,none⟩)] W fun e w'=>e=.returned (.tuple #[.int .i64 (za2 s p),.int .u8 (zam s (za2 s p))])∧Rdr w' RB s (za2 s p)∧KeepX (fun q=>q=RB) W w':=by
 have H:=hide (zvs RB s p W h)
 have hl:=h.lt
 clear h
 obtain ⟨q,hq⟩:∃ q,q=za2 s p:=⟨_,rfl⟩
 rw [← hq] at H ⊢
 clear hq
 obtain ⟨bq,hbq⟩:∃ bq,bq=zam s q:=⟨_,rfl⟩
 rw [← hbq]
 go_enter Tryz.func180,Tryz.ntmps180
 go_wp2_with fail
 refine (zaa H).mono ?_
 rintro e w1 ⟨rfl,hR1,hK1⟩
 have c1:=hR1.c1
 have hh:=fun n=>ze2 RB s q (w1.drewN n) (hR1.below (zd2 _ _ _))
 rw [← hbq] at hh
 have Hh:=hide hh
 have HR:=hide hR1
 have HK:=hide hK1
 clear hR1 hK1 hh H hbq
 go_wp2_with fail
 go_quiet ((go_at_call 182;exact zfv ((zaa Hh) _)))
 go_wp2
 refine bodyPost_ret (v:=.tuple #[.int .i64 q,.int .u8 bq]) (by simp [results,Tryz.results180,go_sem]) rfl ⟨rfl,(zaa HR).below (zd2 _ _ _),(zaa HK).trans (KeepX.ofBelow (zd2 _ _ _))⟩
set_option maxRecDepth 100000 in
set_option maxHeartbeats 1000000 in
theorem zjv (RB:Nat) (s:ByteArray) (p c:Nat) (hc0:c≠0) (W:World) (h:Rdr W RB s p) :
  Calls Tryz.prog 177 #[.pointer (some ⟨RB,0,none⟩),.int .u8 c] W fun e w'=>e=.returned (.bool (decide (zam s (za2 s p)=c)))∧Rdr w' RB s (if zam s (za2 s p)=c then za2 s p+1 else za2 s p)∧KeepX (fun q=>q=RB) W w':=by
 have H:=hide (zfk RB s p W h)
 have hsz:=h.sz
 clear h
 obtain ⟨q,hq⟩:∃ q,q=za2 s p:=⟨_,rfl⟩
 rw [← hq] at H ⊢
 clear hq
 obtain ⟨bq,hbq⟩:∃ bq,bq=zam s q:=⟨_,rfl⟩
 rw [← hbq] at H ⊢
 by_cases hb:bq=c
 ·subst hb
  have hlt:q<s.size:=zc9 (by omega)
  rw [if_pos rfl,decide_eq_true rfl]
  clear hbq
  go_enter Tryz.func177,Tryz.ntmps177
  go_wp2_with (first|(go_at_call 180;refine (zaa H).mono ?_;rintro e w1 ⟨rfl,hR1,hK1⟩;have d1:=hR1.c1;have f1:=hR1.f1;have HR1:=hide hR1;have HK1:=hide hK1;clear hR1 hK1))
  go_ret
  exact ⟨rfl,ze0 (q:=q+1) (zaa HR1) (by omega),(zaa HK1).trans (za0 _ _ _ _)⟩
 ·have hbz:¬ (bq:Int)=(c:Int):=by omega
  rw [if_neg hb,decide_eq_false hb]
  clear hbq
  go_enter Tryz.func177,Tryz.ntmps177
  go_wp2_with (first|(go_at_call 180;refine (zaa H).mono ?_;rintro e w1 ⟨rfl,hR1,hK1⟩;have HR1:=hide hR1;have HK1:=hide hK1;clear hR1 hK1))
  go_ret
  exact ⟨rfl,zaa HR1,zaa HK1⟩
inductive ErrAt (B:Nat) (W:World):Value→Nat→Nat→Prop
 | fault {b c q:Nat} (hb:B≤b) (h:W.heap[b]? = some (.cells #[.int .i64 c,.int .i64 q] 178 (0,0))):ErrAt B W (.iface 174 (.pointer (some ⟨b,0,none⟩))) c q
 | wrap {b c q:Nat} {t:ByteArray} {v:Value} (hb:B≤b) (h:W.heap[b]? = some (.cells #[.string t,v] 301 (0,0))) (hv:ErrAt B W v c q):ErrAt B W (.iface 299 (.pointer (some ⟨b,0,none⟩))) c q
theorem ErrAt.keep {B:Nat} {W W':World} {v:Value} {c q:Nat} (h:ErrAt B W v c q) {X:Nat→Prop} (hk:KeepX X W W') (hX:∀ k,X k→k<B):ErrAt B W' v c q:=by
 induction h with
 | fault hb h=>exact .fault hb ((hk.blk _ (Array.getElem?_eq_some_iff.1 h).1 (fun x=>by have:=hX _ x;omega)).trans h)
 | wrap hb h _ ih=>exact .wrap hb ((hk.blk _ (Array.getElem?_eq_some_iff.1 h).1 (fun x=>by have:=hX _ x;omega)).trans h) ih
theorem ErrAt.bel {B:Nat} {W W':World} {v:Value} {c q:Nat} (h:ErrAt B W v c q) (hk:Below W.heap.size W W'):ErrAt B W' v c q:=h.keep (X:=fun _=>False) (KeepX.ofBelow hk) (fun _ h=>h.elim)
theorem ErrAt.mono {B B':Nat} {W:World} {v:Value} {c q:Nat} (h:ErrAt B W v c q) (hB:B'≤B):ErrAt B' W v c q:=by
 induction h with
 | fault hb h=>exact .fault (Nat.le_trans hB hb) h
 | wrap hb h _ ih=>exact .wrap (Nat.le_trans hB hb) h ih
theorem ErrAt.form {B:Nat} {W:World} {v:Value} {c q:Nat} (h:ErrAt B W v c q):∃ t b,v=.iface t (.pointer (some ⟨b,0,none⟩))∧(t=174∨t=299):=by
 cases h with
 | fault hb h=>exact ⟨_,_,rfl,.inl rfl⟩
 | wrap hb h _=>exact ⟨_,_,rfl,.inr rfl⟩
set_option maxRecDepth 100000 in
theorem zfa (RB:Nat) (s:ByteArray) (p:Nat) (W:World) (h:Rdr W RB s p) :
  Calls Tryz.prog 181 #[.pointer (some ⟨RB,0,none⟩)] W fun e w'=>∃ v,e=.returned v∧ErrAt W.heap.size w' v 5 p∧Below W.heap.size W w':=by
 have c1:=h.c1
 clear h
 go_enter Tryz.func181,Tryz.ntmps181
 go_wp2
 go_ret
 exact ⟨_,rfl,.fault (Nat.le_refl _) (zad _ _ _ rfl),(Below.refl _ _).alloc (Nat.le_refl _) _⟩
set_option maxRecDepth 100000 in
theorem zi4 (RB:Nat) (s:ByteArray) (p c:Nat) (hc0:c≠0) (W:World) (h:Rdr W RB s p) :
  Calls Tryz.prog 176 #[.pointer (some ⟨RB,0,none⟩),.int .u8 c] W fun e w'=>(∃ q,zih s c p=.ok q∧e=.returned .nilIface∧Rdr w' RB s q∧KeepX (fun q=>q=RB) W w')∨(∃ q v,zih s c p=.error q∧e=.returned v∧ErrAt W.heap.size w' v 5 q∧KeepX (fun q=>q=RB) W w'):=by
 have H:=hide (zjv RB s p c hc0 W h)
 clear h
 unfold zih
 by_cases hb:zam s (za2 s p)=c
 ·rw [if_pos hb,decide_eq_true hb] at H
  rw [if_pos hb]
  clear hb
  go_enter Tryz.func176,Tryz.ntmps176
  go_wp2_with (first|(go_at_call 177;refine (zaa H).mono ?_;rintro e w1 ⟨rfl,hR1,hK1⟩;have HR1:=hide hR1;have HK1:=hide hK1;clear hR1 hK1))
  go_ret
  exact .inl ⟨_,rfl,rfl,zaa HR1,zaa HK1⟩
 ·rw [if_neg hb,decide_eq_false hb] at H
  rw [if_neg hb]
  clear hb
  go_enter Tryz.func176,Tryz.ntmps176
  go_wp2_with fail
  refine (zaa H).mono ?_
  rintro e w1 ⟨rfl,hR1,hK1⟩
  have Hf:=hide (zfa RB s _ w1 hR1)
  have HK1:=hide hK1
  clear hR1 hK1 H
  go_wp2_with fail
  refine (zaa Hf).mono ?_
  rintro e w2 ⟨v,rfl,hE,hb2⟩
  have HE:=hide hE
  have Hb2:=hide hb2
  clear hE hb2
  go_wp2
  go_ret
  exact .inr ⟨_,_,rfl,rfl,(zaa HE).mono (zaa HK1).size,(zaa HK1).trans (KeepX.ofBelow (zaa Hb2))⟩
set_option maxRecDepth 100000 in
theorem zss (t:ByteArray) (W:World):Calls Tryz.prog 139 #[.string t,.nilIface] W fun e w'=>e=.returned .nilIface∧w'=W:=by
 go_enter Tryz.func139,Tryz.ntmps139
 go_wp2
 go_ret
 exact ⟨rfl,rfl⟩
set_option maxRecDepth 100000 in
theorem zqu (t:ByteArray) (v:Value) (B c q:Nat) (W:World) (h:ErrAt B W v c q) (hB:B≤W.heap.size):Calls Tryz.prog 139 #[.string t,v] W fun e w'=>∃ v',e=.returned v'∧ErrAt B w' v' c q∧Below W.heap.size W w':=by
 obtain ⟨ty,b,rfl,ht⟩:=h.form
 have H:=hide h
 clear h
 go_enter Tryz.func139,Tryz.ntmps139
 go_wp2
 go_ret
 exact ⟨_,rfl,.wrap hB (zad _ _ _ rfl) ((zaa H).bel ((Below.refl _ _).alloc (Nat.le_refl _) _)),(Below.refl _ _).alloc (Nat.le_refl _) _⟩
end Go.Proofs.YtoifcnidhfnapaaGreatDoor
