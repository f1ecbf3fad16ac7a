import Derived.Test.YtoifcnidhfnapaaGreatDoorB35
set_option linter.unusedVariables false
set_option linter.unusedSimpArgs false
set_option maxRecDepth 100000
set_option maxHeartbeats 16000000
namespace Go.Proofs.YtoifcnidhfnapaaGreatDoor
open Go.RowKit Go.Maps Go.Sort Go.Shelf
def zcs (st:St) (ixs:IxS) (vws:VwS) (q:Nat):Prop:=(∃ nm R,st nm=some R∧q=R.mb)∨(∃ k x,ixs k=some x∧zlr x.XB x.rv q)∨∃ nm v,vws nm=some v∧q=v.mb
def chf (ch:Ch) (nm:ByteArray):Row→Int:=match ch nm with
 | some p=>p.2
 | none=>fun _=>0
structure zwa (DI:DataW Unit) (ixs:IxS):Prop where
 has:∀ k,WfK k→Maps.has DI (za9 k)=(ixs k).isSome
 at':∀ k x,ixs k=some x→WfK k∧∀ zd,DI.atKey (za9 k) zd=.lit (.int .i64 x.XB)
 all:∀ l,Maps.has DI l=true→∃ k x,ixs k=some x∧l=za9 k
structure yia (DV:DataW Unit) (nV:Nat) (vws:VwS):Prop where
 size:Maps.size DV=nV
 has:∀ nm,nm.size≤maxLen→Maps.has DV (zas nm)=(vws nm).isSome
 at':∀ nm v,vws nm=some v→nm.size≤8∧∀ zd,DV.atKey (zas nm) zd=.lit (.int .i64 v.VB)
def mkK (p:ByteArray×Int×Int×Int):Value:=.agg #[.string p.1,.int .i64 p.2.1,.int .i64 p.2.2.1,.int .i64 p.2.2.2]
theorem yls:∀ key kl,keyOf Tryz.prog 96 key=some kl→∃ p,key=mkK p:=by
 intro key kl h
 obtain ⟨s,x,y,z,rfl⟩:=zr7 h
 exact ⟨(s,x,y,z),rfl⟩
theorem zuk:∀ v y,zap v=some y→∃ o:Option Addr,v=Value.pointer o:=by
 intro v y h
 unfold zap at h
 split at h
 ·exact ⟨_,rfl⟩
 ·exact ⟨_,rfl⟩
 ·cases h
theorem yil {DI:DataW Unit} {ixs:IxS} (hI:zwa DI ixs) {p:ByteArray×Int×Int×Int} {o:Option Addr} {kl:Lit} {y:DataW Unit×List MemPlace} (hkey:keyOf Tryz.prog 96 (mkK p)=some kl) (hv:zap (.pointer o)=some y) (hat:∀ zd,DI.atKey kl zd=y.1) :
  ∃ k x,ixs k=some x∧kl=za9 k∧p=(k.nm,(k.c0:Int),(k.c1:Int),(k.c2:Int))∧o=some ⟨x.XB,0,none⟩:=by
 obtain ⟨k,x,hx,hl⟩:=hI.all kl (has_true_of_atKey hat)
 obtain ⟨hw,ha⟩:=hI.at' k x hx
 subst hl
 refine ⟨k,x,hx,rfl,?_,?_⟩
 ·have:=ydn.inj hkey (zhd hw)
  unfold mkK ydm at this
  obtain ⟨a,b,c,d⟩:=p
  simp at this
  obtain ⟨rfl,rfl,rfl,rfl⟩:=this
  rfl
 ·have h2:=ha .nil
  rw [hat] at h2
  have h3:zap (.pointer o)=some (.lit (.int .i64 x.XB),y.2):=by rw [hv,← h2]
  have h4:=zdz h3
  cases h4
  rfl
theorem yln {DV:DataW Unit} {nV:Nat} {vws:VwS} (hV:yia DV nV vws) {s:ByteArray} {o:Option Addr} {kl:Lit} {y:DataW Unit×List MemPlace} (hkey:keyOf Tryz.prog 9 (.string s)=some kl) (hv:zap (.pointer o)=some y) (hat:∀ zd,DV.atKey kl zd=y.1) :
  ∃ v,vws s=some v∧kl=zas s∧o=some ⟨v.VB,0,none⟩:=by
 obtain ⟨s',e,rfl,hs⟩:=zfs hkey
 cases e
 have h1:=hV.has s hs
 rw [has_true_of_atKey hat] at h1
 cases hc:vws s with
 | none=>rw [hc] at h1;cases h1
 | some v =>
  have h2:=(hV.at' s v hc).2 .nil
  rw [hat] at h2
  have h3:zap (.pointer o)=some (.lit (.int .i64 v.VB),y.2):=by rw [hv,← h2]
  have h4:=zdz h3
  cases h4
  exact ⟨v,rfl,rfl,rfl⟩
theorem zce.getN {w:World} {cb B n:Nat} {ch:Ch} (h:zce w cb B n ch) {nm:ByteArray} (hn:nm.size≤maxLen) :
  ∃ o,(Instr.lookup 136 (.map (some cb)) (.string nm) false).run Tryz.prog w=.ok (.map o) w∧zzr w (.map o) n (chf ch nm):=by
 obtain ⟨D,hown,hhas,hat⟩:=h.dir
 obtain ⟨v,ps,hrun,hv⟩:=hown.lookup zoo Tryz.underlying136 (yfk _) (zd:=.lit (.int .i64 (-1))) (zp:=[]) rfl (zdj hn)
 unfold chf
 cases hc:ch nm with
 | none =>
  have h0:Maps.has D (zas nm)=false:=by rw [hhas nm hn,hc];rfl
  rw [atKey_of_not_has h0] at hv
  rw [zm3 hv] at hrun
  exact ⟨none,hrun,.inl ⟨rfl,fun _=>rfl⟩⟩
 | some p =>
  rw [hat nm p hn hc] at hv
  rw [zj8 hv] at hrun
  exact ⟨some p.1,hrun,.inr ⟨p.1,rfl,(h.each nm p hc).1⟩⟩
theorem KeepX.aside {X:Nat→Prop} {A B C:World} {r:Nat} (h:KeepX X A B) (hk:KeepX (fun q=>q=r) B C) (hr:A.heap.size≤r):KeepX X A C:=
 ⟨hk.os.trans h.os,hk.tape.trans h.tape,hk.output.trans h.output,Nat.le_trans h.size hk.size,fun q hq hx=>(hk.blk q (Nat.lt_of_lt_of_le hq h.size) (by omega)).trans (h.blk q hq hx)⟩
theorem KeepX.ofGrown {w w':World} {r:Nat} (hg:w.grownBy w' (some r)):KeepX (fun q=>q=r) w w':=⟨hg.os,hg.tape,hg.output,hg.size,fun q hq hx=>hg.block q hq (fun e=>hx (Option.some.inj e))⟩
section
variable {W W':World} {fix:Nat→Prop} {eb db nD nI nV:Nat} {DI DV:DataW Unit} {st:St} {ixs:IxS} {vws:VwS} {ik:IkS}
theorem zgk.below (h:zgk W fix eb db nD nI nV DI DV st ixs vws ik) (hb:Below W.heap.size W W'):zgk W' fix eb db nD nI nV DI DV st ixs vws ik:=by
 have hf:∀ k,fix k→W'.heap[k]? = W.heap[k]?:=fun k hk=>hb.block k (h.flt k hk)
 have hk:KeepX (fun _=>False) W W':=KeepX.ofBelow hb
 refine h.keep hk (fun _ h=>h.elim) (fun k x hx=>?_) h.iap (fun nm v hv=>?_) h.vap h.vrel
 ·obtain ⟨a,b,d⟩:=h.idx k x hx
  exact ⟨a,b,d.kept hk (fun _ h=>h.elim) (fun h=>h) (fun _ _ h=>h)⟩
 ·have a:=h.vw nm v hv
  exact a.kept hf (hb.block _ a.map.lt)
theorem zgk.iter (h:zgk W fix eb db nD nI nV DI DV st ixs vws ik) {r:Nat} {o:Option Nat} {a:Nat} {b:Array Nat} {c:Nat} (hr:W.heap[r]? = some (.mapIter o a b c)) (hf:¬ fix r) (hk:KeepX (fun q=>q=r) W W'):zgk W' fix eb db nD nI nV DI DV st ixs vws ik:=by
 have hC:∀ q,zfm W q→q≠r:=by
  rintro q ⟨cs,t,p,h1⟩ rfl
  rw [hr] at h1
  cases h1
 have hM:∀ {k:TypeId} {R:Value→Option (DataW Unit×List MemPlace)} {b n:Nat} {D:DataW Unit},W.ownsMap Tryz.prog k R b n D→r≠b:=fun ho e=>by
  obtain ⟨es,cl,hm,_⟩:=ho
  rw [← e,hr] at hm
  cases hm
 have hE:∀ q,q=r→¬ zct W q:=by
  rintro q rfl ⟨cs,hcs⟩
  rw [hr] at hcs
  cases hcs
 have hfx:∀ k,fix k→W'.heap[k]? = W.heap[k]?:=fun k hk'=>hk.blk k (h.flt k hk') (fun e=>hf (e ▸ hk'))
 obtain ⟨D,hD,_⟩:=h.rep.dir
 refine h.keep hk (fun q hq=>hq ▸ ⟨hf,hM hD,hM h.imap,hM h.vmap,fun nm R hR=>?_⟩) (fun k x hx=>?_) h.iap (fun nm v hv=>?_) h.vap h.vrel
 ·obtain ⟨D',h1,_⟩:=(h.rep.rel nm R hR).2
  exact hM h1
 ·obtain ⟨a,b,d⟩:=h.idx k x hx
  exact ⟨a,b,d.kept hk hE (fun e=>hC _ (d.io.cellsX _ (.inl rfl)) e) (fun g hg e=>hC _ (d.io.cellsX _ (.inr hg)) e)⟩
 ·have a:=h.vw nm v hv
  obtain ⟨D',h1,_⟩:=a.map
  exact a.kept hfx (hk.blk _ h1.lt (Ne.symm (hM h1)))
end
theorem zkd {P:Program} {k:TypeId} {R:Value→Option (DataW Unit×List MemPlace)} {w:World} {b r n:Nat} {D:DataW Unit} {left:Lit→Bool} {cnt:Nat} (h:w.ranges P k R b r n D left cnt):∃ o a b c,w.heap[r]? = some (.mapIter o a b c):=by
 obtain ⟨es,clock,since,seen,c0,_,_,_,_,h5,_⟩:=h
 exact ⟨_,_,_,_,h5⟩
def zid (st:St) (ch:Ch) (N n:Nat) (ixs:IxS) (ik:IkS) (p:zg2→Prop):Prop:=
 ∀ k x,ixs k=some x→(ik k).N=N∧(∃ R,st k.nm=some R∧(ik k).f=R.f)∧(¬ p k→(ik k).es=[])∧(p k→zrk k.c0 k.c1 k.c2 (chf ch k.nm) (ik k).es∧(ik k).es.length≤n)
def yb1 (st:St) (ch:Ch) (v:zec):Prop:=∀ L:Nat→List zaj,(∀ i,i<v.B.length→∃ R,st (v.B[i]?.getD zat).nm=some R∧zpu (fun r=>R.f r+chf ch (v.B[i]?.getD zat).nm r) (L i))→∀ h,BitVec.ofInt 64 (v.f h)=zpj (v.B.map (·.ts)) (v.H.map (·.1)) L h
def zjn (st:St) (ch:Ch) (N n:Nat) (vws vws':VwS) (p:ByteArray→Prop):Prop:=
 (∀ nm,vws nm=none→vws' nm=none)∧∀ nm v,vws nm=some v→∃ n' f',vws' nm=some { v with n:=n',f:=f' }∧(¬ p nm→n'=v.n∧f'=v.f)∧(p nm→n'≤v.n+4*(N+n) ^ 4∧yb1 st ch { v with n:=n',f:=f' })
def zgl (W:World) (st:St) (ch:Ch) (N n:Nat) (ixs ixs':IxS) (ik ik':IkS) (p:zg2→Prop):Prop:=
 (∀ k,ixs k=none→ixs' k=none)∧∀ k x,ixs k=some x→∃ x',ixs' k=some x'∧x'.XB=x.XB∧(¬ p k→x'=x∧ik' k=ik k)∧(p k→∃ R,st k.nm=some R∧ik' k=⟨N+n,fun r=>R.f r+chf ch k.nm r,[]⟩)∧∀ g,x'.rv.ownBlock=some g→x.rv.ownBlock=some g∨W.heap.size≤g
section
variable {W W':World} {fix:Nat→Prop} {eb db nD nI nV N n:Nat} {DI DV:DataW Unit} {st:St} {ch:Ch} {ixs ixs':IxS} {vws vws':VwS} {ik ik':IkS}
def yld (ixs:IxS) (ik:IkS) (v:zec) (i:Nat):List (List zaj)×List zaj:=match ixs (zhp v.vs (v.B[i]?.getD zat)) with
 | some x=>(x.rs,(ik (zhp v.vs (v.B[i]?.getD zat))).es)
 | none=>([],[])
theorem zgk.ixW (h:zgk W fix eb db nD nI nV DI DV st ixs vws ik) (hi:zid st ch N n ixs ik (fun _=>True)) {nm:ByteArray} {v:zec} (hv:vws nm=some v):IxW W N n st (chf ch) v.B v.vs (yld ixs ik v):=by
 intro i hi'
 obtain ⟨x,hx,_⟩:=(h.vw nm v hv).idx i hi'
 obtain ⟨a,⟨R,b,b'⟩,c,d⟩:=hi _ x hx
 have:=(h.idx _ x hx).2.2
 rw [a,b'] at this
 exact ⟨R,x,_,b,⟨this,(d trivial).1,(d trivial).2⟩,by unfold yld;rw [hx]⟩
theorem zgk.gain (h:zgk W fix eb db nD nI nV DI DV st ixs vws ik) (hi:zid st ch N n ixs ik (fun _=>True)) {nm:ByteArray} {v:zec} (hv:vws nm=some v) (hN:N+n≤100000000) (h1:1≤N+n) (hh:yb0 st v) (hn:v.n+4*(N+n) ^ 4≤9000000000000000000) :
  Calls Tryz.prog 122 #[.pointer (some ⟨v.VB,0,none⟩)] W fun e w'=>e=.returned (.tuple #[])∧∃ n' f',zgk w' fix eb db nD nI nV DI DV st ixs (zib vws nm { v with n:=n',f:=f' }) ik∧n'≤v.n+4*(N+n) ^ 4∧yb1 st ch { v with n:=n',f:=f' }∧KeepX (fun q=>q=v.mb) W w':=by
 have hV:=h.vw nm v hv
 have hW:=h.ixW hi hv
 have hF:=hV.fit
 have hO:=zv7.of_perm hV.ord
 obtain ⟨iv,hb,hp⟩:=hV.blk
 obtain ⟨base,hP⟩:=hV.plan
 have hb4:v.B.length≤4:=hF.ok.b4
 have hPl:=hP.now.planAt hO (by simpa using hF.ok.h4) hb4
 have ha:=fun a=>hW.around hF hV.ord hN a
 refine (yge v.VB v.PB v.mb v.n v.B.length ((N+n) ^ 4) iv _ v.f _ _ v.xs (yld ixs ik v) W hb hV.map hPl hp.now hV.len (fun i hi'=>?_) (fun a _=>(ha a).1) (fun a _=>yey (ha a).1 (by simp) hb4 h1 (ha a).2) hn).mono ?_
 ·rw [hV.len] at hi'
  obtain ⟨x,hx,e⟩:=hV.idx i hi'
  have hI:=(h.idx _ x hx).2.2
  obtain ⟨a,_,_,d⟩:=hi _ x hx
  have:=(d trivial).2
  have ht:=hI.tot
  rw [e]
  unfold yld
  rw [hx]
  exact hI.io.idxAt hI.good.full (by omega)
 ·rintro e w' ⟨rfl,⟨f',hM,hf⟩,hk⟩
  refine ⟨rfl,_,f',h.gained hv hk hM,?_,?_,hk⟩
  ·have:v.B.length*(N+n) ^ 4≤4*(N+n) ^ 4:=Nat.mul_le_mul_right _ hb4
   omega
  ·exact fun L hL q=>yac hW hF hV.ord hN hh hf L hL q
theorem zgk.bring (h:zgk W fix eb db nD nI nV DI DV st ixs vws ik) {k:zg2} {x:zmr} (hx:ixs k=some x) {o:Option Nat} (hM:zzr W (.map o) n (chf ch k.nm)) (hn:n≤1000000000) :
  Calls Tryz.prog 121 #[.pointer (some ⟨x.XB,0,none⟩),.map o] W fun e w'=>e=.returned (.tuple #[])∧∃ es',zgk w' fix eb db nD nI nV DI DV st ixs vws (zr4 ik k ⟨(ik k).N,(ik k).f,es'⟩)∧zrk k.c0 k.c1 k.c2 (chf ch k.nm) es'∧es'.length≤n∧KeepX (fun q=>q=x.XB) W w':=by
 have hi:=(h.idx k x hx).2.2
 refine (ycj x.XB k.c0 k.c1 k.c2 n hi.cols x.rv x.rs _ o _ W hi.io hM hn).mono ?_
 rintro e w' ⟨rfl,es',h1,h2,h3,h4⟩
 exact ⟨rfl,es',h.brought hx h4 h1,h2,h3,h4⟩
theorem zgk.settle (h:zgk W fix eb db nD nI nV DI DV st ixs vws ik) {k:zg2} {x:zmr} (hx:ixs k=some x) {R:Rel} (hR:(ik k).f=R.f) (hNk:(ik k).N=N) (hA:zrk k.c0 k.c1 k.c2 (chf ch k.nm) (ik k).es) (hl:(ik k).es.length≤n) (hN:N+n≤100000000) :
  Calls Tryz.prog 123 #[.pointer (some ⟨x.XB,0,none⟩)] W fun e w'=>e=.returned (.tuple #[])∧∃ rv' rs',zgk w' fix eb db nD nI nV DI DV st (zpy ixs k ⟨x.XB,rv',rs'⟩) vws (zr4 ik k ⟨N+n,fun r=>R.f r+chf ch k.nm r,[]⟩)∧KeepX (zlr x.XB x.rv) W w'∧∀ g,rv'.ownBlock=some g→x.rv.ownBlock=some g∨W.heap.size≤g:=by
 have hi:=(h.idx k x hx).2.2
 have ht:=hi.tot
 rw [hNk] at ht
 refine (zq8 x.XB _ _ _ x.rv x.rs _ W hi.io hi.good hA.rise hA.wf (by omega)).mono ?_
 rintro e w' ⟨rfl,rv',rs',h1,h2,h3,h4,h5,h6⟩
 refine ⟨rfl,rv',rs',h.settled hx h5 ⟨h1,h2,hi.cols,by show ze6 rs'≤_;omega,?_⟩ h6,h5,h6⟩
 obtain ⟨xs,hxs,he⟩:=hi.arr
 rw [hR] at hxs he
 obtain ⟨ys,hys,hpy⟩:=hA.rows
 obtain ⟨zs,hz,hez⟩:=zzd hxs hys k.c0 k.c1 k.c2
 exact ⟨zs,hz,h3.trans ((he.append (Eqv.of_perm hpy)).trans hez)⟩
end
structure Ph (W w:World) (fix:Nat→Prop) (eb db nD nI nV:Nat) (DI DV:DataW Unit) (X:Nat→Prop) (st:St) (ixs:IxS) (vws:VwS) (ik:IkS):Prop where
 eng:zgk w fix eb db nD nI nV DI DV st ixs vws ik
 keep:KeepX X W w
 fl:∀ q,fix q→q<W.heap.size
section
variable {W w w':World} {fix:Nat→Prop} {eb db nD nI nV N n:Nat} {DI DV:DataW Unit} {X:Nat→Prop} {st:St} {ch:Ch} {ixs ixs':IxS} {vws vws':VwS} {ik ik':IkS}
theorem Ph.below (h:Ph W w fix eb db nD nI nV DI DV X st ixs vws ik) (hb:Below w.heap.size w w'):Ph W w' fix eb db nD nI nV DI DV X st ixs vws ik:=
 ⟨h.eng.below hb,h.keep.trans (KeepX.ofBelow hb),h.fl⟩
theorem Ph.grown (h:Ph W w fix eb db nD nI nV DI DV X st ixs vws ik) (hg:w.grownBy w' none):Ph W w' fix eb db nD nI nV DI DV X st ixs vws ik:=
 h.below ((Below.refl _ _).grown hg (Nat.le_refl _) (fun k e=>by cases e))
theorem Ph.next (h:Ph W w fix eb db nD nI nV DI DV X st ixs vws ik) {k:TypeId} {R:Value→Option (DataW Unit×List MemPlace)} {b r m:Nat} {D:DataW Unit} {left:Lit→Bool} {cnt:Nat} (hrg:w.ranges Tryz.prog k R b r m D left cnt) (hr:W.heap.size≤r) (hg:w.grownBy w' (some r)):Ph W w' fix eb db nD nI nV DI DV X st ixs vws ik:=by
 obtain ⟨o,a,b',c,h1⟩:=zkd hrg
 exact ⟨h.eng.iter h1 (fun hf=>by have:=h.fl r hf;omega) (KeepX.ofGrown hg),h.keep.aside (KeepX.ofGrown hg) hr,h.fl⟩
theorem zw5 {k:TypeId} {R:Value→Option (DataW Unit×List MemPlace)} {b r m:Nat} {D:DataW Unit} {left:Lit→Bool} {cnt:Nat} (hrg:w.ranges Tryz.prog k R b r m D left cnt) {q:Nat} (h:zfm w q):r≠q:=by
 obtain ⟨o,a,b',c,h1⟩:=zkd hrg
 rintro rfl
 obtain ⟨cs,t,p,h2⟩:=h
 rw [h1] at h2
 cases h2
theorem ygn {k k':TypeId} {R R':Value→Option (DataW Unit×List MemPlace)} {b r m b' n':Nat} {D D':DataW Unit} {left:Lit→Bool} {cnt:Nat} (hrg:w.ranges Tryz.prog k R b r m D left cnt) (h:w.ownsMap Tryz.prog k' R' b' n' D'):r≠b':=by
 obtain ⟨o,a,b',c,h1⟩:=zkd hrg
 rintro rfl
 obtain ⟨es,cl,h2,_⟩:=h
 rw [h1] at h2
 cases h2
theorem zgz {k k':zg2} (h:WfK k) (h':WfK k'):(za9 k').sameKey (za9 k)=@decide (k'=k) (dcK k' k):=by
 by_cases e:k'=k
 ·subst e;simp [WideAt.sameKey_self (zio k')]
 ·rw [sameKey_ne (fun e'=>e (zmc h' h e'))];simp [e]
theorem zp5 (s m:ByteArray):(zas m).sameKey (zas s)=decide (m=s):=by
 by_cases e:m=s
 ·subst e;simp [WideAt.sameKey_self (zc2 m)]
 ·rw [sameKey_ne (fun e'=>e (zdb e'))];simp [e]
theorem Ph.bring (h:Ph W w fix eb db nD nI nV DI DV X st ixs vws ik) (hI:zwa DI ixs) {left:Lit→Bool} (hD:zid st ch N n ixs ik (fun k=>left (za9 k)=false)) {k:zg2} {x:zmr} (hx:ixs k=some x) (hX:X x.XB) {o:Option Nat} (hM:zzr w (.map o) n (chf ch k.nm)) (hn:n≤1000000000)
  {r cnt:Nat} (hrg:w.ranges Tryz.prog 96 zap (db+1) r nI DI (fun z=>left z && !z.sameKey (za9 k)) cnt) :
  Calls Tryz.prog 121 #[.pointer (some ⟨x.XB,0,none⟩),.map o] w fun e w'=>e=.returned (.tuple #[])∧∃ ik',w'.ranges Tryz.prog 96 zap (db+1) r nI DI (fun z=>left z && !z.sameKey (za9 k)) cnt∧Ph W w' fix eb db nD nI nV DI DV X st ixs vws ik'∧zid st ch N n ixs ik' (fun k'=>(left (za9 k') && !(za9 k').sameKey (za9 k))=false):=by
 refine (h.eng.bring hx hM hn).mono ?_
 rintro e w' ⟨rfl,es',h1,h2,h3,h4⟩
 have hq:=h.eng.idxX hx x.XB (.inl rfl)
 refine ⟨rfl,_,zfe hrg h4 (fun e=>hq.2.1.2.2.1 e.symm) (zw5 hrg hq.1),⟨h1,h.keep.trans (h4.mono fun q _ e=>e ▸ hX),h.fl⟩,fun k' x' hx'=>?_⟩
 obtain ⟨a,b,c,d⟩:=hD k' x' hx'
 dsimp only
 rw [zgz (hI.at' k x hx).1 (hI.at' k' x' hx').1]
 by_cases e:k'=k
 ·subst e
  rw [zha]
  exact ⟨a,b,fun hp=>absurd (by simp) hp,fun _=>⟨h2,h3⟩⟩
 ·rw [zga e]
  exact ⟨a,b,fun hp=>c (by simpa [e] using hp),fun hp=>d (by simpa [e] using hp)⟩
theorem Ph.gain (h:Ph W w fix eb db nD nI nV DI DV X st ixs vws' ik) (hi:zid st ch N n ixs ik (fun _=>True)) {left:Lit→Bool} (hD:zjn st ch N n vws vws' (fun nm=>left (zas nm)=false)) {nm:ByteArray} {v:zec} (hv:vws nm=some v) (hl:left (zas nm)=true) (hX:X v.mb) (hN:N+n≤100000000) (h1:1≤N+n) (hh:yb0 st v) (hn:v.n+4*(N+n) ^ 4≤9000000000000000000)
  {r cnt:Nat} (hrg:w.ranges Tryz.prog 9 zap (db+2) r nV DV (fun z=>left z && !z.sameKey (zas nm)) cnt) :
  Calls Tryz.prog 122 #[.pointer (some ⟨v.VB,0,none⟩)] w fun e w'=>e=.returned (.tuple #[])∧∃ vws'',w'.ranges Tryz.prog 9 zap (db+2) r nV DV (fun z=>left z && !z.sameKey (zas nm)) cnt∧Ph W w' fix eb db nD nI nV DI DV X st ixs vws'' ik∧zjn st ch N n vws vws'' (fun m=>(left (zas m) && !(zas m).sameKey (zas nm))=false):=by
 have hcur:vws' nm=some v:=by
  obtain ⟨n',f',a,b,_⟩:=hD.2 nm v hv
  obtain ⟨rfl,rfl⟩:=b (by simp [hl])
  exact a
 refine (h.eng.gain hi hcur hN h1 hh hn).mono ?_
 rintro e w' ⟨rfl,n',f',h2,h3,h4,h5⟩
 have hr:=h.eng.vrel nm v hcur
 have hmap:=(h.eng.vw nm v hcur).map
 obtain ⟨D',hD',_⟩:=hmap
 refine ⟨rfl,_,zfe hrg h5 (fun e=>hr.2.2.1 e.symm) (ygn hrg hD'),⟨h2,h.keep.trans (h5.mono fun q _ e=>e ▸ hX),h.fl⟩,fun m hm=>?_,fun m u hu=>?_⟩
 ·rw [zbh (fun e=>by rw [e,hv] at hm;cases hm)]
  exact hD.1 m hm
 ·dsimp only
  rw [zp5]
  by_cases e:m=nm
  ·subst e
   rw [hv] at hu
   cases hu
   exact ⟨n',f',za7 _ _ _,fun hp=>absurd (by simp) hp,fun _=>⟨h3,h4⟩⟩
  ·rw [zbh e]
   obtain ⟨n',f',a,b,c⟩:=hD.2 m u hu
   exact ⟨n',f',a,fun hp=>b (by simpa [e] using hp),fun hp=>c (by simpa [e] using hp)⟩
theorem Ph.settle (h:Ph W w fix eb db nD nI nV DI DV X st ixs' vws ik') (hI:zwa DI ixs) (hi:zid st ch N n ixs ik (fun _=>True)) {left:Lit→Bool} (hD:zgl W st ch N n ixs ixs' ik ik' (fun k=>left (za9 k)=false)) {k:zg2} {x:zmr} (hx:ixs k=some x) (hl:left (za9 k)=true) (hX:∀ q,zlr x.XB x.rv q→X q) (hN:N+n≤100000000)
  {r cnt:Nat} (hrg:w.ranges Tryz.prog 96 zap (db+1) r nI DI (fun z=>left z && !z.sameKey (za9 k)) cnt) :
  Calls Tryz.prog 123 #[.pointer (some ⟨x.XB,0,none⟩)] w fun e w'=>e=.returned (.tuple #[])∧∃ ixs'' ik'',w'.ranges Tryz.prog 96 zap (db+1) r nI DI (fun z=>left z && !z.sameKey (za9 k)) cnt∧Ph W w' fix eb db nD nI nV DI DV X st ixs'' vws ik''∧zgl W st ch N n ixs ixs'' ik ik'' (fun k'=>(left (za9 k') && !(za9 k').sameKey (za9 k))=false):=by
 obtain ⟨x',hcur,_,hc,_,_⟩:=hD.2 k x hx
 obtain ⟨rfl,hik⟩:=hc (by simp [hl])
 obtain ⟨a,⟨R,b,b'⟩,_,d⟩:=hi k x' hx
 refine (h.eng.settle (R:=R) (n:=n) (ch:=ch) hcur (by rw [hik];exact b') (by rw [hik];exact a) (by rw [hik];exact (d trivial).1) (by rw [hik];exact (d trivial).2) hN).mono ?_
 rintro e w' ⟨rfl,rv',rs',h1,h2,h3⟩
 have hq:=h.eng.idxX hcur
 refine ⟨rfl,_,_,zfe hrg h2 (fun e=>(hq _ e).2.1.2.2.1 rfl) (fun e=>zw5 hrg (hq _ e).1 rfl),⟨h1,h.keep.trans (h2.mono fun q _ e=>hX q e),h.fl⟩,fun k' hk'=>?_,fun k' y hy=>?_⟩
 ·rw [za8 (fun e=>by rw [e,hx] at hk';cases hk')]
  exact hD.1 k' hk'
 ·dsimp only
  rw [zgz (hI.at' k x' hx).1 (hI.at' k' y hy).1]
  by_cases e:k'=k
  ·subst e
   rw [hx] at hy
   cases hy
   refine ⟨_,zb3 _ _ _,rfl,fun hp=>absurd (by simp) hp,fun _=>⟨R,b,zha _ _ _⟩,fun g hg=>?_⟩
   rcases h3 g hg with h4|h4
   ·exact .inl h4
   ·exact .inr (Nat.le_trans h.keep.size h4)
  ·rw [za8 e,zga e]
   obtain ⟨y',a,b,c,d,f⟩:=hD.2 k' y hy
   exact ⟨y',a,b,fun hp=>c (by simpa [e] using hp),fun hp=>d (by simpa [e] using hp),f⟩
theorem zwp {st:St} {ch:Ch} {nm:ByteArray} {R:Rel} (hR:st nm=some R) (n:Nat):∃ R',ze3 st ch n (fun _=>true) nm=some R'∧R'.f=(fun r=>R.f r+chf ch nm r)∧R'.ar=R.ar∧R'.mb=R.mb∧R'.rb=R.rb:=by
 unfold ze3 chf
 rw [hR]
 cases hc:ch nm with
 | none=>exact ⟨R,rfl,by funext r;simp,rfl,rfl,rfl⟩
 | some p=>exact ⟨{ R with n:=R.n+n,f:=fun r=>R.f r+p.2 r },by simp,rfl,rfl,rfl,rfl⟩
theorem zq9 {st:St} {ch:Ch} {nm:ByteArray} {n:Nat} {p:ByteArray→Bool} {R':Rel} (h:ze3 st ch n p nm=some R'):∃ R,st nm=some R∧R'.mb=R.mb:=by
 unfold ze3 at h
 cases hR:st nm with
 | none=>rw [hR] at h;cases h
 | some R =>
  rw [hR] at h
  cases hc:ch nm with
  | none=>rw [hc] at h;exact ⟨R',h,rfl⟩
  | some q =>
   rw [hc] at h
   simp at h
   split at h
   ·cases h;exact ⟨_,rfl,rfl⟩
   ·cases h;exact ⟨_,rfl,rfl⟩
theorem Ph.done (h:Ph W w fix eb db nD nI nV DI DV X (ze3 st ch n (fun _=>true)) ixs' vws' ik') (hI:zwa DI ixs) (hV:yia DV nV vws) (hv:zjn st ch N n vws vws' (fun _=>True)) (hx:zgl W st ch N n ixs ixs' ik ik' (fun _=>True)) :
  EngV w fix eb db nD nI nV (N+n) (ze3 st ch n (fun _=>true)) ixs' vws'∧(∀ q,zcs (ze3 st ch n (fun _=>true)) ixs' vws' q→zcs st ixs vws q∨W.heap.size≤q):=by
 have backI:∀ k x',ixs' k=some x'→∃ x,ixs k=some x∧x'.XB=x.XB∧(∃ R,st k.nm=some R∧ik' k=⟨N+n,fun r=>R.f r+chf ch k.nm r,[]⟩)∧∀ g,x'.rv.ownBlock=some g→x.rv.ownBlock=some g∨W.heap.size≤g:=fun k x' hx'=>by
  cases hk:ixs k with
  | none=>rw [hx.1 k hk] at hx';cases hx'
  | some x =>
   obtain ⟨y,a,b,_,c,d⟩:=hx.2 k x hk
   rw [a] at hx'
   cases hx'
   exact ⟨x,rfl,b,c trivial,d⟩
 have backV:∀ nm v',vws' nm=some v'→∃ v,vws nm=some v∧v'.VB=v.VB∧v'.mb=v.mb∧yb1 st ch v':=fun nm v' hv'=>by
  cases hk:vws nm with
  | none=>rw [hv.1 nm hk] at hv';cases hv'
  | some v =>
   obtain ⟨n',f',a,_,c⟩:=hv.2 nm v hk
   rw [a] at hv'
   cases hv'
   exact ⟨v,rfl,rfl,rfl,(c trivial).2⟩
 refine ⟨⟨h.eng.rep,h.eng.flt,h.eng.feb,h.eng.frb,h.eng.fdb,⟨DI,h.eng.imap,fun k hk=>?_,fun k x' hx'=>?_,fun l hl=>?_⟩,fun k x' hx'=>?_,h.eng.iap,⟨DV,h.eng.vmap,hV.size,fun nm hn=>?_,fun nm v' hv'=>?_⟩,fun nm v' hv'=>⟨h.eng.vw nm v' hv',?_⟩,h.eng.vap,h.eng.vrel⟩,?_⟩
 ·rw [hI.has k hk]
  cases hk':ixs k with
  | none=>rw [hx.1 k hk']
  | some x=>obtain ⟨y,a,_⟩:=hx.2 k x hk';rw [a];rfl
 ·obtain ⟨x,a,b,_⟩:=backI k x' hx'
  rw [b];exact hI.at' k x a
 ·obtain ⟨k,x,a,b⟩:=hI.all l hl
  obtain ⟨y,c,_⟩:=hx.2 k x a
  exact ⟨k,y,c,b⟩
 ·obtain ⟨x,a,b,⟨R,c,d⟩,_⟩:=backI k x' hx'
  obtain ⟨e1,e2,e3⟩:=h.eng.idx k x' hx'
  rw [d] at e3
  obtain ⟨R',g1,g2,_⟩:=zwp (ch:=ch) c n
  exact ⟨e1,e2,R',g1,by rw [g2];exact e3⟩
 ·rw [hV.has nm hn]
  cases hk':vws nm with
  | none=>rw [hv.1 nm hk']
  | some x=>obtain ⟨n',f',a,_⟩:=hv.2 nm x hk';rw [a];rfl
 ·obtain ⟨v,a,b,_⟩:=backV nm v' hv'
  rw [b];exact hV.at' nm v a
 ·obtain ⟨v,a,_,_,b⟩:=backV nm v' hv'
  intro L hL
  refine b L fun i hi=>?_
  obtain ⟨R',c,d⟩:=hL i hi
  obtain ⟨R,e,_⟩:=zq9 c
  obtain ⟨R'',g1,g2,_⟩:=zwp (ch:=ch) e n
  rw [g1] at c
  cases c
  exact ⟨R,e,by rw [← g2];exact d⟩
 ·rintro q (⟨nm,R,hR,rfl⟩|⟨k,x',hx',hq⟩|⟨nm,v',hv',rfl⟩)
  ·obtain ⟨R0,a,b⟩:=zq9 hR
   exact .inl (.inl ⟨nm,R0,a,b⟩)
  ·obtain ⟨x,a,b,_,d⟩:=backI k x' hx'
   rcases hq with hq|hq
   ·exact .inl (.inr (.inl ⟨k,x,a,.inl (hq.trans b)⟩))
   ·rcases d q hq with h1|h1
    ·exact .inl (.inr (.inl ⟨k,x,a,.inr h1⟩))
    ·exact .inr h1
  ·obtain ⟨v,a,_,b,_⟩:=backV nm v' hv'
   exact .inl (.inr (.inr ⟨nm,v,a,b⟩))
def yiv (st:St) (N:Nat):IkS:=fun k=>⟨N,match st k.nm with|some R=>R.f|none=>fun _=>0,[]⟩
theorem EngV.begin (h:EngV W fix eb db nD nI nV N st ixs vws):∃ DI DV,zwa DI ixs∧yia DV nV vws∧Ph W W fix eb db nD nI nV DI DV X st ixs vws (yiv st N)∧(∀ ch n,zid st ch N n ixs (yiv st N) (fun k=>Maps.has DI (za9 k)=false))∧∀ ch n,zjn st ch N n vws vws (fun nm=>Maps.has DV (zas nm)=false):=by
 obtain ⟨DI,i1,i2,i3,i4⟩:=h.imap
 obtain ⟨DV,v1,v2,v3,v4⟩:=h.vmap
 refine ⟨DI,DV,⟨i2,i3,i4⟩,⟨v2,v3,v4⟩,⟨⟨h.rep,h.flt,h.feb,h.frb,h.fdb,i1,fun k x hx=>?_,h.iap,v1,fun nm v hv=>(h.vw nm v hv).1,h.vap,h.vrel⟩,KeepX.refl _ _,h.flt⟩,fun ch n k x hx=>?_,fun ch n=>⟨fun _ h=>h,fun nm v hv=>⟨v.n,v.f,hv,fun _=>⟨rfl,rfl⟩,fun hp=>?_⟩⟩⟩
 ·obtain ⟨a,b,R,c,d⟩:=h.idx k x hx
  refine ⟨a,b,?_⟩
  unfold yiv
  rw [c]
  exact d
 ·obtain ⟨a,b,R,c,d⟩:=h.idx k x hx
  refine ⟨rfl,⟨R,c,by unfold yiv;rw [c]⟩,fun _=>rfl,fun hp=>?_⟩
  dsimp only at hp
  rw [i2 k (i3 k x hx).1,hx] at hp
  cases hp
 ·have h8:=(v4 nm v hv).1
  dsimp only at hp
  rw [v3 nm (Nat.le_trans h8 (by unfold maxLen;omega)),hv] at hp
  cases hp
theorem zgl.start {W:World} {st:St} {ch:Ch} {N n:Nat} {ixs:IxS} {ik:IkS} {DI:DataW Unit} (hI:zwa DI ixs):zgl W st ch N n ixs ixs ik ik (fun k=>Maps.has DI (za9 k)=false):=by
 refine ⟨fun _ h=>h,fun k x hx=>⟨x,hx,rfl,fun _=>⟨rfl,rfl⟩,fun hp=>?_,fun g hg=>.inl hg⟩⟩
 dsimp only at hp
 rw [hI.has k (hI.at' k x hx).1,hx] at hp
 cases hp
end
end Go.Proofs.YtoifcnidhfnapaaGreatDoor
