import Derived.Test.YtoifcnidhfnapaaGreatDoorB04
import Derived.Test.YtoifcnidhfnapaaGreatDoorB01
import Derived.Maps.AppendAt
set_option linter.unusedVariables false
set_option linter.unusedSimpArgs false
set_option maxRecDepth 100000
set_option maxHeartbeats 16000000
namespace Go.Proofs.YtoifcnidhfnapaaGreatDoor
open Go.RowKit Go.Maps
attribute [local go_sem ↓] Go.wp_at_zero Go.wp_at_succ
theorem zfs {v:Value} {l:Lit} (h:keyOf Tryz.prog 9 v=some l):∃ s,v=.string s∧l=zas s∧s.size≤maxLen:=by
 simp only [keyOf,Tryz.underlying9] at h
 cases v <;> simp [mapKey,Tryz.underlying9] at h
 obtain ⟨h1,rfl⟩:=h
 exact ⟨_,rfl,rfl,h1⟩
theorem zum:∀ key kl,keyOf Tryz.prog 9 key=some kl→∃ s,key=Value.string s:=by
 intro key kl h
 obtain ⟨s,hs,_⟩:=zfs h
 exact ⟨s,hs⟩
theorem ydj:∀ v y,zc4 v=some y→∃ o:Option Nat,v=Value.map o:=by
 intro v y h
 unfold zc4 at h
 split at h
 ·exact ⟨_,rfl⟩
 ·exact ⟨_,rfl⟩
 ·cases h
def yby (st:St) (ch:Ch) (n:Nat):Prop:=∀ nm p,ch nm=some p→nm.size≤maxLen∧∃ R,st nm=some R∧R.n+n≤1000000000 ∧
 (∀ r,zaw r→-1000≤R.f r∧R.f r≤1000)∧(∀ r,zaw r→-100000≤p.2 r∧p.2 r≤100000)
def yjr (st:St) (ch:Ch):Prop:=∀ nm p R,ch nm=some p→st nm=some R→zkl R.f p.2
def ylb (st:St) (ch:Ch):Prop:=∀ nm p R,ch nm=some p→st nm=some R→zti R.f p.2
theorem yco {w:World} {D:DataW Unit} {ch:Ch} (hhas:∀ nm,nm.size≤maxLen→Maps.has D (zas nm)=(ch nm).isSome) (hat0:∀ nm p,nm.size≤maxLen→ch nm=some p→∀ zd,D.atKey (zas nm) zd=.lit (.int .i64 p.1))
  {s:ByteArray} {o:Option Nat} {kl:Lit} {y:DataW Unit×List MemPlace} (hkey:keyOf Tryz.prog 9 (.string s)=some kl) (hv:zc4 (.map o)=some y) (hat:∀ zd,D.atKey kl zd=y.1) :
  s.size≤maxLen∧kl=zas s∧∃ p,ch s=some p∧o=some p.1:=by
 obtain ⟨s',e,rfl,hs⟩:=zfs hkey
 cases e
 have h1:=hhas s hs
 rw [has_true_of_atKey hat] at h1
 cases hc:ch s with
 | none=>rw [hc] at h1;cases h1
 | some p =>
  have h2:=hat0 s p hs hc .nil
  rw [hat] at h2
  have h3:zc4 (.map o)=some (.lit (.int .i64 p.1),y.2):=by rw [hv,← h2]
  have h4:=zj8 h3
  cases h4
  exact ⟨hs,rfl,p,rfl,rfl⟩
theorem yin (w:World) {eb db nD S E cb B n:Nat} {st:St} {ch:Ch} (hE:za1 w eb db nD S E st) (hC:zce w cb B n ch) (hbase:yby st ch n) :
  Calls Tryz.prog 69 #[.pointer (some ⟨eb,0,none⟩),.map (some cb)] w fun e w'=>∃ c:Int,e=.returned (.int .i64 c)∧(c=9∧¬ yjr st ch∨c=10∧yjr st ch∧¬ ylb st ch∨c=0∧yjr st ch∧ylb st ch)∧Below w.heap.size w w':=by
 obtain ⟨D,hown,hhas,hat0⟩:=hC.dir
 have HE:=zac hE
 have HC:=zac hC
 have Hbase:=zac hbase
 have Hhas:=zac hhas
 have Hat:=zac hat0
 have c0:w.cell? ⟨eb,0,none⟩=some (.map (some db)):=hE.c0
 have hel:eb<w.heap.size:=by have:=hE.inn;have:=hE.top;omega
 clear hE hC hbase hhas hat0
 go_enter Tryz.func69,Tryz.ntmps69
 go_wp2_with (first
  | (at_range;refine wpList_range_own _ rfl _ 136 rfl 9 127 zoo Tryz.underlying136 _ cb n D rfl hown ?_;intro w0 hrg0 hg0 hs0)
  | go_in)
 go_frame
 go_loopw [11] (fun _ wr=>∃ left cnt,wr.ranges Tryz.prog 9 zc4 cb w.heap.size n D left cnt∧Below w.heap.size w wr∧∀ nm p R,ch nm=some p→st nm=some R→left (zas nm)=false→zkl R.f p.2) (fun _ wr=>wr.rangeLeft cb w.heap.size)
 case atStart=>exact ⟨_,_,hrg0,(Below.refl _ _).grown hg0 (Nat.le_refl _) (fun k e=>by cases e),fun nm p R hp hR hl=>by rw [(zaa Hhas) nm ((zaa Hbase) nm p hp).1,hp] at hl;cases hl⟩
 case round =>
  obtain ⟨left,cnt,hrg,hB,hF⟩:=hrel
  have HB:=zac hB
  have HF:=zac hF
  clear hB hF
  go_wp2_with (first
   | (at_next;refine wpList_next_ranges _ rfl _ rfl 9 zoo zc4 Value.string Value.map zum ydj cb w.heap.size n D left cnt rfl hrg ?_ ?_)
   | go_in)
  ·intro _ hl0
   obtain ⟨wo,hwo⟩:∃ wo,wo=wr:=⟨_,rfl⟩
   subst hwo
   have HW:Hid (yjr st ch):=fun nm p R hp hR=>(zaa HF) nm p R hp hR (hl0 _)
   have hownB:wo.ownsMap Tryz.prog 9 zc4 cb n D:=hrg.owns
   have HhB:=zac hownB.lt
   have hBs:=(zaa HB).size
   have c0r:wo.cell? ⟨eb,0,none⟩=some (.map (some db)):=by rw [(zaa HB).cell (p:=⟨eb,0,none⟩) hel];exact c0
   clear hrg hrg0 hg0 hs0 HF
   go_wp2_with (first
    | (at_range;refine wpList_range_own _ rfl _ 136 rfl 9 127 zoo Tryz.underlying136 _ cb n D rfl hownB ?_;intro w0' hrg0' hg0' hs0')
    | go_in)
   go_frame
   go_loopw [27] (fun _ wq=>∃ left cnt,wq.ranges Tryz.prog 9 zc4 cb wo.heap.size n D left cnt∧Below wo.heap.size wo wq∧∀ nm p R,ch nm=some p→st nm=some R→left (zas nm)=false→zti R.f p.2) (fun _ wq=>wq.rangeLeft cb wo.heap.size)
   case atStart=>exact ⟨_,_,hrg0',(Below.refl _ _).grown hg0' (Nat.le_refl _) (fun k e=>by cases e),fun nm p R hp hR hl=>by rw [(zaa Hhas) nm ((zaa Hbase) nm p hp).1,hp] at hl;cases hl⟩
   case round =>
    obtain ⟨left',cnt',hrg,hB,hF⟩:=hrel
    have HB':=zac hB
    have HF':=zac hF
    clear hB hF
    go_wp2_with (first
     | (at_next;refine wpList_next_ranges _ rfl _ rfl 9 zoo zc4 Value.string Value.map zum ydj cb wo.heap.size n D left' cnt' rfl hrg ?_ ?_)
     | go_in)
    ·intro _ hl1
     go_wp2
     go_ret
     exact ⟨0,rfl,.inr (.inr ⟨rfl,zaa HW,fun nm p R hp hR=>(zaa HF') nm p R hp hR (hl1 _)⟩),(zaa HB).trans ((zaa HB').mono hBs)⟩
    ·intro s o kl y1 y2 w1 cnt1 hkey hlk hv hat hrg1 hlt hg1 hs1 hen
     obtain ⟨hs,hkl,p,hp,ho⟩:=yco (w:=w) (zaa Hhas) (zaa Hat) (y:=(y1,y2)) hkey hv hat
     subst ho
     obtain ⟨_,R,hR,hn,hf2,hf3⟩:=(zaa Hbase) s p hp
     have hB1':Below wo.heap.size wo w1:=(zaa HB').grown hg1 (zaa HB').size (fun k e=>by cases e;exact Nat.le_refl _)
     have hB1:Below w.heap.size w w1:=(zaa HB).trans (hB1'.mono hBs)
     have hE1:=(zaa HE).below hB1
     have hrun:=hE1.get hs hR
     have c1:w1.cell? ⟨eb,0,none⟩=some (.map (some db)):=by rw [hB1.cell (p:=⟨eb,0,none⟩) hel];exact c0
     have hnext:zti R.f p.2→∀ nm q Q,ch nm=some q→st nm=some Q→(left' (zas nm) && !(zas nm).sameKey kl)=false→zti Q.f q.2:=by
      intro hf nm q Q hq hQ hl
      by_cases e:nm=s
      ·subst e;rw [hp] at hq;rw [hR] at hQ;cases hq;cases hQ;exact hf
      ·rw [hkl,sameKey_ne (fun e'=>e (zdb e'))] at hl
       exact (zaa HF') nm q Q hq hQ (by simpa using hl)
     have Hnext:=zac hnext
     have Hbad:Hid (¬ zti R.f p.2→¬ ylb st ch):=fun h k=>h (k s p R hp hR)
     have Hrel:=zac (hE1.rel s R hR)
     have Hp:=zac (((zaa HC).below hB1).each s p hp).1
     have Hrg1:=zac hrg1
     have Hrg:=zac hrg
     have HB1:=zac hB1'
     have Hlt:=zac hlt
     have Hf2:=zac hf2
     have Hf3:=zac hf3
     clear hkey hlk hv hat hrg1 hrg hg1 hs1 hkl hlt hE1 hR hB1 hB1' hf2 hf3 hp hnext
     go_wp2_with fail
     refine (yg9 R.rb R.mb R.ar R.n p.1 n R.f p.2 _ (zaa Hrel).1 (zaa Hrel).2 (zaa Hp) hn (fun r hr=>by have:=(zaa Hf2) r hr;omega) (fun r hr=>by have:=(zaa Hf3) r hr;omega)).mono ?_
     rintro e w2 ⟨⟨b,rfl,hbi⟩,hb2⟩
     have Hbi:=zac hbi
     have Hb2:=zac hb2
     clear hbi hb2
     cases b with
     | false =>
      go_wp2
      go_ret
      exact ⟨10,rfl,.inr (.inl ⟨rfl,zaa HW,(zaa Hbad) (fun h=>by have:=(zaa Hbi).2 h;cases this)⟩),(zaa HB).trans (((zaa HB1).trans ((zaa Hb2).mono (zaa HB1).size)).mono hBs)⟩
     | true =>
      go_wp2
      have hR2:=(zaa Hrg1).kept (zc3 (zaa Hb2) none) (by simp) (by simp)
      refine ⟨⟨_,cnt1,hR2,(zaa HB1).trans ((zaa Hb2).mono (zaa HB1).size),(zaa Hnext) ((zaa Hbi).1 (by simp))⟩,?_⟩
      rw [hR2.left_eq,(zaa Hrg).left_eq]
      exact zaa Hlt
  ·intro s o kl y1 y2 w1 cnt1 hkey hlk hv hat hrg1 hlt hg1 hs1 hen
   obtain ⟨hs,hkl,p,hp,ho⟩:=yco (w:=w) (zaa Hhas) (zaa Hat) (y:=(y1,y2)) hkey hv hat
   subst ho
   obtain ⟨_,R,hR,hn,hf2,hf3⟩:=(zaa Hbase) s p hp
   have hB1:Below w.heap.size w w1:=(zaa HB).grown hg1 (zaa HB).size (fun k e=>by cases e;exact Nat.le_refl _)
   have hE1:=(zaa HE).below hB1
   have hrun:=hE1.get hs hR
   have c1:w1.cell? ⟨eb,0,none⟩=some (.map (some db)):=by rw [hB1.cell (p:=⟨eb,0,none⟩) hel];exact c0
   have hnext:zkl R.f p.2→∀ nm q Q,ch nm=some q→st nm=some Q→(left (zas nm) && !(zas nm).sameKey kl)=false→zkl Q.f q.2:=by
    intro hf nm q Q hq hQ hl
    by_cases e:nm=s
    ·subst e;rw [hp] at hq;rw [hR] at hQ;cases hq;cases hQ;exact hf
    ·rw [hkl,sameKey_ne (fun e'=>e (zdb e'))] at hl
     exact (zaa HF) nm q Q hq hQ (by simpa using hl)
   have Hnext:=zac hnext
   have Hbad:Hid (¬ zkl R.f p.2→¬ yjr st ch):=fun h k=>h (k s p R hp hR)
   have Hrel:=zac (hE1.rel s R hR)
   have Hp:=zac (((zaa HC).below hB1).each s p hp).1
   have Hrg1:=zac hrg1
   have Hrg:=zac hrg
   have HB1:=zac hB1
   have Hlt:=zac hlt
   have Hf2:=zac hf2
   have Hf3:=zac hf3
   clear hkey hlk hv hat hrg1 hrg hg1 hs1 hkl hlt hE1 hR hB1 hf2 hf3 hp hnext
   go_wp2_with fail
   refine (yir R.rb R.mb R.ar R.n p.1 n R.f p.2 _ (zaa Hrel).1 (zaa Hrel).2 (zaa Hp) (fun r hr=>by have:=(zaa Hf2) r hr;omega) (fun r hr=>by have:=(zaa Hf3) r hr;omega)).mono ?_
   rintro e w2 ⟨b,rfl,hbi,hb2⟩
   have Hbi:=zac hbi
   have Hb2:=zac hb2
   clear hbi hb2
   cases b with
   | false =>
    go_wp2
    go_ret
    exact ⟨9,rfl,.inl ⟨rfl,(zaa Hbad) (fun h=>by have:=(zaa Hbi).2 h;cases this)⟩,(zaa HB1).trans ((zaa Hb2).mono (zaa HB1).size)⟩
   | true =>
    go_wp2
    have hR2:=(zaa Hrg1).kept (zc3 (zaa Hb2) none) (by simp) (by simp)
    refine ⟨⟨_,cnt1,hR2,(zaa HB1).trans ((zaa Hb2).mono (zaa HB1).size),(zaa Hnext) ((zaa Hbi).1 (by simp))⟩,?_⟩
    rw [hR2.left_eq,(zaa Hrg).left_eq]
    exact zaa Hlt
attribute [local go_sem ↓] Go.wp_at_zero Go.wp_at_succ
def Chk (st:St) (x:Ent) (c:Int):Prop:=∀ (W:World) (v:Value) (eb db nD S E:Nat),za1 W eb db nD S E st→zbn W v x.row →
 Calls Tryz.prog 67 #[.pointer (some ⟨eb,0,none⟩),yip x v] W fun e w'=>e=.returned (.int .i64 c)∧Below W.heap.size W w'
theorem zn8 {st:St} {x:Ent} {R:Rel} (hn:x.nm.size≤maxLen) (hR:st x.nm=some R) (hl:x.row.length≤1000000000) (ha:x.row.length=R.ar) (hw:-1000≤x.wt∧x.wt≤1000):Chk st x 0:=by
 intro W v eb db nD S E hE hv
 obtain ⟨a,cap,rfl,_⟩:=hv
 exact yf1 x a cap W hE hn hR hl ha hw
def zdo (st:St) (nm:ByteArray) (R:Rel):St:=fun m=>if m=nm then some R else st m
theorem za1.added {w w':World} {eb db nD S E:Nat} {st:St} (h:za1 w eb db nD S E st) {nm:ByteArray} {R:Rel} {n':Nat} {g:Row→Int} (hR:st nm=some R) (hg:w.grownBy w' (some R.mb)) (hW:zfk w' R.mb n' g) :
  za1 w' eb db nD S E (zdo st nm { R with n:=n',f:=g }):=by
 have hi:=h.inr nm R hR
 have hWm:=(h.rel nm R hR).2
 obtain ⟨D0,⟨es0,cl0,hmb,_⟩,_⟩:=hWm
 obtain ⟨e,⟨D,⟨es,clock,h1,h2⟩,hsz0,hhas,hat⟩,r,ap,inn,inr,top⟩:=h
 have hlt:∀ k,k<E→k<w.heap.size:=fun k hk=>Nat.lt_of_lt_of_le hk top
 obtain ⟨xe,e,e0,nv⟩:=e
 have hv:=nv.2.2.2.2.1
 have hv2:=nv.2.2.2.2.2 nm R hR
 have heb:eb≠R.mb:=fun x=>by rw [x,hmb] at e;cases e
 refine ⟨⟨xe,(hg.block eb (hlt _ inn.2.1) (fun x=>heb (by injection x))).trans e,e0,(nv.kept (hg.block _ (hlt _ (by omega)) (fun x=>by injection x;omega)) (hg.block _ (hlt _ (by omega)) (fun x=>by injection x;omega))).turn (fun m Q hQ=>by
  unfold zdo at hQ
  by_cases e:m=nm
  ·subst e;simp at hQ;subst hQ;exact hv2
  ·simp [e] at hQ;exact nv.2.2.2.2.2 m Q hQ)⟩,⟨D,⟨es,clock,(hg.block db (hlt _ inn.2.2.2) (fun x=>hi.2.2.2.2 (by injection x with x;exact x.symm))).trans h1,h2⟩,hsz0,fun m hm=>?_,fun m Q hm hQ=>?_⟩,fun m Q hQ=>?_,fun m m' Q Q' hQ hQ' hne=>?_,inn,fun m Q hQ=>?_,Nat.le_trans top hg.size⟩
 ·rw [hhas m hm];unfold zdo;by_cases e:m=nm <;> simp [e,hR]
 ·unfold zdo at hQ
  by_cases e:m=nm
  ·subst e;simp at hQ;subst hQ;exact hat _ R hm hR
  ·simp [e] at hQ;exact hat m Q hm hQ
 ·unfold zdo at hQ
  by_cases e:m=nm
  ·subst e;simp at hQ;subst hQ
   refine ⟨?_,hW⟩
   have hrb:R.rb≠R.mb:=fun x=>by have:=(r m R hR).1;rw [x,hmb] at this;cases this
   exact (hg.block _ (hlt _ hi.2.1) (fun x=>hrb (by injection x))).trans (r m R hR).1
  ·simp [e] at hQ
   have hq:=inr m Q hQ
   have hrb:Q.rb≠R.mb:=fun x=>by have:=(r m Q hQ).1;rw [x,hmb] at this;cases this
   exact ⟨(hg.block _ (hlt _ hq.2.1) (fun x=>hrb (by injection x))).trans (r m Q hQ).1,(r m Q hQ).2.kept (hg.block _ (hlt _ hq.2.2.2.1) (fun x=>ap m nm Q R hQ hR e (by injection x)))⟩
 ·unfold zdo at hQ hQ'
  by_cases e:m=nm
  ·subst e
   have e':¬ m'=m:=fun x=>hne x.symm
   simp at hQ;simp [e'] at hQ';subst hQ
   exact ap m m' R Q' hR hQ' hne
  ·simp [e] at hQ
   by_cases e':m'=nm
   ·subst e';simp at hQ';subst hQ';exact ap m m' Q R hQ hR hne
   ·simp [e'] at hQ';exact ap m m' Q Q' hQ hQ' hne
 ·unfold zdo at hQ
  by_cases e:m=nm
  ·subst e;simp at hQ;subst hQ;exact inr m R hR
  ·simp [e] at hQ;exact inr m Q hQ
attribute [local go_sem ↓] Go.wp_at_zero Go.wp_at_succ
def ze3 (st:St) (ch:Ch) (N:Nat) (done:ByteArray→Bool):St:=fun nm =>
 match st nm,ch nm with
 | some R,some p=>if done nm=true then some { R with n:=R.n+N,f:=fun r=>R.f r+p.2 r } else some R
 | o,_=>o
def zjk (st:St) (es:List Ent):St:=fun nm=>(st nm).map fun R=>{ R with n:=R.n+2*es.length,f:=fun r=>R.f r+zcx es nm r }
theorem zx4 (st:St) (ch:Ch) (N:Nat) (D:DataW Unit):ze3 st ch N (fun nm=>Maps.has D (zas nm) && !Maps.has D (zas nm))=st:=by
 funext nm
 unfold ze3
 cases h1:st nm with
 | none=>rfl
 | some R=>cases h2:ch nm <;> simp
theorem za1.congr {w:World} {eb db nD S E:Nat} {st st':St} (h:za1 w eb db nD S E st)
  (he:∀ nm,(st nm=none∧st' nm=none)∨∃ R R',st nm=some R∧st' nm=some R'∧R'.rb=R.rb∧R'.mb=R.mb∧R'.ar=R.ar∧R.n≤R'.n∧∀ r,zaw r→R.f r=R'.f r):za1 w eb db nD S E st':=by
 have back:∀ nm R',st' nm=some R'→∃ R,st nm=some R∧R'.rb=R.rb∧R'.mb=R.mb∧R'.ar=R.ar∧R.n≤R'.n∧∀ r,zaw r→R.f r=R'.f r:=by
  intro nm R' hR'
  rcases he nm with ⟨_,h2⟩|⟨R,Q,h1,h2,h3⟩
  ·rw [h2] at hR';cases hR'
  ·rw [h2] at hR';cases hR';exact ⟨R,h1,h3⟩
 obtain ⟨⟨xe,e,e0,nv⟩,⟨D,h1,hsz0,hhas,hat⟩,r,ap,inn,inr,top⟩:=h
 refine ⟨⟨xe,e,e0,nv.turn (fun m Q hQ=>by
  obtain ⟨R,hR,_,h4,_⟩:=back m Q hQ
  rw [h4];exact nv.2.2.2.2.2 m R hR)⟩,⟨D,h1,hsz0,fun m hm=>?_,fun m Q hm hQ=>?_⟩,fun m Q hQ=>?_,fun m m' Q Q' hQ hQ' hne=>?_,inn,fun m Q hQ=>?_,top⟩
 ·rw [hhas m hm]
  rcases he m with ⟨h1,h2⟩|⟨R,Q,h1,h2,_⟩ <;> simp [h1,h2]
 ·obtain ⟨R,hR,h3,_⟩:=back m Q hQ
  rw [h3];exact hat m R hm hR
 ·obtain ⟨R,hR,h3,h4,h5,h6,h7⟩:=back m Q hQ
  have hr:=r m R hR
  rw [h3,h4,h5]
  exact ⟨hr.1,(hr.2.mono h6).congr h7⟩
 ·obtain ⟨R,hR,_,h4,_⟩:=back m Q hQ
  obtain ⟨R',hR',_,h4',_⟩:=back m' Q' hQ'
  rw [h4,h4'];exact ap m m' R R' hR hR' hne
 ·obtain ⟨R,hR,h3,h4,_⟩:=back m Q hQ
  rw [h3,h4];exact inr m R hR
theorem ybl {st:St} {ch:Ch} {N:Nat} {D:DataW Unit} {left:Lit→Bool} {s:ByteArray} {R:Rel} {p:Nat×(Row→Int)} (hR:st s=some R) (hp:ch s=some p) (hh:Maps.has D (zas s)=true) :
  zdo (ze3 st ch N (fun nm=>Maps.has D (zas nm) && !left (zas nm))) s { R with n:=R.n+N,f:=fun r=>R.f r+p.2 r } =
   ze3 st ch N (fun nm=>Maps.has D (zas nm) && !(left (zas nm) && !(zas nm).sameKey (zas s))):=by
 funext m
 unfold zdo
 by_cases e:m=s
 ·subst e
  rw [if_pos rfl]
  unfold ze3
  rw [hR,hp]
  simp [hh,WideAt.sameKey_self (zc2 m)]
 ·rw [if_neg e]
  have:(zas m).sameKey (zas s)=false:=sameKey_ne (fun e'=>e (zdb e'))
  unfold ze3
  simp [this]
theorem zvm {es:List Ent} {nm:ByteArray} (h:∀ x∈es,x.nm≠nm) (r:Row):zcx es nm r=0:=by
 induction es with
 | nil=>rfl
 | cons y ys ih =>
  simp only [zcx]
  rw [ih (fun z hz=>h z (List.mem_cons_of_mem _ hz))]
  simp [h y (List.mem_cons_self)]
def zqc (es:List Ent) (nm:ByteArray) (f:Row→Int):Prop:=(∃ x∈es,x.nm=nm)→zti f (zcx es nm)
theorem sumW {st:St} {es:List Ent} {ch:Ch} (hS:zmt es ch):yjr st ch↔∀ nm R,st nm=some R→zkl R.f (zcx es nm):=by
 constructor
 ·intro h nm R hR
  cases hc:ch nm with
  | none=>intro r _ h0;exact absurd (zvm ((hS nm).1 hc) r) h0
  | some p=>have:=h nm p R hc hR;rw [((hS nm).2 p hc).2] at this;exact this
 ·intro h nm p R hp hR
  rw [((hS nm).2 p hp).2];exact h nm R hR
theorem sumR {st:St} {es:List Ent} {ch:Ch} (hS:zmt es ch):ylb st ch↔∀ nm R,st nm=some R→zqc es nm R.f:=by
 constructor
 ·intro h nm R hR hx
  cases hc:ch nm with
  | none=>obtain ⟨x,hx1,hx2⟩:=hx;exact absurd hx2 ((hS nm).1 hc x hx1)
  | some p=>have:=h nm p R hc hR;rw [((hS nm).2 p hc).2] at this;exact this
 ·intro h nm p R hp hR
  rw [((hS nm).2 p hp).2];exact h nm R hR ((hS nm).2 p hp).1
theorem Tryz.rowK:(96:TypeId)<Tryz.prog.types.size:=of_decide_eq_true (by kernel_rfl)
theorem Tryz.wideK:(match Tryz.prog.underlying 96 with|some (.array _ _)|some (.struct _)=>true|_=>false)=true:=by rw [Tryz.underlying96]
theorem ydn:Keyed Tryz.prog 96:=Keyed.of_law (deep_law_laid Tryz.laidOut (m:=3) (by omega) Tryz.rowK (by kernel_rfl) Tryz.wideK)
attribute [local go_sem ↓] Go.wp_at_zero Go.wp_at_succ
theorem zob (s:ByteArray) (w:World) (h:s.size≤1000):Calls Tryz.prog 59 #[.string s] w fun e w'=>e=.returned (.string s)∧Below w.heap.size w w':=by
 go_enter Tryz.func59,Tryz.ntmps59
 go_wp2_with (first|(go_at_call 96;refine (Tryz.stringslite_Clone s _ (by omega)).mono ?_;rintro e w1 ⟨rfl,hb1⟩))
 go_ret
 exact ⟨rfl,hb1⟩
theorem zt7 (s:ByteArray) (ar:Nat) (w:World) {eb db nD S E:Nat} {st:St} {R:Rel} (hE:za1 w eb db nD S E st) (hs:zfv s=true) (h1:1≤ar) (h2:ar≤3) (hR:st s=some R) (hn:s.size≤1000) :
  Calls Tryz.prog 34 #[.pointer (some ⟨eb,0,none⟩),.string s,.int .i64 ar] w fun e w'=>e=.returned (.int .i64 3)∧w'=w:=by
 have hrun:=hE.hit (Nat.le_trans hn (by unfold maxLen;omega)) hR
 have c0:w.cell? ⟨eb,0,none⟩=some (.map (some db)):=hE.c0
 have Hs:=zac hs
 have t1:¬ (ar:Int)<1:=by omega
 have t2:¬ 3<(ar:Int):=by omega
 clear hE hs hR
 go_enter Tryz.func34,Tryz.ntmps34
 go_wp2_with (first|(go_at_call 57;refine (zma s _ (by omega)).mono ?_;rintro e w1 ⟨rfl,rfl⟩;rw [zaa Hs]))
 go_ret
 exact ⟨rfl,rfl⟩
theorem za1.made {w W:World} {eb db nD S E:Nat} {st:St} {D:DataW Unit} {s:ByteArray} {ar rb mb:Nat} (h:za1 w eb db nD S E st)
  (hhas:∀ nm,nm.size≤maxLen→Maps.has D (zas nm)=(st nm).isSome) (hat:∀ nm R,nm.size≤maxLen→st nm=some R→∀ zd,D.atKey (zas nm) zd=.lit (.int .i64 R.rb)) (hD:IsMap D) (hszD:Maps.size (D.put (zas s) (.lit (.int .i64 rb)))=nD+1)
  (hown:W.ownsMap Tryz.prog 9 zap db (nD+1) (D.put (zas s) (.lit (.int .i64 rb)))) (hg:w.grownBy W (some db)) (hR:st s=none)
  (hc:w.heap[rb]? = some (.cells #[.int .i64 ar,.map (some mb)] 129 (0,0))) (hm:zfk w mb 0 (fun _=>0)) (hrb:E≤rb) (hmb:E≤mb):za1 W eb db (nD+1) S W.heap.size (zdo st s ⟨rb,mb,ar,0,fun _=>0⟩):=by
 have hml:=hm.lt
 have hrl:rb<w.heap.size:=(Array.getElem?_eq_some_iff.1 hc).1
 have hdir:=h.dir
 obtain ⟨e,_,r,ap,inn,inr,top⟩:=h
 have hgs:=hg.size
 obtain ⟨D0,⟨es0,cl0,hdb,_⟩,_⟩:=hdir
 obtain ⟨xe,e,e0,nv⟩:=e
 have hv:=nv.2.2.2.2.1
 have hebdb:eb≠db:=fun x=>by rw [x,hdb] at e;cases e
 refine ⟨⟨xe,(hg.block eb (by omega) (fun x=>hebdb (by injection x))).trans e,e0,(nv.kept (hg.block _ (by omega) (fun x=>by injection x;omega)) (hg.block _ (by omega) (fun x=>by injection x;omega))).turn (fun m Q hQ=>by
  unfold zdo at hQ
  by_cases e:m=s
  ·subst e;simp at hQ;subst hQ;show eb<mb;omega
  ·simp [e] at hQ;exact nv.2.2.2.2.2 m Q hQ)⟩,⟨_,hown,hszD,fun m hm=>?_,fun m Q hm hQ=>?_⟩,fun m Q hQ=>?_,fun m m' Q Q' hQ hQ' hne=>?_,⟨inn.1,by omega,inn.2.2.1,by omega⟩,fun m Q hQ=>?_,Nat.le_refl _⟩
 ·unfold zdo
  by_cases e:m=s
  ·subst e;rw [has_put_same hD (zc2 _)];simp
  ·rw [has_put_other (fun e'=>e (zdb e')),hhas m hm];simp [e]
 ·unfold zdo at hQ
  intro zd
  by_cases e:m=s
  ·subst e;simp at hQ;subst hQ;exact atKey_put_same hD (zc2 _) _ _
  ·simp [e] at hQ;rw [atKey_put_other (fun e'=>e (zdb e'))];exact hat m Q hm hQ zd
 ·unfold zdo at hQ
  by_cases e:m=s
  ·subst e;simp at hQ;subst hQ
   exact ⟨(hg.block rb hrl (fun x=>by injection x;omega)).trans hc,hm.kept (hg.block mb hml (fun x=>by injection x;omega))⟩
  ·simp [e] at hQ
   have hi:=inr m Q hQ
   have hrd:Q.rb≠db:=fun x=>by have:=(r m Q hQ).1;rw [x,hdb] at this;cases this
   exact ⟨(hg.block _ (by omega) (fun x=>hrd (by injection x))).trans (r m Q hQ).1,(r m Q hQ).2.kept (hg.block _ (by omega) (fun x=>hi.2.2.2.2 (by injection x)))⟩
 ·unfold zdo at hQ hQ'
  by_cases e:m=s
  ·subst e
   have e':¬ m'=m:=fun x=>hne x.symm
   simp at hQ;simp [e'] at hQ';subst hQ
   have:=inr m' Q' hQ'
   dsimp only
   omega
  ·simp [e] at hQ
   by_cases e':m'=s
   ·subst e';simp at hQ';subst hQ'
    have:=inr m Q hQ
    dsimp only
    omega
   ·simp [e'] at hQ';exact ap m m' Q Q' hQ hQ' hne
 ·unfold zdo at hQ
  by_cases e:m=s
  ·subst e;simp at hQ;subst hQ;dsimp only;omega
  ·simp [e] at hQ;have:=inr m Q hQ;omega
theorem zoh (s:ByteArray) (ar:Nat) (w:World) {eb db nD S E:Nat} {st:St} (hE:za1 w eb db nD S E st) (hs:zfv s=true) (h1:1≤ar) (h2:ar≤3) (hR:st s=none) (hn:s.size≤1000) (hnD:nD≤5) :
  Calls Tryz.prog 34 #[.pointer (some ⟨eb,0,none⟩),.string s,.int .i64 ar] w fun e w'=>e=.returned (.int .i64 0) ∧
   (∃ rb mb,w.heap.size≤rb∧w.heap.size≤mb∧za1 w' eb db (nD+1) S w'.heap.size (zdo st s ⟨rb,mb,ar,0,fun _=>0⟩))∧w.grownBy w' (some db):=by
 have hsz:s.size≤maxLen:=Nat.le_trans hn (by unfold maxLen;omega)
 have hrun:=hE.miss hsz hR
 have c0:w.cell? ⟨eb,0,none⟩=some (.map (some db)):=hE.c0
 have hel:eb<w.heap.size:=by have:=hE.inn;have:=hE.top;omega
 have hdl:db<w.heap.size:=by have:=hE.inn;have:=hE.top;omega
 obtain ⟨D,hown,hsz0,hhas,hat⟩:=hE.dir
 have hlen:=hown.size_le
 have hebdb:eb≠db:=fun e=>by
  obtain ⟨es,cl,h1,_⟩:=hown
  obtain ⟨_,this,_⟩:=hE.eng
  rw [e,h1] at this
  cases this
 have Hs:=zac hs
 have HE:=zac hE
 have HR:=zac hR
 have Hhas:=zac hhas
 have Hat:=zac hat
 have t1:¬ (ar:Int)<1:=by omega
 have t2:¬ 3<(ar:Int):=by omega
 have t3:¬ 6≤(Maps.size D:Int):=by omega
 obtain ⟨U,hU⟩:∃ U:World→Nat→World,∀ W b,W.ownsMap Tryz.prog 9 zap db nD D→(Instr.mapUpdate 68 (.map (some db)) (.string s) (.pointer (some ⟨b,0,none⟩))).run Tryz.prog W=.ok () (U W b) ∧
   (U W b).ownsMap Tryz.prog 9 zap db (nD+1) (D.put (zas s) (.lit (.int .i64 b)))∧W.grownBy (U W b) (some db):=by
  have h:∀ W:World,∃ g:Nat→World,∀ b,W.ownsMap Tryz.prog 9 zap db nD D→(Instr.mapUpdate 68 (.map (some db)) (.string s) (.pointer (some ⟨b,0,none⟩))).run Tryz.prog W=.ok () (g b) ∧
    (g b).ownsMap Tryz.prog 9 zap db (nD+1) (D.put (zas s) (.lit (.int .i64 b)))∧W.grownBy (g b) (some db):=by
   intro W
   have hh:∀ b:Nat,∃ w',W.ownsMap Tryz.prog 9 zap db nD D→(Instr.mapUpdate 68 (.map (some db)) (.string s) (.pointer (some ⟨b,0,none⟩))).run Tryz.prog W=.ok () w' ∧
     w'.ownsMap Tryz.prog 9 zap db (nD+1) (D.put (zas s) (.lit (.int .i64 b)))∧W.grownBy w' (some db):=by
    intro b
    by_cases hW:W.ownsMap Tryz.prog 9 zap db nD D
    ·obtain ⟨w',hr⟩:=hW.update zoo Tryz.underlying68 (by unfold maxLen;omega) (zdj hsz) (val:=.pointer (some ⟨b,0,none⟩)) (d:=.lit (.int .i64 b)) (ps:=[]) rfl
     exact ⟨w',fun _=>hr⟩
    ·exact ⟨W,fun h=>absurd h hW⟩
   exact ⟨fun b=>Classical.choose (hh b),fun b=>Classical.choose_spec (hh b)⟩
  exact ⟨fun W=>Classical.choose (h W),fun W=>Classical.choose_spec (h W)⟩
 have hUr:∀ W b,W.ownsMap Tryz.prog 9 zap db nD D→(Instr.mapUpdate 68 (.map (some db)) (.string s) (.pointer (some ⟨b,0,none⟩))).run Tryz.prog W=.ok () (U W b):=fun W b h=>(hU W b h).1
 have HU:=zac hU
 clear hE hs hR hhas hat hU
 go_enter Tryz.func34,Tryz.ntmps34
 go_wp2_with (first
  | (go_at_call 57;refine (zma s _ (by omega)).mono ?_;rintro e w1 ⟨rfl,rfl⟩;rw [zaa Hs])
  | (at_len;refine wpList_len_own _ rfl _ 68 rfl 9 66 Tryz.underlying68 _ db nD D rfl hown ?_))
 go_region_held3 (fun W'=>W'.cell? ⟨eb,0,none⟩=some (.map (some db)))
  (first
   | go_keep
   | (rw [hb2.cell (by simpa using hel)];assumption)
   | (rw [hb3.cell (by have:=hb2.size;simp at this ⊢;omega)];assumption)
   | (rw [World.cell?_of_block (((zaa HU) w3 _ hown3).2.2.block eb (by have h5:w1.heap.size≤w2.heap.size:=hb2.size;have h6:=hb3.size;omega) (by simpa using hebdb))];assumption))
  (first
   | (go_at_call 59;refine (zob s _ hn).mono ?_;rintro e w2 ⟨rfl,hb2⟩)
   | (go_at_call 58;refine (yba ar _).mono ?_;rintro e w3 ⟨rfl,hcells3,hmap3,hsz3,hb3⟩;have hown3:w3.ownsMap Tryz.prog 9 zap db nD D:=(hown.drew.kept (zc3 hb2 none) (by simp)).kept (zc3 hb3 none) (by simp)))
 have hb2':Below w1.heap.size w1 w2:=Below.ofDrew hb2
 have hE3:=((zaa HE).below hb2').below hb3
 obtain ⟨_,hUo,hUg⟩:=(zaa HU) w3 (w2.heap.size+1) hown3
 have htop:=(zaa HE).top
 have hs12:=hb2'.size
 have hfin:=hE3.made (s:=s) (ar:=ar) (zaa Hhas) (zaa Hat) hown.isMap (by rw [size_put (hown.tidy zoo),(zaa Hhas) s hsz,(zaa HR),hsz0];rfl) hUo hUg (zaa HR) hcells3 hmap3 (by omega) (by omega)
 have hgr:w1.grownBy (U w3 (w2.heap.size+1)) (some db):=(zc3 (hb2'.trans (hb3.mono hs12)) (some db)).trans hUg
 have HF:=zac hfin
 have hs1:w1.heap.size≤w2.heap.size+1:=by omega
 have hs2:w1.heap.size≤w2.heap.size:=hs12
 have HG:=zac hgr
 clear hfin hgr hUo hUg hE3 hb2 hb2' hb3 hown3 hcells3 hmap3 hsz3
 go_wp2
 go_ret
 exact ⟨rfl,⟨_,_,hs1,hs2,zaa HF⟩,zaa HG⟩
def yio (p:Ent×Nat):List Value:=[.string p.1.nm,.slice (some ⟨p.2,0,none⟩) p.1.row.length p.1.row.length,.int .i64 p.1.wt]
def zh5 (xs:List (Ent×Nat)):List Value:=xs.flatMap yio
def zkp (w:World) (xs:List (Ent×Nat)):Prop:=∀ p∈xs,w.heap[p.2]? = some (.cells (p.1.row.map (Value.int .i64)).toArray 2 (0,0))
theorem zwn (xs:List (Ent×Nat)) (p:Ent×Nat):zh5 (xs ++ [p])=zh5 xs ++ yio p:=by simp [zh5,List.flatMap_append]
theorem ycp (xs:List (Ent×Nat)) (i j:Nat) (hi:i<xs.length) (hj:j<3):(zh5 xs)[i*3+j]? = (yio xs[i])[j]?:=by
 induction xs generalizing i with
 | nil=>simp at hi
 | cons p ps ih =>
  have hl:(yio p).length=3:=rfl
  have e:zh5 (p :: ps)=yio p ++ zh5 ps:=rfl
  rw [e]
  cases i with
  | zero=>rw [List.getElem?_append_left (by rw [hl];omega)];simp
  | succ i =>
   have h2:(i+1)*3+j - 3=i*3+j:=by omega
   rw [List.getElem?_append_right (by rw [hl];omega),hl,h2,ih i (by simpa using hi)]
   simp
theorem zcj {w:World} {b:Nat} {zs:List Int} (h:w.heap[b]? = some (.cells (zs.map (Value.int .i64)).toArray 2 (0,0))) (cap:Nat):zbn w (.slice (some ⟨b,0,none⟩) zs.length cap) zs:=by
 refine ⟨_,cap,rfl,fun i hi=>⟨b,0,rfl,?_⟩⟩
 rw [zab h]
 simp [hi]
theorem zrz {w:World} {g:Nat} {cur:Array Value} {xs:List (Ent×Nat)} (hg:w.heap[g]? = some (.cells cur 64 (0,0))) (ht:cur.toList.take (xs.length*3)=zh5 xs) (hr:zkp w xs) (cap:Nat) :
  zf5 w (.slice (some ⟨g,0,none⟩) xs.length cap) (xs.map (·.1)):=by
 refine ⟨some ⟨g,0,none⟩,cap,by simp,fun i hi=>?_⟩
 have hi':i<xs.length:=by simpa using hi
 have hx:((xs.map (·.1))[i]?.getD zg1)=(xs[i]).1:=by simp [hi']
 rw [hx]
 have hcell:∀ j,j<3→cur[i*3+j]? = (yio xs[i])[j]?:=by
  intro j hj
  rw [← ycp xs i j hi' hj,← ht,List.getElem?_take_of_lt (by omega)]
  simp
 refine ⟨g,0,.slice (some ⟨xs[i].2,0,none⟩) xs[i].1.row.length xs[i].1.row.length,rfl,?_,?_,?_,?_⟩
 ·rw [zab hg,Nat.zero_add];exact hcell 0 (by omega)
 ·rw [zab hg,Nat.zero_add];exact hcell 1 (by omega)
 ·exact zcj (hr _ (List.getElem_mem hi')) _
 ·rw [zab hg,Nat.zero_add];exact hcell 2 (by omega)
theorem Tryz.info64:(Tryz.prog.info? 64).map (fun i=>(i.zero,i.size,i.bytes))=some (some (.agg #[.string ⟨#[]⟩,.slice none 0 0,.int .i64 0]),3,48):=by kernel_rfl
theorem Tryz.info49:(Tryz.prog.info? 49).map (fun i=>(i.zero,i.size,i.bytes))=some (some (.slice none 0 0),1,24):=by kernel_rfl
theorem zkp.kept {w w':World} {xs:List (Ent×Nat)} {row:Option Nat} (h:zkp w xs) (hg:w.grownBy w' row) (hrow:∀ j,row=some j→∃ cur t,w.heap[j]? = some (.cells cur t (0,0))∧t≠2):zkp w' xs:=by
 intro p hp
 have h1:=h p hp
 have hlt:p.2<w.heap.size:=(Array.getElem?_eq_some_iff.1 h1).1
 rw [hg.block p.2 hlt (fun e=>?_)]
 ·exact h1
 ·obtain ⟨cur,t,h2,h3⟩:=hrow p.2 e.symm
  rw [h1] at h2
  cases h2
  exact h3 rfl
theorem zel {w:World} {base:Nat} {e:TypeId} {size:Nat} {v:Value} {n:Nat} {xs:List Value} (h:w.ownsRow base e size v n xs):∀ j,v.ownBlock=some j→base≤j∧∃ cur,w.heap[j]? = some (.cells cur e (0,0)):=by
 intro j hj
 rcases h.2 with ⟨rfl,_⟩|⟨g,cap,cur,rfl,hb,hg,_⟩
 ·cases hj
 ·cases hj;exact ⟨hb,cur,hg⟩
theorem zgr {W:World} {base:Nat} {e:TypeId} {size:Nat} {v:Value} {k:Nat} {xs:List Value} (h:W.ownsRow base e size v (k+1) xs):∃ g cap,v=.slice (some ⟨g,0,none⟩) (k+1) cap:=by
 rcases h.2 with ⟨_,h0⟩|⟨g,cap,_,rfl,_⟩
 ·omega
 ·exact ⟨g,cap,rfl⟩
theorem yf9 (x:Ent) (b:Nat):zm1 x b=.agg #[.string x.nm,.slice (some ⟨b,0,none⟩) x.row.length x.row.length,.int .i64 x.wt]:=rfl
theorem zqk (w:World) (a b c:Value) (t:TypeId):∀ j u,[a,b,c][j]? = some u→(w.alloc (.cells #[a,b,c] t)).cell? ((⟨w.heap.size,0,none⟩:Addr).add j)=some u:=by
 intro j u hj
 rw [Addr.add_lit,Nat.zero_add,zab (zae w _ _ rfl)]
 simpa using hj
theorem zg6 (w:World) (a:Value) (t:TypeId):∀ j u,[a][j]? = some u→(w.alloc (.cells #[a] t)).cell? ((⟨w.heap.size,0,none⟩:Addr).add j)=some u:=by
 intro j u hj
 rw [Addr.add_lit,Nat.zero_add,zab (zae w _ _ rfl)]
 simpa using hj
end Go.Proofs.YtoifcnidhfnapaaGreatDoor
