import Derived.Test.YtoifcnidhfnapabGreatDoorB04
import Derived.Test.YtoifcnidhfnapabGreatDoorB01
import Derived.Maps.AppendAt
import Derived.Shelf.SlSortCmp.WholeK
import Derived.RangeFuncNested
import Derived.RangeFuncBound
import Derived.RangeFuncCalls
import Derived.RangeFuncLeaves
import Derived.Shelf.Abstract
import Derived.Shelf.RegionOpen
import Derived.OwnWalkIn
import Derived.TacticsInMore
import Derived.LoopNIn
import Derived.LoopIn
import Derived.Maps.OwnIn
import Derived.Sort.MapsRangeIn
set_option linter.unusedVariables false
set_option linter.unusedSimpArgs false
set_option maxRecDepth 100000
set_option maxHeartbeats 16000000
namespace Go.Proofs.YtoifcnidhfnapabGreatDoor
open Go.RowKit Go.Maps
attribute [local go_sem ↓] Go.wp_at_zero Go.wp_at_succ
def Chk (st:St) (x:Ent) (c:Int):Prop:=∀ (W:World) (v:Value) (eb db nD S E:Nat),za1 W eb db nD S E st→zbu W v x.row →
 Calls Tryz.prog 42 #[.pointer (some ⟨eb,0,none⟩),yjf x v] W fun e w'=>e=.returned (.int .i64 c)∧Below W.heap.size W w'
theorem zuc {st:St} {x:Ent} {R:Rel} (hn:x.nm.size≤maxLen) (hR:st x.nm=some R) (hl:x.row.length≤1000000000) (ha:x.row.length=R.ar) (hw:-1000≤x.wt∧x.wt≤1000):Chk st x 0:=by
 intro W v eb db nD S E hE hv
 obtain ⟨a,cap,rfl,_⟩:=hv
 exact ygd x a cap W hE hn hR hl ha hw
def zdq (st:St) (nm:ByteArray) (R:Rel):St:=fun m=>if m=nm then some R else st m
theorem za1.added {w w':World} {eb db nD S E:Nat} {st:St} (h:za1 w eb db nD S E st) {nm:ByteArray} {R:Rel} {n':Nat} {g:Row→Int} (hR:st nm=some R) (hg:w.grownBy w' (some R.mb)) (hW:ze9 w' R.mb n' g) :
  za1 w' eb db nD S E (zdq st nm { R with n:=n',f:=g }):=by
 have hi:=h.inr nm R hR
 have hWm:=(h.rel nm R hR).2
 obtain ⟨D0,⟨es0,cl0,hmb,_⟩,_⟩:=hWm
 obtain ⟨e,⟨D,⟨es,clock,h1,h2⟩,hsz0,hhas,hat⟩,r,ap,inn,inr,top⟩:=h
 have hlt:∀ k,k<E→k<w.heap.size:=fun k hk=>Nat.lt_of_lt_of_le hk top
 obtain ⟨xe,e,e0,nv⟩:=e
 have hv:=nv.2.2.2.2.1
 have hv2:=nv.2.2.2.2.2 nm R hR
 have heb:eb≠R.mb:=fun x=>by rw [x,hmb] at e;cases e
 refine ⟨⟨xe,(hg.block eb (hlt _ inn.2.1) (fun x=>heb (by injection x))).trans e,e0,(nv.kept (hg.block _ (hlt _ (by omega)) (fun x=>by injection x;omega)) (hg.block _ (hlt _ (by omega)) (fun x=>by injection x;omega))).turn (fun m Q hQ=>by
  unfold zdq at hQ
  by_cases e:m=nm
  ·subst e;simp at hQ;subst hQ;exact hv2
  ·simp [e] at hQ;exact nv.2.2.2.2.2 m Q hQ)⟩,⟨D,⟨es,clock,(hg.block db (hlt _ inn.2.2.2) (fun x=>hi.2.2.2.2 (by injection x with x;exact x.symm))).trans h1,h2⟩,hsz0,fun m hm=>?_,fun m Q hm hQ=>?_⟩,fun m Q hQ=>?_,fun m m' Q Q' hQ hQ' hne=>?_,inn,fun m Q hQ=>?_,Nat.le_trans top hg.size⟩
 ·rw [hhas m hm];unfold zdq;by_cases e:m=nm <;> simp [e,hR]
 ·unfold zdq at hQ
  by_cases e:m=nm
  ·subst e;simp at hQ;subst hQ;exact hat _ R hm hR
  ·simp [e] at hQ;exact hat m Q hm hQ
 ·unfold zdq at hQ
  by_cases e:m=nm
  ·subst e;simp at hQ;subst hQ
   refine ⟨?_,hW⟩
   have hrb:R.rb≠R.mb:=fun x=>by have:=(r m R hR).1;rw [x,hmb] at this;cases this
   exact (hg.block _ (hlt _ hi.2.1) (fun x=>hrb (by injection x))).trans (r m R hR).1
  ·simp [e] at hQ
   have hq:=inr m Q hQ
   have hrb:Q.rb≠R.mb:=fun x=>by have:=(r m Q hQ).1;rw [x,hmb] at this;cases this
   exact ⟨(hg.block _ (hlt _ hq.2.1) (fun x=>hrb (by injection x))).trans (r m Q hQ).1,(r m Q hQ).2.kept (hg.block _ (hlt _ hq.2.2.2.1) (fun x=>ap m nm Q R hQ hR e (by injection x)))⟩
 ·unfold zdq at hQ hQ'
  by_cases e:m=nm
  ·subst e
   have e':¬ m'=m:=fun x=>hne x.symm
   simp at hQ;simp [e'] at hQ';subst hQ
   exact ap m m' R Q' hR hQ' hne
  ·simp [e] at hQ
   by_cases e':m'=nm
   ·subst e';simp at hQ';subst hQ';exact ap m m' Q R hQ hR hne
   ·simp [e'] at hQ';exact ap m m' Q Q' hQ hQ' hne
 ·unfold zdq at hQ
  by_cases e:m=nm
  ·subst e;simp at hQ;subst hQ;exact inr m R hR
  ·simp [e] at hQ;exact inr m Q hQ
attribute [local go_sem ↓] Go.wp_at_zero Go.wp_at_succ
def zfo (st:St) (ch:Ch) (N:Nat) (done:ByteArray→Bool):St:=fun nm =>
 match st nm,ch nm with
 | some R,some p=>if done nm=true then some { R with n:=R.n+N,f:=fun r=>R.f r+p.2 r } else some R
 | o,_=>o
def znt (st:St) (es:List Ent):St:=fun nm=>(st nm).map fun R=>{ R with n:=R.n+2*es.length,f:=fun r=>R.f r+zbr es nm r }
theorem zx4 (st:St) (ch:Ch) (N:Nat) (D:DataW Unit):zfo st ch N (fun nm=>Maps.has D (zau nm) && !Maps.has D (zau nm))=st:=by
 funext nm
 unfold zfo
 cases h1:st nm with
 | none=>rfl
 | some R=>cases h2:ch nm <;> simp
theorem za1.congr {w:World} {eb db nD S E:Nat} {st st':St} (h:za1 w eb db nD S E st)
  (he:∀ nm,(st nm=none∧st' nm=none)∨∃ R R',st nm=some R∧st' nm=some R'∧R'.rb=R.rb∧R'.mb=R.mb∧R'.ar=R.ar∧R.n≤R'.n∧∀ r,zaw r→R.f r=R'.f r):za1 w eb db nD S E st':=by
 have back:∀ nm R',st' nm=some R'→∃ R,st nm=some R∧R'.rb=R.rb∧R'.mb=R.mb∧R'.ar=R.ar∧R.n≤R'.n∧∀ r,zaw r→R.f r=R'.f r:=by
  intro nm R' hR'
  rcases he nm with ⟨_,h2⟩|⟨R,Q,h1,h2,h3⟩
  ·rw [h2] at hR';cases hR'
  ·rw [h2] at hR';cases hR';exact ⟨R,h1,h3⟩
 obtain ⟨⟨xe,e,e0,nv⟩,⟨D,h1,hsz0,hhas,hat⟩,r,ap,inn,inr,top⟩:=h
 refine ⟨⟨xe,e,e0,nv.turn (fun m Q hQ=>by
  obtain ⟨R,hR,_,h4,_⟩:=back m Q hQ
  rw [h4];exact nv.2.2.2.2.2 m R hR)⟩,⟨D,h1,hsz0,fun m hm=>?_,fun m Q hm hQ=>?_⟩,fun m Q hQ=>?_,fun m m' Q Q' hQ hQ' hne=>?_,inn,fun m Q hQ=>?_,top⟩
 ·rw [hhas m hm]
  rcases he m with ⟨h1,h2⟩|⟨R,Q,h1,h2,_⟩ <;> simp [h1,h2]
 ·obtain ⟨R,hR,h3,_⟩:=back m Q hQ
  rw [h3];exact hat m R hm hR
 ·obtain ⟨R,hR,h3,h4,h5,h6,h7⟩:=back m Q hQ
  have hr:=r m R hR
  rw [h3,h4,h5]
  exact ⟨hr.1,(hr.2.mono h6).congr h7⟩
 ·obtain ⟨R,hR,_,h4,_⟩:=back m Q hQ
  obtain ⟨R',hR',_,h4',_⟩:=back m' Q' hQ'
  rw [h4,h4'];exact ap m m' R R' hR hR' hne
 ·obtain ⟨R,hR,h3,h4,_⟩:=back m Q hQ
  rw [h3,h4];exact inr m R hR
theorem ybq {st:St} {ch:Ch} {N:Nat} {D:DataW Unit} {left:Lit→Bool} {s:ByteArray} {R:Rel} {p:Nat×(Row→Int)} (hR:st s=some R) (hp:ch s=some p) (hh:Maps.has D (zau s)=true) :
  zdq (zfo st ch N (fun nm=>Maps.has D (zau nm) && !left (zau nm))) s { R with n:=R.n+N,f:=fun r=>R.f r+p.2 r } =
   zfo st ch N (fun nm=>Maps.has D (zau nm) && !(left (zau nm) && !(zau nm).sameKey (zau s))):=by
 funext m
 unfold zdq
 by_cases e:m=s
 ·subst e
  rw [if_pos rfl]
  unfold zfo
  rw [hR,hp]
  simp [hh,WideAt.sameKey_self (zcw m)]
 ·rw [if_neg e]
  have:(zau m).sameKey (zau s)=false:=sameKey_ne (fun e'=>e (zc8 e'))
  unfold zfo
  simp [this]
theorem zvu {es:List Ent} {nm:ByteArray} (h:∀ x∈es,x.nm≠nm) (r:Row):zbr es nm r=0:=by
 induction es with
 | nil=>rfl
 | cons y ys ih =>
  simp only [zbr]
  rw [ih (fun z hz=>h z (List.mem_cons_of_mem _ hz))]
  simp [h y (List.mem_cons_self)]
def zn8 (es:List Ent) (nm:ByteArray) (f:Row→Int):Prop:=(∃ x∈es,x.nm=nm)→ztv f (zbr es nm)
theorem sumW {st:St} {es:List Ent} {ch:Ch} (hS:zmx es ch):yko st ch↔∀ nm R,st nm=some R→zjx R.f (zbr es nm):=by
 constructor
 ·intro h nm R hR
  cases hc:ch nm with
  | none=>intro r _ h0;exact absurd (zvu ((hS nm).1 hc) r) h0
  | some p=>have:=h nm p R hc hR;rw [((hS nm).2 p hc).2] at this;exact this
 ·intro h nm p R hp hR
  rw [((hS nm).2 p hp).2];exact h nm R hR
theorem sumR {st:St} {es:List Ent} {ch:Ch} (hS:zmx es ch):ymi st ch↔∀ nm R,st nm=some R→zn8 es nm R.f:=by
 constructor
 ·intro h nm R hR hx
  cases hc:ch nm with
  | none=>obtain ⟨x,hx1,hx2⟩:=hx;exact absurd hx2 ((hS nm).1 hc x hx1)
  | some p=>have:=h nm p R hc hR;rw [((hS nm).2 p hc).2] at this;exact this
 ·intro h nm p R hp hR
  rw [((hS nm).2 p hp).2];exact h nm R hR ((hS nm).2 p hp).1
theorem Tryz.rowK:(132:TypeId)<Tryz.prog.types.size:=of_decide_eq_true (by kernel_rfl)
theorem Tryz.wideK:(match Tryz.prog.underlying 132 with|some (.array _ _)|some (.struct _)=>true|_=>false)=true:=by rw [Tryz.underlying132]
theorem yhg:Keyed Tryz.prog 132:=Keyed.of_law (deep_law_laid Tryz.laidOut (m:=3) (by omega) Tryz.rowK (by kernel_rfl) Tryz.wideK)
attribute [local go_sem ↓] Go.wp_at_zero Go.wp_at_succ
theorem zoq (s:ByteArray) (w:World) (h:s.size≤1000):Calls Tryz.prog 33 #[.string s] w fun e w'=>e=.returned (.string s)∧Below w.heap.size w w':=by
 go_enter Tryz.func33,Tryz.ntmps33
 go_wp2_with (first|(go_at_call 48;refine (Tryz.stringslite_Clone s _ (by omega)).mono ?_;rintro e w1 ⟨rfl,hb1⟩))
 go_ret
 exact ⟨rfl,hb1⟩
theorem zui (s:ByteArray) (ar:Nat) (w:World) {eb db nD S E:Nat} {st:St} {R:Rel} (hE:za1 w eb db nD S E st) (hs:zgj s=true) (h1:1≤ar) (h2:ar≤3) (hR:st s=some R) (hn:s.size≤1000) :
  Calls Tryz.prog 22 #[.pointer (some ⟨eb,0,none⟩),.string s,.int .i64 ar] w fun e w'=>e=.returned (.int .i64 3)∧w'=w:=by
 have hrun:=hE.hit (Nat.le_trans hn (by unfold maxLen;omega)) hR
 have c0:w.cell? ⟨eb,0,none⟩=some (.map (some db)):=hE.c0
 have Hs:=zac hs
 have t1:¬ (ar:Int)<1:=by omega
 have t2:¬ 3<(ar:Int):=by omega
 clear hE hs hR
 go_enter Tryz.func22,Tryz.ntmps22
 go_wp2_with (first|(go_at_call 31;refine (zmi s _ (by omega)).mono ?_;rintro e w1 ⟨rfl,rfl⟩;rw [zaa Hs]))
 go_ret
 exact ⟨rfl,rfl⟩
theorem za1.made {w W:World} {eb db nD S E:Nat} {st:St} {D:DataW Unit} {s:ByteArray} {ar rb mb:Nat} (h:za1 w eb db nD S E st)
  (hhas:∀ nm,nm.size≤maxLen→Maps.has D (zau nm)=(st nm).isSome) (hat:∀ nm R,nm.size≤maxLen→st nm=some R→∀ zd,D.atKey (zau nm) zd=.lit (.int .i64 R.rb)) (hD:IsMap D) (hszD:Maps.size (D.put (zau s) (.lit (.int .i64 rb)))=nD+1)
  (hown:W.ownsMap Tryz.prog 9 zav db (nD+1) (D.put (zau s) (.lit (.int .i64 rb)))) (hg:w.grownBy W (some db)) (hR:st s=none)
  (hc:w.heap[rb]? = some (.cells #[.int .i64 ar,.map (some mb)] 104 (0,0))) (hm:ze9 w mb 0 (fun _=>0)) (hrb:E≤rb) (hmb:E≤mb):za1 W eb db (nD+1) S W.heap.size (zdq st s ⟨rb,mb,ar,0,fun _=>0⟩):=by
 have hml:=hm.lt
 have hrl:rb<w.heap.size:=(Array.getElem?_eq_some_iff.1 hc).1
 have hdir:=h.dir
 obtain ⟨e,_,r,ap,inn,inr,top⟩:=h
 have hgs:=hg.size
 obtain ⟨D0,⟨es0,cl0,hdb,_⟩,_⟩:=hdir
 obtain ⟨xe,e,e0,nv⟩:=e
 have hv:=nv.2.2.2.2.1
 have hebdb:eb≠db:=fun x=>by rw [x,hdb] at e;cases e
 refine ⟨⟨xe,(hg.block eb (by omega) (fun x=>hebdb (by injection x))).trans e,e0,(nv.kept (hg.block _ (by omega) (fun x=>by injection x;omega)) (hg.block _ (by omega) (fun x=>by injection x;omega))).turn (fun m Q hQ=>by
  unfold zdq at hQ
  by_cases e:m=s
  ·subst e;simp at hQ;subst hQ;show eb<mb;omega
  ·simp [e] at hQ;exact nv.2.2.2.2.2 m Q hQ)⟩,⟨_,hown,hszD,fun m hm=>?_,fun m Q hm hQ=>?_⟩,fun m Q hQ=>?_,fun m m' Q Q' hQ hQ' hne=>?_,⟨inn.1,by omega,inn.2.2.1,by omega⟩,fun m Q hQ=>?_,Nat.le_refl _⟩
 ·unfold zdq
  by_cases e:m=s
  ·subst e;rw [has_put_same hD (zcw _)];simp
  ·rw [has_put_other (fun e'=>e (zc8 e')),hhas m hm];simp [e]
 ·unfold zdq at hQ
  intro zd
  by_cases e:m=s
  ·subst e;simp at hQ;subst hQ;exact atKey_put_same hD (zcw _) _ _
  ·simp [e] at hQ;rw [atKey_put_other (fun e'=>e (zc8 e'))];exact hat m Q hm hQ zd
 ·unfold zdq at hQ
  by_cases e:m=s
  ·subst e;simp at hQ;subst hQ
   exact ⟨(hg.block rb hrl (fun x=>by injection x;omega)).trans hc,hm.kept (hg.block mb hml (fun x=>by injection x;omega))⟩
  ·simp [e] at hQ
   have hi:=inr m Q hQ
   have hrd:Q.rb≠db:=fun x=>by have:=(r m Q hQ).1;rw [x,hdb] at this;cases this
   exact ⟨(hg.block _ (by omega) (fun x=>hrd (by injection x))).trans (r m Q hQ).1,(r m Q hQ).2.kept (hg.block _ (by omega) (fun x=>hi.2.2.2.2 (by injection x)))⟩
 ·unfold zdq at hQ hQ'
  by_cases e:m=s
  ·subst e
   have e':¬ m'=m:=fun x=>hne x.symm
   simp at hQ;simp [e'] at hQ';subst hQ
   have:=inr m' Q' hQ'
   dsimp only
   omega
  ·simp [e] at hQ
   by_cases e':m'=s
   ·subst e';simp at hQ';subst hQ'
    have:=inr m Q hQ
    dsimp only
    omega
   ·simp [e'] at hQ';exact ap m m' Q Q' hQ hQ' hne
 ·unfold zdq at hQ
  by_cases e:m=s
  ·subst e;simp at hQ;subst hQ;dsimp only;omega
  ·simp [e] at hQ;have:=inr m Q hQ;omega
theorem zou (s:ByteArray) (ar:Nat) (w:World) {eb db nD S E:Nat} {st:St} (hE:za1 w eb db nD S E st) (hs:zgj s=true) (h1:1≤ar) (h2:ar≤3) (hR:st s=none) (hn:s.size≤1000) (hnD:nD≤5) :
  Calls Tryz.prog 22 #[.pointer (some ⟨eb,0,none⟩),.string s,.int .i64 ar] w fun e w'=>e=.returned (.int .i64 0) ∧
   (∃ rb mb,w.heap.size≤rb∧w.heap.size≤mb∧za1 w' eb db (nD+1) S w'.heap.size (zdq st s ⟨rb,mb,ar,0,fun _=>0⟩))∧w.grownBy w' (some db):=by
 have hsz:s.size≤maxLen:=Nat.le_trans hn (by unfold maxLen;omega)
 have hrun:=hE.miss hsz hR
 have c0:w.cell? ⟨eb,0,none⟩=some (.map (some db)):=hE.c0
 have hel:eb<w.heap.size:=by have:=hE.inn;have:=hE.top;omega
 have hdl:db<w.heap.size:=by have:=hE.inn;have:=hE.top;omega
 obtain ⟨D,hown,hsz0,hhas,hat⟩:=hE.dir
 have hlen:=hown.size_le
 have hebdb:eb≠db:=fun e=>by
  obtain ⟨es,cl,h1,_⟩:=hown
  obtain ⟨_,this,_⟩:=hE.eng
  rw [e,h1] at this
  cases this
 have Hs:=zac hs
 have HE:=zac hE
 have HR:=zac hR
 have Hhas:=zac hhas
 have Hat:=zac hat
 have t1:¬ (ar:Int)<1:=by omega
 have t2:¬ 3<(ar:Int):=by omega
 have t3:¬ 6≤(Maps.size D:Int):=by omega
 obtain ⟨U,hU⟩:∃ U:World→Nat→World,∀ W b,W.ownsMap Tryz.prog 9 zav db nD D→(Instr.mapUpdate 57 (.map (some db)) (.string s) (.pointer (some ⟨b,0,none⟩))).run Tryz.prog W=.ok () (U W b) ∧
   (U W b).ownsMap Tryz.prog 9 zav db (nD+1) (D.put (zau s) (.lit (.int .i64 b)))∧W.grownBy (U W b) (some db):=by
  have h:∀ W:World,∃ g:Nat→World,∀ b,W.ownsMap Tryz.prog 9 zav db nD D→(Instr.mapUpdate 57 (.map (some db)) (.string s) (.pointer (some ⟨b,0,none⟩))).run Tryz.prog W=.ok () (g b) ∧
    (g b).ownsMap Tryz.prog 9 zav db (nD+1) (D.put (zau s) (.lit (.int .i64 b)))∧W.grownBy (g b) (some db):=by
   intro W
   have hh:∀ b:Nat,∃ w',W.ownsMap Tryz.prog 9 zav db nD D→(Instr.mapUpdate 57 (.map (some db)) (.string s) (.pointer (some ⟨b,0,none⟩))).run Tryz.prog W=.ok () w' ∧
     w'.ownsMap Tryz.prog 9 zav db (nD+1) (D.put (zau s) (.lit (.int .i64 b)))∧W.grownBy w' (some db):=by
    intro b
    by_cases hW:W.ownsMap Tryz.prog 9 zav db nD D
    ·obtain ⟨w',hr⟩:=hW.update zqh Tryz.underlying57 (by unfold maxLen;omega) (zdi hsz) (val:=.pointer (some ⟨b,0,none⟩)) (d:=.lit (.int .i64 b)) (ps:=[]) rfl
     exact ⟨w',fun _=>hr⟩
    ·exact ⟨W,fun h=>absurd h hW⟩
   exact ⟨fun b=>Classical.choose (hh b),fun b=>Classical.choose_spec (hh b)⟩
  exact ⟨fun W=>Classical.choose (h W),fun W=>Classical.choose_spec (h W)⟩
 have hUr:∀ W b,W.ownsMap Tryz.prog 9 zav db nD D→(Instr.mapUpdate 57 (.map (some db)) (.string s) (.pointer (some ⟨b,0,none⟩))).run Tryz.prog W=.ok () (U W b):=fun W b h=>(hU W b h).1
 have HU:=zac hU
 clear hE hs hR hhas hat hU
 go_enter Tryz.func22,Tryz.ntmps22
 go_wp2_with (first
  | (go_at_call 31;refine (zmi s _ (by omega)).mono ?_;rintro e w1 ⟨rfl,rfl⟩;rw [zaa Hs])
  | (at_len;refine wpList_len_own _ rfl _ 57 rfl 9 75 Tryz.underlying57 _ db nD D rfl hown ?_))
 go_region_held3 (fun W'=>W'.cell? ⟨eb,0,none⟩=some (.map (some db)))
  (first
   | go_keep
   | (rw [hb2.cell (by simpa using hel)];assumption)
   | (rw [hb3.cell (by have:=hb2.size;simp at this ⊢;omega)];assumption)
   | (rw [World.cell?_of_block (((zaa HU) w3 _ hown3).2.2.block eb (by have h5:w1.heap.size≤w2.heap.size:=hb2.size;have h6:=hb3.size;omega) (by simpa using hebdb))];assumption))
  (first
   | (go_at_call 33;refine (zoq s _ hn).mono ?_;rintro e w2 ⟨rfl,hb2⟩)
   | (go_at_call 32;refine (ybc ar _).mono ?_;rintro e w3 ⟨rfl,hcells3,hmap3,hsz3,hb3⟩;have hown3:w3.ownsMap Tryz.prog 9 zav db nD D:=(hown.drew.kept (za5 hb2 none) (by simp)).kept (za5 hb3 none) (by simp)))
 have hb2':Below w1.heap.size w1 w2:=Below.ofDrew hb2
 have hE3:=((zaa HE).below hb2').below hb3
 obtain ⟨_,hUo,hUg⟩:=(zaa HU) w3 (w2.heap.size+1) hown3
 have htop:=(zaa HE).top
 have hs12:=hb2'.size
 have hfin:=hE3.made (s:=s) (ar:=ar) (zaa Hhas) (zaa Hat) hown.isMap (by rw [size_put (hown.tidy zqh),(zaa Hhas) s hsz,(zaa HR),hsz0];rfl) hUo hUg (zaa HR) hcells3 hmap3 (by omega) (by omega)
 have hgr:w1.grownBy (U w3 (w2.heap.size+1)) (some db):=(za5 (hb2'.trans (hb3.mono hs12)) (some db)).trans hUg
 have HF:=zac hfin
 have hs1:w1.heap.size≤w2.heap.size+1:=by omega
 have hs2:w1.heap.size≤w2.heap.size:=hs12
 have HG:=zac hgr
 clear hfin hgr hUo hUg hE3 hb2 hb2' hb3 hown3 hcells3 hmap3 hsz3
 go_wp2
 go_ret
 exact ⟨rfl,⟨_,_,hs1,hs2,zaa HF⟩,zaa HG⟩
def ygn (p:Ent×Nat):List Value:=[.string p.1.nm,.slice (some ⟨p.2,0,none⟩) p.1.row.length p.1.row.length,.int .i64 p.1.wt]
def zgr (xs:List (Ent×Nat)):List Value:=xs.flatMap ygn
def zh8 (w:World) (xs:List (Ent×Nat)):Prop:=∀ p∈xs,w.heap[p.2]? = some (.cells (p.1.row.map (Value.int .i64)).toArray 2 (0,0))
theorem zom (xs:List (Ent×Nat)) (p:Ent×Nat):zgr (xs ++ [p])=zgr xs ++ ygn p:=by simp [zgr,List.flatMap_append]
theorem zol (xs:List (Ent×Nat)) (i j:Nat) (hi:i<xs.length) (hj:j<3):(zgr xs)[i*3+j]? = (ygn xs[i])[j]?:=by
 induction xs generalizing i with
 | nil=>simp at hi
 | cons p ps ih =>
  have hl:(ygn p).length=3:=rfl
  have e:zgr (p :: ps)=ygn p ++ zgr ps:=rfl
  rw [e]
  cases i with
  | zero=>rw [List.getElem?_append_left (by rw [hl];omega)];simp
  | succ i =>
   have h2:(i+1)*3+j - 3=i*3+j:=by omega
   rw [List.getElem?_append_right (by rw [hl];omega),hl,h2,ih i (by simpa using hi)]
   simp
theorem zeh {w:World} {b:Nat} {zs:List Int} (h:w.heap[b]? = some (.cells (zs.map (Value.int .i64)).toArray 2 (0,0))) (cap:Nat):zbu w (.slice (some ⟨b,0,none⟩) zs.length cap) zs:=by
 refine ⟨_,cap,rfl,fun i hi=>⟨b,0,rfl,?_⟩⟩
 rw [zab h]
 simp [hi]
theorem zk1 {w:World} {g:Nat} {cur:Array Value} {xs:List (Ent×Nat)} (hg:w.heap[g]? = some (.cells cur 49 (0,0))) (ht:cur.toList.take (xs.length*3)=zgr xs) (hr:zh8 w xs) (cap:Nat) :
  zds w (.slice (some ⟨g,0,none⟩) xs.length cap) (xs.map (·.1)):=by
 refine ⟨some ⟨g,0,none⟩,cap,by simp,fun i hi=>?_⟩
 have hi':i<xs.length:=by simpa using hi
 have hx:((xs.map (·.1))[i]?.getD zf6)=(xs[i]).1:=by simp [hi']
 rw [hx]
 have hcell:∀ j,j<3→cur[i*3+j]? = (ygn xs[i])[j]?:=by
  intro j hj
  rw [← zol xs i j hi' hj,← ht,List.getElem?_take_of_lt (by omega)]
  simp
 refine ⟨g,0,.slice (some ⟨xs[i].2,0,none⟩) xs[i].1.row.length xs[i].1.row.length,rfl,?_,?_,?_,?_⟩
 ·rw [zab hg,Nat.zero_add];exact hcell 0 (by omega)
 ·rw [zab hg,Nat.zero_add];exact hcell 1 (by omega)
 ·exact zeh (hr _ (List.getElem_mem hi')) _
 ·rw [zab hg,Nat.zero_add];exact hcell 2 (by omega)
theorem Tryz.info49:(Tryz.prog.info? 49).map (fun i=>(i.zero,i.size,i.bytes))=some (some (.agg #[.string ⟨#[]⟩,.slice none 0 0,.int .i64 0]),3,48):=by kernel_rfl
theorem Tryz.info40:(Tryz.prog.info? 40).map (fun i=>(i.zero,i.size,i.bytes))=some (some (.slice none 0 0),1,24):=by kernel_rfl
theorem zh8.kept {w w':World} {xs:List (Ent×Nat)} {row:Option Nat} (h:zh8 w xs) (hg:w.grownBy w' row) (hrow:∀ j,row=some j→∃ cur t,w.heap[j]? = some (.cells cur t (0,0))∧t≠2):zh8 w' xs:=by
 intro p hp
 have h1:=h p hp
 have hlt:p.2<w.heap.size:=(Array.getElem?_eq_some_iff.1 h1).1
 rw [hg.block p.2 hlt (fun e=>?_)]
 ·exact h1
 ·obtain ⟨cur,t,h2,h3⟩:=hrow p.2 e.symm
  rw [h1] at h2
  cases h2
  exact h3 rfl
theorem zcq {w:World} {base:Nat} {e:TypeId} {size:Nat} {v:Value} {n:Nat} {xs:List Value} (h:w.ownsRow base e size v n xs):∀ j,v.ownBlock=some j→base≤j∧∃ cur,w.heap[j]? = some (.cells cur e (0,0)):=by
 intro j hj
 rcases h.2 with ⟨rfl,_⟩|⟨g,cap,cur,rfl,hb,hg,_⟩
 ·cases hj
 ·cases hj;exact ⟨hb,cur,hg⟩
theorem zge {W:World} {base:Nat} {e:TypeId} {size:Nat} {v:Value} {k:Nat} {xs:List Value} (h:W.ownsRow base e size v (k+1) xs):∃ g cap,v=.slice (some ⟨g,0,none⟩) (k+1) cap:=by
 rcases h.2 with ⟨_,h0⟩|⟨g,cap,_,rfl,_⟩
 ·omega
 ·exact ⟨g,cap,rfl⟩
theorem ygo (x:Ent) (b:Nat):zm6 x b=.agg #[.string x.nm,.slice (some ⟨b,0,none⟩) x.row.length x.row.length,.int .i64 x.wt]:=rfl
theorem zma (w:World) (a b c:Value) (t:TypeId):∀ j u,[a,b,c][j]? = some u→(w.alloc (.cells #[a,b,c] t)).cell? ((⟨w.heap.size,0,none⟩:Addr).add j)=some u:=by
 intro j u hj
 rw [Addr.add_lit,Nat.zero_add,zab (zae w _ _ rfl)]
 simpa using hj
theorem zfv (w:World) (a:Value) (t:TypeId):∀ j u,[a][j]? = some u→(w.alloc (.cells #[a] t)).cell? ((⟨w.heap.size,0,none⟩:Addr).add j)=some u:=by
 intro j u hj
 rw [Addr.add_lit,Nat.zero_add,zab (zae w _ _ rfl)]
 simpa using hj
def zq2 (x y:Int):Int:=if x<y then -1 else if y<x then 1 else 0
theorem zxh (x:Int) (w:World):Calls Tryz.prog 227 #[.int .i64 x] w fun e w'=>e=.returned (.bool false)∧w'=w:=by
 have h:(x != x)=false:=by simp
 go_enter Tryz.func227,Tryz.ntmps227
 go_wp2
 go_ret
 exact ⟨by simp,rfl⟩
theorem yc5 (x y:Int) (w:World):Calls Tryz.prog 211 #[.int .i64 x,.int .i64 y] w fun e w'=>e=.returned (.int .i64 (zq2 x y))∧w'=w:=by
 by_cases h1:x<y
 ·have e:Hid (zq2 x y=-1):=by unfold Hid zq2;rw [if_pos h1]
  go_enter Tryz.func211,Tryz.ntmps211
  go_wp2_with (first|(go_at_call 227;refine (zxh _ _).mono ?_;rintro e w' ⟨rfl,rfl⟩))
  go_ret
  exact ⟨zd2 e.out.symm,rfl⟩
 ·by_cases h2:y<x
  ·have e:Hid (zq2 x y=1):=by unfold Hid zq2;rw [if_neg h1,if_pos h2]
   go_enter Tryz.func211,Tryz.ntmps211
   go_wp2_with (first|(go_at_call 227;refine (zxh _ _).mono ?_;rintro e w' ⟨rfl,rfl⟩))
   go_ret
   exact ⟨zd2 e.out.symm,rfl⟩
  ·have e:Hid (zq2 x y=0):=by unfold Hid zq2;rw [if_neg h1,if_neg h2]
   go_enter Tryz.func211,Tryz.ntmps211
   go_wp2_with (first|(go_at_call 227;refine (zxh _ _).mono ?_;rintro e w' ⟨rfl,rfl⟩))
   go_ret
   exact ⟨zd2 e.out.symm,rfl⟩
def ztp:List Int→List Int→Int
 | x :: xs,y :: ys=>if zq2 x y=0 then ztp xs ys else zq2 x y
 | _,_=>0
theorem yc2 {xs ys:List Int} {k:Nat} (h1:k<xs.length) (h2:k<ys.length):ztp (xs.drop k) (ys.drop k)=if zq2 (xs[k]?.getD 0) (ys[k]?.getD 0)=0 then ztp (xs.drop (k+1)) (ys.drop (k+1)) else zq2 (xs[k]?.getD 0) (ys[k]?.getD 0):=by
 rw [List.drop_eq_getElem_cons h1,List.drop_eq_getElem_cons h2]
 simp [ztp,h1,h2]
theorem zot (v u:Value) (zs ys:List Int) (w:World) (hv:zbu w v zs) (hu:zbu w u ys) (hl:zs.length=ys.length) (hl2:zs.length≤1000000) :
  Calls Tryz.prog 200 #[v,u] w fun e w'=>e=.returned (.int .i64 (ztp zs ys))∧w'=w:=by
 obtain ⟨a,cap,rfl,hc⟩:=hv
 obtain ⟨a',cap',rfl,hc'⟩:=hu
 have Hc:=zac hc
 have Hc':=zac hc'
 have g1:zs.length≤ys.length:=by omega
 have g2:ys.length≤zs.length:=by omega
 clear hc hc' hl
 go_enter Tryz.func200,Tryz.ntmps200
 go_wp2
 go_loop [11] (fun i=>∃ k:Nat,k≤zs.length∧i=.int .i64 k∧ztp zs ys=ztp (zs.drop k) (ys.drop k)) (fun i=>zs.length - (intOf i).toNat)
 case atStart=>exact ⟨0,Nat.zero_le _,rfl,by simp⟩
 case round =>
  obtain ⟨k,hk,rfl,hcm⟩:=hrel
  have Hcm:=zac hcm
  clear hcm
  by_cases hlt:k<zs.length
  ·obtain ⟨b,o,rfl,h1⟩:=(zaa Hc) k hlt
   obtain ⟨b',o',rfl,h2⟩:=(zaa Hc') k (by omega)
   have hlt':k<ys.length:=by omega
   have hst:=yc2 hlt hlt'
   obtain ⟨z,hz⟩:∃ z,z=zs[k]?.getD 0:=⟨_,rfl⟩
   obtain ⟨y,hy⟩:∃ y,y=ys[k]?.getD 0:=⟨_,rfl⟩
   rw [← hz] at h1 hst
   rw [← hy] at h2 hst
   have Hst:=zac hst
   clear hz hy hst
   have hx:(k:Int)<(zs.length:Int):=by omega
   have hx':(k:Int)<(ys.length:Int):=by omega
   by_cases hq:zq2 z y=0
   ·have hqb:(zq2 z y != 0)=false:=by simp [hq]
    have Hr:Hid (ztp zs ys=ztp (zs.drop (k+1)) (ys.drop (k+1))):=by unfold Hid;rw [zaa Hcm,zaa Hst,if_pos hq]
    clear hq
    go_wp2_with (first|(go_at_call 211;refine (yc5 _ _ _).mono ?_;rintro e w' ⟨rfl,rfl⟩))
    go_round
    case rel=>exact ⟨k+1,by omega,by go_num,zaa Hr⟩
    case measure=>simp [intOf];omega
   ·have hqb:(zq2 z y != 0)=true:=by simp [hq]
    have Hr:Hid (ztp zs ys=zq2 z y):=by unfold Hid;rw [zaa Hcm,zaa Hst,if_neg hq]
    clear hq
    go_wp2_with (first|(go_at_call 211;refine (yc5 _ _ _).mono ?_;rintro e w' ⟨rfl,rfl⟩))
    go_ret
    exact ⟨zd2 (zaa Hr).symm,rfl⟩
  ·have Hr:Hid (ztp zs ys=0):=by
    unfold Hid;rw [zaa Hcm,List.drop_eq_nil_of_le (by omega)];rfl
   go_wp2
   go_ret
   exact ⟨zd2 (zaa Hr).symm,rfl⟩
end Go.Proofs.YtoifcnidhfnapabGreatDoor
namespace Go.Proofs.YtoifcnidhfnapabGreatDoor
open Go.RowKit Go.Maps Go.Sort Go.Shelf
def zev (r:Row):List Value:=[.int .i64 r.1,.int .i64 r.2.1,.int .i64 r.2.2]
def zuz (r:Row):List Int:=[r.1,r.2.1,r.2.2]
def zf7 (x y:Row):Int:=ztp (zuz x) (zuz y)
theorem ylj {w:World} {b:Nat} {t:TypeId} (x y z:Int) (h:w.heap[b]? = some (.cells #[.int .i64 x,.int .i64 y,.int .i64 z] t (0,0))):zbu w (.slice (some ⟨b,0,none⟩) 3 3) [x,y,z]:=by
 refine ⟨some ⟨b,0,none⟩,3,rfl,fun i hi=>⟨b,0,rfl,?_⟩⟩
 rw [zab h]
 match i,hi with
 | 0,_=>rfl
 | 1,_=>rfl
 | 2,_=>rfl
theorem zgt (x y:Row) (W:World):Calls Tryz.prog 172 #[.agg #[.int .i64 x.1,.int .i64 x.2.1,.int .i64 x.2.2],.agg #[.int .i64 y.1,.int .i64 y.2.1,.int .i64 y.2.2]] W fun e w'=>e=.returned (.int .i64 (zf7 x y))∧∃ q os',w'=grow (W.drewN q) os':=by
 obtain ⟨x1,x2,x3⟩:=x
 obtain ⟨y1,y2,y3⟩:=y
 dsimp only
 obtain ⟨W2,hW2⟩:∃ W2,W2=(W.alloc (.cells #[.int .i64 x1,.int .i64 x2,.int .i64 x3] 150)).alloc (.cells #[.int .i64 y1,.int .i64 y2,.int .i64 y3] 150):=⟨_,rfl⟩
 have hx:zbu W2 (.slice (some ⟨W.heap.size,0,none⟩) 3 3) [x1,x2,x3]:=ylj (t:=150) x1 x2 x3 (by rw [hW2,Below.heap_alloc _ _ _ (by simp)];exact zae _ _ _ rfl)
 have hy:zbu W2 (.slice (some ⟨W.heap.size+1,0,none⟩) 3 3) [y1,y2,y3]:=ylj (t:=150) y1 y2 y3 (by rw [hW2];exact zae _ _ _ (by simp))
 have Hx:=zac hx
 have Hy:=zac hy
 have HW:=zac hW2
 have Hr:Hid (ztp [x1,x2,x3] [y1,y2,y3]=zf7 (x1,x2,x3) (y1,y2,y3)):=rfl
 clear hx hy
 go_enter Tryz.func172,Tryz.ntmps172
 go_wp2
 rw [← hW2]
 clear hW2
 go_quiet ((go_at_call 200;exact Calls.quiet_of_same (zot _ _ [x1,x2,x3] [y1,y2,y3] _ (by exact (zaa Hx).drewN _) (by exact (zaa Hy).drewN _) rfl (by simp))))
 go_wp2
 go_ret
 refine ⟨zd2 (zaa Hr),nq,#[.cells #[.int .i64 x1,.int .i64 x2,.int .i64 x3] 150,.cells #[.int .i64 y1,.int .i64 y2,.int .i64 y3] 150],?_⟩
 rw [zaa HW,alloc_eq_grow,alloc_eq_grow,grow_grow]
 rfl
theorem yc3 (blk off size:Nat) (w:World):CmpLays Tryz.prog 172 #[] zev 3 zf7 blk off size w:=
 fun _ _ _ _ x y=>zgt x y _
theorem zj4 (x y:Int):zq2 x y<0↔x<y:=by
 unfold zq2
 split
 ·simp [*]
 ·split <;> simp [*] <;> omega
theorem zee (x y:Int):zq2 x y=0↔x=y:=by
 unfold zq2
 split
 ·constructor <;> intro h <;> omega
 ·split
  ·constructor <;> intro h <;> omega
  ·constructor <;> intro h <;> omega
def ltR (x y:Row):Prop:=x.1<y.1∨(x.1=y.1∧(x.2.1<y.2.1∨(x.2.1=y.2.1∧x.2.2<y.2.2)))
theorem zre (x y:Row):ltOf zf7 x y=true↔ltR x y:=by
 unfold ltOf zf7 zuz ltR
 rw [decide_eq_true_iff]
 simp only [ztp]
 by_cases h1:x.1=y.1
 ·rw [if_pos ((zee _ _).2 h1)]
  by_cases h2:x.2.1=y.2.1
  ·rw [if_pos ((zee _ _).2 h2)]
   by_cases h3:x.2.2=y.2.2
   ·rw [if_pos ((zee _ _).2 h3)];simp;omega
   ·rw [if_neg (fun e=>h3 ((zee _ _).1 e)),zj4];omega
  ·rw [if_neg (fun e=>h2 ((zee _ _).1 e)),zj4];omega
 ·rw [if_neg (fun e=>h1 ((zee _ _).1 e)),zj4];omega
theorem zcu (x y:Row):ltOf zf7 x y=false↔¬ ltR x y:=by
 rw [← zre];simp
theorem ykw:SWO (ltOf zf7) where
 irrefl x:=by rw [zcu];unfold ltR;omega
 trans x y z h1 h2:=by rw [zre] at *;unfold ltR at *;omega
 ntrans x y z h1 h2:=by rw [zcu] at *;unfold ltR at *;omega
structure zcg (D:DataW Unit) (left:Lit→Bool) (xs:List Row):Prop where
 wf:∀ x∈xs,zaw x
 apart:xs.Pairwise (·≠·)
 mem:∀ r,zaw r→(r∈xs↔Maps.has D (za2 r)=true∧left (za2 r)=false)
theorem zcg.start (D:DataW Unit):zcg D (Maps.has D) []:=
 ⟨fun x hx=>by simp at hx,List.Pairwise.nil,fun r _=>by simp⟩
theorem zcg.step {D:DataW Unit} {left:Lit→Bool} {xs:List Row} (h:zcg D left xs) {x:Row} (hx:zaw x) (hh:Maps.has D (za2 x)=true) (hl:left (za2 x)=true):zcg D (fun z=>left z && !z.sameKey (za2 x)) (xs ++ [x]):=by
 have hnx:x ∉ xs:=fun hm=>by have:=((h.mem x hx).1 hm).2;rw [hl] at this;cases this
 refine ⟨fun y hy=>?_,?_,fun r hr=>?_⟩
 ·rcases List.mem_append.1 hy with hy|hy
  ·exact h.wf y hy
  ·simp at hy;subst hy;exact hx
 ·refine List.pairwise_append.2 ⟨h.apart,by simp,fun a ha b hb=>?_⟩
  simp at hb
  subst hb
  exact fun e=>hnx (e ▸ ha)
 ·simp only [List.mem_append,List.mem_singleton]
  rw [h.mem r hr]
  have:=zow (Dg:=D) (left:=left) hx hh r hr
  unfold zjo at this
  exact this
theorem zsl (n:Nat) (hn:1≤n) (l Bm b nn:Nat) (D:DataW Unit) (g:Row→Int) (hrep:Rep D g) (J Jx:List Row→World→Prop)
  (hY:∀ pre x W,J pre W→pre.length<Maps.size D→YieldAt Fence.wide (n - 1) Tryz.prog l #[.agg #[.int .i64 x.1,.int .i64 x.2.1,.int .i64 x.2.2]] W fun e W' =>
   (e=.returned (.bool true)∧J (pre ++ [x]) W'∧KeepsWalks W W')∨(e=.returned (.bool false)∧Jx (pre ++ [x]) W'))
  (W:World) (hJ:AbidesFrom W.heap.size J) (hm:W.cell? ⟨Bm,0,none⟩=some (.map (some b))) (hown:W.ownsMap Tryz.prog 150 (plainElem Tryz.prog 2) b nn D) (h0:J [] W) :
  CallsIn Fence.wide n Tryz.prog 182 #[.func (.yield l) #[] #[],.pointer (some ⟨Bm,0,none⟩)] W fun e W'=>(∃ v,e=.returned v) ∧
   ((∃ xs,zcg D (fun _=>false) xs∧J xs W')∨(∃ pre,True∧Jx pre W')):=by
 refine callsIn_of_wp Tryz.func182 rfl trivial ?_ rfl
 simp only [Tryz.ntmps182,List.size_toArray,List.length_cons,List.length_nil,Nat.reduceAdd,Nat.reduceSub,Array.replicate_succ,Array.replicate_zero,List.push_toArray,List.append_toArray,List.nil_append,List.cons_append]
 gi_wp2_with (first
  | (gi_at_range;refine wpListIn_range_own _ rfl _ 102 rfl 150 2 zf8 Tryz.underlying102 _ b nn _ rfl hown ?_;intro w0 hrg0 hg0 hs0)
  | gi_in)
 go_frame
 gi_loopw [6] (fun _ wr=>∃ (left:Lit→Bool) (cnt:Nat) (ss:List Row),wr.ranges Tryz.prog 150 (plainElem Tryz.prog 2) b W.heap.size nn D left cnt∧ss.length+cnt≤Maps.size D∧zcg D left ss∧J ss wr) (fun _ wr=>wr.rangeLeft b W.heap.size)
 case atStart=>exact ⟨_,_,[],hrg0,by simp,zcg.start D,hJ [] W w0 none h0 hg0 (fun r e=>by cases e)⟩
 case round =>
  obtain ⟨left,cnt,ss,hrg,hcs,hC,hJs⟩:=hrel
  gi_wp2_with (first
   | (gi_at_next;refine wpListIn_next_ranges _ rfl _ rfl 150 zf8 (plainElem Tryz.prog 2) (fun x:Row=>.agg #[.int .i64 x.1,.int .i64 x.2.1,.int .i64 x.2.2]) (Value.int .i64) zuv zo4 b W.heap.size nn D left cnt rfl hrg ?_ ?_)
   | gi_in)
  ·intro _ hl0
   gi_wp2
   go_end0
   exact ⟨⟨_,rfl⟩,.inl ⟨ss,⟨hC.wf,hC.apart,fun r hr=>by rw [hC.mem r hr,hl0]⟩,hJs⟩⟩
  ·intro x1 x2 x3 c kl y1 y2 w1 cnt1 hkey hlk hv hat hrg1 hlt hg1 hs1 hen
   obtain ⟨hwx,hkl,hc⟩:=yk9 hrep (x:=(x1,x2,x3)) (y:=(y1,y2)) hkey hv hat
   have hhas:Maps.has D (za2 (x1,x2,x3))=true:=by rw [← hkl];exact has_true_of_atKey hat
   have hJ1:J ss w1:=hJ ss wr w1 (some W.heap.size) hJs hg1 (fun r e=>by cases e;exact ⟨Nat.le_refl _,hrg.iter_walk⟩)
   have hJ2:J ss (w1.alloc (.cells #[.int .i64 x1,.int .i64 x2,.int .i64 x3] 150)):=hJ ss w1 _ none hJ1 (World.grownBy_alloc _ _ none) (fun r e=>by cases e)
   obtain ⟨fn,tmps,assign,body,hy,hR⟩:=hY ss (x1,x2,x3) _ hJ2 (by omega)
   rw [hkl] at hlk hrg1
   have hC2:=hC.step hwx hhas hlk
   have hrg2:=hrg1.alloc (.cells #[.int .i64 x1,.int .i64 x2,.int .i64 x3] 150)
   dsimp only at hy
   clear hkey hv hat hs1 hc hkl
   gi_wp2
   refine hR.mono ?_
   rintro e W3 (⟨rfl,hJ3,hk3⟩|⟨rfl,hJx3⟩)
   ·gi_wp2
    have hrg3:=hrg2.of_walks hk3
    go_roundw
    case rel=>exact ⟨_,cnt1,ss ++ [(x1,x2,x3)],hrg3,by simp;omega,hC2,hJ3⟩
    case measure=>rw [hrg3.left_eq,hrg.left_eq];exact hlt
   ·gi_wp2
    refine bodyPost_ret (results_none rfl _ _ _) rfl ?_
    exact ⟨⟨_,rfl⟩,.inr ⟨ss ++ [(x1,x2,x3)],trivial,hJx3⟩⟩
end Go.Proofs.YtoifcnidhfnapabGreatDoor
