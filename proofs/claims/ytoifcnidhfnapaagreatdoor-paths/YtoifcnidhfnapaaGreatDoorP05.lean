import Derived.Test.YtoifcnidhfnapaaGreatDoorP04
import Derived.Shelf.LaysM
import Derived.Shelf.Strconv.Clone
import Derived.Shelf.SlSortCmp.WholeK
import Derived.Test.YtoifcnidhfnapaaGreatDoorProg
import Derived.Test.YtoifcnidhfnapaaGreatDoorP01
import Derived.Maps.AppendAt
set_option linter.unusedVariables false
set_option linter.unusedSimpArgs false
namespace Go.Proofs.YtoifcnidhfnapaaGreatDoor
open Go.RowKit Go.Maps
attribute [local go_sem ↓] Go.wp_at_zero Go.wp_at_succ
def Chk (st:St) (x:Ent) (c:Int):Prop:=∀ (W:World) (v:Value) (eb db nD S E:Nat),zay W eb db nD S E st→zbm W v x.row →
 Calls Tryz.prog 67 #[.pointer (some ⟨eb,0,none⟩),entV x v] W fun e w'=>e=.returned (.int .i64 c)∧Below W.heap.size W w'
theorem zyv {st:St} {x:Ent} {R:Rel} (hn:x.nm.size≤maxLen) (hR:st x.nm=some R) (hl:x.row.length≤1000000000) (ha:x.row.length=R.ar) (hw:-1000≤x.wt∧x.wt≤1000):Chk st x 0:=by
 intro W v eb db nD S E hE hv
 obtain ⟨a,cap,rfl,_⟩:=hv
 exact check_ok x a cap W hE hn hR hl ha hw
def zc8 (st:St) (nm:ByteArray) (R:Rel):St:=fun m=>if m=nm then some R else st m
theorem zay.added {w w':World} {eb db nD S E:Nat} {st:St} (h:zay w eb db nD S E st) {nm:ByteArray} {R:Rel} {n':Nat} {g:Row→Int} (hR:st nm=some R) (hg:w.grownBy w' (some R.mb)) (hW:WMap w' R.mb n' g) :
  zay w' eb db nD S E (zc8 st nm { R with n:=n',f:=g }):=by
 have hi:=h.inr nm R hR
 have hWm:=(h.rel nm R hR).2
 obtain ⟨D0,⟨es0,cl0,hmb,_⟩,_⟩:=hWm
 obtain ⟨e,⟨D,⟨es,clock,h1,h2⟩,hsz0,hhas,hat⟩,r,ap,inn,inr,top⟩:=h
 have hlt:∀ k,k<E→k<w.heap.size:=fun k hk=>Nat.lt_of_lt_of_le hk top
 obtain ⟨xe,e,e0,nv⟩:=e
 have hv:=nv.2.2.2.2.1
 have hv2:=nv.2.2.2.2.2 nm R hR
 have heb:eb≠R.mb:=fun x=>by rw [x,hmb] at e;cases e
 refine ⟨⟨xe,(hg.block eb (hlt _ inn.2.1) (fun x=>heb (by injection x))).trans e,e0,(nv.kept (hg.block _ (hlt _ (by omega)) (fun x=>by injection x;omega)) (hg.block _ (hlt _ (by omega)) (fun x=>by injection x;omega))).turn (fun m Q hQ=>by
  unfold zc8 at hQ
  by_cases e:m=nm
  ·subst e;simp at hQ;subst hQ;exact hv2
  ·simp [e] at hQ;exact nv.2.2.2.2.2 m Q hQ)⟩,⟨D,⟨es,clock,(hg.block db (hlt _ inn.2.2.2) (fun x=>hi.2.2.2.2 (by injection x with x;exact x.symm))).trans h1,h2⟩,hsz0,fun m hm=>?_,fun m Q hm hQ=>?_⟩,fun m Q hQ=>?_,fun m m' Q Q' hQ hQ' hne=>?_,inn,fun m Q hQ=>?_,Nat.le_trans top hg.size⟩
 ·rw [hhas m hm];unfold zc8;by_cases e:m=nm <;> simp [e,hR]
 ·unfold zc8 at hQ
  by_cases e:m=nm
  ·subst e;simp at hQ;subst hQ;exact hat _ R hm hR
  ·simp [e] at hQ;exact hat m Q hm hQ
 ·unfold zc8 at hQ
  by_cases e:m=nm
  ·subst e;simp at hQ;subst hQ
   refine ⟨?_,hW⟩
   have hrb:R.rb≠R.mb:=fun x=>by have:=(r m R hR).1;rw [x,hmb] at this;cases this
   exact (hg.block _ (hlt _ hi.2.1) (fun x=>hrb (by injection x))).trans (r m R hR).1
  ·simp [e] at hQ
   have hq:=inr m Q hQ
   have hrb:Q.rb≠R.mb:=fun x=>by have:=(r m Q hQ).1;rw [x,hmb] at this;cases this
   exact ⟨(hg.block _ (hlt _ hq.2.1) (fun x=>hrb (by injection x))).trans (r m Q hQ).1,(r m Q hQ).2.kept (hg.block _ (hlt _ hq.2.2.2.1) (fun x=>ap m nm Q R hQ hR e (by injection x)))⟩
 ·unfold zc8 at hQ hQ'
  by_cases e:m=nm
  ·subst e
   have e':¬ m'=m:=fun x=>hne x.symm
   simp at hQ;simp [e'] at hQ';subst hQ
   exact ap m m' R Q' hR hQ' hne
  ·simp [e] at hQ
   by_cases e':m'=nm
   ·subst e';simp at hQ';subst hQ';exact ap m m' Q R hQ hR hne
   ·simp [e'] at hQ';exact ap m m' Q Q' hQ hQ' hne
 ·unfold zc8 at hQ
  by_cases e:m=nm
  ·subst e;simp at hQ;subst hQ;exact inr m R hR
  ·simp [e] at hQ;exact inr m Q hQ
attribute [local go_sem ↓] Go.wp_at_zero Go.wp_at_succ
def ze1 (st:St) (ch:Ch) (N:Nat) (done:ByteArray→Bool):St:=fun nm =>
 match st nm,ch nm with
 | some R,some p=>if done nm=true then some { R with n:=R.n+N,f:=fun r=>R.f r+p.2 r } else some R
 | o,_=>o
def zw4 (st:St) (es:List Ent):St:=fun nm=>(st nm).map fun R=>{ R with n:=R.n+2*es.length,f:=fun r=>R.f r+sumE es nm r }
theorem zs5 (st:St) (ch:Ch) (N:Nat) (D:DataW Unit):ze1 st ch N (fun nm=>Maps.has D (zap nm) && !Maps.has D (zap nm))=st:=by
 funext nm
 unfold ze1
 cases h1:st nm with
 | none=>rfl
 | some R=>cases h2:ch nm <;> simp
theorem zay.congr {w:World} {eb db nD S E:Nat} {st st':St} (h:zay w eb db nD S E st)
  (he:∀ nm,(st nm=none∧st' nm=none)∨∃ R R',st nm=some R∧st' nm=some R'∧R'.rb=R.rb∧R'.mb=R.mb∧R'.ar=R.ar∧R.n≤R'.n∧∀ r,zav r→R.f r=R'.f r):zay w eb db nD S E st':=by
 have back:∀ nm R',st' nm=some R'→∃ R,st nm=some R∧R'.rb=R.rb∧R'.mb=R.mb∧R'.ar=R.ar∧R.n≤R'.n∧∀ r,zav r→R.f r=R'.f r:=by
  intro nm R' hR'
  rcases he nm with ⟨_,h2⟩|⟨R,Q,h1,h2,h3⟩
  ·rw [h2] at hR';cases hR'
  ·rw [h2] at hR';cases hR';exact ⟨R,h1,h3⟩
 obtain ⟨⟨xe,e,e0,nv⟩,⟨D,h1,hsz0,hhas,hat⟩,r,ap,inn,inr,top⟩:=h
 refine ⟨⟨xe,e,e0,nv.turn (fun m Q hQ=>by
  obtain ⟨R,hR,_,h4,_⟩:=back m Q hQ
  rw [h4];exact nv.2.2.2.2.2 m R hR)⟩,⟨D,h1,hsz0,fun m hm=>?_,fun m Q hm hQ=>?_⟩,fun m Q hQ=>?_,fun m m' Q Q' hQ hQ' hne=>?_,inn,fun m Q hQ=>?_,top⟩
 ·rw [hhas m hm]
  rcases he m with ⟨h1,h2⟩|⟨R,Q,h1,h2,_⟩ <;> simp [h1,h2]
 ·obtain ⟨R,hR,h3,_⟩:=back m Q hQ
  rw [h3];exact hat m R hm hR
 ·obtain ⟨R,hR,h3,h4,h5,h6,h7⟩:=back m Q hQ
  have hr:=r m R hR
  rw [h3,h4,h5]
  exact ⟨hr.1,(hr.2.mono h6).congr h7⟩
 ·obtain ⟨R,hR,_,h4,_⟩:=back m Q hQ
  obtain ⟨R',hR',_,h4',_⟩:=back m' Q' hQ'
  rw [h4,h4'];exact ap m m' R R' hR hR' hne
 ·obtain ⟨R,hR,h3,h4,_⟩:=back m Q hQ
  rw [h3,h4];exact inr m R hR
theorem zwn {st:St} {ch:Ch} {N:Nat} {D:DataW Unit} {left:Lit→Bool} {s:ByteArray} {R:Rel} {p:Nat×(Row→Int)} (hR:st s=some R) (hp:ch s=some p) (hh:Maps.has D (zap s)=true) :
  zc8 (ze1 st ch N (fun nm=>Maps.has D (zap nm) && !left (zap nm))) s { R with n:=R.n+N,f:=fun r=>R.f r+p.2 r } =
   ze1 st ch N (fun nm=>Maps.has D (zap nm) && !(left (zap nm) && !(zap nm).sameKey (zap s))):=by
 funext m
 unfold zc8
 by_cases e:m=s
 ·subst e
  rw [if_pos rfl]
  unfold ze1
  rw [hR,hp]
  simp [hh,WideAt.sameKey_self (zck m)]
 ·rw [if_neg e]
  have:(zap m).sameKey (zap s)=false:=sameKey_ne (fun e'=>e (zcu e'))
  unfold ze1
  simp [this]
theorem zq8 {es:List Ent} {nm:ByteArray} (h:∀ x∈es,x.nm≠nm) (r:Row):sumE es nm r=0:=by
 induction es with
 | nil=>rfl
 | cons y ys ih =>
  simp only [sumE]
  rw [ih (fun z hz=>h z (List.mem_cons_of_mem _ hz))]
  simp [h y (List.mem_cons_self)]
def zv6 (es:List Ent) (nm:ByteArray) (f:Row→Int):Prop:=(∃ x∈es,x.nm=nm)→zq9 f (sumE es nm)
theorem sumW {st:St} {es:List Ent} {ch:Ch} (hS:zkn es ch):AllW st ch↔∀ nm R,st nm=some R→zk4 R.f (sumE es nm):=by
 constructor
 ·intro h nm R hR
  cases hc:ch nm with
  | none=>intro r _ h0;exact absurd (zq8 ((hS nm).1 hc) r) h0
  | some p=>have:=h nm p R hc hR;rw [((hS nm).2 p hc).2] at this;exact this
 ·intro h nm p R hp hR
  rw [((hS nm).2 p hp).2];exact h nm R hR
theorem sumR {st:St} {es:List Ent} {ch:Ch} (hS:zkn es ch):AllR st ch↔∀ nm R,st nm=some R→zv6 es nm R.f:=by
 constructor
 ·intro h nm R hR hx
  cases hc:ch nm with
  | none=>obtain ⟨x,hx1,hx2⟩:=hx;exact absurd hx2 ((hS nm).1 hc x hx1)
  | some p=>have:=h nm p R hc hR;rw [((hS nm).2 p hc).2] at this;exact this
 ·intro h nm p R hp hR
  rw [((hS nm).2 p hp).2];exact h nm R hR ((hS nm).2 p hp).1
theorem Tryz.rowK:(96:TypeId)<Tryz.prog.types.size:=of_decide_eq_true (by kernel_rfl)
theorem Tryz.wideK:(match Tryz.prog.underlying 96 with|some (.array _ _)|some (.struct _)=>true|_=>false)=true:=by rw [Tryz.underlying96]
set_option maxRecDepth 100000 in
theorem lawK:Keyed Tryz.prog 96:=Keyed.of_law (deep_law_laid Tryz.laidOut (m:=3) (by omega) Tryz.rowK (by kernel_rfl) Tryz.wideK)
end Go.Proofs.YtoifcnidhfnapaaGreatDoor
/- The library's contracts at this program,in plain words. -/
namespace Go.Proofs
open Go.Shelf
def Tryz.laysM316_ren:Go.Shelf.Ren:=⟨fun|316=>96|n=>n,fun|9=>9|3=>3|4=>4|37=>157|0=>0|127=>242|5=>5|n=>n,fun|n=>n⟩
theorem Tryz.laysM316:Go.Proofs.LaysM.n316 Tryz.prog Tryz.laysM316_ren:={
 mixed:=by kernel_rfl
 f316:=Tryz.func96.trans (congrArg some (by kernel_rfl))
 t0:=Tryz.underlying0
 a0:=Tryz.isAgg0
 z0:=Tryz.sizeOf0
 v0:=Tryz.zeroValue0
 t3:=Tryz.underlying3
 a3:=Tryz.isAgg3
 z3:=Tryz.sizeOf3
 v3:=Tryz.zeroValue3
 t4:=Tryz.underlying4
 a4:=Tryz.isAgg4
 z4:=Tryz.sizeOf4
 v4:=Tryz.zeroValue4
 t9:=Tryz.underlying9
 a9:=Tryz.isAgg9
 z9:=Tryz.sizeOf9
 v9:=Tryz.zeroValue9
 t37:=Tryz.underlying157
 a37:=Tryz.isAgg157
 z37:=Tryz.sizeOf157
 v37:=Tryz.zeroValue157
 t127:=Tryz.underlying242
 a127:=Tryz.isAgg242
 z127:=Tryz.sizeOf242
 v127:=Tryz.zeroValue242
 t5:=Tryz.underlying5
 a5:=Tryz.isAgg5
 z5:=Tryz.sizeOf5
 v5:=Tryz.zeroValue5
 i0:=by kernel_rfl
 i3:=by kernel_rfl
 i4:=by kernel_rfl
 i5:=by kernel_rfl
 i9:=by kernel_rfl
 i37:=by kernel_rfl
 i127:=by kernel_rfl }
def Tryz.sortRow_ren:Go.Shelf.Ren:=⟨fun|6=>161|15=>207|14=>206|28=>238|29=>239|20=>230|21=>231|22=>232|23=>233|24=>234|25=>235|26=>236|27=>237|46=>261|47=>262|48=>263|49=>264|50=>265|57=>282|n=>n,fun|22=>200|24=>77|25=>205|3=>3|39=>342|0=>0|53=>179|55=>372|4=>4|46=>365|45=>364|50=>352|5=>5|9=>9|66=>388|70=>392|76=>402|77=>403|n=>n,fun|n=>n⟩
theorem Tryz.sortRow:Go.Proofs.SlLaysF0.n6 Tryz.prog Tryz.sortRow_ren:={
 mixed:=by kernel_rfl
 f6:=⟨Tryz.f161.name,by decide,Tryz.func161.trans (congrArg some (by kernel_rfl))⟩
 f14:=⟨Tryz.f206.name,by decide,Tryz.func206.trans (congrArg some (by kernel_rfl))⟩
 f15:=Tryz.func207.trans (congrArg some (by kernel_rfl))
 f20:=⟨Tryz.f230.name,by decide,Tryz.func230.trans (congrArg some (by kernel_rfl))⟩
 f21:=⟨Tryz.f231.name,by decide,Tryz.func231.trans (congrArg some (by kernel_rfl))⟩
 f22:=⟨Tryz.f232.name,by decide,Tryz.func232.trans (congrArg some (by kernel_rfl))⟩
 f23:=⟨Tryz.f233.name,by decide,Tryz.func233.trans (congrArg some (by kernel_rfl))⟩
 f24:=⟨Tryz.f234.name,by decide,Tryz.func234.trans (congrArg some (by kernel_rfl))⟩
 f25:=⟨Tryz.f235.name,by decide,Tryz.func235.trans (congrArg some (by kernel_rfl))⟩
 f26:=⟨Tryz.f236.name,by decide,Tryz.func236.trans (congrArg some (by kernel_rfl))⟩
 f27:=⟨Tryz.f237.name,by decide,Tryz.func237.trans (congrArg some (by kernel_rfl))⟩
 f28:=Tryz.func238.trans (congrArg some (by kernel_rfl))
 f29:=Tryz.func239.trans (congrArg some (by kernel_rfl))
 f46:=⟨Tryz.f261.name,by decide,Tryz.func261.trans (congrArg some (by kernel_rfl))⟩
 f47:=Tryz.func262.trans (congrArg some (by kernel_rfl))
 f48:=Tryz.func263.trans (congrArg some (by kernel_rfl))
 f49:=⟨Tryz.f264.name,by decide,Tryz.func264.trans (congrArg some (by kernel_rfl))⟩
 f50:=⟨Tryz.f265.name,by decide,Tryz.func265.trans (congrArg some (by kernel_rfl))⟩
 f57:=⟨Tryz.f282.name,by decide,Tryz.func282.trans (congrArg some (by kernel_rfl))⟩
 t0:=Tryz.underlying0
 a0:=Tryz.isAgg0
 z0:=Tryz.sizeOf0
 v0:=Tryz.zeroValue0
 t3:=Tryz.underlying3
 a3:=Tryz.isAgg3
 z3:=Tryz.sizeOf3
 v3:=Tryz.zeroValue3
 t4:=Tryz.underlying4
 a4:=Tryz.isAgg4
 z4:=Tryz.sizeOf4
 v4:=Tryz.zeroValue4
 t5:=Tryz.underlying5
 a5:=Tryz.isAgg5
 z5:=Tryz.sizeOf5
 v5:=Tryz.zeroValue5
 t9:=Tryz.underlying9
 a9:=Tryz.isAgg9
 z9:=Tryz.sizeOf9
 v9:=Tryz.zeroValue9
 t22:=Tryz.underlying200
 a22:=Tryz.isAgg200
 z22:=Tryz.sizeOf200
 v22:=Tryz.zeroValue200
 t25:=Tryz.underlying205
 a25:=Tryz.isAgg205
 z25:=Tryz.sizeOf205
 v25:=Tryz.zeroValue205
 t39:=Tryz.underlying342
 a39:=Tryz.isAgg342
 z39:=Tryz.sizeOf342
 v39:=Tryz.zeroValue342
 t45:=Tryz.underlying364
 a45:=Tryz.isAgg364
 z45:=Tryz.sizeOf364
 v45:=Tryz.zeroValue364
 t46:=Tryz.underlying365
 a46:=Tryz.isAgg365
 z46:=Tryz.sizeOf365
 v46:=Tryz.zeroValue365
 t50:=Tryz.underlying352
 a50:=Tryz.isAgg352
 z50:=Tryz.sizeOf352
 v50:=Tryz.zeroValue352
 t53:=Tryz.underlying179
 a53:=Tryz.isAgg179
 z53:=Tryz.sizeOf179
 v53:=Tryz.zeroValue179
 t55:=Tryz.underlying372
 a55:=Tryz.isAgg372
 z55:=Tryz.sizeOf372
 v55:=Tryz.zeroValue372
 t66:=Tryz.underlying388
 a66:=Tryz.isAgg388
 z66:=Tryz.sizeOf388
 v66:=Tryz.zeroValue388
 t70:=Tryz.underlying392
 a70:=Tryz.isAgg392
 z70:=Tryz.sizeOf392
 v70:=Tryz.zeroValue392
 t76:=Tryz.underlying402
 a76:=Tryz.isAgg402
 z76:=Tryz.sizeOf402
 v76:=Tryz.zeroValue402
 t77:=Tryz.underlying403
 a77:=Tryz.isAgg403
 z77:=Tryz.sizeOf403
 v77:=Tryz.zeroValue403 }
open Go.RowKit in
theorem Tryz.stringslite_Clone (s:ByteArray) (w:World) (hlim:s.size≤281474976710656) :
  Calls Tryz.prog 96 #[.string s] w fun e w'=>e=.returned (.string s)∧Below w.heap.size w w':=Any.stringslite_Clone Tryz.laysM316 s w hlim
end Go.Proofs
namespace Go.Proofs.YtoifcnidhfnapaaGreatDoor
open Go.RowKit Go.Maps
attribute [local go_sem ↓] Go.wp_at_zero Go.wp_at_succ
theorem zm5 (s:ByteArray) (w:World) (h:s.size≤1000):Calls Tryz.prog 59 #[.string s] w fun e w'=>e=.returned (.string s)∧Below w.heap.size w w':=by
 go_enter Tryz.func59,Tryz.ntmps59
 go_wp2_with (first|(go_at_call 96;refine (Tryz.stringslite_Clone s _ (by omega)).mono ?_;rintro e w1 ⟨rfl,hb1⟩))
 go_ret
 exact ⟨rfl,hb1⟩
set_option maxRecDepth 100000 in
theorem zru (s:ByteArray) (ar:Nat) (w:World) {eb db nD S E:Nat} {st:St} {R:Rel} (hE:zay w eb db nD S E st) (hs:zge s=true) (h1:1≤ar) (h2:ar≤3) (hR:st s=some R) (hn:s.size≤1000) :
  Calls Tryz.prog 34 #[.pointer (some ⟨eb,0,none⟩),.string s,.int .i64 ar] w fun e w'=>e=.returned (.int .i64 3)∧w'=w:=by
 have hrun:=hE.hit (Nat.le_trans hn (by unfold maxLen;omega)) hR
 have c0:w.cell? ⟨eb,0,none⟩=some (.map (some db)):=hE.c0
 have Hs:=hide hs
 have t1:¬ (ar:Int)<1:=by omega
 have t2:¬ 3<(ar:Int):=by omega
 clear hE hs hR
 go_enter Tryz.func34,Tryz.ntmps34
 go_wp2_with (first|(go_at_call 57;refine (zj4 s _ (by omega)).mono ?_;rintro e w1 ⟨rfl,rfl⟩;rw [zaa Hs]))
 go_ret
 exact ⟨rfl,rfl⟩
theorem zay.made {w W:World} {eb db nD S E:Nat} {st:St} {D:DataW Unit} {s:ByteArray} {ar rb mb:Nat} (h:zay w eb db nD S E st)
  (hhas:∀ nm,nm.size≤maxLen→Maps.has D (zap nm)=(st nm).isSome) (hat:∀ nm R,nm.size≤maxLen→st nm=some R→∀ zd,D.atKey (zap nm) zd=.lit (.int .i64 R.rb)) (hD:IsMap D) (hszD:Maps.size (D.put (zap s) (.lit (.int .i64 rb)))=nD+1)
  (hown:W.ownsMap Tryz.prog 9 zas db (nD+1) (D.put (zap s) (.lit (.int .i64 rb)))) (hg:w.grownBy W (some db)) (hR:st s=none)
  (hc:w.heap[rb]? = some (.cells #[.int .i64 ar,.map (some mb)] 129 (0,0))) (hm:WMap w mb 0 (fun _=>0)) (hrb:E≤rb) (hmb:E≤mb):zay W eb db (nD+1) S W.heap.size (zc8 st s ⟨rb,mb,ar,0,fun _=>0⟩):=by
 have hml:=hm.lt
 have hrl:rb<w.heap.size:=(Array.getElem?_eq_some_iff.1 hc).1
 have hdir:=h.dir
 obtain ⟨e,_,r,ap,inn,inr,top⟩:=h
 have hgs:=hg.size
 obtain ⟨D0,⟨es0,cl0,hdb,_⟩,_⟩:=hdir
 obtain ⟨xe,e,e0,nv⟩:=e
 have hv:=nv.2.2.2.2.1
 have hebdb:eb≠db:=fun x=>by rw [x,hdb] at e;cases e
 refine ⟨⟨xe,(hg.block eb (by omega) (fun x=>hebdb (by injection x))).trans e,e0,(nv.kept (hg.block _ (by omega) (fun x=>by injection x;omega)) (hg.block _ (by omega) (fun x=>by injection x;omega))).turn (fun m Q hQ=>by
  unfold zc8 at hQ
  by_cases e:m=s
  ·subst e;simp at hQ;subst hQ;show eb<mb;omega
  ·simp [e] at hQ;exact nv.2.2.2.2.2 m Q hQ)⟩,⟨_,hown,hszD,fun m hm=>?_,fun m Q hm hQ=>?_⟩,fun m Q hQ=>?_,fun m m' Q Q' hQ hQ' hne=>?_,⟨inn.1,by omega,inn.2.2.1,by omega⟩,fun m Q hQ=>?_,Nat.le_refl _⟩
 ·unfold zc8
  by_cases e:m=s
  ·subst e;rw [has_put_same hD (zck _)];simp
  ·rw [has_put_other (fun e'=>e (zcu e')),hhas m hm];simp [e]
 ·unfold zc8 at hQ
  intro zd
  by_cases e:m=s
  ·subst e;simp at hQ;subst hQ;exact atKey_put_same hD (zck _) _ _
  ·simp [e] at hQ;rw [atKey_put_other (fun e'=>e (zcu e'))];exact hat m Q hm hQ zd
 ·unfold zc8 at hQ
  by_cases e:m=s
  ·subst e;simp at hQ;subst hQ
   exact ⟨(hg.block rb hrl (fun x=>by injection x;omega)).trans hc,hm.kept (hg.block mb hml (fun x=>by injection x;omega))⟩
  ·simp [e] at hQ
   have hi:=inr m Q hQ
   have hrd:Q.rb≠db:=fun x=>by have:=(r m Q hQ).1;rw [x,hdb] at this;cases this
   exact ⟨(hg.block _ (by omega) (fun x=>hrd (by injection x))).trans (r m Q hQ).1,(r m Q hQ).2.kept (hg.block _ (by omega) (fun x=>hi.2.2.2.2 (by injection x)))⟩
 ·unfold zc8 at hQ hQ'
  by_cases e:m=s
  ·subst e
   have e':¬ m'=m:=fun x=>hne x.symm
   simp at hQ;simp [e'] at hQ';subst hQ
   have:=inr m' Q' hQ'
   dsimp only
   omega
  ·simp [e] at hQ
   by_cases e':m'=s
   ·subst e';simp at hQ';subst hQ'
    have:=inr m Q hQ
    dsimp only
    omega
   ·simp [e'] at hQ';exact ap m m' Q Q' hQ hQ' hne
 ·unfold zc8 at hQ
  by_cases e:m=s
  ·subst e;simp at hQ;subst hQ;dsimp only;omega
  ·simp [e] at hQ;have:=inr m Q hQ;omega
set_option maxRecDepth 100000 in
set_option maxHeartbeats 1000000 in
theorem zlu (s:ByteArray) (ar:Nat) (w:World) {eb db nD S E:Nat} {st:St} (hE:zay w eb db nD S E st) (hs:zge s=true) (h1:1≤ar) (h2:ar≤3) (hR:st s=none) (hn:s.size≤1000) (hnD:nD≤5) :
  Calls Tryz.prog 34 #[.pointer (some ⟨eb,0,none⟩),.string s,.int .i64 ar] w fun e w'=>e=.returned (.int .i64 0) ∧
   (∃ rb mb,w.heap.size≤rb∧w.heap.size≤mb∧zay w' eb db (nD+1) S w'.heap.size (zc8 st s ⟨rb,mb,ar,0,fun _=>0⟩))∧w.grownBy w' (some db):=by
 have hsz:s.size≤maxLen:=Nat.le_trans hn (by unfold maxLen;omega)
 have hrun:=hE.miss hsz hR
 have c0:w.cell? ⟨eb,0,none⟩=some (.map (some db)):=hE.c0
 have hel:eb<w.heap.size:=by have:=hE.inn;have:=hE.top;omega
 have hdl:db<w.heap.size:=by have:=hE.inn;have:=hE.top;omega
 obtain ⟨D,hown,hsz0,hhas,hat⟩:=hE.dir
 have hlen:=hown.size_le
 have hebdb:eb≠db:=fun e=>by
  obtain ⟨es,cl,h1,_⟩:=hown
  obtain ⟨_,this,_⟩:=hE.eng
  rw [e,h1] at this
  cases this
 have Hs:=hide hs
 have HE:=hide hE
 have HR:=hide hR
 have Hhas:=hide hhas
 have Hat:=hide hat
 have t1:¬ (ar:Int)<1:=by omega
 have t2:¬ 3<(ar:Int):=by omega
 have t3:¬ 6≤(Maps.size D:Int):=by omega
 obtain ⟨U,hU⟩:∃ U:World→Nat→World,∀ W b,W.ownsMap Tryz.prog 9 zas db nD D→(Instr.mapUpdate 68 (.map (some db)) (.string s) (.pointer (some ⟨b,0,none⟩))).run Tryz.prog W=.ok () (U W b) ∧
   (U W b).ownsMap Tryz.prog 9 zas db (nD+1) (D.put (zap s) (.lit (.int .i64 b)))∧W.grownBy (U W b) (some db):=by
  have h:∀ W:World,∃ g:Nat→World,∀ b,W.ownsMap Tryz.prog 9 zas db nD D→(Instr.mapUpdate 68 (.map (some db)) (.string s) (.pointer (some ⟨b,0,none⟩))).run Tryz.prog W=.ok () (g b) ∧
    (g b).ownsMap Tryz.prog 9 zas db (nD+1) (D.put (zap s) (.lit (.int .i64 b)))∧W.grownBy (g b) (some db):=by
   intro W
   have hh:∀ b:Nat,∃ w',W.ownsMap Tryz.prog 9 zas db nD D→(Instr.mapUpdate 68 (.map (some db)) (.string s) (.pointer (some ⟨b,0,none⟩))).run Tryz.prog W=.ok () w' ∧
     w'.ownsMap Tryz.prog 9 zas db (nD+1) (D.put (zap s) (.lit (.int .i64 b)))∧W.grownBy w' (some db):=by
    intro b
    by_cases hW:W.ownsMap Tryz.prog 9 zas db nD D
    ·obtain ⟨w',hr⟩:=hW.update law9 Tryz.underlying68 (by unfold maxLen;omega) (zc5 hsz) (val:=.pointer (some ⟨b,0,none⟩)) (d:=.lit (.int .i64 b)) (ps:=[]) rfl
     exact ⟨w',fun _=>hr⟩
    ·exact ⟨W,fun h=>absurd h hW⟩
   exact ⟨fun b=>Classical.choose (hh b),fun b=>Classical.choose_spec (hh b)⟩
  exact ⟨fun W=>Classical.choose (h W),fun W=>Classical.choose_spec (h W)⟩
 have hUr:∀ W b,W.ownsMap Tryz.prog 9 zas db nD D→(Instr.mapUpdate 68 (.map (some db)) (.string s) (.pointer (some ⟨b,0,none⟩))).run Tryz.prog W=.ok () (U W b):=fun W b h=>(hU W b h).1
 have HU:=hide hU
 clear hE hs hR hhas hat hU
 go_enter Tryz.func34,Tryz.ntmps34
 go_wp2_with (first
  | (go_at_call 57;refine (zj4 s _ (by omega)).mono ?_;rintro e w1 ⟨rfl,rfl⟩;rw [zaa Hs])
  | (at_len;refine wpList_len_own _ rfl _ 68 rfl 9 66 Tryz.underlying68 _ db nD D rfl hown ?_))
 go_region_held3 (fun W'=>W'.cell? ⟨eb,0,none⟩=some (.map (some db)))
  (first
   | go_keep
   | (rw [hb2.cell (by simpa using hel)];assumption)
   | (rw [hb3.cell (by have:=hb2.size;simp at this ⊢;omega)];assumption)
   | (rw [World.cell?_of_block (((zaa HU) w3 _ hown3).2.2.block eb (by have h5:w1.heap.size≤w2.heap.size:=hb2.size;have h6:=hb3.size;omega) (by simpa using hebdb))];assumption))
  (first
   | (go_at_call 59;refine (zm5 s _ hn).mono ?_;rintro e w2 ⟨rfl,hb2⟩)
   | (go_at_call 58;refine (zx0 ar _).mono ?_;rintro e w3 ⟨rfl,hcells3,hmap3,hsz3,hb3⟩;have hown3:w3.ownsMap Tryz.prog 9 zas db nD D:=(hown.drew.kept (zcl hb2 none) (by simp)).kept (zcl hb3 none) (by simp)))
 have hb2':Below w1.heap.size w1 w2:=Below.ofDrew hb2
 have hE3:=((zaa HE).below hb2').below hb3
 obtain ⟨_,hUo,hUg⟩:=(zaa HU) w3 (w2.heap.size+1) hown3
 have htop:=(zaa HE).top
 have hs12:=hb2'.size
 have hfin:=hE3.made (s:=s) (ar:=ar) (zaa Hhas) (zaa Hat) hown.isMap (by rw [size_put (hown.tidy law9),(zaa Hhas) s hsz,(zaa HR),hsz0];rfl) hUo hUg (zaa HR) hcells3 hmap3 (by omega) (by omega)
 have hgr:w1.grownBy (U w3 (w2.heap.size+1)) (some db):=(zcl (hb2'.trans (hb3.mono hs12)) (some db)).trans hUg
 have HF:=hide hfin
 have hs1:w1.heap.size≤w2.heap.size+1:=by omega
 have hs2:w1.heap.size≤w2.heap.size:=hs12
 have HG:=hide hgr
 clear hfin hgr hUo hUg hE3 hb2 hb2' hb3 hown3 hcells3 hmap3 hsz3
 go_wp2
 go_ret
 exact ⟨rfl,⟨_,_,hs1,hs2,zaa HF⟩,zaa HG⟩
end Go.Proofs.YtoifcnidhfnapaaGreatDoor
namespace Go.Proofs.YtoifcnidhfnapaaGreatDoor
namespace K
open Go.RowKit Go.Maps
def st3 (R S T:Rel):St:=zc8 (zc8 (zc8 (fun _=>none) nmR R) nmS S) nmT T
theorem zxf (st:St) (nm:ByteArray) (R:Rel):zc8 st nm R nm=some R:=by simp [zc8]
theorem nmRS:nmR≠nmS:=by decide
theorem nmRT:nmR≠nmT:=by decide
theorem nmST:nmS≠nmT:=by decide
theorem zsj (R S T:Rel):st3 R S T nmR=some R:=by simp [st3,zc8,nmRS,nmRT]
theorem zrr (R S T:Rel):st3 R S T nmS=some S:=by simp [st3,zc8,nmST]
theorem zyc (R S T:Rel):st3 R S T nmT=some T:=by simp [st3,zc8]
theorem zo0 {R S T:Rel} {nm:ByteArray} (h1:nm≠nmR) (h2:nm≠nmS) (h3:nm≠nmT):st3 R S T nm=none:=by simp [st3,zc8,h1,h2,h3]
theorem zv2 {R S T Q:Rel} {nm:ByteArray} (h:st3 R S T nm=some Q):(nm=nmR∧Q=R)∨(nm=nmS∧Q=S)∨(nm=nmT∧Q=T):=by
 by_cases h1:nm=nmR
 ·subst h1;rw [zsj] at h;cases h;exact Or.inl ⟨rfl,rfl⟩
 ·by_cases h2:nm=nmS
  ·subst h2;rw [zrr] at h;cases h;exact Or.inr (Or.inl ⟨rfl,rfl⟩)
  ·by_cases h3:nm=nmT
   ·subst h3;rw [zyc] at h;cases h;exact Or.inr (Or.inr ⟨rfl,rfl⟩)
   ·rw [zo0 h1 h2 h3] at h;cases h
theorem nameB_R:zge nmR=true:=by decide
theorem nameB_S:zge nmS=true:=by decide
theorem zz0:zge nmT=true:=by decide
def znb (R:Rel) (ar:Nat):Prop:=R.ar=ar∧R.n=0∧R.f=fun _=>0
theorem zg9 {w w':World} {S db:Nat} (h:w.grownBy w' (some db)) (hS:S≤db) (hSw:S≤w.heap.size):Below S w w':=(Below.refl _ _).grown h hSw (fun k e=>by cases e;exact hS)
theorem _root_.Go.Proofs.YtoifcnidhfnapaaGreatDoor.NoVs.grown {w w':World} {db:Nat} (h:NoVs w db) (hg:w.grownBy w' (some db)):NoVs w' db:=
 ⟨zaw h.1 (hg.block _ h.1.lt (fun e=>by injection e;omega)),zaw h.2 (hg.block _ h.2.lt (fun e=>by injection e;omega))⟩
set_option maxRecDepth 100000 in
set_option maxHeartbeats 1000000 in
theorem yaj (w:World):Calls Tryz.prog 14 #[] w fun e w'=>∃ eb db R S T,e=.returned (.pointer (some ⟨eb,0,none⟩))∧zay w' eb db 3 w.heap.size w'.heap.size (st3 R S T)∧NoVs w' db∧znb R 2∧znb S 2∧znb T 1∧Below w.heap.size w w':=by
 go_enter Tryz.func14,Tryz.ntmps14
 go_wp2_with fail
 refine (new_any _).mono ?_
 rintro e w1 ⟨rfl,hE1,hN1,hs1,hb1⟩
 have H1:=hide hE1
 have HN1:=hide hN1
 have Hb1:=hide hb1
 clear hE1 hb1 hN1
 go_wp2_with fail
 refine (zlu nmR 2 _ (zaa H1) nameB_R (by omega) (by omega) rfl (by decide) (by omega)).mono ?_
 rintro e w2 ⟨rfl,⟨rb,mb,_,_,hE2⟩,hg2⟩
 have H2:=hide hE2
 have HN2:=hide ((zaa HN1).grown hg2)
 have Hb2:=hide ((zaa Hb1).trans (zg9 hg2 (Nat.le_refl _) (zaa Hb1).size))
 clear hE2 hg2
 go_wp2_with fail
 refine (zlu nmS 2 _ (zaa H2) nameB_S (by omega) (by omega) (by simp [zc8,Ne.symm nmRS]) (by decide) (by omega)).mono ?_
 rintro e w3 ⟨rfl,⟨rb',mb',_,_,hE3⟩,hg3⟩
 have H3:=hide hE3
 have HN3:=hide ((zaa HN2).grown hg3)
 have Hb3:=hide ((zaa Hb2).trans (zg9 hg3 (Nat.le_refl _) (zaa Hb2).size))
 clear hE3 hg3
 go_wp2_with fail
 refine (zlu nmT 1 _ (zaa H3) zz0 (by omega) (by omega) (by simp [zc8,Ne.symm nmRT,Ne.symm nmST]) (by decide) (by omega)).mono ?_
 rintro e w4 ⟨rfl,⟨rb'',mb'',_,_,hE4⟩,hg4⟩
 have H4:=hide hE4
 have HN4:=hide ((zaa HN3).grown hg4)
 have Hb4:=hide ((zaa Hb3).trans (zg9 hg4 (Nat.le_refl _) (zaa Hb3).size))
 clear hE4 hg4
 go_wp2_with fail
 refine (zru nmT 1 _ (zaa H4) zz0 (by omega) (by omega) (zxf _ _ _) (by decide)).mono ?_
 rintro e w5 ⟨rfl,rfl⟩
 go_wp2
 go_ret
 exact ⟨_,_,_,_,_,rfl,zaa H4,zaa HN4,⟨rfl,rfl,rfl⟩,⟨rfl,rfl,rfl⟩,⟨rfl,rfl,rfl⟩,zaa Hb4⟩
end K
end Go.Proofs.YtoifcnidhfnapaaGreatDoor
namespace Go.Proofs.YtoifcnidhfnapaaGreatDoor
open Go.RowKit Go.Maps
def entL (p:Ent×Nat):List Value:=[.string p.1.nm,.slice (some ⟨p.2,0,none⟩) p.1.row.length p.1.row.length,.int .i64 p.1.wt]
def zgs (xs:List (Ent×Nat)):List Value:=xs.flatMap entL
def zjs (w:World) (xs:List (Ent×Nat)):Prop:=∀ p∈xs,w.heap[p.2]? = some (.cells (p.1.row.map (Value.int .i64)).toArray 2 (0,0))
theorem zth (xs:List (Ent×Nat)) (p:Ent×Nat):zgs (xs ++ [p])=zgs xs ++ entL p:=by simp [zgs,List.flatMap_append]
theorem zyq (xs:List (Ent×Nat)) (i j:Nat) (hi:i<xs.length) (hj:j<3):(zgs xs)[i*3+j]? = (entL xs[i])[j]?:=by
 induction xs generalizing i with
 | nil=>simp at hi
 | cons p ps ih =>
  have hl:(entL p).length=3:=rfl
  have e:zgs (p :: ps)=entL p ++ zgs ps:=rfl
  rw [e]
  cases i with
  | zero=>rw [List.getElem?_append_left (by rw [hl];omega)];simp
  | succ i =>
   have h2:(i+1)*3+j - 3=i*3+j:=by omega
   rw [List.getElem?_append_right (by rw [hl];omega),hl,h2,ih i (by simpa using hi)]
   simp
theorem zez {w:World} {b:Nat} {zs:List Int} (h:w.heap[b]? = some (.cells (zs.map (Value.int .i64)).toArray 2 (0,0))) (cap:Nat):zbm w (.slice (some ⟨b,0,none⟩) zs.length cap) zs:=by
 refine ⟨_,cap,rfl,fun i hi=>⟨b,0,rfl,?_⟩⟩
 rw [zab h]
 simp [hi]
theorem zo1 {w:World} {g:Nat} {cur:Array Value} {xs:List (Ent×Nat)} (hg:w.heap[g]? = some (.cells cur 64 (0,0))) (ht:cur.toList.take (xs.length*3)=zgs xs) (hr:zjs w xs) (cap:Nat) :
  zh4 w (.slice (some ⟨g,0,none⟩) xs.length cap) (xs.map (·.1)):=by
 refine ⟨some ⟨g,0,none⟩,cap,by simp,fun i hi=>?_⟩
 have hi':i<xs.length:=by simpa using hi
 have hx:((xs.map (·.1))[i]?.getD zg0)=(xs[i]).1:=by simp [hi']
 rw [hx]
 have hcell:∀ j,j<3→cur[i*3+j]? = (entL xs[i])[j]?:=by
  intro j hj
  rw [← zyq xs i j hi' hj,← ht,List.getElem?_take_of_lt (by omega)]
  simp
 refine ⟨g,0,.slice (some ⟨xs[i].2,0,none⟩) xs[i].1.row.length xs[i].1.row.length,rfl,?_,?_,?_,?_⟩
 ·rw [zab hg,Nat.zero_add];exact hcell 0 (by omega)
 ·rw [zab hg,Nat.zero_add];exact hcell 1 (by omega)
 ·exact zez (hr _ (List.getElem_mem hi')) _
 ·rw [zab hg,Nat.zero_add];exact hcell 2 (by omega)
theorem Tryz.info64:(Tryz.prog.info? 64).map (fun i=>(i.zero,i.size,i.bytes))=some (some (.agg #[.string ⟨#[]⟩,.slice none 0 0,.int .i64 0]),3,48):=by kernel_rfl
theorem Tryz.info49:(Tryz.prog.info? 49).map (fun i=>(i.zero,i.size,i.bytes))=some (some (.slice none 0 0),1,24):=by kernel_rfl
theorem zjs.kept {w w':World} {xs:List (Ent×Nat)} {row:Option Nat} (h:zjs w xs) (hg:w.grownBy w' row) (hrow:∀ j,row=some j→∃ cur t,w.heap[j]? = some (.cells cur t (0,0))∧t≠2):zjs w' xs:=by
 intro p hp
 have h1:=h p hp
 have hlt:p.2<w.heap.size:=(Array.getElem?_eq_some_iff.1 h1).1
 rw [hg.block p.2 hlt (fun e=>?_)]
 ·exact h1
 ·obtain ⟨cur,t,h2,h3⟩:=hrow p.2 e.symm
  rw [h1] at h2
  cases h2
  exact h3 rfl
theorem zdx {w:World} {base:Nat} {e:TypeId} {size:Nat} {v:Value} {n:Nat} {xs:List Value} (h:w.ownsRow base e size v n xs):∀ j,v.ownBlock=some j→base≤j∧∃ cur,w.heap[j]? = some (.cells cur e (0,0)):=by
 intro j hj
 rcases h.2 with ⟨rfl,_⟩|⟨g,cap,cur,rfl,hb,hg,_⟩
 ·cases hj
 ·cases hj;exact ⟨hb,cur,hg⟩
theorem zfo {W:World} {base:Nat} {e:TypeId} {size:Nat} {v:Value} {k:Nat} {xs:List Value} (h:W.ownsRow base e size v (k+1) xs):∃ g cap,v=.slice (some ⟨g,0,none⟩) (k+1) cap:=by
 rcases h.2 with ⟨_,h0⟩|⟨g,cap,_,rfl,_⟩
 ·omega
 ·exact ⟨g,cap,rfl⟩
theorem entL_val (x:Ent) (b:Nat):zkz x b=.agg #[.string x.nm,.slice (some ⟨b,0,none⟩) x.row.length x.row.length,.int .i64 x.wt]:=rfl
theorem zoi (w:World) (a b c:Value) (t:TypeId):∀ j u,[a,b,c][j]? = some u→(w.alloc (.cells #[a,b,c] t)).cell? ((⟨w.heap.size,0,none⟩:Addr).add j)=some u:=by
 intro j u hj
 rw [Addr.add_lit,Nat.zero_add,zab (zad w _ _ rfl)]
 simpa using hj
theorem zgc (w:World) (a:Value) (t:TypeId):∀ j u,[a][j]? = some u→(w.alloc (.cells #[a] t)).cell? ((⟨w.heap.size,0,none⟩:Addr).add j)=some u:=by
 intro j u hj
 rw [Addr.add_lit,Nat.zero_add,zab (zad w _ _ rfl)]
 simpa using hj
end Go.Proofs.YtoifcnidhfnapaaGreatDoor
