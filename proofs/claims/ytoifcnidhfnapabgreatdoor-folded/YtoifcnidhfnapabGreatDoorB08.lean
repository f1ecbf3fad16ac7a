import Derived.Test.YtoifcnidhfnapabGreatDoorB06
import Derived.Test.YtoifcnidhfnapabGreatDoorB01
import Derived.Test.YtoifcnidhfnapabGreatDoorB07
import Derived.Test.YtoifcnidhfnapabGreatDoorB05
import Derived.Test.YtoifcnidhfnapabGreatDoorB02
import Derived.Shelf.SlSorted.Search
import Derived.Deep.RegionWith
set_option linter.unusedVariables false
set_option linter.unusedSimpArgs false
set_option maxRecDepth 100000
set_option maxHeartbeats 16000000
namespace Go.Proofs.YtoifcnidhfnapabGreatDoor
open Go.RowKit Go.Maps Go.Sort Go.Shelf
theorem ym2 (p:Option Addr) (cap:Nat) (fv:Value) (w:World):Calls Tryz.prog 218 #[.slice p 0 cap,.int .i64 0,.int .i64 0,fv] w fun e w'=>e=.returned (.tuple #[])∧w'=w:=by
 go_enter Tryz.func218,Tryz.ntmps218
 go_wp2
 refine wp_loop_rounds 1 ?_
 rw [rounds_succ]
 go_wp2
 go_end0
 exact ⟨rfl,rfl⟩
theorem ym6 (p:Option Addr) (cap:Nat) (lim:Int) (fv:Value) (w:World):Calls Tryz.prog 206 #[.slice p 0 cap,.int .i64 0,.int .i64 0,.int .i64 lim,fv] w fun e w'=>e=.returned (.tuple #[])∧w'=w:=by
 go_enter Tryz.func206,Tryz.ntmps206
 go_wp2
 refine wp_loop_rounds 1 ?_
 rw [rounds_succ]
 go_wp2_with (go_at_call 218;refine (ym2 _ _ _ _).mono ?_;rintro e w' ⟨rfl,rfl⟩)
 (try simp only [Exit.inBlock,Exit.then])
 refine bodyPost_ret (results_none rfl _ _ _) rfl ?_
 exact ⟨rfl,rfl⟩
theorem zr6 (w:World):Calls Tryz.prog 137 #[.int .u64 0] w fun e w'=>e=.returned (.int .i64 (Lib.bitLen 0:Nat))∧w'=w:=
 Any.bits_Len (SlLaysF0.n15.bits (P:=Tryz.prog) (ρ:=Tryz.sortRow_ren) { Tryz.sortRow with }) 0 w (by omega) (by omega)
theorem zlm (p:Option Addr) (cap:Nat) (fv:Value) (w:World):Calls Tryz.prog 181 #[.slice p 0 cap,fv] w fun e w'=>e=.returned (.tuple #[])∧w'=w:=by
 go_enter Tryz.func181,Tryz.ntmps181
 go_wp2_with (first|(go_at_call 137;refine (zr6 _).mono ?_;rintro e w' ⟨rfl,rfl⟩)|(go_at_call 206;refine (ym6 _ _ _ _ _).mono ?_;rintro e w' ⟨rfl,rfl⟩))
 go_end0
 exact ⟨rfl,rfl⟩
theorem zmp (blk cap:Nat) (d:Array Row) (w:World) (hH:HoldsK zev 3 w blk 0 d) (hblk:blk<w.heap.size) (hsz:d.size<4611686018427387904) :
  Calls Tryz.prog 181 #[.slice (some ⟨blk,0,none⟩) d.size cap,.func (.func 172) #[] #[]] w fun e w'=>e=.returned (.tuple #[])∧∃ d' n os,PermIn 0 d.size d d'∧SortedIn (ltOf zf7) 0 d.size d'∧w'=sortWorldK zev 3 w blk 0 n d' os:=by
 have eg:∀ args w,(callFunc 172 args).run Tryz.prog w=.ok (.enter 172 args) w:=enters_of Tryz.func172 (by kernel_rfl) rfl
 exact AnyQ.slices_SortFunc Tryz.sortRow 3 Tryz.isAgg150 Tryz.sizeOf150 zev (fun _=>rfl) (fun x v hv=>by simp [zev] at hv;rcases hv with rfl|rfl|rfl <;> rfl) zf7 ykw 172 #[] blk 0 cap d w eg (yc3 blk 0 d.size w) hH hblk hsz
theorem yd3:tnR.lookup 181=some [1,12]:=by rfl
theorem zln (blk cap:Nat) (d:Array Row) (w:World) (hH:HoldsK zev 3 w blk 0 d) (hblk:blk<w.heap.size) (hsz:d.size<4611686018427387904) :
  Calls Tryz.prog 181 #[.slice (some ⟨blk,0,none⟩) d.size cap,zsr] w fun e w'=>e=.returned (.tuple #[])∧∃ d' n os,PermIn 0 d.size d d'∧SortedIn (ltOf zf7) 0 d.size d'∧w'=sortWorldK zev 3 w blk 0 n d' os:=by
 have hT:Sim.TRel ydk zsr [1,12] #[.slice (some ⟨blk,0,none⟩) d.size cap,ydk] #[.slice (some ⟨blk,0,none⟩) d.size cap,zsr]:=by
  refine ⟨rfl,fun i=>?_⟩
  match i with
  | 0=>exact Sim.VR.of_clean (by decide)
  | 1=>exact ⟨fun h=>absurd (by decide) h,fun _=>.inr ⟨rfl,rfl⟩⟩
  | i+2=>exact Sim.VR.refl_undef _ _ _ _
 have h1:=zmp blk cap d w hH hblk hsz
 exact Sim.calls_turn yjg yd3 hT (fun e w' h=>⟨_,h.1⟩) h1
structure zdr (D:DataW Unit) (ys:List Row):Prop where
 rising:ze4 ys
 wf:∀ y∈ys,zaw y
 mem:∀ r,zaw r→(r∈ys↔Maps.has D (za2 r)=true)
theorem zdj {D:DataW Unit} (hT:Tidy D) {xs:List Row} (hwf:∀ x∈xs,zaw x) (hap:xs.Pairwise (·≠·)) (hm:∀ x∈xs,Maps.has D (za2 x)=true):xs.length≤Maps.size D:=by
 obtain ⟨es,rfl,hp⟩:=hT
 have h1:(xs.map za2).length≤(es.map (·.1)).length:=by
  refine zch _ _ ?_ (fun l hl=>?_)
  ·rw [List.pairwise_map]
   exact hap.imp_of_mem (fun {a b} ha hb hne e=>hne (zd6 (hwf a ha) (hwf b hb) e))
  ·obtain ⟨x,hx,rfl⟩:=List.mem_map.1 hl
   have h:=hm x hx
   rw [has_eq] at h
   obtain ⟨p,hp1,hp2⟩:=List.any_eq_true.1 h
   exact List.mem_map.2 ⟨p,hp1,WideAt.sameKey_eq hp2⟩
 simpa [size_eq] using h1
theorem zgn (Bm b nn:Nat) (D:DataW Unit) (g:Row→Int) (hrep:Rep D g) (w:World) (hm:w.cell? ⟨Bm,0,none⟩=some (.map (some b))) (hown:w.ownsMap Tryz.prog 150 (plainElem Tryz.prog 2) b nn D) (hnn:nn≤1000000000) :
  Calls Tryz.prog 154 #[.func (.func 182) #[] #[.pointer (some ⟨Bm,0,none⟩)],zsr] w fun e w'=>∃ v ys,e=.returned v∧zdr D ys∧zhh w' v ys∧RowKit.Below w.heap.size w w'∧ys.length≤nn∧∀ gb ln cap,v=.slice (some ⟨gb,0,none⟩) ln cap→w.heap.size≤gb:=by
 have H:=zac (zhk Bm b nn D g hrep w hm hown hnn)
 have hszD:=hown.size_le
 have hT:=hown.tidy zf8
 have HT:=zac hT
 have HK:=zac (zmn hown)
 have Hrep:=zac hrep
 clear hrep hm hown hT
 go_enter Tryz.func154,Tryz.ntmps154
 go_wp2_with fail
 refine (zaa H).mono ?_
 rintro e w1 ⟨v,xs,rfl,hK,ho,hb⟩
 have hmem:∀ r,zaw r→(r∈xs↔Maps.has D (za2 r)=true):=fun r hr=>by rw [hK.mem r hr];simp
 have hxl:xs.length≤nn:=Nat.le_trans (zdj (zaa HT) hK.wf hK.apart (fun x hx=>(hmem x (hK.wf x hx)).1 hx)) hszD
 rcases ho.2 with ⟨rfl,h0⟩|⟨gb,cap,cur,rfl,hbg,hgh,_⟩
 ·have hx0:xs=[]:=List.eq_nil_of_length_eq_zero h0
  subst hx0
  have HR:Hid (zdr D []):=⟨List.Pairwise.nil,fun y hy=>by simp at hy,hmem⟩
  have Hb:=zac hb
  clear H hK hmem ho hb
  go_wp2_with (first|(go_at_call 181;refine (zlm _ _ _ _).mono ?_;rintro e w' ⟨rfl,rfl⟩))
  go_ret
  exact ⟨_,[],rfl,zaa HR,⟨none,0,rfl,fun i hi=>by simp at hi⟩,zaa Hb,by simp,fun gb ln cap e=>by simp at e⟩
 ·have hH:=zgb ho
  have hgl:gb<w1.heap.size:=(Array.getElem?_eq_some_iff.1 hgh).1
  have Hs:=zac (zln gb cap xs.toArray w1 hH hgl (by simp;omega))
  have HH:=zac hH
  have Hb:=zac hb
  have Hmem:=zac hmem
  have HKo:=zac hK
  clear H hK hmem ho hb hgh hH
  go_wp2_with fail
  refine (zaa Hs).mono ?_
  rintro e w2 ⟨rfl,d',n,os,hp,hsrt,rfl⟩
  have hsz:d'.size=xs.length:=by have:=hp.1;simpa using this
  have hperm:d'.toList.Perm xs:=by
   have h:=hp.2.2
   have e1:(d'.extract 0 xs.toArray.size)=d':=by rw [Array.extract_eq_self_of_le (by simp;omega)]
   have e2:(xs.toArray.extract 0 xs.toArray.size)=xs.toArray:=Array.extract_eq_self_of_le (by simp)
   rw [e1,e2] at h
   simpa using h
  have hHd:HoldsK zev 3 (sortWorldK zev 3 w1 gb 0 n d' os) gb 0 d':=holdsK_sortWorldK_c zev 3 w1 gb 0 xs.toArray d' n os (zaa HH) hgl (by simpa using hsz)
  have hR:zdr D d'.toList:=by
   refine ⟨zdy ?_ ?_,fun y hy=>(zaa HKo).wf y (hperm.mem_iff.1 hy),fun r hr=>by rw [hperm.mem_iff];exact (zaa Hmem) r hr⟩
   ·rw [hsz];simpa using hsrt
   ·exact (hperm.pairwise_iff (fun {a b} (h:a≠b)=>h.symm)).2 (zaa HKo).apart
  have hTr:=ze2 (cap:=cap) hHd
  have hBe:RowKit.Below w.heap.size w (sortWorldK zev 3 w1 gb 0 n d' os):=(zaa Hb).grown (zi4 w1 gb n d' os) (zaa Hb).size (fun k e=>by cases e;exact hbg)
  rw [hsz] at hTr
  have HF:=zac (And.intro hR (And.intro hTr hBe))
  clear hR hTr hBe hHd hperm hp hsrt Hs
  generalize sortWorldK zev 3 w1 gb 0 n d' os=w3 at *
  go_wp2
  go_ret
  exact ⟨_,_,rfl,(zaa HF).1,(zaa HF).2.1,(zaa HF).2.2,by simp [hsz];omega,fun g' ln cap' e=>by simp at e;omega⟩
end Go.Proofs.YtoifcnidhfnapabGreatDoor
namespace Go.Proofs
open Go.Shelf
def Tryz.search_ren:Go.Shelf.Ren:=⟨fun|16=>183|n=>n,fun|3=>3|4=>4|35=>270|38=>256|n=>n,fun|n=>n⟩
theorem Tryz.searchL:Go.Proofs.SlLaysO.n16 Tryz.prog Tryz.search_ren:={
 mixed:=by kernel_rfl
 f16:=Tryz.func183.trans (congrArg some (by kernel_rfl))
 t3:=Tryz.underlying3
 a3:=Tryz.isAgg3
 z3:=Tryz.sizeOf3
 v3:=Tryz.zeroValue3
 t4:=Tryz.underlying4
 a4:=Tryz.isAgg4
 z4:=Tryz.sizeOf4
 v4:=Tryz.zeroValue4
 t35:=Tryz.underlying270
 a35:=Tryz.isAgg270
 z35:=Tryz.sizeOf270
 v35:=Tryz.zeroValue270
 t38:=Tryz.underlying256
 a38:=Tryz.isAgg256
 z38:=Tryz.sizeOf256
 v38:=Tryz.zeroValue256 }
end Go.Proofs
namespace Go.Proofs.YtoifcnidhfnapabGreatDoor
open Go.RowKit Go.Maps Go.Sort Go.Shelf
def zal (y:Row) (c:Nat):Int:=match c with|0=>y.1|1=>y.2.1|_=>y.2.2
abbrev zai:=Row×Int
def zct:zai:=((0,0,0),0)
def zc2 (w:World) (b:Nat):Prop:=∃ cs,w.heap[b]? = some (.cells cs 259 (0,0))
def zb1 (w:World) (v:Value) (es:List zai):Prop:=
 ∃ a cap,v=.slice a es.length cap∧es.length≤cap∧∀ i,i<es.length→∃ b o,a=some ⟨b,o,none⟩∧w.cell? ⟨b,o+i*4,none⟩=some (.int .i64 (es[i]?.getD zct).1.1) ∧
  w.cell? ⟨b,o+i*4+1,none⟩=some (.int .i64 (es[i]?.getD zct).1.2.1)∧w.cell? ⟨b,o+i*4+2,none⟩=some (.int .i64 (es[i]?.getD zct).1.2.2)∧w.cell? ⟨b,o+i*4+3,none⟩=some (.int .i64 (es[i]?.getD zct).2)∧zc2 w b
theorem zb1.below {w w':World} {v:Value} {es:List zai} (h:zb1 w v es) (hb:Below w.heap.size w w'):zb1 w' v es:=by
 obtain ⟨a,cap,rfl,hc,hx⟩:=h
 refine ⟨a,cap,rfl,hc,fun i hi=>?_⟩
 obtain ⟨b,o,rfl,h0,h1,h2,h3⟩:=hx i hi
 have hl:=World.block_lt_of_cell? w _ h0
 have hl':b<w.heap.size:=hl
 have key:∀ q,w'.cell? ⟨b,q,none⟩=w.cell? ⟨b,q,none⟩:=fun q=>hb.cell (p:=⟨b,q,none⟩) hl'
 obtain ⟨h3,cs,h4⟩:=h3
 exact ⟨b,o,rfl,(key _).trans h0,(key _).trans h1,(key _).trans h2,(key _).trans h3,cs,(hb.block b hl').trans h4⟩
theorem zb1.col {w:World} {a:Option Addr} {n cap:Nat} {es:List zai} (h:zb1 w (.slice a n cap) es) {i:Nat} (hi:i<es.length) {c:Nat} (hc:c<3) :
  ∃ b o,a=some ⟨b,o,none⟩∧w.cell? ⟨b,o+i*4+c,none⟩=some (.int .i64 (zal (es[i]?.getD zct).1 c)):=by
 obtain ⟨a',cap',e,_,hx⟩:=h
 injection e with e1 e2 e3
 subst e1
 obtain ⟨b,o,rfl,h0,h1,h2,h3⟩:=hx i hi
 refine ⟨b,o,rfl,?_⟩
 match c,hc with
 | 0,_=>exact h0
 | 1,_=>exact h1
 | 2,_=>exact h2
theorem ydl (es:List zai) (a:Option Addr) (cap c i B1 B2 B3:Nat) (z:Int) (W:World) (hr:zb1 W (.slice a es.length cap) es) (hc:c<3) (hi:i<es.length)
  (h1:W.cell? ⟨B1,0,none⟩=some (.slice a es.length cap)) (h2:W.cell? ⟨B2,0,none⟩=some (.int .i64 c)) (h3:W.cell? ⟨B3,0,none⟩=some (.int .i64 z)) :
  Calls Tryz.prog 184 #[.int .i64 i,.pointer (some ⟨B1,0,none⟩),.pointer (some ⟨B2,0,none⟩),.pointer (some ⟨B3,0,none⟩)] W fun e w'=>e=.returned (.bool (decide (z≤zal (es[i]?.getD zct).1 c)))∧za9 W w':=by
 obtain ⟨b,o,rfl,d⟩:=hr.col hi hc
 generalize zal (es[i]?.getD zct).1 c=q at d
 clear hr
 have hx:(i:Int)<(es.length:Int):=by omega
 have hc3:(c:Int)<3:=by omega
 go_enter Tryz.func184,Tryz.ntmps184
 go_wp2
 go_quiet (fail)
 go_wp2
 go_ret
 exact ⟨rfl,(za9.refl _).thenN _⟩
def zfc (c:Nat) (z:Int) (es:List zai):List zai:=es.drop ((List.range es.length).countP fun i=>!decide (z≤zal (es[i]?.getD zct).1 c))
def zbk (c:Nat) (es:List zai):Prop:=es.Pairwise fun a b=>zal a.1 c≤zal b.1 c
theorem zbk.mono {c:Nat} {es:List zai} (h:zbk c es) (i j:Nat) (hij:i≤j) (hj:j<es.length):zal (es[i]?.getD zct).1 c≤zal (es[j]?.getD zct).1 c:=by
 have hi:i<es.length:=by omega
 simp only [List.getElem?_eq_getElem hi,List.getElem?_eq_getElem hj,Option.getD_some]
 rcases Nat.lt_or_eq_of_le hij with h'|rfl
 ·exact List.pairwise_iff_getElem.1 h i j hi hj h'
 ·exact Int.le_refl _
theorem zb1.drop {w:World} {b o n cap:Nat} {es:List zai} (h:zb1 w (.slice (some ⟨b,o,none⟩) n cap) es) (k:Nat) (hk:k≤es.length):zb1 w (.slice (some ⟨b,o+k*4,none⟩) (es.length - k) (cap - k)) (es.drop k):=by
 obtain ⟨a,cap',e,hc,hx⟩:=h
 injection e with e1 e2 e3
 subst e1 e3
 refine ⟨some ⟨b,o+k*4,none⟩,cap - k,by rw [List.length_drop],by rw [List.length_drop];omega,fun i hi=>?_⟩
 rw [List.length_drop] at hi
 obtain ⟨b',o',e,h0,h1,h2,h3⟩:=hx (k+i) (by omega)
 injection e with e
 injection e with e1 e2
 subst e1 e2
 refine ⟨b,o+k*4,rfl,?_⟩
 simp only [List.getElem?_drop]
 have e:o+(k+i)*4=o+k*4+i*4:=by omega
 rw [e] at h0 h1 h2 h3
 exact ⟨h0,h1,h2,h3⟩
theorem zb1.cap {w:World} {a:Option Addr} {n cap:Nat} {es:List zai} (h:zb1 w (.slice a n cap) es):es.length≤cap:=by
 obtain ⟨a',cap',e,hc,_⟩:=h
 injection e with e1 e2 e3
 subst e3
 exact hc
theorem zb1.gone (w:World) (a:Option Addr) {k:Nat} {es:List zai} (h:es.length≤k):zb1 w (.slice a (es.length - k) 0) (es.drop k):=by
 have e:es.drop k=[]:=List.drop_eq_nil_of_le h
 rw [e]
 exact ⟨a,0,by simp;omega,by simp,fun i hi=>by simp at hi⟩
theorem zj2 {w:World} {p q:Nat} {os:Array Obj}:Below w.heap.size w (grow ((w.drewN p).drewN q) os):=by
 refine ⟨rfl,rfl,rfl,by simp [grow],fun k hk=>?_⟩
 simp only [grow]
 exact Array.getElem?_append_left hk
theorem yct {w w4:World} {p q:Nat} {os:Array Obj} (h:w4=grow ((w.drewN p).drewN q) os):Below w.heap.size w w4:=by subst h;exact zj2
theorem zyp (es:List zai) (b o cap c:Nat) (z:Int) (W:World) (hr:zb1 W (.slice (some ⟨b,o,none⟩) es.length cap) es) (hc:c<3) (hs:zbk c es) (hn:es.length≤1000000000000) :
  Calls Tryz.prog 156 #[.slice (some ⟨b,o,none⟩) es.length cap,.int .i64 c,.int .i64 z] W fun e w'=>∃ o' cap',e=.returned (.slice (some ⟨b,o',none⟩) (zfc c z es).length cap')∧zb1 W (.slice (some ⟨b,o',none⟩) (zfc c z es).length cap') (zfc c z es)∧Below W.heap.size W w':=by
 obtain ⟨W3,hW3⟩:∃ W3,W3=((W.alloc (.cells #[.slice (some ⟨b,o,none⟩) es.length cap] 197)).alloc (.cells #[.int .i64 c] 3)).alloc (.cells #[.int .i64 z] 2):=⟨_,rfl⟩
 have hb3:Below W.heap.size W W3:=by rw [hW3];exact (((Below.refl _ _).alloc (Nat.le_refl _) _).alloc (by simp) _).alloc (by simp;omega) _
 have c1:W3.cell? ⟨W.heap.size,0,none⟩=some (.slice (some ⟨b,o,none⟩) es.length cap):=by
  rw [hW3]
  exact zab ((Below.heap_alloc _ _ _ (by simp;omega)).trans ((Below.heap_alloc _ _ _ (by simp)).trans (zae _ _ _ rfl))) 0
 have c2:W3.cell? ⟨W.heap.size+1,0,none⟩=some (.int .i64 c):=by
  rw [hW3]
  exact zab ((Below.heap_alloc _ _ _ (by simp)).trans (zae _ _ _ (by simp))) 0
 have c3:W3.cell? ⟨W.heap.size+2,0,none⟩=some (.int .i64 z):=by
  rw [hW3]
  exact zab (zae _ _ _ (by simp)) 0
 have hr3:=hr.below hb3
 have hcap:es.length≤cap:=hr.cap
 have HS:Hid (∀ m,Calls Tryz.prog 183 #[.int .i64 es.length,.func (.func 184) #[] #[.pointer (some ⟨W.heap.size,0,none⟩),.pointer (some ⟨W.heap.size+1,0,none⟩),.pointer (some ⟨W.heap.size+2,0,none⟩)]] (W3.drewN m) fun e w' =>
   e=.returned (.int .i64 ((List.range es.length).countP fun i=>!decide (z≤zal (es[i]?.getD zct).1 c):Nat))∧∃ q os,w'=grow ((W3.drewN m).drewN q) os):=by
  intro m0
  refine Any.sort_Search Tryz.searchL 184 _ es.length (fun i=>decide (z≤zal (es[i]?.getD zct).1 c)) (W3.drewN m0) (enters_of Tryz.func184 (by kernel_rfl) rfl) (by omega) (fun m os i hi=>?_) (fun i j hij hj hi=>?_)
  ·have hb:Below W3.heap.size W3 (grow ((W3.drewN m0).drewN m) os):=zj2
   have hcell:∀ B q v,W3.cell? ⟨B,q,none⟩=some v→(grow ((W3.drewN m0).drewN m) os).cell? ⟨B,q,none⟩=some v:=fun B q v h=>(hb.cell (p:=⟨B,q,none⟩) (World.block_lt_of_cell? _ _ h)).trans h
   refine (ydl es _ cap c i _ _ _ z _ (hr3.below hb) hc hi (hcell _ _ _ c1) (hcell _ _ _ c2) (hcell _ _ _ c3)).mono ?_
   rintro e w' ⟨rfl,hd⟩
   refine ⟨rfl,?_⟩
   obtain ⟨q,rfl⟩:=hd
   exact ⟨q,#[],by rw [grow_empty]⟩
  ·simp only [decide_eq_true_eq] at hi ⊢
   exact Int.le_trans hi (hs.mono i j hij hj)
 have hcnt:(List.range es.length).countP (fun i=>!decide (z≤zal (es[i]?.getD zct).1 c))≤es.length:=by
  have:=List.countP_le_length (p:=fun i=>!decide (z≤zal (es[i]?.getD zct).1 c)) (l:=List.range es.length)
  simpa using this
 have Hdrop:=zac (hr.drop _ hcnt)
 have Hb3:=zac hb3
 have HfL:Hid (zfc c z es=es.drop ((List.range es.length).countP fun i=>!decide (z≤zal (es[i]?.getD zct).1 c))):=rfl
 generalize (List.range es.length).countP (fun i=>!decide (z≤zal (es[i]?.getD zct).1 c))=k at *
 clear hr hr3 hs hb3
 go_enter Tryz.func156,Tryz.ntmps156
 go_wp2
 rw [← hW3]
 clear hW3
 have hk0:(k:Int)≤(es.length:Int):=by omega
 go_region_with (go_at_call 183;refine (show Calls _ _ _ (W3.drewN 1) _ from (zaa HS) 1).mono ?_;rintro e w4 ⟨rfl,q,os,hw4⟩;have Hb4:=zac (yct hw4);have c1':w4.cell? ⟨W.heap.size,0,none⟩=some (.slice (some ⟨b,o,none⟩) es.length cap):=((zaa Hb4).cell (p:=⟨W.heap.size,0,none⟩) (World.block_lt_of_cell? _ _ c1)).trans c1;clear hw4)
 all_goals go_wp2
 all_goals go_ret
 all_goals rw [zaa HfL]
 all_goals first
  | exact ⟨o+k*4,cap - k,by rw [List.length_drop];rfl,by rw [List.length_drop];exact (zaa Hdrop),(zaa Hb3).trans ((zaa Hb4).mono (zaa Hb3).size)⟩
  | exact ⟨o,0,by rw [List.length_drop];rfl,by rw [List.length_drop];exact zb1.gone _ _ (by omega),(zaa Hb3).trans ((zaa Hb4).mono (zaa Hb3).size)⟩
end Go.Proofs.YtoifcnidhfnapabGreatDoor
namespace Go.Proofs.YtoifcnidhfnapabGreatDoor
open Go.RowKit Go.Maps Go.Sort Go.Shelf
theorem ykh (es:List zai) (a:Option Addr) (cap c i B1 B2 B3:Nat) (z:Int) (W:World) (hr:zb1 W (.slice a es.length cap) es) (hc:c<3) (hi:i<es.length)
  (h1:W.cell? ⟨B1,0,none⟩=some (.slice a es.length cap)) (h2:W.cell? ⟨B2,0,none⟩=some (.int .i64 c)) (h3:W.cell? ⟨B3,0,none⟩=some (.int .i64 z)) :
  Calls Tryz.prog 185 #[.int .i64 i,.pointer (some ⟨B1,0,none⟩),.pointer (some ⟨B2,0,none⟩),.pointer (some ⟨B3,0,none⟩)] W fun e w'=>e=.returned (.bool (decide (z<zal (es[i]?.getD zct).1 c)))∧za9 W w':=by
 obtain ⟨b,o,rfl,d⟩:=hr.col hi hc
 generalize zal (es[i]?.getD zct).1 c=q at d
 clear hr
 have hx:(i:Int)<(es.length:Int):=by omega
 have hc3:(c:Int)<3:=by omega
 go_enter Tryz.func185,Tryz.ntmps185
 go_wp2
 go_quiet (fail)
 go_wp2
 go_ret
 exact ⟨rfl,(za9.refl _).thenN _⟩
def zqs (c:Nat) (z:Int) (es:List zai):List zai:=es.take ((List.range es.length).countP fun i=>!decide (z<zal (es[i]?.getD zct).1 c))
theorem yj5 {w:World} {b o n cap:Nat} {es:List zai} (h:zb1 w (.slice (some ⟨b,o,none⟩) n cap) es) (k:Nat) (hk:k≤es.length):zb1 w (.slice (some ⟨b,o,none⟩) k cap) (es.take k):=by
 obtain ⟨a,cap',e,hc,hx⟩:=h
 injection e with e1 e2 e3
 subst e1 e3
 refine ⟨some ⟨b,o,none⟩,cap,by rw [List.length_take,Nat.min_eq_left hk],by rw [List.length_take];omega,fun i hi=>?_⟩
 rw [List.length_take] at hi
 obtain ⟨b',o',e,h0,h1,h2,h3⟩:=hx i (by omega)
 refine ⟨b',o',e,?_⟩
 rw [List.getElem?_take_of_lt (by omega)]
 exact ⟨h0,h1,h2,h3⟩
theorem yii (es:List zai) (b o cap c:Nat) (z:Int) (W:World) (hr:zb1 W (.slice (some ⟨b,o,none⟩) es.length cap) es) (hc:c<3) (hs:zbk c es) (hn:es.length≤1000000000000) :
  Calls Tryz.prog 157 #[.slice (some ⟨b,o,none⟩) es.length cap,.int .i64 c,.int .i64 z] W fun e w'=>∃ o' cap',e=.returned (.slice (some ⟨b,o',none⟩) (zqs c z es).length cap')∧zb1 W (.slice (some ⟨b,o',none⟩) (zqs c z es).length cap') (zqs c z es)∧Below W.heap.size W w':=by
 obtain ⟨W3,hW3⟩:∃ W3,W3=((W.alloc (.cells #[.slice (some ⟨b,o,none⟩) es.length cap] 197)).alloc (.cells #[.int .i64 c] 3)).alloc (.cells #[.int .i64 z] 2):=⟨_,rfl⟩
 have hb3:Below W.heap.size W W3:=by rw [hW3];exact (((Below.refl _ _).alloc (Nat.le_refl _) _).alloc (by simp) _).alloc (by simp;omega) _
 have c1:W3.cell? ⟨W.heap.size,0,none⟩=some (.slice (some ⟨b,o,none⟩) es.length cap):=by
  rw [hW3]
  exact zab ((Below.heap_alloc _ _ _ (by simp;omega)).trans ((Below.heap_alloc _ _ _ (by simp)).trans (zae _ _ _ rfl))) 0
 have c2:W3.cell? ⟨W.heap.size+1,0,none⟩=some (.int .i64 c):=by
  rw [hW3]
  exact zab ((Below.heap_alloc _ _ _ (by simp)).trans (zae _ _ _ (by simp))) 0
 have c3:W3.cell? ⟨W.heap.size+2,0,none⟩=some (.int .i64 z):=by
  rw [hW3]
  exact zab (zae _ _ _ (by simp)) 0
 have hr3:=hr.below hb3
 have hcap:es.length≤cap:=hr.cap
 have HS:Hid (∀ m,Calls Tryz.prog 183 #[.int .i64 es.length,.func (.func 185) #[] #[.pointer (some ⟨W.heap.size,0,none⟩),.pointer (some ⟨W.heap.size+1,0,none⟩),.pointer (some ⟨W.heap.size+2,0,none⟩)]] (W3.drewN m) fun e w' =>
   e=.returned (.int .i64 ((List.range es.length).countP fun i=>!decide (z<zal (es[i]?.getD zct).1 c):Nat))∧∃ q os,w'=grow ((W3.drewN m).drewN q) os):=by
  intro m0
  refine Any.sort_Search Tryz.searchL 185 _ es.length (fun i=>decide (z<zal (es[i]?.getD zct).1 c)) (W3.drewN m0) (enters_of Tryz.func185 (by kernel_rfl) rfl) (by omega) (fun m os i hi=>?_) (fun i j hij hj hi=>?_)
  ·have hb:Below W3.heap.size W3 (grow ((W3.drewN m0).drewN m) os):=zj2
   have hcell:∀ B q v,W3.cell? ⟨B,q,none⟩=some v→(grow ((W3.drewN m0).drewN m) os).cell? ⟨B,q,none⟩=some v:=fun B q v h=>(hb.cell (p:=⟨B,q,none⟩) (World.block_lt_of_cell? _ _ h)).trans h
   refine (ykh es _ cap c i _ _ _ z _ (hr3.below hb) hc hi (hcell _ _ _ c1) (hcell _ _ _ c2) (hcell _ _ _ c3)).mono ?_
   rintro e w' ⟨rfl,hd⟩
   refine ⟨rfl,?_⟩
   obtain ⟨q,rfl⟩:=hd
   exact ⟨q,#[],by rw [grow_empty]⟩
  ·simp only [decide_eq_true_eq] at hi ⊢
   exact Int.lt_of_lt_of_le hi (hs.mono i j hij hj)
 have hcnt:(List.range es.length).countP (fun i=>!decide (z<zal (es[i]?.getD zct).1 c))≤es.length:=by
  have:=List.countP_le_length (p:=fun i=>!decide (z<zal (es[i]?.getD zct).1 c)) (l:=List.range es.length)
  simpa using this
 have Hdrop:=zac (yj5 hr _ hcnt)
 have Hb3:=zac hb3
 have HfL:Hid (zqs c z es=es.take ((List.range es.length).countP fun i=>!decide (z<zal (es[i]?.getD zct).1 c))):=rfl
 generalize (List.range es.length).countP (fun i=>!decide (z<zal (es[i]?.getD zct).1 c))=k at *
 clear hr hr3 hs hb3
 go_enter Tryz.func157,Tryz.ntmps157
 go_wp2
 rw [← hW3]
 clear hW3
 have hk0:(k:Int)≤(es.length:Int):=by omega
 go_region_with (go_at_call 183;refine (show Calls _ _ _ (W3.drewN 1) _ from (zaa HS) 1).mono ?_;rintro e w4 ⟨rfl,q,os,hw4⟩;have Hb4:=zac (yct hw4);have c1':w4.cell? ⟨W.heap.size,0,none⟩=some (.slice (some ⟨b,o,none⟩) es.length cap):=((zaa Hb4).cell (p:=⟨W.heap.size,0,none⟩) (World.block_lt_of_cell? _ _ c1)).trans c1;clear hw4)
 all_goals go_wp2
 all_goals go_ret
 all_goals rw [zaa HfL]
 all_goals first
  | exact ⟨o,cap,by rw [List.length_take,Nat.min_eq_left hcnt];rfl,by rw [List.length_take,Nat.min_eq_left hcnt];exact (zaa Hdrop),(zaa Hb3).trans ((zaa Hb4).mono (zaa Hb3).size)⟩
end Go.Proofs.YtoifcnidhfnapabGreatDoor
namespace Go.Proofs.YtoifcnidhfnapabGreatDoor
theorem zm5 (es:List zai) (p:zai→Bool):(List.range es.length).countP (fun i=>p (es[i]?.getD zct))=es.countP p:=by
 have h:(List.range es.length).map (fun i=>es[i]?.getD zct)=es:=by
  apply List.ext_getElem
  ·simp
  ·intro i h1 h2
   simp at h1
   simp [h1]
 conv=>rhs;rw [← h]
 rw [List.countP_map]
 rfl
theorem zz2 (p:zai→Bool) (es:List zai) (h:es.Pairwise fun a b=>p a=true→p b=true):es.drop (es.countP fun e=>!p e)=es.filter p:=by
 induction es with
 | nil=>rfl
 | cons x xs ih =>
  obtain ⟨h1,h2⟩:=List.pairwise_cons.1 h
  cases hp:p x with
  | false=>simp [List.countP_cons,hp,ih h2]
  | true =>
   have h0:xs.countP (fun e=>!p e)=0:=by
    rw [List.countP_eq_zero]
    intro a ha
    simp [h1 a ha hp]
   have hf:xs.filter p=xs:=List.filter_eq_self.2 (fun a ha=>h1 a ha hp)
   simp [List.countP_cons,hp,h0,hf]
theorem ybv (p:zai→Bool) (es:List zai) (h:es.Pairwise fun a b=>p a=true→p b=true):es.take (es.countP fun e=>!p e)=es.filter fun e=>!p e:=by
 induction es with
 | nil=>rfl
 | cons x xs ih =>
  obtain ⟨h1,h2⟩:=List.pairwise_cons.1 h
  cases hp:p x with
  | false=>simp [List.countP_cons,hp,ih h2]
  | true =>
   have h0:xs.countP (fun e=>!p e)=0:=by
    rw [List.countP_eq_zero]
    intro a ha
    simp [h1 a ha hp]
   have hf:xs.filter (fun e=>!p e)=[]:=by
    rw [List.filter_eq_nil_iff]
    intro a ha
    simp [h1 a ha hp]
   simp [List.countP_cons,hp,h0,hf]
theorem zsd {c:Nat} {es:List zai} (h:zbk c es) (z:Int):zfc c z es=es.filter fun e=>decide (z≤zal e.1 c):=by
 unfold zfc
 rw [zm5 es (fun e=>!decide (z≤zal e.1 c))]
 refine zz2 (fun e=>decide (z≤zal e.1 c)) es (h.imp ?_)
 intro a b hab ha
 simp only [decide_eq_true_eq] at ha ⊢
 omega
theorem yih {c:Nat} {es:List zai} (h:zbk c es) (z:Int):zqs c z es=es.filter fun e=>decide (zal e.1 c≤z):=by
 unfold zqs
 rw [zm5 es (fun e=>!decide (z<zal e.1 c))]
 rw [ybv (fun e=>decide (z<zal e.1 c)) es (h.imp ?_)]
 ·congr 1
  funext e
  by_cases hz:z<zal e.1 c
  ·simp [hz];try omega
  ·simp [hz];omega
 ·intro a b hab ha
  simp only [decide_eq_true_eq] at ha ⊢
  omega
theorem zbk.filter {c:Nat} {es:List zai} (h:zbk c es) (p:zai→Bool):zbk c (es.filter p):=List.Pairwise.sublist List.filter_sublist h
theorem ye3 {c:Nat} {es:List zai} (h:zbk c es) (z:Int):zqs c z (zfc c z es)=es.filter fun e=>decide (zal e.1 c=z):=by
 rw [zsd h,yih (h.filter _),List.filter_filter]
 congr 1
 funext e
 by_cases h1:zal e.1 c=z
 ·simp [h1]
 ·simp [h1];omega
end Go.Proofs.YtoifcnidhfnapabGreatDoor
namespace Go.Proofs.YtoifcnidhfnapabGreatDoor
open Go.RowKit Go.Maps Go.Sort Go.Shelf
def zay (w:World) (sv:Value) (rs:List (List zai)):Prop:=∃ a cap,sv=.slice a rs.length cap∧∀ i,i<rs.length→∃ g q b o cp,a=some ⟨g,q,none⟩ ∧
 w.cell? ⟨g,q+i,none⟩=some (.slice (some ⟨b,o,none⟩) (rs[i]?.getD []).length cp)∧zb1 w (.slice (some ⟨b,o,none⟩) (rs[i]?.getD []).length cp) (rs[i]?.getD [])
theorem zay.below {w w':World} {v:Value} {rs:List (List zai)} (h:zay w v rs) (hb:Below w.heap.size w w'):zay w' v rs:=by
 obtain ⟨a,cap,rfl,hx⟩:=h
 refine ⟨a,cap,rfl,fun i hi=>?_⟩
 obtain ⟨g,q,b,o,cp,rfl,h0,h1⟩:=hx i hi
 exact ⟨g,q,b,o,cp,rfl,(hb.cell (p:=⟨g,q+i,none⟩) (World.block_lt_of_cell? w _ h0)).trans h0,h1.below hb⟩
def zgz (c:Nat) (z:Int) (s:Int×Bool) (r:List zai):Int×Bool:=
 match zfc c z r with
 | []=>s
 | e :: _=>if s.2=false∨zal e.1 c<s.1 then (zal e.1 c,true) else s
def zgc (c:Nat) (z:Int) (rs:List (List zai)):Int×Bool:=rs.foldl (zgz c z) (0,false)
theorem zo7 (c:Nat) (z:Int) (rs:List (List zai)) (k:Nat) (hk:k<rs.length):zgc c z (rs.take (k+1))=zgz c z (zgc c z (rs.take k)) (rs[k]?.getD []):=by
 unfold zgc
 rw [List.take_succ_eq_append_getElem hk,List.foldl_append]
 simp [hk]
theorem ycs (n:Nat) (w:World) (m:Nat):Below n w (w.drewN m):=⟨rfl,rfl,rfl,Nat.le_refl _,fun _ _=>rfl⟩
theorem zso (rs:List (List zai)) (c:Nat) (z:Int) (sv:Value) (W:World) (h:zay W sv rs) (hs:∀ r∈rs,zbk c r) (hc:c<3) (hn:∀ r∈rs,r.length≤1000000000000) (hl:rs.length≤1000000000000) :
  Calls Tryz.prog 186 #[.agg #[sv,.int .i64 c],.int .i64 z] W fun e w'=>e=.returned (.tuple #[.int .i64 (zgc c z rs).1,.bool (zgc c z rs).2])∧Below W.heap.size W w':=by
 have h0:=h
 obtain ⟨a,cap,rfl,hx⟩:=h
 obtain ⟨W1,hW1⟩:∃ W1,W1=W.alloc (.cells #[.slice a rs.length cap,.int .i64 c] 124):=⟨_,rfl⟩
 have hb1:Below W.heap.size W W1:=by rw [hW1];exact (Below.refl _ _).alloc (Nat.le_refl _) _
 have hB:W1.heap[W.heap.size]? = some (.cells #[.slice a rs.length cap,.int .i64 c] 124 (0,0)):=by rw [hW1];exact zae _ _ _ rfl
 have c0:W1.cell? ⟨W.heap.size,0,none⟩=some (.slice a rs.length cap):=zab hB 0
 have c1:W1.cell? ⟨W.heap.size,1,none⟩=some (.int .i64 c):=zab hB 1
 have hlt1:W.heap.size<W1.heap.size:=by rw [hW1];simp
 have H0:=zac h0
 have Hb1:=zac hb1
 have Hs:=zac hs
 have Hn:=zac hn
 have Hx:=zac hx
 clear h0 hb1 hs hn hx hB
 go_enter Tryz.func186,Tryz.ntmps186
 go_wp2
 rw [← hW1]
 clear hW1
 go_wp2
 go_loopw [4,5,13] (fun l f i wr=>∃ k:Nat,k≤rs.length∧i=.int .i64 k∧l=.int .i64 (zgc c z (rs.take k)).1∧f=.bool (zgc c z (rs.take k)).2∧Below W1.heap.size W1 wr) (fun _ _ i _=>rs.length - (intOf i).toNat)
 case atStart=>exact ⟨0,Nat.zero_le _,rfl,rfl,rfl,Below.refl _ _⟩
 case round =>
  obtain ⟨k,hk,rfl,rfl,rfl,hB⟩:=hrel
  have HB:=zac hB
  by_cases hlt:k<rs.length
  ·have hkx:(k:Int)<(rs.length:Int):=by omega
   obtain ⟨g,q,b,o,cp,rfl,d0,hr⟩:=(zaa Hx) k hlt
   have hmem:rs[k]?.getD []∈rs:=by simp [hlt]
   have hso:=(zaa Hs) _ hmem
   have hle:=(zaa Hn) _ hmem
   have hsucc:=zo7 c z rs k hlt
   have hbr:Below W.heap.size W wr:=(zaa Hb1).trans (hB.mono (zaa Hb1).size)
   have d0':=(hbr.cell (p:=⟨g,q+k,none⟩) (World.block_lt_of_cell? W _ d0)).trans d0
   have c1':=(hB.cell (p:=⟨W.heap.size,1,none⟩) hlt1).trans c1
   obtain ⟨r,hre⟩:∃ r,r=rs[k]?.getD []:=⟨_,rfl⟩
   rw [← hre] at hr hso hle hsucc d0' d0
   obtain ⟨ls,hls⟩:∃ ls,ls=zgc c z (rs.take k):=⟨_,rfl⟩
   rw [← hls] at hsucc ⊢
   obtain ⟨l0,f0⟩:=ls
   have Hr:=zac (hr.below hbr)
   have Hso:=zac hso
   have Hsucc:=zac hsucc
   have Hbr:=zac hbr
   clear hr hso hsucc hre hls hmem hbr d0 hB
   dsimp only
   go_wp2_with (first
    | (go_at_call 156;refine (zyp r b o cp c z _ (zaa Hr) hc (zaa Hso) hle).mono ?_;rintro e w2 ⟨o',cap',rfl,hr2',hb2⟩;have hr2:=hr2'.below hb2;clear hr2'))
   ·have hz:(((zfc c z r).length:Int) == 0)=true:=by assumption
    have hnil:zfc c z r=[]:=by simpa using hz
    have hst:zgc c z (rs.take (k+1))=(l0,f0):=by rw [zaa Hsucc];simp [zgz,hnil]
    refine ⟨⟨k+1,by omega,by simp,by rw [hst],by rw [hst],(zaa HB).trans (hb2.mono (zaa HB).size)⟩,by simp [intOf];omega⟩
   ·have hz:(((zfc c z r).length:Int) == 0)=false:=by assumption
    obtain ⟨y,ys,hL⟩:∃ y ys,zfc c z r=y :: ys:=by
     cases hL:zfc c z r with
     | nil=>rw [hL] at hz;simp at hz
     | cons y ys=>exact ⟨y,ys,rfl⟩
    have hst:zgc c z (rs.take (k+1))=if f0=false∨zal y.1 c<l0 then (zal y.1 c,true) else (l0,f0):=by rw [zaa Hsucc];simp [zgz,hL]
    rw [hL] at hr2
    obtain ⟨b',oo,e,x0⟩:=hr2.col (i:=0) (by simp) hc
    injection e with e
    injection e with e1 e2
    subst e1 e2
    have c2:w2.cell? ⟨W.heap.size,1,none⟩=some (.int .i64 c):=(hb2.cell (p:=⟨W.heap.size,1,none⟩) (Nat.lt_of_lt_of_le hlt1 (zaa HB).size)).trans c1'
    obtain ⟨v,hv⟩:∃ v,v=zal y.1 c:=⟨_,rfl⟩
    simp only [List.getElem?_cons_zero,Option.getD_some,Nat.zero_mul,Nat.add_zero] at x0
    rw [← hv] at x0 hst
    have hlen:(0:Int)<((zfc c z r).length:Int):=by rw [hL];simp
    have hc3:(c:Int)<3:=by omega
    have Hst:=zac hst
    have Hb2:=zac hb2
    clear hst hb2 hr2 hL hv hz
    go_quiet (fail)
    have hfin:∀ m,Below W1.heap.size W1 (w2.drewN m):=fun m=>((zaa HB).trans ((zaa Hb2).mono (zaa HB).size)).trans (ycs _ _ _)
    have Hfin:=zac hfin
    clear hfin
    cases f0 with
    | false =>
     have hst:=zaa Hst
     rw [if_pos (.inl rfl)] at hst
     have Hst2:=zac hst
     clear hst
     go_wp2
     refine ⟨⟨k+1,by omega,by simp,by rw [zaa Hst2],by rw [zaa Hst2],(zaa Hfin) _⟩,by simp [intOf];omega⟩
    | true =>
     by_cases hvl:v<l0
     ·have hst:=zaa Hst
      rw [if_pos (.inr hvl)] at hst
      have Hst2:=zac hst
      clear hst
      go_wp2
      refine ⟨⟨k+1,by omega,by simp,by rw [zaa Hst2],by rw [zaa Hst2],(zaa Hfin) _⟩,by simp [intOf];omega⟩
     ·have hst:=zaa Hst
      rw [if_neg (by simp [hvl])] at hst
      have Hst2:=zac hst
      clear hst
      go_wp2
      refine ⟨⟨k+1,by omega,by simp,by rw [zaa Hst2],by rw [zaa Hst2],(zaa Hfin) _⟩,by simp [intOf];omega⟩
  ·have hke:k=rs.length:=by omega
   subst hke
   rw [List.take_length]
   go_wp2
   go_ret2
   exact ⟨rfl,(zaa Hb1).trans (hB.mono (zaa Hb1).size)⟩
end Go.Proofs.YtoifcnidhfnapabGreatDoor
