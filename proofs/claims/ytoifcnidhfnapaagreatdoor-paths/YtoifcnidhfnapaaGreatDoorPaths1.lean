import Derived.Test.YtoifcnidhfnapaaGreatDoorB01
import Derived.Test.YtoifcnidhfnapaaGreatDoorB02
import Derived.Test.YtoifcnidhfnapaaGreatDoorB03
import Derived.Test.YtoifcnidhfnapaaGreatDoorB04
import Derived.Test.YtoifcnidhfnapaaGreatDoorB05
import Derived.Test.YtoifcnidhfnapaaGreatDoorB06
import Derived.Test.YtoifcnidhfnapaaGreatDoorB07
import Derived.Test.YtoifcnidhfnapaaGreatDoorB08
import Derived.Test.YtoifcnidhfnapaaGreatDoorB09
import Derived.Test.YtoifcnidhfnapaaGreatDoorB10
import Derived.Test.YtoifcnidhfnapaaGreatDoorB11
import Derived.Test.YtoifcnidhfnapaaGreatDoorB12
import Derived.Test.YtoifcnidhfnapaaGreatDoorB13
import Derived.Test.YtoifcnidhfnapaaGreatDoorB14
import Derived.Test.YtoifcnidhfnapaaGreatDoorB15
import Derived.Test.YtoifcnidhfnapaaGreatDoorB16
import Derived.Test.YtoifcnidhfnapaaGreatDoorB17
import Derived.Test.YtoifcnidhfnapaaGreatDoorB18
import Derived.Test.YtoifcnidhfnapaaGreatDoorB19
import Derived.Test.YtoifcnidhfnapaaGreatDoorB20
import Derived.Test.YtoifcnidhfnapaaGreatDoorB21
import Derived.Test.YtoifcnidhfnapaaGreatDoorB22
import Derived.Test.YtoifcnidhfnapaaGreatDoorB23
import Derived.Test.YtoifcnidhfnapaaGreatDoorB24
import Derived.Test.YtoifcnidhfnapaaGreatDoorB25
import Derived.Test.YtoifcnidhfnapaaGreatDoorB26
import Derived.Test.YtoifcnidhfnapaaGreatDoorB27
import Derived.Test.YtoifcnidhfnapaaGreatDoorB28
import Derived.Test.YtoifcnidhfnapaaGreatDoorB29
import Derived.Test.YtoifcnidhfnapaaGreatDoorB30
import Derived.Test.YtoifcnidhfnapaaGreatDoorB31
import Derived.Test.YtoifcnidhfnapaaGreatDoorB32
import Derived.Test.YtoifcnidhfnapaaGreatDoorB33
import Derived.Test.YtoifcnidhfnapaaGreatDoorB34
import Derived.Test.YtoifcnidhfnapaaGreatDoorB35
import Derived.Test.YtoifcnidhfnapaaGreatDoorB36
import Derived.Test.YtoifcnidhfnapaaGreatDoorB37
import Derived.Test.YtoifcnidhfnapaaGreatDoorB38
import Derived.Test.YtoifcnidhfnapaaGreatDoorB39
import Derived.Test.YtoifcnidhfnapaaGreatDoorB40
import Derived.Test.YtoifcnidhfnapaaGreatDoorB41
import Derived.Test.YtoifcnidhfnapaaGreatDoorB42
import Derived.Test.YtoifcnidhfnapaaGreatDoorB43
import Derived.Test.YtoifcnidhfnapaaGreatDoorB44
import Derived.Test.YtoifcnidhfnapaaGreatDoorB45
import Derived.Test.YtoifcnidhfnapaaGreatDoorB46
import Derived.Test.YtoifcnidhfnapaaGreatDoorB47
import Derived.Test.YtoifcnidhfnapaaGreatDoorB48
import Derived.Laws.CopyRow
set_option linter.unusedVariables false
set_option linter.unusedSimpArgs false
set_option maxRecDepth 100000
set_option maxHeartbeats 16000000
namespace Go.Proofs.YtoifcnidhfnapaaGreatDoor
namespace K
open Go.RowKit Go.Maps
def yb6 (a b:List Int) (m:Nat):Prop:=m<a.length∧m<b.length∧(∀ j,j<m→a[j]?.getD 0=b[j]?.getD 0)∧a[m]?.getD 0<b[m]?.getD 0
structure yj7 (rs:List (List Int×Int)):Prop where
 nz:∀ i,i<rs.length→(rs[i]?.getD ([],0)).2≠0
 lt:∀ i,i+1<rs.length→∃ m,yb6 (rs[i]?.getD ([],0)).1 (rs[i+1]?.getD ([],0)).1 m
theorem zq5 (v:Value) (rs:List (List Int×Int)) (w:World) (hv:zdf w v rs) (hl:rs.length≤1000000000) (hs:zge rs) (hr:yj7 rs) :
  Calls Tryz.prog 21 #[v] w fun e w'=>e=.returned (.bool true)∧zbd w w':=by
 obtain ⟨a,cap,rfl,hc⟩:=hv
 have Hc:=zac hc
 have Hs:=zac hs
 have Hr:=zac hr
 clear hc hs hr
 go_enter Tryz.func21,Tryz.ntmps21
 go_wp2
 go_loopw [3] (fun i wr=>∃ k:Nat,k≤rs.length∧i=.int .i64 k∧zbd w wr) (fun i _=>rs.length - (intOf i).toNat)
 case atStart=>exact ⟨0,Nat.zero_le _,rfl,zbd.refl _⟩
 case round =>
  obtain ⟨k,hk,rfl,hdr⟩:=hrel
  have Hdr:=zac hdr
  clear hdr
  by_cases hlt:k<rs.length
  ·obtain ⟨b,o,sv,rfl,h1,h2,h3⟩:=(zaa Hc) k hlt
   have hx:(k:Int)<(rs.length:Int):=by omega
   rw [← (zaa Hdr).cell] at h1 h3
   have hnz:=(zaa Hr).nz k hlt
   obtain ⟨z,hz⟩:∃ z,z=(rs[k]?.getD ([],0)).1:=⟨_,rfl⟩
   obtain ⟨q,hq⟩:∃ q,q=(rs[k]?.getD ([],0)).2:=⟨_,rfl⟩
   rw [← hz] at h2
   rw [← hq] at h3 hnz
   have hqb:(q == 0)=false:=by simpa using hnz
   have HZ:=zac hz
   clear hq hz hnz
   rcases k with _|k
   ·have H2:=zac h2
    clear h2 h1
    simp only [Nat.zero_mul,Nat.add_zero] at h3
    go_wp2
    go_roundw
    case rel=>exact ⟨1,by omega,by simp,zaa Hdr⟩
    case measure=>simp [intOf];omega
   ·obtain ⟨b',o',sv',hbo,g1,g2,g3⟩:=(zaa Hc) k (by omega)
    cases hbo
    rw [← (zaa Hdr).cell] at g1
    obtain ⟨y,hy⟩:∃ y,y=(rs[k]?.getD ([],0)).1:=⟨_,rfl⟩
    rw [← hy] at g2
    obtain ⟨m,hp⟩:=(zaa Hr).lt k hlt
    rw [← hy,← zaa HZ] at hp
    have hyl:=zji (zaa Hs) (by omega) hy
    have hzl:=zji (zaa Hs) hlt (zaa HZ)
    clear hy g3
    obtain ⟨a1,c1,rfl,g2⟩:=g2
    obtain ⟨a2,c2,rfl,h2⟩:=h2
    have Hg:=zac g2
    have Hh:=zac h2
    have Hp:=zac hp
    obtain ⟨p1,p2,-,-⟩:=hp
    have hk0:((k:Int)+1 == 0)=false:=by simp;omega
    have hk1:(k:Int)<(rs.length:Int):=by omega
    clear g2 h2
    push_cast at hx
    go_wp2
    go_quiet (fail)
    go_wp2_with fail
    go_loopw [6] (fun i wq=>∃ j:Nat,j≤m∧i=.int .i64 j∧zbd w wq) (fun i _=>m - (intOf i).toNat)
    case atStart=>exact ⟨0,Nat.zero_le _,rfl,(zaa Hdr).thenN _⟩
    case round =>
     obtain ⟨j,hj,rfl,hdq⟩:=hrel
     obtain ⟨b1,o1,rfl,e1⟩:=(zaa Hg) j (by omega)
     obtain ⟨b2,o2,rfl,e2⟩:=(zaa Hh) j (by omega)
     obtain ⟨s1,hs1⟩:∃ s1,s1=y[j]?.getD 0:=⟨_,rfl⟩
     obtain ⟨s2,hs2⟩:∃ s2,s2=z[j]?.getD 0:=⟨_,rfl⟩
     rw [← hs1,← hdq.cell] at e1
     rw [← hs2,← hdq.cell] at e2
     have hx1:(j:Int)<(y.length:Int):=by omega
     have hx2:(j:Int)<(z.length:Int):=by omega
     have Hdq:=zac hdq
     clear hdq g1 h1 h3
     by_cases hjm:j<m
     ·have heq:s1=s2:=by rw [hs1,hs2];exact (zaa Hp).2.2.1 j hjm
      have hd:(s1 == s2)=true:=by simp [heq]
      clear heq hs1 hs2
      go_wp2
      go_quiet (fail)
      go_wp2
      go_roundw
      case rel=>exact ⟨j+1,by omega,by go_num,(zaa Hdq).thenN _⟩
      case measure=>simp [intOf];omega
     ·have hjm':j=m:=by omega
      subst hjm'
      have hlt2:s1<s2:=by rw [hs1,hs2];exact (zaa Hp).2.2.2
      have hd:(s1 == s2)=false:=by simp;omega
      have hd2:¬ s2<s1:=by omega
      clear hs1 hs2
      go_wp2
      go_quiet (fail)
      go_wp2_with fail
      generalize hW:World.drewN _ _=W9
      have Hd9:Hid (zbd w W9):=by rw [← hW];exact (zaa Hdq).thenN _
      have e1':W9.cell? ⟨b1,o1+j,none⟩=some (.int .i64 s1):=by rw [← hW];exact e1
      have e2':W9.cell? ⟨b2,o2+j,none⟩=some (.int .i64 s2):=by rw [← hW];exact e2
      clear hW
      go_quiet (fail)
      go_wp2
      go_roundw
      case rel=>exact ⟨k+2,by omega,by go_num,(zaa Hd9).thenN _⟩
      case measure=>simp [intOf];omega
  ·go_wp2
   go_ret
   exact ⟨rfl,zaa Hdr⟩
end K
end Go.Proofs.YtoifcnidhfnapaaGreatDoor
namespace Go.Proofs.YtoifcnidhfnapaaGreatDoor
open Go.RowKit Go.Maps
theorem zxd {D:DataW Unit} (rb ar mb n:Nat) (w:World) (h:w.heap[rb]? = some (.cells #[.int .i64 ar,.map (some mb)] 129 (0,0))) (hown:w.ownsMap Tryz.prog 77 (plainElem Tryz.prog 2) mb n D) :
  Calls Tryz.prog 37 #[.pointer (some ⟨rb,0,none⟩)] w fun e w'=>e=.returned (.int .i64 (Maps.size D))∧w'=w:=by
 have c0:w.cell? ⟨rb,1,none⟩=some (.map (some mb)):=zab h 1
 clear h
 go_enter Tryz.func37,Tryz.ntmps37
 go_wp2_with (first
  | (at_len;refine wpList_len_own _ rfl _ 127 rfl 77 2 Tryz.underlying127 _ mb n D rfl hown ?_)
  | go_in)
 go_ret
 exact ⟨rfl,rfl⟩
end Go.Proofs.YtoifcnidhfnapaaGreatDoor
namespace Go.Proofs.YtoifcnidhfnapaaGreatDoor
open Go.RowKit Go.Maps Go.Sort Go.Shelf
attribute [local go_sem] Oper.semAt_some
theorem relA {w w1:World} {rb ar mb:Nat} {o:Obj} (hrl:rb<w.heap.size) (h:w.heap[rb]? = some (.cells #[.int .i64 ar,.map (some mb)] 129 (0,0))) (hg1:(w.alloc o).grownBy w1 none) (n:Nat) :
  (w1.alloc (.cells #[Value.slice (some ⟨w.heap.size+1,0,none⟩) 0 n] 34)).heap[rb]? = some (.cells #[.int .i64 ar,.map (some mb)] 129 (0,0)):=
 (Below.heap_alloc _ _ rb (by have:=hg1.size;simp at this;omega)).trans ((hg1.block rb (by simp;omega) (by simp)).trans ((Below.heap_alloc _ _ rb hrl).trans h))
section
attribute [local go_sem ↓] zhb
theorem yjc (n:Nat) (hn:5≤n) (nm:ByteArray) (w:World) {eb db nD S0 E:Nat} {st:St} {R:Rel} (hE:za1 w eb db nD S0 E st) (hnm:nm.size≤maxLen) (hR:st nm=some R) (har:R.ar=1∨R.ar=2∨R.ar=3) (hnn:R.n≤1000000000) (D:DataW Unit) (hown:w.ownsMap Tryz.prog 77 (plainElem Tryz.prog 2) R.mb R.n D) (hrep:Rep D R.f) :
  CallsIn Fence.wide n Tryz.prog 19 #[.pointer (some ⟨eb,0,none⟩),.string nm] w fun e w'=>∃ v ys xs,e=.returned (.tuple #[v,.int .i64 0])∧zdg D ys∧xs.map (·.1)=za6 R.f ys∧w'.ownsRow w.heap.size 79 2 v xs.length (zcz R.ar xs)∧zd2 w' w.heap.size R.ar xs∧Below w.heap.size w w':=by
 have h1:1≤n:=by omega
 have hlk:=hE.hit hnm hR
 have hrel:=(hE.rel nm R hR).1
 have hce:w.cell? ⟨eb,0,none⟩=some (.map (some db)):=hE.c0
 have hszD:=hown.size_le
 obtain ⟨rb,mb,ar,nn,f⟩:=R
 dsimp only at *
 obtain ⟨i62,hi,hz0,hz1,hz2⟩:=info_parts Tryz.info79
 have hrl:rb<w.heap.size:=(Array.getElem?_eq_some_iff.1 hrel).1
 have Hrel:=zac hrel
 have Hown:=zac hown
 have Hrep:=zac hrep
 have HE:=zac hE
 clear hrel hown hrep hE hR
 refine callsIn_of_wp_marks Tryz.func19 rfl trivial ?_ rfl
 simp only [Tryz.ntmps19,List.size_toArray,List.length_cons,List.length_nil,Nat.reduceAdd,Nat.reduceSub,Array.replicate_succ,Array.replicate_zero,List.push_toArray,List.append_toArray,List.nil_append,List.cons_append]
 gi_wp2_with (first
  | (refine ⟨trivial,?_⟩;gi_at_call 37;refine (callsIn_wide.2 (zxd rb ar mb nn _ ((Below.heap_alloc _ _ rb hrl).trans (zaa Hrel)) ((zaa Hown).alloc _))).mono ?_;rintro e w' ⟨rfl,rfl⟩)
  | (gi_at_make;refine wpListIn_make_own _ rfl _ _ _ rfl w.heap.size 79 i62 _ 2 Tryz.underlying34 hi hz0 hz1 _ _ _ (Maps.size D) rfl rfl rfl (by rw [hz2];omega) (by unfold maxLen;omega) (by simp) ?_;intro w1 hrow1 hg1;have bP1:Boxed w1 w.heap.size 66 (.pointer (some ⟨rb,0,none⟩)):=(Boxed.new w 66 _).kept hg1 (by simp);have cP1:=(bP1.alloc (.cells #[Value.slice (some ⟨w.heap.size+1,0,none⟩) 0 (Maps.size D)] 34)).cell;have HrelA:=zac (relA hrl (zaa Hrel) hg1 (Maps.size D)))
  | (refine ⟨trivial,?_⟩;gi_at_call 38;refine (callsIn_wide.2 (yca rb ar mb _ (zaa HrelA))).mono ?_;rintro e w' ⟨rfl,rfl⟩))
 have hb1:Below w.heap.size w w1:=((Below.refl _ w).alloc (Nat.le_refl _) _).grown hg1 (by simp) (fun k e=>by cases e)
 have hs1:w.heap.size+2≤w1.heap.size:=by
  rcases hrow1.2 with ⟨h,_⟩|⟨g,cap,cur,h,_,hgh,_⟩
  ·simp at h
  ·have:=(Array.getElem?_eq_some_iff.1 hgh).1
   simp at h
   omega
 have hrow1':w1.ownsRow w.heap.size 79 2 (.slice (some ⟨w.heap.size+1,0,none⟩) 0 (Maps.size D)) 0 []:=by simpa using hrow1
 clear hrow1 cP1 hg1
 obtain ⟨Bp,hBp⟩:∃ Bp,Bp=w.heap.size:=⟨_,rfl⟩
 obtain ⟨g,hgE⟩:∃ g,g=w.heap.size+1:=⟨_,rfl⟩
 obtain ⟨Br,hBr⟩:∃ Br,Br=w1.heap.size:=⟨_,rfl⟩
 have hseq:SeqStopsK Fence.wide (n - 1) Tryz.prog 111 #[.pointer (some ⟨w1.heap.size+1,0,none⟩)] (fun x:Row×Int=>#[Value.agg #[.int .i64 x.1.1,.int .i64 x.1.2.1,.int .i64 x.1.2.2],.int .i64 x.2]) (zar fun k=>k=Br∨k=g) (fun xs=>∃ ys,zdg D ys∧xs=za6 f ys) (fun _=>True) (Maps.size D) ((w1.alloc (.cells #[.slice (some ⟨w.heap.size+1,0,none⟩) 0 (Maps.size D)] 34)).alloc (.cells #[.map (some mb)] 127)):=fun l J Jx W hW hJ _ hY h0=>by
  have hsW:=hW.size
  simp at hsW
  have hml:=(zaa Hown).lt
  have hbW:Below w.heap.size w W:=(((hb1.alloc hb1.size _).alloc (by simp;omega) _)).trans (hW.mono (by simp;omega))
  refine zwg (n - 1) (by omega) l (w1.heap.size+1) mb nn f _ J Jx (Maps.size D) hY W hJ (fun k hk=>by omega) ?_ (by omega) (by omega) D ?_ (zaa Hrep) hnn (fun ys hR=>?_) h0
  ·rw [hW.cell (p:=⟨w1.heap.size+1,0,none⟩) (by simp)]
   exact zab (zae _ _ _ (by simp)) 0
  ·obtain ⟨es,clock,hb,Ft,hs,hD⟩:=(zaa Hown)
   exact ⟨es,clock,(hbW.block mb hml).trans hb,Ft,hs,hD⟩
  ·exact zco ((zaa Hown).tidy zft) hR.wf (hR.rising.imp (fun {a b} h e=>by subst e;unfold ltR at h;omega)) (fun x hx=>(hR.mem x (hR.wf x hx)).1 hx)
 refine wpIn_rangeFunc_ownH rfl h1 (gf:=111) (lb:=#[.pointer (some ⟨w1.heap.size+1,0,none⟩)]) rfl trivial (enters_of Tryz.func111 (by kernel_rfl) rfl) hseq zar.trans (fun W l o o' _ h1 h2 h3=>zar.put W l o o' h1 h2 h3) (Below.refl _ _) (fun _=>rfl)
  (zlq w ar Br g (Maps.size D) Bp rb)
  (fun _ _ _=>False)
  (zlq.own w ar Br g (Maps.size D) Bp rb _ (by simp;omega))
  (fun _ _ _ _ _ hs _ _=>hs)
  ?start
  (fun x a' W=>∃ Bx,W.heap[Bx]? = some (.cells #[.int .i64 x.1.1,.int .i64 x.1.2.1,.int .i64 x.1.2.2] 77 (0,0)) ∧
   a'={ tmps:=#[.pointer (some ⟨eb,0,none⟩),.string nm,undef,undef,.slice none 0 0,.int .i64 0,.pointer (some ⟨w.heap.size,0,none⟩),.bool true,.pointer (some ⟨w1.heap.size,0,none⟩),.pointer (some ⟨Bx,0,none⟩),.int .i64 x.2,
    .tuple #[.pointer (some ⟨rb,0,none⟩),.bool true],.pointer (some ⟨eb,0,none⟩),.pointer (some ⟨eb,0,none⟩),.pointer (some ⟨eb,0,none⟩),.map (some db),.string nm,.tuple #[.pointer (some ⟨rb,0,none⟩),.bool true],.pointer (some ⟨rb,0,none⟩),.bool true,.bool true,.bool false,.pointer (some ⟨rb,0,none⟩),.int .i64 (Maps.size D),.slice (some ⟨w.heap.size+1,0,none⟩) 0 (Maps.size D),.pointer (some ⟨rb,0,none⟩),.func (.func 111) #[] #[.pointer (some ⟨w1.heap.size+1,0,none⟩)],.agg #[.int .i64 x.1.1,.int .i64 x.1.2.1,.int .i64 x.1.2.2],.int .i64 x.2,undef,undef,undef,undef,undef,undef,undef,undef,undef],defers:=[] })
  (fun x a' _ X Y row hs hg hr=>by
   obtain ⟨Bx,h2,h3⟩:=hs
   refine ⟨Bx,(hg.block Bx (Array.getElem?_eq_some_iff.1 h2).1 (fun e=>?_)).trans h2,h3⟩
   obtain ⟨_,o,ho,hc⟩:=hr Bx e.symm
   rw [h2] at ho
   cases ho
   cases hc)
  ?assign ?body ?done ?stop
 case start =>
  subst hBr hgE hBp
  refine ⟨[],rfl,(Boxed.new w1 34 _).alloc _,(hrow1'.alloc _).alloc _,⟨List.Pairwise.nil,fun p hp=>by simp at hp⟩,(bP1.alloc _).alloc _,(hb1.alloc hb1.size _).alloc (by simp;omega) _⟩
 case assign =>
  rintro l pre x W K hI hK
  gi_wp2
  refine hK _ _ ((KeepsOthers.alloc _ _).from _) (zar.of_grown (World.grownBy_alloc _ _ none) (fun j e=>by cases e)) ?_ ⟨W.heap.size,zae _ _ _ rfl,rfl⟩
  exact (zlq.own w ar Br g (Maps.size D) Bp rb _ (Nat.le_refl _)).alloc _ hI
 case body =>
  rintro l pre x a' W hl ⟨r,hr⟩ ⟨xs,hm,bS,hrow,hvs,bP,hB⟩ ⟨Bx,hX,rfl⟩ hlt
  obtain ⟨⟨x1,x2,x3⟩,xw⟩:=x
  dsimp only at hX ⊢
  subst hBr hgE hBp
  have c0:W.cell? ⟨Bx,0,none⟩=some (.int .i64 x1):=zab hX 0
  have c1:W.cell? ⟨Bx,1,none⟩=some (.int .i64 x2):=zab hX 1
  have c2:W.cell? ⟨Bx,2,none⟩=some (.int .i64 x3):=zab hX 2
  have cS:=bS.cell
  have cP:=bP.cell
  have hBs:=hB.size
  have hrW:W.heap[rb]? = some (.cells #[.int .i64 ar,.map (some mb)] 129 (0,0)):=(hB.block rb hrl).trans (zaa Hrel)
  have hcopy:=zac (zsy W (Bx:=Bx) hX)
  have hsl:∀ q,(Instr.sliceAt 77 (.pointer (some ⟨Bx,0,none⟩)) none (some (.int .i64 ar)) none).run Tryz.prog q=.ok (.slice (some ⟨Bx,0,none⟩) ar 3) q:=zx0 ar har Bx
  have Har:=zac har
  have HX:=zac hX
  have HW:Hid (W.heap[rb]? = some (.cells #[.int .i64 ar,.map (some mb)] 129 (0,0))):=hrW
  have HbS:=zac bS
  have Hrow:=zac hrow
  have hltB:pre.length+1≤Maps.size D:=by omega
  clear hX hrW har
  gi_wp2_with fail
  gi_region_with (first
   | (refine ⟨trivial,fun _=>by omega,?_⟩;gi_at_call 40;refine (show CallsIn Fence.wide _ _ _ _ _ _ from (callsIn_wide.2 (zkt rb _ mb _ (by exact zaa HW)))).mono ?_;rintro e w' ⟨rfl,hw'⟩;replace hw':=hw'.symm;subst hw')
   | (refine ⟨trivial,fun _=>by omega,?_⟩;gi_at_call 39;refine (show CallsIn Fence.wide _ _ _ _ _ _ from (callsIn_wide.2 (zme ar (zaa Har) x1 x2 x3 xw Bx W.drew (by exact zaa HX)))).mono ?_;rintro e w2 ⟨rfl,hv2,hg2⟩;have bS2:=(zaa HbS).kept (yjx hg2) (by simp);have cS0:=bS2.cell;have cS2:=(bS2.alloc (.cells #[.slice (some ⟨W.heap.size+1,0,none⟩) ar ar,.int .i64 xw] 79)).cell;obtain ⟨w3,hA,hrow3,hg3⟩:=yh0 (zaa Hrow) (yjx hg2) hi hz1 (W.heap.size+1) ar xw hltB;have hc3:=((bS2.alloc (.cells #[.slice (some ⟨W.heap.size+1,0,none⟩) ar ar,.int .i64 xw] 79)).kept hg3 (by simp;omega)).cell;have hf3:=((bS2.alloc (.cells #[.slice (some ⟨W.heap.size+1,0,none⟩) ar ar,.int .i64 xw] 79)).kept hg3 (by simp;omega)).frozen))
  all_goals exact zlz hm (zaa HbS) (zaa Hrow) hvs bP hB (yjx hg2) (vb:=W.heap.size+1) (x:=((x1,x2,x3),xw)) hv2 hrow3 hg3 (by simp;omega) (by simp;omega) (by omega) (by omega) (by omega)
 case done =>
  rintro Dk zs W hD ⟨ys,hR,rfl⟩ ⟨xs,hm,bS,hrow,hvs,bP,hB⟩ hK
  have cS:=bS.cell
  subst hBr hgE hBp
  gi_wp2
  refine ⟨by simp,.inl ⟨_,_,rfl,run_takeDeferred hK,?_⟩⟩
  have hlen:(za6 f ys).length=xs.length:=by rw [← hm];simp
  have hpg:=grownBy_putObj' W Dk (.deferred none)
  refine ⟨_,results_tmp2 rfl _ _ _,_,ys,xs,rfl,hR,hm,?_,?_,?_⟩
  ·rw [← hlen];exact ownsRow_putObj hrow _ hK rfl
  ·exact hvs.kept hpg (fun j e cur hj=>by cases e;rw [hK] at hj;cases hj)
  ·exact hB.trans (belowK_b (w:=w) (Nat.le_refl _) W Dk _ _ (by simp at hD;omega) hK rfl rfl)
 case stop =>
  rintro D c pre W _ _ h _
  exact h.elim
end
theorem zxw (nm:ByteArray) (w:World) {eb db nD S0 E:Nat} {st:St} {R:Rel} (hE:za1 w eb db nD S0 E st) (hnm:nm.size≤maxLen) (hR:st nm=some R) (har:R.ar=1∨R.ar=2∨R.ar=3) (hnn:R.n≤1000000000) :
  Calls Tryz.prog 19 #[.pointer (some ⟨eb,0,none⟩),.string nm] w fun e w'=>∃ v ys,e=.returned (.tuple #[v,.int .i64 0])∧zg3 R.f ys∧zdf w' v (zbj R.ar R.f ys)∧ys.length≤R.n∧Below w.heap.size w w':=by
 obtain ⟨D,hown,hrep⟩:=(hE.rel nm R hR).2
 refine ((callsIn_wide (n:=5)).1 (yjc 5 (by omega) nm w hE hnm hR har hnn D hown hrep)).mono ?_
 rintro e w' ⟨v,ys,xs,rfl,hRo,hm,ho,hv,hb⟩
 have hro:zg3 R.f ys:=⟨hRo.rising,hRo.wf,fun r hr=>(hRo.mem r hr).trans (hrep.has_ r hr)⟩
 have hz:(xs.map fun p=>(zcv R.ar p.1.1,p.1.2))=zbj R.ar R.f ys:=by
  have e1:(xs.map fun p=>(zcv R.ar p.1.1,p.1.2))=(xs.map (·.1)).map fun q=>(zcv R.ar q.1,q.2):=by simp
  rw [e1,hm];simp [za6,zbj]
 have hlen:ys.length≤R.n:=Nat.le_trans (zco (hown.tidy zft) hRo.wf (hRo.rising.imp (fun {a b} h e=>by subst e;unfold ltR at h;omega)) (fun x hx=>(hRo.mem x (hRo.wf x hx)).1 hx)) hown.size_le
 exact ⟨v,ys,rfl,hro,hz ▸ zkf (by omega) ho hv,hlen,hb⟩
end Go.Proofs.YtoifcnidhfnapaaGreatDoor
namespace Go.Proofs.YtoifcnidhfnapaaGreatDoor
namespace K
open Go.RowKit Go.Maps
theorem yg0 {ar:Nat} {zs:List Int} (h:zs.length=ar) (h3:ar≤3):zcv ar (zb7 zs)=zs:=by
 subst h
 match zs,h3 with
 | [],_=>rfl
 | [x],_=>rfl
 | [x,x2],_=>rfl
 | [x,x2,x3],_=>rfl
theorem zm7 {ar:Nat} {f:Row→Int} {zs:List Int} (h:zs.length=ar) (h3:ar≤3):∀ (ys:List Row),(∀ y∈ys,ylc ar y)→zbt (zbj ar f ys) zs=if zb7 zs∈ys then f (zb7 zs) else 0
 | [],_=>by simp [zbj,zbt]
 | y :: ys,hy=>by
  have ih:=zm7 (f:=f) h h3 ys (fun z hz=>hy z (List.mem_cons_of_mem _ hz))
  have hy0:=hy y List.mem_cons_self
  have e:zbj ar f (y :: ys)=(zcv ar y,f y) :: zbj ar f ys:=rfl
  rw [e]
  simp only [zbt]
  by_cases e1:zcv ar y=zs
  ·have e2:zb7 zs=y:=by rw [← e1];exact hy0
   rw [if_pos e1,e2]
   simp
  ·have e2:zb7 zs≠y:=fun e2=>e1 (by rw [← e2];exact yg0 h h3)
   rw [if_neg e1,ih]
   simp [e2]
theorem zri {ar:Nat} {f:Row→Int} {zs:List Int} {ys:List Row} (h:zs.length=ar) (h3:ar≤3) (hy:∀ y∈ys,ylc ar y) (hR:zg3 f ys) (hw:zaw (zb7 zs)):zbt (zbj ar f ys) zs=f (zb7 zs):=by
 rw [zm7 h h3 ys hy]
 by_cases e:zb7 zs∈ys
 ·rw [if_pos e]
 ·rw [if_neg e]
  have:¬ f (zb7 zs)≠0:=fun h=>e ((hR.mem _ hw).2 h)
  omega
theorem znl (p:Nat→Bool):∀ n,zey p n=((List.range n).filter p).length
 | 0=>rfl
 | n+1=>by
  rw [List.range_succ,List.filter_append,List.length_append,zey,znl p n]
  congr 1
  by_cases h:p n <;> simp [h]
end K
end Go.Proofs.YtoifcnidhfnapaaGreatDoor
namespace Go.Proofs.YtoifcnidhfnapaaGreatDoor
namespace K
open Go.RowKit Go.Maps Go.Sort Go.Shelf
theorem zew.ofX {w w':World} {fix:Nat→Prop} {eb db nD nI nV N:Nat} {st:St} {ixs:IxS} {vws:VwS} (hE:EngV w fix eb db nD nI nV N st ixs vws) (h:KeepX (zcs st ixs vws) w w'):zew w w':=
 ⟨h.size,fun q cs t p hq h1 h2=>h.blk q (Array.getElem?_eq_some_iff.1 hq).1 fun hx=>(hE.xtype q hx cs t p hq).elim h1 h2⟩
theorem _root_.Go.Proofs.YtoifcnidhfnapaaGreatDoor.KeepX.trans' {X Y:Nat→Prop} {a b c:World} (h:KeepX X a b) (k:KeepX Y b c) (hY:∀ q,Y q→X q∨a.heap.size≤q):KeepX X a c:=
 ⟨k.os.trans h.os,k.tape.trans h.tape,k.output.trans h.output,Nat.le_trans h.size k.size,fun q hq hx=>(k.blk q (Nat.lt_of_lt_of_le hq h.size) (fun hy=>(hY q hy).elim hx (fun h=>by omega))).trans (h.blk q hq hx)⟩
theorem zbi.refl (vws:VwS):zbi vws vws:=⟨fun _ h=>h,fun nm v h=>⟨v.n,v.f,h⟩⟩
theorem zbi.trans {a b c:VwS} (h:zbi a b) (k:zbi b c):zbi a c:=
 ⟨fun nm hn=>k.1 nm (h.1 nm hn),fun nm v hv=>by
  obtain ⟨n,f,h1⟩:=h.2 nm v hv
  obtain ⟨n',f',h2⟩:=k.2 nm _ h1
  exact ⟨n',f',h2⟩⟩
theorem zil (v:Value) (bs:List (List Ent)) (w:World) {fix:Nat→Prop} {eb db nD nI nV N M cnt:Nat} {R S T:Rel} {ixs:IxS} {vws:VwS} (hE:EngV w fix eb db nD nI nV N (st3 R S T) ixs vws) (h3:zpv R S T cnt) (hv:zer w v bs) (hl:∀ b∈bs,b.length≤12) (hf:∀ b∈bs,∀ x∈b,Fine x) (hc:cnt+bs.flatten.length≤400) (hbl:bs.length≤1000) (hN:N+2*bs.flatten.length≤1000) (hN1:1≤N) (hM:zes M vws) (hM2:M≤4000000000000000000) :
  Calls Tryz.prog 17 #[.pointer (some ⟨eb,0,none⟩),v] w fun e w'=>e=.returned (.bool true)∧KeepX (zcs (st3 R S T) ixs vws) w w'∧∃ ixs' vws',EngV w' fix eb db nD nI nV (N+2*bs.flatten.length) (st3 (zah R bs.flatten nmR) (zah S bs.flatten nmS) (zah T bs.flatten nmT)) ixs' vws'∧zbi vws vws'∧zes (M+bs.length*4000000000000) vws'∧(∀ k,(ixs' k).isSome=(ixs k).isSome)∧∀ q,zcs (st3 (zah R bs.flatten nmR) (zah S bs.flatten nmS) (zah T bs.flatten nmT)) ixs' vws' q→zcs (st3 R S T) ixs vws q∨w.heap.size≤q:=by
 have h0:=hv w (zew.refl w)
 obtain ⟨a,cap,rfl,_⟩:=h0
 have Hv:=zac hv
 have HE:=zac hE
 have H3:=zac h3
 have Hl:=zac hl
 have Hf:=zac hf
 have HM:=zac hM
 clear hv hE h3 hl hf hM
 go_enter Tryz.func17,Tryz.ntmps17
 go_wp2
 go_loopw [5] (fun i wr=>∃ k:Nat,k≤bs.length∧i=.int .i64 k∧KeepX (zcs (st3 R S T) ixs vws) w wr∧∃ ixs' vws',EngV wr fix eb db nD nI nV (N+2*(bs.take k).flatten.length) (st3 (zah R (bs.take k).flatten nmR) (zah S (bs.take k).flatten nmS) (zah T (bs.take k).flatten nmT)) ixs' vws'∧zbi vws vws'∧zes (M+k*4000000000000) vws'∧(∀ k,(ixs' k).isSome=(ixs k).isSome)∧∀ q,zcs (st3 (zah R (bs.take k).flatten nmR) (zah S (bs.take k).flatten nmS) (zah T (bs.take k).flatten nmT)) ixs' vws' q→zcs (st3 R S T) ixs vws q∨w.heap.size≤q) (fun i _=>bs.length - (intOf i).toNat)
 case atStart =>
  refine ⟨0,Nat.zero_le _,rfl,KeepX.refl _ _,ixs,vws,?_⟩
  simp only [List.take_zero,List.flatten_nil,zb2,List.length_nil,Nat.mul_zero,Nat.add_zero,Nat.zero_mul]
  exact ⟨zaa HE,zbi.refl _,zaa HM,fun _=>trivial,fun q hq=>.inl hq⟩
 case round =>
  obtain ⟨k,hk,rfl,hkx,ixs',vws',hEk,hsame,hmost,hixs,hnew⟩:=hrel
  by_cases hlt:k<bs.length
  ·have hx:(k:Int)<(bs.length:Int):=by omega
   obtain ⟨a',cap',hsl,hcs⟩:=(zaa Hv) wr (zew.ofX (zaa HE) hkx)
   cases hsl
   obtain ⟨b,o,sv,rfl,h1,hd'⟩:=hcs k hlt
   have hbe:bs[k]?.getD []=bs[k]:=by simp [hlt]
   rw [hbe] at hd'
   have hmem:bs[k]∈bs:=List.getElem_mem hlt
   have hfl:∀ x∈(bs.take k).flatten,Fine x:=fun x hx=>by
    obtain ⟨y,hy,hxy⟩:=List.mem_flatten.1 hx
    exact (zaa Hf) y (List.mem_of_mem_take hy) x hxy
   have h3k:=(zaa H3).add hfl
   have hcl:(bs.take k).flatten.length+bs[k].length≤bs.flatten.length:=by
    have:=zgm bs (k+1)
    rw [zca hlt] at this
    simp only [List.length_append] at this
    omega
   have Hcall:=zac (zht sv bs[k] wr hEk h3k hd' (by have:=(zaa Hl) _ hmem;omega) ((zaa Hf) _ hmem) (by omega) (by omega) (by omega) hmost (by omega))
   have Hsame:=zac hsame
   have Hixs:=zac hixs
   have Hnew:=zac hnew
   have Hkx:=zac hkx
   clear hd' hEk hfl h3k hbe hcl hmem hcs hsame hmost hixs hnew hkx
   go_wp2_with (first|(go_at_call 28;refine (zaa Hcall).mono ?_;rintro e w1 ⟨rfl,hk1,ixs1,vws1,hE1,hs1,hm1,hi1,hn1⟩))
   rw [zb8,zb8,zb8,← zca hlt] at hE1 hn1
   have HF:=zac (show KeepX (zcs (st3 R S T) ixs vws) w w1∧∃ ixs' vws',EngV w1 fix eb db nD nI nV (N+2*(bs.take (k+1)).flatten.length) (st3 (zah R (bs.take (k+1)).flatten nmR) (zah S (bs.take (k+1)).flatten nmS) (zah T (bs.take (k+1)).flatten nmT)) ixs' vws'∧zbi vws vws'∧zes (M+(k+1)*4000000000000) vws'∧(∀ k,(ixs' k).isSome=(ixs k).isSome)∧∀ q,zcs (st3 (zah R (bs.take (k+1)).flatten nmR) (zah S (bs.take (k+1)).flatten nmS) (zah T (bs.take (k+1)).flatten nmT)) ixs' vws' q→zcs (st3 R S T) ixs vws q∨w.heap.size≤q from
    ⟨(zaa Hkx).trans' hk1 (zaa Hnew),ixs1,vws1,by
     have e:N+2*(bs.take (k+1)).flatten.length=N+2*(bs.take k).flatten.length+2*bs[k].length:=by rw [zca hlt,List.length_append];omega
     rw [e];exact hE1,(zaa Hsame).trans hs1,by
     have e:M+(k+1)*4000000000000=M+k*4000000000000+4000000000000:=by omega
     rw [e];exact hm1,fun k=>(hi1 k).trans ((zaa Hixs) k),fun q hq=>by
     rcases hn1 q hq with h|h
     ·exact (zaa Hnew) q h
     ·exact .inr (Nat.le_trans (zaa Hkx).size h)⟩)
   clear hk1 hE1 hs1 hm1 hi1 hn1
   go_roundw
   case rel=>exact ⟨k+1,by omega,by go_num,zaa HF⟩
   case measure=>simp [intOf];omega
  ·have:k=bs.length:=by omega
   subst this
   rw [List.take_length] at hEk hnew
   have HF:=zac (show KeepX (zcs (st3 R S T) ixs vws) w wr∧∃ ixs' vws',EngV wr fix eb db nD nI nV (N+2*bs.flatten.length) (st3 (zah R bs.flatten nmR) (zah S bs.flatten nmS) (zah T bs.flatten nmT)) ixs' vws'∧zbi vws vws'∧zes (M+bs.length*4000000000000) vws'∧(∀ k,(ixs' k).isSome=(ixs k).isSome)∧∀ q,zcs (st3 (zah R bs.flatten nmR) (zah S bs.flatten nmS) (zah T bs.flatten nmT)) ixs' vws' q→zcs (st3 R S T) ixs vws q∨w.heap.size≤q from ⟨hkx,ixs',vws',hEk,hsame,hmost,hixs,hnew⟩)
   clear hkx hEk hsame hmost hixs hnew
   go_wp2
   go_ret
   exact ⟨rfl,zaa HF⟩
end K
end Go.Proofs.YtoifcnidhfnapaaGreatDoor
namespace Go.Proofs.YtoifcnidhfnapaaGreatDoor
namespace K
open Go.RowKit Go.Maps
theorem ztu {α β:Type} (g:α→List β) (f:β→B64):∀ l:List α,zbz (l.flatMap g) f=zbz l (fun a=>zbz (g a) f)
 | []=>rfl
 | a :: l=>by rw [List.flatMap_cons,zbf,ztu g f l];rfl
theorem yd8 {r:Nat→Row} (a c:Int):yc7 zc9 zeo (a,c,0,0) r=if (r 0).2.1=(r 1).1∧(r 0).1=a∧(r 1).2.1=c then 1#64 else 0#64:=by
 unfold yc7
 have h1:zkx zeo (zlw zc9 r)=(a,c,0,0)↔(r 0).1=a∧(r 1).2.1=c:=by rw [zjf];simp
 simp only [zmj,h1]
theorem zqh (φ:Row→B64):zbz zd9 φ=zbz zej fun a=>zbz zej fun b=>φ (a,b,0):=by
 unfold zd9
 rw [ztu]
 exact zax fun a _=>ze5 _ _ _
theorem zmf:zej.Nodup:=by decide
theorem yeb {f g:Row→Int} {L:Nat→List zaj} (h0:Eqv (L 0) (za6 f zd9)) (h1:Eqv (L 1) (za6 g zd9)) {a c:Int} (ha:a∈zej) (hc:c∈zej) :
  zpj zc9 zeo L (a,c,0,0)=zbz zej fun y=>BitVec.ofInt 64 (f (a,y,0))*BitVec.ofInt 64 (g (y,c,0)):=by
 unfold zpj
 rw [show zc9.length=2 from rfl,zei,h1 fun r=>zhy L 1 (fun q=>yc7 zc9 zeo (a,c,0,0) (zhn q 1 r))]
 unfold za6
 rw [ze5,zqh]
 dsimp only
 refine zax fun y hy=>?_
 have inner:∀ z,z∈zej→zhy L 1 (fun q=>yc7 zc9 zeo (a,c,0,0) (zhn q 1 (y,z,0)))=if z=c then BitVec.ofInt 64 (f (a,y,0)) else 0#64:=by
  intro z hz
  rw [zei,h0 fun r=>zhy L 0 (fun q=>yc7 zc9 zeo (a,c,0,0) (zhn (zhn q 0 r) 1 (y,z,0)))]
  unfold za6
  rw [ze5,zqh]
  have e:∀ x u:Int,zhy L 0 (fun q=>yc7 zc9 zeo (a,c,0,0) (zhn (zhn q 0 (x,u,0)) 1 (y,z,0)))=if u=y∧x=a∧z=c then 1#64 else 0#64:=by
   intro x u
   show yc7 _ _ _ _*_=_
   rw [yd8]
   show (if u=y∧x=a∧z=c then 1#64 else 0#64)*1#64=_
   rw [BitVec.mul_one]
  simp only [e]
  by_cases hzc:z=c
  ·rw [if_pos hzc]
   rw [zax (g:=fun x=>if x=a then BitVec.ofInt 64 (f (x,y,0)) else 0#64) fun x hx=>?_]
   ·exact zhu (fun x=>BitVec.ofInt 64 (f (x,y,0))) a zej zmf ha
   ·by_cases hxa:x=a
    ·rw [if_pos hxa,zax (g:=fun u=>if u=y then BitVec.ofInt 64 (f (x,u,0)) else 0#64) fun u hu=>?_]
     ·exact zhu (fun u=>BitVec.ofInt 64 (f (x,u,0))) y zej zmf hy
     ·by_cases huy:u=y
      ·rw [if_pos ⟨huy,hxa,hzc⟩,if_pos huy,BitVec.one_mul];rfl
      ·rw [if_neg (fun h=>huy h.1),if_neg huy,BitVec.zero_mul]
    ·rw [if_neg hxa,zax (g:=fun _=>0#64) fun u hu=>by rw [if_neg (fun h=>hxa h.2.1),BitVec.zero_mul],zdr]
  ·rw [if_neg hzc,zax (g:=fun _=>0#64) fun x hx=>?_,zdr]
   rw [zax (g:=fun _=>0#64) fun u hu=>by rw [if_neg (fun h=>hzc h.2.2),BitVec.zero_mul],zdr]
 rw [zax (g:=fun z=>if z=c then BitVec.ofInt 64 (f (a,y,0))*BitVec.ofInt 64 (g (y,z,0)) else 0#64) fun z hz=>?_]
 ·exact zhu (fun z=>BitVec.ofInt 64 (f (a,y,0))*BitVec.ofInt 64 (g (y,z,0))) c zej zmf hc
 ·rw [inner z hz]
  by_cases hzc:z=c
  ·rw [if_pos hzc,if_pos hzc];rfl
  ·rw [if_neg hzc,if_neg hzc,BitVec.zero_mul]
theorem zm6 {F:H4→Int} (a c:Int):∀ (ys:List H4),(∀ y∈ys,y.2.2=(0,0))→zbt (H.zbj 2 F ys) [a,c]=if ((a,c,0,0):H4)∈ys then F (a,c,0,0) else 0
 | [],_=>by simp [H.zbj,zbt]
 | y :: ys,hy=>by
  have ih:=zm6 (F:=F) a c ys (fun z hz=>hy z (List.mem_cons_of_mem _ hz))
  have hy0:=hy y List.mem_cons_self
  have e:H.zbj 2 F (y :: ys)=(H.zcv 2 y,F y) :: H.zbj 2 F ys:=rfl
  rw [e]
  obtain ⟨y1,y2,y34⟩:=y
  dsimp only at hy0
  subst hy0
  have en:H.zcv 2 (y1,y2,0,0)=[y1,y2]:=rfl
  rw [en]
  simp only [zbt]
  by_cases e1:[y1,y2]=[a,c]
  ·rw [if_pos e1]
   cases e1
   simp
  ·rw [if_neg e1,ih]
   have e2:((a,c,0,0):H4)≠(y1,y2,0,0):=fun e2=>e1 (by cases e2;rfl)
   simp [e2]
theorem ybr {F:H4→Int} {a c:Int} {ys:List H4} (hy:∀ y∈ys,y.2.2=(0,0)) (hR:H.zg3 F ys) (hw:WfH (a,c,0,0)):zbt (H.zbj 2 F ys) [a,c]=F (a,c,0,0):=by
 rw [zm6 a c ys hy]
 by_cases e:((a,c,0,0):H4)∈ys
 ·rw [if_pos e]
 ·rw [if_neg e]
  have:¬ F (a,c,0,0)≠0:=fun h=>e ((hR.mem _ hw).2 h)
  omega
theorem yh6 {F:H4→Int} {ys:List H4} (hy:∀ y∈ys,y.2.2=(0,0)) (hR:H.zg3 F ys):yj7 (H.zbj 2 F ys):=by
 have hlen:(H.zbj 2 F ys).length=ys.length:=by simp [H.zbj]
 have hat:∀ i (hi:i<ys.length),(H.zbj 2 F ys)[i]?.getD ([],0)=(H.zcv 2 ys[i],F ys[i]):=fun i hi=>by simp [H.zbj,hi]
 refine ⟨fun i hi=>?_,fun i hi=>?_⟩
 ·rw [hlen] at hi
  rw [hat i hi]
  exact (hR.mem _ (hR.wf _ (List.getElem_mem hi))).1 (List.getElem_mem hi)
 ·rw [hlen] at hi
  rw [hat i (by omega),hat (i+1) hi]
  have hlt:H.ltR ys[i] ys[i+1]:=List.pairwise_iff_getElem.1 hR.rising i (i+1) (by omega) hi (by omega)
  have h1:=hy _ (List.getElem_mem (show i<ys.length by omega))
  have h2:=hy _ (List.getElem_mem hi)
  generalize ys[i]=y at hlt h1
  generalize ys[i+1]=z at hlt h2
  obtain ⟨y1,y2,y3,y4⟩:=y
  obtain ⟨z1,z2,z3,z4⟩:=z
  unfold H.ltR at hlt
  dsimp only at hlt h1 h2
  cases h1
  cases h2
  by_cases e:y1<z1
  ·refine ⟨0,?_⟩
   simp [yb6,H.zcv]
   omega
  ·refine ⟨1,?_⟩
   simp [yb6,H.zcv]
   omega
def zmk (f g:Row→Int) (a c:Int):Nat→Int
 | 0=>0
 | j+1=>zmk f g a c j+f (a,zdp j,0)*g (zdp j,c,0)
theorem zou {x y:Int} (hx:-1000≤x∧x≤1000) (hy:-1000≤y∧y≤1000):-1000000≤x*y∧x*y≤1000000:=by
 have h:(x*y).natAbs≤1000*1000:=by
  rw [Int.natAbs_mul]
  exact Nat.mul_le_mul (by omega) (by omega)
 omega
theorem zjg {f g:Row→Int} (hf:∀ r,zaw r→-1000≤f r∧f r≤1000) (hg:∀ r,zaw r→-1000≤g r∧g r≤1000) {a c:Int} (ha:a∈zej) (hc:c∈zej):∀ j:Nat,-(1000000*(j:Int))≤zmk f g a c j∧zmk f g a c j≤1000000*(j:Int)
 | 0=>by simp [zmk]
 | j+1=>by
  have ih:=zjg hf hg ha hc j
  have h1:=hf (a,zdp j,0) ⟨zcf ha,zcf (zbv _),zcp⟩
  have h2:=hg (zdp j,c,0) ⟨zcf (zbv _),zcf hc,zcp⟩
  have:=zou h1 h2
  simp only [zmk]
  push_cast
  omega
theorem yea {f g:Row→Int} (hf:∀ r,zaw r→-1000≤f r∧f r≤1000) (hg:∀ r,zaw r→-1000≤g r∧g r≤1000) {L:Nat→List zaj} (h0:Eqv (L 0) (za6 f zd9)) (h1:Eqv (L 1) (za6 g zd9)) {a c:Int} (ha:a∈zej) (hc:c∈zej) {x:Int} (hx:-9223372036854775808≤x∧x≤9223372036854775807)
  (he:BitVec.ofInt 64 x=zpj zc9 zeo L (a,c,0,0)):x=zmk f g a c 4:=by
 rw [yeb h0 h1 ha hc] at he
 refine zek hx (by have:=zjg hf hg ha hc 4;omega) (he.trans ?_)
 have n0:zdp ((0:Nat):Int)=0:=by decide
 have n1:zdp ((1:Nat):Int)=1:=by decide
 have n2:zdp ((2:Nat):Int)=top:=by decide
 have n3:zdp ((3:Nat):Int)=bot:=by decide
 simp only [zmk,n0,n1,n2,n3,zej,zbz,BitVec.ofInt_add,BitVec.ofInt_mul]
 simp only [BitVec.add_zero,BitVec.ofInt_ofNat,BitVec.zero_add]
 grind
def rowH (i:Nat):H4:=(zdp i,zdp ((i:Int) / 4),0,0)
def zok:List H4:=zej.flatMap fun b=>zej.map fun a=>(a,b,0,0)
theorem yg8:(List.range 16).map rowH=zok:=by decide +kernel
theorem zwx:zok.Pairwise (·≠·):=by decide +kernel
theorem zt3 {F:H4→Int} {ys:List H4} (hR:H.zg3 F ys) (hG:∀ y∈ys,y∈zok) (hwf:∀ y∈zok,WfH y):zey (fun i=>decide (F (rowH i)≠0)) 16=ys.length:=by
 rw [znl]
 have e:((List.range 16).filter fun i=>decide (F (rowH i)≠0)).length=(zok.filter fun y=>decide (F y≠0)).length:=by
  rw [← yg8,List.filter_map,List.length_map]
  rfl
 rw [e]
 have hp:(zok.filter fun y=>decide (F y≠0)).Perm ys:=by
  refine (List.perm_ext_iff_of_nodup ?_ ?_).2 fun y=>?_
  ·exact (zwx.imp fun h=>h).filter _
  ·exact hR.rising.imp fun {x y} h e=>by subst e;unfold H.ltR at h;omega
  ·rw [List.mem_filter,decide_eq_true_eq]
   constructor
   ·rintro ⟨h1,h2⟩
    exact (hR.mem y (hwf y h1)).2 h2
   ·intro h
    exact ⟨hG y h,(hR.mem y (hR.wf y h)).1 h⟩
 exact hp.length_eq
end K
end Go.Proofs.YtoifcnidhfnapaaGreatDoor
namespace Go.Proofs.YtoifcnidhfnapaaGreatDoor
namespace K
open Go.RowKit Go.Maps Go.Sort Go.Shelf
section
variable {B0:Nat} {W:World} {fix:Nat→Prop} {eb db nI nV M:Nat} {fl:List Ent} {R S T:Rel} {ixs:IxS} {vws:VwS}
end
theorem zkh (u:Value) (bs:List (List Ent)) (W:World) {B0:Nat} {fix:Nat→Prop} {eb db nI nV M:Nat} {fl:List Ent} {R S T:Rel} {ixs:IxS} {vws:VwS} (h:Stg B0 W fix eb db nI nV M fl R S T ixs vws) (hB0:B0≤W.heap.size) (hv:zer W u bs) (hl:∀ b∈bs,b.length≤12) (hf:∀ b∈bs,∀ x∈b,Fine x) (hc:fl.length+bs.flatten.length≤400) (hbl:bs.length≤1000) (hM:M≤4000000000000000000) :
  Calls Tryz.prog 17 #[.pointer (some ⟨eb,0,none⟩),u] W fun e w'=>e=.returned (.bool true)∧∃ ixs' vws',Stg B0 w' fix eb db nI nV (M+bs.length*4000000000000) (fl ++ bs.flatten) R S T ixs' vws'∧zbi vws vws'∧KeepX (zcs (stF R S T fl) ixs vws) W w'∧∀ q,zcs (stF R S T (fl ++ bs.flatten)) ixs' vws' q→zcs (stF R S T fl) ixs vws q∨W.heap.size≤q:=by
 refine (zil u bs W h.eng h.three hv hl hf hc hbl (by omega) (by omega) h.most hM).mono ?_
 rintro e w' ⟨rfl,hk,ixs',vws',h1,h2,h3,h4,h5⟩
 rw [zls] at h1 h5
 refine ⟨rfl,ixs',vws',⟨?_,h.fr,h.fs,h.ft,fun x hx=>?_,by rw [List.length_append];omega,h3,fun q hq=>(h5 q hq).elim (h.low q) (fun h=>by omega),h.db0,h.fix0⟩,h2,hk,h5⟩
 ·have e:1+2*(fl ++ bs.flatten).length=1+2*fl.length+2*bs.flatten.length:=by rw [List.length_append];omega
  rw [e]
  exact h1
 ·rcases List.mem_append.1 hx with hx|hx
  ·exact h.fine x hx
  ·obtain ⟨b,hb,hxb⟩:=List.mem_flatten.1 hx
   exact hf b hb x hxb
theorem zzl (nm:ByteArray) (W:World) {B0:Nat} {fix:Nat→Prop} {eb db nI nV M:Nat} {fl:List Ent} {R S T Q:Rel} {ixs:IxS} {vws:VwS} (h:Stg B0 W fix eb db nI nV M fl R S T ixs vws) (hQ:stF R S T fl nm=some Q) :
  Calls Tryz.prog 19 #[.pointer (some ⟨eb,0,none⟩),.string nm] W fun e w'=>∃ v ys,e=.returned (.tuple #[v,.int .i64 0])∧zg3 Q.f ys∧zdf w' v (zbj Q.ar Q.f ys)∧ys.length≤1000000∧Below W.heap.size W w':=by
 have hn:=h.rn nm Q hQ
 have hl:=h.len
 have h3:=h.three
 have hnm:nm.size≤maxLen:=by
  rcases zgt hQ with ⟨rfl,_⟩|⟨rfl,_⟩|⟨rfl,_⟩ <;> decide
 have har:Q.ar=1∨Q.ar=2∨Q.ar=3:=by
  rcases zgt hQ with ⟨_,rfl⟩|⟨_,rfl⟩|⟨_,rfl⟩
  ·exact .inr (.inl h3.r.ar_)
  ·exact .inr (.inl h3.s.ar_)
  ·exact .inl h3.t.ar_
 refine (zxw nm W h.eng.rep hnm hQ har (by omega)).mono ?_
 rintro e w' ⟨v,ys,rfl,h1,h2,h4,h5⟩
 exact ⟨v,ys,rfl,h1,h2,by omega,h5⟩
section
variable {B0:Nat} {W:World} {fix:Nat→Prop} {eb db nI nV M:Nat} {fl:List Ent} {R S T:Rel} {ixs:IxS} {vws:VwS}
end
end K
end Go.Proofs.YtoifcnidhfnapaaGreatDoor
namespace Go.Proofs.YtoifcnidhfnapaaGreatDoor
namespace K
open Go.RowKit Go.Maps
structure yhz (f g:Row→Int) (F:H4→Int):Prop where
 eq:∀ a c,a∈zej→c∈zej→F (a,c,0,0)=zmk f g a c 4
 supp:∀ h,WfH h→F h≠0→h∈zok
theorem zl6 {y:H4} (h:y∈zok):y.2.2=(0,0):=by
 simp only [zok,List.mem_flatMap,List.mem_map] at h
 obtain ⟨a,_,b,_,rfl⟩:=h
 rfl
theorem zyx:∀ y∈zok,WfH y:=by
 intro y h
 simp only [zok,List.mem_flatMap,List.mem_map] at h
 obtain ⟨a,ha,b,hb,rfl⟩:=h
 exact ⟨zcf hb,zcf ha,zcp,zcp⟩
theorem yiw {w:World} (a b:Int):zbn (w.alloc (.cells #[.int .i64 a,.int .i64 b] 2)) (.slice (some ⟨w.heap.size,0,none⟩) 2 2) [a,b]:=
 zcj (zs:=[a,b]) (zae _ _ _ rfl) 2
theorem zvd (ar:Nat) (f:Row→Int) (ys:List Row):zge (zbj ar f ys):=by
 intro r hr
 obtain ⟨y,_,rfl⟩:=List.mem_map.1 hr
 show (zcv ar y).length≤1000000000
 unfold zcv
 exact Nat.le_trans (List.length_take_le' _ _) (by simp)
structure ztm (w5:World) (f g:Row→Int) (F:H4→Int) (vr vs vv:Value) (yr ys:List Row) (yv:List H4):Prop where
 rr:zdf w5 vr (zbj 2 f yr)
 rs:zdf w5 vs (zbj 2 g ys)
 rv:zdf w5 vv (H.zbj 2 F yv)
 fr:zg3 f yr
 fs:zg3 g ys
 fv:H.zg3 F yv
 gr:∀ y∈yr,y∈zd9
 gs:∀ y∈ys,y∈zd9
 lr:yr.length≤1000000
 ls:ys.length≤1000000
 lv:yv.length≤1000000
 bf:∀ r,zaw r→-1000≤f r∧f r≤1000
 bg:∀ r,zaw r→-1000≤g r∧g r≤1000
 pf:yhz f g F
theorem ztm.wr {w5:World} {f g:Row→Int} {F:H4→Int} {vr vs vv:Value} {yr ys:List Row} {yv:List H4} (h:ztm w5 f g F vr vs vv yr ys yv) {a b:Int} (ha:a∈zej) (hb:b∈zej) (W:World) (hW:Below w5.heap.size w5 W) :
  Calls Tryz.prog 23 #[vr,.slice (some ⟨W.heap.size,0,none⟩) 2 2] (W.alloc (.cells #[.int .i64 a,.int .i64 b] 2)) fun e w'=>e=.returned (.int .i64 (f (a,b,0)))∧Below w5.heap.size w5 w':=by
 have hb1:=hW.alloc hW.size (.cells #[.int .i64 a,.int .i64 b] 2)
 refine (zho _ _ (zbj 2 f yr) [a,b] _ (h.rr.below hb1) (yiw a b) (by simp [zbj];have:=h.lr;omega) (zvd _ _ _) (by simp)).mono ?_
 rintro e w' ⟨rfl,hd⟩
 refine ⟨?_,hb1.trans (hd.below _)⟩
 rw [zri (ar:=2) (zs:=[a,b]) rfl (by omega) (fun y hy=>yde.1 (h.gr y hy)) h.fr ⟨zcf ha,zcf hb,zcp⟩]
 rfl
theorem ztm.ws {w5:World} {f g:Row→Int} {F:H4→Int} {vr vs vv:Value} {yr ys:List Row} {yv:List H4} (h:ztm w5 f g F vr vs vv yr ys yv) {a b:Int} (ha:a∈zej) (hb:b∈zej) (W:World) (hW:Below w5.heap.size w5 W) :
  Calls Tryz.prog 23 #[vs,.slice (some ⟨W.heap.size,0,none⟩) 2 2] (W.alloc (.cells #[.int .i64 a,.int .i64 b] 2)) fun e w'=>e=.returned (.int .i64 (g (a,b,0)))∧Below w5.heap.size w5 w':=by
 have hb1:=hW.alloc hW.size (.cells #[.int .i64 a,.int .i64 b] 2)
 refine (zho _ _ (zbj 2 g ys) [a,b] _ (h.rs.below hb1) (yiw a b) (by simp [zbj];have:=h.ls;omega) (zvd _ _ _) (by simp)).mono ?_
 rintro e w' ⟨rfl,hd⟩
 refine ⟨?_,hb1.trans (hd.below _)⟩
 rw [zri (ar:=2) (zs:=[a,b]) rfl (by omega) (fun y hy=>yde.1 (h.gs y hy)) h.fs ⟨zcf ha,zcf hb,zcp⟩]
 rfl
theorem ztm.wv {w5:World} {f g:Row→Int} {F:H4→Int} {vr vs vv:Value} {yr ys:List Row} {yv:List H4} (h:ztm w5 f g F vr vs vv yr ys yv) {a b:Int} (ha:a∈zej) (hb:b∈zej) (W:World) (hW:Below w5.heap.size w5 W) :
  Calls Tryz.prog 23 #[vv,.slice (some ⟨W.heap.size,0,none⟩) 2 2] (W.alloc (.cells #[.int .i64 a,.int .i64 b] 2)) fun e w'=>e=.returned (.int .i64 (zmk f g a b 4))∧Below w5.heap.size w5 w':=by
 have hb1:=hW.alloc hW.size (.cells #[.int .i64 a,.int .i64 b] 2)
 refine (zho _ _ (H.zbj 2 F yv) [a,b] _ (h.rv.below hb1) (yiw a b) (by simp [H.zbj];have:=h.lv;omega) (zgd _ _ _) (by simp)).mono ?_
 rintro e w' ⟨rfl,hd⟩
 refine ⟨?_,hb1.trans (hd.below _)⟩
 rw [ybr (fun y hy=>zl6 (h.pf.supp y (h.fv.wf y hy) ((h.fv.mem y (h.fv.wf y hy)).1 hy))) h.fv ⟨zcf ha,zcf hb,zcp,zcp⟩,h.pf.eq a b ha hb]
theorem yd9 (vc:Value) (late:Bool) (w:World) (A A1 A2 A3:Nat→World→Prop) (A1b:Nat→Value→World→Prop)
  (h14:Calls Tryz.prog 14 #[] w fun e w'=>∃ eb,e=.returned (.pointer (some ⟨eb,0,none⟩))∧A eb w')
  (h1t:late=true→∀ eb w1,A eb w1→A1 eb w1)
  (h16:late=false→∀ eb w1,A eb w1→Calls Tryz.prog 16 #[.pointer (some ⟨eb,0,none⟩),.string nmV,.string (zlp 0),.string noO] w1 fun e w2=>e=.returned (.bool true)∧A1 eb w2)
  (h18:∀ eb w1,A1 eb w1→Calls Tryz.prog 18 #[vc] w1 fun e w2=>∃ u,e=.returned u∧A1b eb u w2)
  (h17:∀ eb u w1,A1b eb u w1→Calls Tryz.prog 17 #[.pointer (some ⟨eb,0,none⟩),u] w1 fun e w2=>e=.returned (.bool true)∧A2 eb w2)
  (h2f:late=false→∀ eb w1,A2 eb w1→A3 eb w1)
  (h16b:late=true→∀ eb w1,A2 eb w1→Calls Tryz.prog 16 #[.pointer (some ⟨eb,0,none⟩),.string nmV,.string (zlp 0),.string noO] w1 fun e w2=>e=.returned (.bool true)∧A3 eb w2)
  (hrd:∀ eb w1,A3 eb w1→Calls Tryz.prog 19 #[.pointer (some ⟨eb,0,none⟩),.string nmR] w1 fun e w2=>∃ vr,e=.returned (.tuple #[vr,.int .i64 0]) ∧
   Calls Tryz.prog 19 #[.pointer (some ⟨eb,0,none⟩),.string nmS] w2 fun e w3=>∃ vs,e=.returned (.tuple #[vs,.int .i64 0]) ∧
   Calls Tryz.prog 20 #[.pointer (some ⟨eb,0,none⟩),.string nmV] w3 fun e w4=>∃ vv,e=.returned (.tuple #[vv,.int .i64 0]) ∧
    (∃ f g F yr ys yv,ztm w4 f g F vr vs vv yr ys yv)∧Below w.heap.size w w4) :
  Calls Tryz.prog 10 #[vc,.bool late] w fun e w'=>e=.returned (.bool true)∧Below w.heap.size w w':=by
 have H14:=zac h14
 have H1t:=zac h1t
 have H16:=zac h16
 have H18:=zac h18
 have H17:=zac h17
 have H2f:=zac h2f
 have H16b:=zac h16b
 have Hrd:=zac hrd
 clear h14 h1t h16 h18 h17 h2f h16b hrd
 have hq:∀ W,Hid (Calls Tryz.prog 15 #[.int .i64 0] W fun e w'=>e=.returned (.tuple #[.string (zlp 0),.string (ya8 0)])∧w'=W):=fun W=>zo3 0 W (by omega) (by omega)
 generalize zlp 0=qt at *
 generalize ya8 0=qv at *
 cases late with
 | false =>
  have H16':=zac ((zaa H16) rfl)
  have H2f':=zac ((zaa H2f) rfl)
  clear H16 H2f H1t H16b
  go_enter Tryz.func10,Tryz.ntmps10
  go_wp2_with fail
  refine (zaa H14).mono ?_
  rintro e w1 ⟨eb,rfl,hA⟩
  have Hv:=zac ((zaa H16') eb w1 hA)
  clear hA H16' H14
  go_wp2_with (first|(go_at_call 15;refine (zaa (hq _)).mono ?_;rintro e w2 ⟨rfl,hw⟩;replace hw:=hw.symm;subst hw))
  refine (zaa Hv).mono ?_
  rintro e w2 ⟨rfl,hA1⟩
  have Hb:=zac ((zaa H18) eb w2 hA1)
  clear hA1 Hv H18
  go_wp2_with fail
  refine (zaa Hb).mono ?_
  rintro e w3 ⟨u,rfl,hA1b⟩
  have Ha:=zac ((zaa H17) eb u w3 hA1b)
  clear hA1b Hb H17
  go_wp2_with fail
  refine (zaa Ha).mono ?_
  rintro e w4 ⟨rfl,hA2⟩
  have Hr:=zac ((zaa Hrd) eb w4 ((zaa H2f') eb w4 hA2))
  clear hA2 Ha Hrd H2f'
  go_wp2_with fail
  refine (zaa Hr).mono ?_
  rintro e w5 ⟨vr,rfl,h5⟩
  have H5:=zac h5
  clear h5 Hr
  go_wp2_with fail
  refine (zaa H5).mono ?_
  rintro e w6 ⟨vs,rfl,h6⟩
  have H6:=zac h6
  clear h6 H5
  go_wp2_with fail
  refine (zaa H6).mono ?_
  rintro e w7 ⟨vv,rfl,⟨f,g,F,yr,ys,yv,hP⟩,hB7⟩
  obtain ⟨av,cv,hvv,_⟩:=hP.rv
  have hlv:(H.zbj 2 F yv).length=yv.length:=by simp [H.zbj]
  rw [hlv] at hvv
  have hl6:=hP.lv
  have Hri:=zac (zq5 vv (H.zbj 2 F yv) w7 hP.rv (by rw [hlv];omega) (zgd _ _ _) (yh6 (fun y hy=>zl6 (hP.pf.supp y (hP.fv.wf y hy) ((hP.fv.mem y (hP.fv.wf y hy)).1 hy))) hP.fv))
  have hcnt:zey (fun i=>decide (zmk f g (zdp i) (zdp ((i:Int) / 4)) 4≠0)) 16=yv.length:=by
   rw [← zt3 hP.fv (fun y hy=>hP.pf.supp y (hP.fv.wf y hy) ((hP.fv.mem y (hP.fv.wf y hy)).1 hy)) zyx]
   congr 1
   funext i
   rw [show rowH i=(zdp i,zdp ((i:Int) / 4),0,0) from rfl,hP.pf.eq _ _ (zbv _) (zbv _)]
  have HP:=zac hP
  have HB7:=zac hB7
  have Hcnt:=zac hcnt
  subst hvv
  clear hP hB7 hcnt H6
  go_wp2_with fail
  refine (zaa Hri).mono ?_
  rintro e w8 ⟨rfl,hd8⟩
  have HB8:=zac (hd8.below w7.heap.size)
  clear hd8 Hri
  go_wp2
  go_loopw [18,19] (fun n i wr=>∃ k:Nat,k≤16∧n=.int .i64 (zey (fun i=>decide (zmk f g (zdp i) (zdp ((i:Int) / 4)) 4≠0)) k:Nat)∧i=.int .i64 k∧Below w7.heap.size w7 wr) (fun _ i _=>16 - (intOf i).toNat)
  case atStart=>exact ⟨0,Nat.zero_le _,rfl,rfl,zaa HB8⟩
  case round =>
   obtain ⟨k,hk,rfl,rfl,hbk⟩:=hrel
   obtain ⟨cn,hcn⟩:∃ cn,cn=zey (fun i=>decide (zmk f g (zdp i) (zdp ((i:Int) / 4)) 4≠0)) k:=⟨_,rfl⟩
   by_cases hlt:k<16
   ·have hkz:(k:Int)<16:=by omega
    have hcl:cn≤k:=by rw [hcn,znl];exact Nat.le_trans (List.length_filter_le _ _) (by simp)
    have hnext:zey (fun i=>decide (zmk f g (zdp i) (zdp ((i:Int) / 4)) 4≠0)) (k+1)=cn+(if zmk f g (zdp k) (zdp ((k:Int) / 4)) 4≠0 then 1 else 0):=by
     rw [zey,← hcn]
     by_cases h0:zmk f g (zdp k) (zdp ((k:Int) / 4)) 4=0
     ·simp [h0]
     ·simp [h0]
    rw [← hcn]
    have Hnext:=zac hnext
    have Hbk:=zac hbk
    clear hnext hbk hcn
    go_wp2_with fail
    refine (zd3 _ _ (by omega) (by omega)).mono ?_
    rintro e w9 ⟨rfl,hb9⟩
    have Hb9:=zac ((zaa Hbk).trans (hb9.mono (zaa Hbk).size))
    clear hb9 Hbk
    go_wp2_with fail
    refine (zd3 _ _ (by omega) (by omega)).mono ?_
    rintro e w10 ⟨rfl,hb10⟩
    have Hb10:=zac ((zaa Hb9).trans (hb10.mono (zaa Hb9).size))
    clear hb10 Hb9
    obtain ⟨a,ha⟩:∃ a,a=zdp k:=⟨_,rfl⟩
    obtain ⟨c,hc⟩:∃ c,c=zdp ((k:Int) / 4):=⟨_,rfl⟩
    have hma:a∈zej:=by rw [ha];exact zbv _
    have hmc:c∈zej:=by rw [hc];exact zbv _
    rw [← ha,← hc] at Hnext
    rw [← ha,← hc]
    have Hma:=zac hma
    have Hmc:=zac hmc
    clear ha hc hma hmc
    go_wp2
    go_loopw [22,23] (fun s i wr=>∃ j:Nat,j≤4∧s=.int .i64 (zmk f g a c j)∧i=.int .i64 j∧Below w7.heap.size w7 wr) (fun _ i _=>4 - (intOf i).toNat)
    case atStart=>exact ⟨0,Nat.zero_le _,rfl,rfl,zaa Hb10⟩
    case round =>
     obtain ⟨j,hj,rfl,rfl,hbj⟩:=hrel
     obtain ⟨S,hS⟩:∃ S,S=zmk f g a c j:=⟨_,rfl⟩
     have hSb:=zjg (zaa HP).bf (zaa HP).bg (zaa Hma) (zaa Hmc) j
     rw [← hS] at hSb ⊢
     by_cases hjl:j<4
     ·have hjz:(j:Int)<4:=by omega
      have hsn:zmk f g a c (j+1)=S+f (a,zdp j,0)*g (zdp j,c,0):=by rw [hS];rfl
      have Hsn:=zac hsn
      have Hbj:=zac hbj
      clear hsn hbj hS
      go_wp2_with fail
      refine (zd3 _ _ (by omega) (by omega)).mono ?_
      rintro e w11 ⟨rfl,hb11⟩
      have hb11':=(zaa Hbj).trans (hb11.mono (zaa Hbj).size)
      obtain ⟨y,hy⟩:∃ y,y=zdp j:=⟨_,rfl⟩
      have hmy:y∈zej:=by rw [hy];exact zbv _
      rw [← hy] at Hsn
      rw [← hy]
      have b1:=(zaa HP).bf (a,y,0) ⟨zcf (zaa Hma),zcf hmy,zcp⟩
      have b2:=(zaa HP).bg (y,c,0) ⟨zcf hmy,zcf (zaa Hmc),zcp⟩
      have b3:=zou b1 b2
      have Hw1:=zac ((zaa HP).wr (zaa Hma) hmy w11 hb11')
      have Hw2:∀ W,Below w7.heap.size w7 W→Hid _:=fun W hW=>zac ((zaa HP).ws hmy (zaa Hmc) W hW)
      generalize f (a,y,0)=p1 at *
      generalize g (y,c,0)=p2 at *
      clear hb11 hy hb11' Hbj
      go_wp2_with fail
      refine (zaa Hw1).mono ?_
      rintro e w12 ⟨rfl,hb12⟩
      have Hw3:=Hw2 w12 hb12
      clear Hw2 Hw1 hb12
      go_wp2_with fail
      refine (zaa Hw3).mono ?_
      rintro e w13 ⟨rfl,hb13⟩
      have Hb13:=zac hb13
      clear hb13 Hw3
      go_wp2
      go_roundw
      case rel=>exact ⟨j+1,by omega,by rw [zaa Hsn],by go_num,zaa Hb13⟩
      case measure=>simp [intOf];omega
     ·have hj4:j=4:=by omega
      subst hj4
      have Hw:=zac ((zaa HP).wv (zaa Hma) (zaa Hmc) wr hbj)
      rw [← hS] at Hw
      rw [← hS] at Hnext
      have hSS:(S != S)=false:=by simp
      clear hbj hS
      go_wp2_with fail
      refine (zaa Hw).mono ?_
      rintro e w14 ⟨rfl,hb14⟩
      have Hb14:=zac hb14
      clear hb14 Hw
      by_cases h0:S=0
      ·have h0b:(S != 0)=false:=by simp [h0]
       have hn:=zaa Hnext
       rw [if_neg (by simp [h0]),Nat.add_zero] at hn
       have Hn:=zac hn
       clear h0 hn Hnext
       go_wp2
       go_roundw
       case rel=>exact ⟨k+1,by omega,by rw [zaa Hn];rfl,by go_num,zaa Hb14⟩
       case measure=>simp [intOf];omega
      ·have h0b:(S != 0)=true:=by simp [h0]
       have hn:=zaa Hnext
       rw [if_pos h0] at hn
       have Hn:=zac hn
       clear h0 hn Hnext
       go_wp2
       go_roundw
       case rel=>exact ⟨k+1,by omega,by rw [zaa Hn];go_num,by go_num,zaa Hb14⟩
       case measure=>simp [intOf];omega
   ·have hk16:k=16:=by omega
    subst hk16
    rw [zaa Hcnt]
    have HF:=zac ((zaa HB7).trans (hbk.mono (zaa HB7).size))
    clear hbk
    go_wp2
    go_ret
    exact ⟨rfl,zaa HF⟩
 | true =>
  have H16':=zac ((zaa H16b) rfl)
  have H1t':=zac ((zaa H1t) rfl)
  clear H16 H2f H1t H16b
  go_enter Tryz.func10,Tryz.ntmps10
  go_wp2_with fail
  refine (zaa H14).mono ?_
  rintro e w1 ⟨eb,rfl,hA⟩
  have Hb:=zac ((zaa H18) eb w1 ((zaa H1t') eb w1 hA))
  clear hA H1t' H14 H18
  go_wp2_with (first|(go_at_call 15;refine (zaa (hq _)).mono ?_;rintro e w2 ⟨rfl,hw⟩;replace hw:=hw.symm;subst hw))
  refine (zaa Hb).mono ?_
  rintro e w3 ⟨u,rfl,hA1b⟩
  have Ha:=zac ((zaa H17) eb u w3 hA1b)
  clear hA1b Hb H17
  go_wp2_with fail
  refine (zaa Ha).mono ?_
  rintro e w4 ⟨rfl,hA2⟩
  have Hv:=zac ((zaa H16') eb w4 hA2)
  clear hA2 Ha H16'
  go_wp2_with fail
  refine (zaa Hv).mono ?_
  rintro e w4 ⟨rfl,hA3⟩
  have Hr:=zac ((zaa Hrd) eb w4 hA3)
  clear hA3 Hv Hrd
  go_wp2_with fail
  refine (zaa Hr).mono ?_
  rintro e w5 ⟨vr,rfl,h5⟩
  have H5:=zac h5
  clear h5 Hr
  go_wp2_with fail
  refine (zaa H5).mono ?_
  rintro e w6 ⟨vs,rfl,h6⟩
  have H6:=zac h6
  clear h6 H5
  go_wp2_with fail
  refine (zaa H6).mono ?_
  rintro e w7 ⟨vv,rfl,⟨f,g,F,yr,ys,yv,hP⟩,hB7⟩
  obtain ⟨av,cv,hvv,_⟩:=hP.rv
  have hlv:(H.zbj 2 F yv).length=yv.length:=by simp [H.zbj]
  rw [hlv] at hvv
  have hl6:=hP.lv
  have Hri:=zac (zq5 vv (H.zbj 2 F yv) w7 hP.rv (by rw [hlv];omega) (zgd _ _ _) (yh6 (fun y hy=>zl6 (hP.pf.supp y (hP.fv.wf y hy) ((hP.fv.mem y (hP.fv.wf y hy)).1 hy))) hP.fv))
  have hcnt:zey (fun i=>decide (zmk f g (zdp i) (zdp ((i:Int) / 4)) 4≠0)) 16=yv.length:=by
   rw [← zt3 hP.fv (fun y hy=>hP.pf.supp y (hP.fv.wf y hy) ((hP.fv.mem y (hP.fv.wf y hy)).1 hy)) zyx]
   congr 1
   funext i
   rw [show rowH i=(zdp i,zdp ((i:Int) / 4),0,0) from rfl,hP.pf.eq _ _ (zbv _) (zbv _)]
  have HP:=zac hP
  have HB7:=zac hB7
  have Hcnt:=zac hcnt
  subst hvv
  clear hP hB7 hcnt H6
  go_wp2_with fail
  refine (zaa Hri).mono ?_
  rintro e w8 ⟨rfl,hd8⟩
  have HB8:=zac (hd8.below w7.heap.size)
  clear hd8 Hri
  go_wp2
  go_loopw [18,19] (fun n i wr=>∃ k:Nat,k≤16∧n=.int .i64 (zey (fun i=>decide (zmk f g (zdp i) (zdp ((i:Int) / 4)) 4≠0)) k:Nat)∧i=.int .i64 k∧Below w7.heap.size w7 wr) (fun _ i _=>16 - (intOf i).toNat)
  case atStart=>exact ⟨0,Nat.zero_le _,rfl,rfl,zaa HB8⟩
  case round =>
   obtain ⟨k,hk,rfl,rfl,hbk⟩:=hrel
   obtain ⟨cn,hcn⟩:∃ cn,cn=zey (fun i=>decide (zmk f g (zdp i) (zdp ((i:Int) / 4)) 4≠0)) k:=⟨_,rfl⟩
   by_cases hlt:k<16
   ·have hkz:(k:Int)<16:=by omega
    have hcl:cn≤k:=by rw [hcn,znl];exact Nat.le_trans (List.length_filter_le _ _) (by simp)
    have hnext:zey (fun i=>decide (zmk f g (zdp i) (zdp ((i:Int) / 4)) 4≠0)) (k+1)=cn+(if zmk f g (zdp k) (zdp ((k:Int) / 4)) 4≠0 then 1 else 0):=by
     rw [zey,← hcn]
     by_cases h0:zmk f g (zdp k) (zdp ((k:Int) / 4)) 4=0
     ·simp [h0]
     ·simp [h0]
    rw [← hcn]
    have Hnext:=zac hnext
    have Hbk:=zac hbk
    clear hnext hbk hcn
    go_wp2_with fail
    refine (zd3 _ _ (by omega) (by omega)).mono ?_
    rintro e w9 ⟨rfl,hb9⟩
    have Hb9:=zac ((zaa Hbk).trans (hb9.mono (zaa Hbk).size))
    clear hb9 Hbk
    go_wp2_with fail
    refine (zd3 _ _ (by omega) (by omega)).mono ?_
    rintro e w10 ⟨rfl,hb10⟩
    have Hb10:=zac ((zaa Hb9).trans (hb10.mono (zaa Hb9).size))
    clear hb10 Hb9
    obtain ⟨a,ha⟩:∃ a,a=zdp k:=⟨_,rfl⟩
    obtain ⟨c,hc⟩:∃ c,c=zdp ((k:Int) / 4):=⟨_,rfl⟩
    have hma:a∈zej:=by rw [ha];exact zbv _
    have hmc:c∈zej:=by rw [hc];exact zbv _
    rw [← ha,← hc] at Hnext
    rw [← ha,← hc]
    have Hma:=zac hma
    have Hmc:=zac hmc
    clear ha hc hma hmc
    go_wp2
    go_loopw [22,23] (fun s i wr=>∃ j:Nat,j≤4∧s=.int .i64 (zmk f g a c j)∧i=.int .i64 j∧Below w7.heap.size w7 wr) (fun _ i _=>4 - (intOf i).toNat)
    case atStart=>exact ⟨0,Nat.zero_le _,rfl,rfl,zaa Hb10⟩
    case round =>
     obtain ⟨j,hj,rfl,rfl,hbj⟩:=hrel
     obtain ⟨S,hS⟩:∃ S,S=zmk f g a c j:=⟨_,rfl⟩
     have hSb:=zjg (zaa HP).bf (zaa HP).bg (zaa Hma) (zaa Hmc) j
     rw [← hS] at hSb ⊢
     by_cases hjl:j<4
     ·have hjz:(j:Int)<4:=by omega
      have hsn:zmk f g a c (j+1)=S+f (a,zdp j,0)*g (zdp j,c,0):=by rw [hS];rfl
      have Hsn:=zac hsn
      have Hbj:=zac hbj
      clear hsn hbj hS
      go_wp2_with fail
      refine (zd3 _ _ (by omega) (by omega)).mono ?_
      rintro e w11 ⟨rfl,hb11⟩
      have hb11':=(zaa Hbj).trans (hb11.mono (zaa Hbj).size)
      obtain ⟨y,hy⟩:∃ y,y=zdp j:=⟨_,rfl⟩
      have hmy:y∈zej:=by rw [hy];exact zbv _
      rw [← hy] at Hsn
      rw [← hy]
      have b1:=(zaa HP).bf (a,y,0) ⟨zcf (zaa Hma),zcf hmy,zcp⟩
      have b2:=(zaa HP).bg (y,c,0) ⟨zcf hmy,zcf (zaa Hmc),zcp⟩
      have b3:=zou b1 b2
      have Hw1:=zac ((zaa HP).wr (zaa Hma) hmy w11 hb11')
      have Hw2:∀ W,Below w7.heap.size w7 W→Hid _:=fun W hW=>zac ((zaa HP).ws hmy (zaa Hmc) W hW)
      generalize f (a,y,0)=p1 at *
      generalize g (y,c,0)=p2 at *
      clear hb11 hy hb11' Hbj
      go_wp2_with fail
      refine (zaa Hw1).mono ?_
      rintro e w12 ⟨rfl,hb12⟩
      have Hw3:=Hw2 w12 hb12
      clear Hw2 Hw1 hb12
      go_wp2_with fail
      refine (zaa Hw3).mono ?_
      rintro e w13 ⟨rfl,hb13⟩
      have Hb13:=zac hb13
      clear hb13 Hw3
      go_wp2
      go_roundw
      case rel=>exact ⟨j+1,by omega,by rw [zaa Hsn],by go_num,zaa Hb13⟩
      case measure=>simp [intOf];omega
     ·have hj4:j=4:=by omega
      subst hj4
      have Hw:=zac ((zaa HP).wv (zaa Hma) (zaa Hmc) wr hbj)
      rw [← hS] at Hw
      rw [← hS] at Hnext
      have hSS:(S != S)=false:=by simp
      clear hbj hS
      go_wp2_with fail
      refine (zaa Hw).mono ?_
      rintro e w14 ⟨rfl,hb14⟩
      have Hb14:=zac hb14
      clear hb14 Hw
      by_cases h0:S=0
      ·have h0b:(S != 0)=false:=by simp [h0]
       have hn:=zaa Hnext
       rw [if_neg (by simp [h0]),Nat.add_zero] at hn
       have Hn:=zac hn
       clear h0 hn Hnext
       go_wp2
       go_roundw
       case rel=>exact ⟨k+1,by omega,by rw [zaa Hn];rfl,by go_num,zaa Hb14⟩
       case measure=>simp [intOf];omega
      ·have h0b:(S != 0)=true:=by simp [h0]
       have hn:=zaa Hnext
       rw [if_pos h0] at hn
       have Hn:=zac hn
       clear h0 hn Hnext
       go_wp2
       go_roundw
       case rel=>exact ⟨k+1,by omega,by rw [zaa Hn];go_num,by go_num,zaa Hb14⟩
       case measure=>simp [intOf];omega
   ·have hk16:k=16:=by omega
    subst hk16
    rw [zaa Hcnt]
    have HF:=zac ((zaa HB7).trans (hbk.mono (zaa HB7).size))
    clear hbk
    go_wp2
    go_ret
    exact ⟨rfl,zaa HF⟩
end K
end Go.Proofs.YtoifcnidhfnapaaGreatDoor
namespace Go.Proofs.YtoifcnidhfnapaaGreatDoor
namespace K
open Go.RowKit Go.Maps Go.Sort Go.Shelf
theorem Stg.paths {B0:Nat} {W:World} {fix:Nat→Prop} {eb db nI nV M:Nat} {fl:List Ent} {R S T:Rel} {ixs:IxS} {vws:VwS} (h:Stg B0 W fix eb db nI nV M fl R S T ixs vws) {nm:ByteArray} {v:zec} (hv:vws nm=some v) (hH:v.H=(zgs 0).1) (hB:v.B=(zgs 0).2.map zba.q) :
  yhz (zah R fl nmR).f (zah S fl nmS).f v.f:=by
 have h3:=h.three
 have hl:=h.len
 have hval:=fun q=>h.val hv q
 rw [hH,hB] at hval
 have e1:((zgs 0).2.map zba.q).map (·.ts)=zc9:=rfl
 have e2:(zgs 0).1.map (·.1)=zeo:=rfl
 rw [e1,e2] at hval
 have l0:zfh (stF R S T fl) ((zgs 0).2.map zba.q) 0=za6 (zah R fl nmR).f (zd9.filter fun r=>decide ((zah R fl nmR).f r≠0)):=by
  unfold zfh
  have:stF R S T fl (((zgs 0).2.map zba.q)[0]?.getD zat).nm=some (zah R fl nmR):=zia _ _ _
  rw [this]
  dsimp only
  rw [if_neg (by rw [h3.r.ar_];decide)]
 have l1:zfh (stF R S T fl) ((zgs 0).2.map zba.q) 1=za6 (zah S fl nmS).f (zd9.filter fun r=>decide ((zah S fl nmS).f r≠0)):=by
  unfold zfh
  have:stF R S T fl (((zgs 0).2.map zba.q)[1]?.getD zat).nm=some (zah S fl nmS):=zni _ _ _
  rw [this]
  dsimp only
  rw [if_neg (by rw [h3.s.ar_];decide)]
 refine ⟨fun a c ha hc=>?_,fun q hq h0=>?_⟩
 ·refine yea (fun r hr=>?_) (fun r hr=>?_) (L:=zfh (stF R S T fl) ((zgs 0).2.map zba.q)) ?_ ?_ ha hc (h.range hv ⟨zcf ha,zcf hc,zcp,zcp⟩) (hval _)
  ·have:=h3.r.lo r hr;have:=h3.r.hi r hr;omega
  ·have:=h3.s.lo r hr;have:=h3.s.hi r hr;omega
  ·rw [l0];exact (zix h3.r zhx znp).2
  ·rw [l1];exact (zix h3.s zhx znp).2
 ·have hz:zpj zc9 zeo (zfh (stF R S T fl) ((zgs 0).2.map zba.q)) q≠0#64:=fun hz=>h0 (zek (h.range hv hq) (by omega) ((hval q).trans hz))
  obtain ⟨r,hr,_,rfl⟩:=zln hz
  rw [zjf]
  obtain ⟨x0,hx0,e0⟩:=hr 0 (by decide)
  obtain ⟨x1,hx1,e1'⟩:=hr 1 (by decide)
  have c0:(r 0).1∈zej:=by
   rw [← e0]
   rcases zke x0 hx0 with h|h
   ·exact zoe h 0
   ·exact zod h 0
  have c1:(r 1).2.1∈zej:=by
   rw [← e1']
   rcases zke x1 hx1 with h|h
   ·exact zoe h 1
   ·exact zod h 1
  exact List.mem_flatMap.2 ⟨_,c1,List.mem_map.2 ⟨_,c0,rfl⟩⟩
def PA (w:World) (fl:List Ent) (there:Bool) (Mx:Nat) (eb:Nat) (W:World):Prop:=
 ∃ fix db nI nV M R S T ixs vws,Stg w.heap.size W fix eb db nI nV M fl R S T ixs vws∧Below w.heap.size w W∧nI≤100∧nV≤1∧M≤Mx ∧
  if there then ∃ v,vws nmV=some v∧v.H=(zgs 0).1∧v.B=(zgs 0).2.map zba.q else nI=0∧nV=0∧vws nmV=none
theorem yg2 (w:World):Calls Tryz.prog 14 #[] w fun e w'=>∃ eb,e=.returned (.pointer (some ⟨eb,0,none⟩))∧PA w [] false 0 eb w':=by
 refine (zpc w).mono ?_
 rintro e w' ⟨eb,rfl,⟨fix,db,R,S,T,hS⟩,hb⟩
 exact ⟨eb,rfl,fix,db,0,0,0,R,S,T,_,_,hS,hb,by omega,by omega,by omega,rfl,rfl,rfl⟩
theorem zu2 (w:World) (fl:List Ent) (Mx eb:Nat) (W:World) (h:PA w fl false Mx eb W) :
  Calls Tryz.prog 16 #[.pointer (some ⟨eb,0,none⟩),.string nmV,.string (zlp 0),.string noO] W fun e w'=>e=.returned (.bool true)∧PA w fl true (Mx+1000000000000) eb w':=by
 obtain ⟨fix,db,nI,nV,M,R,S,T,ixs,vws,hS,hb,h1,h2,h3,h4,h5,h6⟩:=h
 have hf:=hS.fit (zsr 0)
 refine (zmm nmV (zlp 0) noO (zgs 0).1 (zgs 0).2 W hS hb.size yau (by decide) h6 (by omega) (zst 0) (zss 0) hf.1 hf.2 (.inl rfl) (by omega)).mono ?_
 rintro e w' ⟨rfl,fix',ixs',nI',v,hS',hH,hB,hn,hk,_,_,_⟩
 have hdb:=hS.db0
 refine ⟨rfl,fix',db,nI',nV+1,M+1000000000000,R,S,T,ixs',_,hS',zf1 hb hb.size hk (fun q hq=>by omega),by omega,by omega,by omega,?_⟩
 exact ⟨v,za7 _ _ _,hH,hB⟩
theorem yi8 (w:World) (vc:Value) (codes:List Int) (hc:zbn w vc codes) (hcl:codes.length≤9223372036854775807) (hcb:∀ c∈codes,-9223372036854775808≤c∧c≤9223372036854775807) (fl:List Ent) (th:Bool) (Mx eb:Nat) (W:World) (h:PA w fl th Mx eb W) :
  Calls Tryz.prog 18 #[vc] W fun e w'=>∃ u,e=.returned u∧PA w fl th Mx eb w'∧zer w' u (zf6 codes):=by
 obtain ⟨fix,db,nI,nV,M,R,S,T,ixs,vws,hS,hb,h4⟩:=h
 refine (zrt vc codes W (hc.below hb) hcl hcb).mono ?_
 rintro e w' ⟨u,rfl,h1,h2⟩
 exact ⟨u,rfl,⟨fix,db,nI,nV,M,R,S,T,ixs,vws,hS.below h2,hb.trans (h2.mono hb.size),h4⟩,h1.stable⟩
theorem ya2 (w:World) (codes:List Int) (th:Bool) (Mx eb:Nat) (u:Value) (W:World) (h:PA w [] th Mx eb W) (hM:Mx≤4000000000000000000) (hu:zer W u (zf6 codes)) :
  Calls Tryz.prog 17 #[.pointer (some ⟨eb,0,none⟩),u] W fun e w'=>e=.returned (.bool true)∧PA w (zf6 codes).flatten th (Mx+401*4000000000000) eb w':=by
 obtain ⟨fix,db,nI,nV,M,R,S,T,ixs,vws,hS,hb,h1,h2,h3,h4⟩:=h
 have hl:=zn3 codes
 have hm:=zly codes
 refine (zkh u (zf6 codes) W hS hb.size hu (zjz codes) (zlx codes) (by simpa using hm) (by omega) (by omega)).mono ?_
 rintro e w' ⟨rfl,ixs',vws',hS',hsame,hk,_⟩
 rw [List.nil_append] at hS'
 refine ⟨rfl,fix,db,nI,nV,_,R,S,T,ixs',vws',hS',zf1 hb hb.size hk hS.low,h1,h2,by omega,?_⟩
 cases th with
 | true =>
  obtain ⟨v,hv,hH,hB⟩:=h4
  obtain ⟨n',f',hv'⟩:=hsame.2 nmV v hv
  exact ⟨_,hv',hH,hB⟩
 | false=>exact ⟨h4.1,h4.2.1,hsame.1 nmV h4.2.2⟩
theorem yi9 (w:World) (fl:List Ent) (Mx eb:Nat) (W:World) (h:PA w fl true Mx eb W) :
  Calls Tryz.prog 19 #[.pointer (some ⟨eb,0,none⟩),.string nmR] W fun e w2=>∃ vr,e=.returned (.tuple #[vr,.int .i64 0]) ∧
   Calls Tryz.prog 19 #[.pointer (some ⟨eb,0,none⟩),.string nmS] w2 fun e w3=>∃ vs,e=.returned (.tuple #[vs,.int .i64 0]) ∧
   Calls Tryz.prog 20 #[.pointer (some ⟨eb,0,none⟩),.string nmV] w3 fun e w4=>∃ vv,e=.returned (.tuple #[vv,.int .i64 0]) ∧
    (∃ f g F yr ys yv,ztm w4 f g F vr vs vv yr ys yv)∧Below w.heap.size w w4:=by
 obtain ⟨fix,db,nI,nV,M,R,S,T,ixs,vws,hS,hb,h1,h2,h3,v,hv,hH,hB⟩:=h
 have h3t:=hS.three
 have hlen:=hS.len
 refine (zzl nmR W hS (zia _ _ _)).mono ?_
 rintro e w2 ⟨vr,yr,rfl,r1,r2,r3,b2⟩
 refine ⟨vr,rfl,?_⟩
 have hS2:=hS.below b2
 refine (zzl nmS w2 hS2 (zni _ _ _)).mono ?_
 rintro e w3 ⟨vs,ys,rfl,s1,s2,s3,b3⟩
 refine ⟨vs,rfl,?_⟩
 have hS3:=hS2.below b3
 refine (zlf nmV w3 hS3 hv).mono ?_
 rintro e w4 ⟨vv,yv,rfl,v1,v2,v3,b4⟩
 rw [h3t.r.ar_] at r2
 rw [h3t.s.ar_] at s2
 have hHl:v.H.length=2:=by rw [hH];rfl
 rw [hHl] at v2
 refine ⟨vv,rfl,⟨_,_,_,yr,ys,yv,(r2.below b3).below b4,s2.below b4,v2,r1,s1,v1,fun y hy=>h3t.r.supp y (r1.wf y hy) ((r1.mem y (r1.wf y hy)).1 hy),fun y hy=>h3t.s.supp y (s1.wf y hy) ((s1.mem y (s1.wf y hy)).1 hy),r3,s3,by omega,fun r hr=>?_,fun r hr=>?_,hS.paths hv hH hB⟩,?_⟩
 ·have:=h3t.r.lo r hr;have:=h3t.r.hi r hr;omega
 ·have:=h3t.s.lo r hr;have:=h3t.s.hi r hr;omega
 ·have c2:=hb.trans (b2.mono hb.size)
  have c3:=c2.trans (b3.mono c2.size)
  exact c3.trans (b4.mono c3.size)
theorem yd7 (vc:Value) (codes:List Int) (late:Bool) (w:World) (hc:zbn w vc codes) (hcl:codes.length≤9223372036854775807) (hcb:∀ c∈codes,-9223372036854775808≤c∧c≤9223372036854775807) :
  Calls Tryz.prog 10 #[vc,.bool late] w fun e w'=>e=.returned (.bool true)∧Below w.heap.size w w':=
 yd9 vc late w (PA w [] false 0) (PA w [] (!late) 1000000000000) (PA w (zf6 codes).flatten (!late) (1000000000000+401*4000000000000)) (PA w (zf6 codes).flatten true (1000000000000+401*4000000000000+1000000000000))
  (fun eb u W=>PA w [] (!late) 1000000000000 eb W∧zer W u (zf6 codes))
  (yg2 w)
  (fun e eb W h=>by
   subst e
   obtain ⟨fix,db,nI,nV,M,R,S,T,ixs,vws,hS,hb,h1,h2,h3,h4⟩:=h
   exact ⟨fix,db,nI,nV,M,R,S,T,ixs,vws,hS,hb,h1,h2,by omega,h4⟩)
  (fun e eb W h=>by
   subst e
   have:=zu2 w [] 0 eb W h
   rw [Nat.zero_add] at this
   exact this)
  (fun eb W h=>yi8 w vc codes hc hcl hcb [] _ _ eb W h)
  (fun eb u W h=>ya2 w codes _ _ eb u W h.1 (by omega) h.2)
  (fun e eb W h=>by
   subst e
   obtain ⟨fix,db,nI,nV,M,R,S,T,ixs,vws,hS,hb,h1,h2,h3,h4⟩:=h
   exact ⟨fix,db,nI,nV,M,R,S,T,ixs,vws,hS,hb,h1,h2,by omega,h4⟩)
  (fun e eb W h=>by
   subst e
   exact zu2 w _ _ eb W h)
  (fun eb W h=>yi9 w _ _ eb W h)
end K
end Go.Proofs.YtoifcnidhfnapaaGreatDoor
