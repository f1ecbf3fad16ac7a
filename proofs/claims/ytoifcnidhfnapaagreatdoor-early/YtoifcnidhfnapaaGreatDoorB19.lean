import Derived.Test.YtoifcnidhfnapaaGreatDoorB18
import Derived.Test.YtoifcnidhfnapaaGreatDoorB14
set_option linter.unusedVariables false
set_option linter.unusedSimpArgs false
set_option maxRecDepth 100000
set_option maxHeartbeats 16000000
namespace Go.Proofs.YtoifcnidhfnapaaGreatDoor
open Go.RowKit Go.Maps Go.Sort Go.Shelf
def zxc:Value→Nat
 | .slice _ n _=>n
 | _=>0
def zro (W:World) (v:Value) (es:List zaj):Prop:=∃ a cap,v=.slice a es.length cap∧zb1 W v es∧(a=none→cap=0)
structure yjt (W:World) (al bl:List zaj) (cap:Nat) (av bv mv:Value) (a' b' ms:List zaj) (wr:World):Prop where
 a:zro W av a'
 b:zro W bv b'
 m:mv=.slice (some ⟨W.heap.size,0,none⟩) ms.length cap
 own:wr.ownsRow W.heap.size 221 4 (.slice (some ⟨W.heap.size,0,none⟩) ms.length cap) ms.length (zch ms)
 eq:zcq al bl=ms ++ zcq a' b'
 room:ms.length+(a'.length+b'.length)≤cap
 low:Below W.heap.size W wr
theorem zro.tail {W:World} {a:Option Addr} {cap:Nat} {x:zaj} {al:List zaj} (h:zb1 W (.slice a (x :: al).length cap) (x :: al)):∃ b o tv,a=some ⟨b,o,none⟩∧(∀ q,(Instr.sliceAt 141 (.slice a (al.length+1) cap) (some (.int .i64 1)) none none).run Tryz.prog q=.ok tv q)∧zro W tv al∧zxc tv=al.length:=by
 obtain ⟨b,o,ad,cap',ha,hs,hr⟩:=yhd h
 exact ⟨b,o,_,ha,hs,⟨some ad,cap',rfl,hr,fun e=>by cases e⟩,rfl⟩
theorem zmg {w w':World} {base n:Nat} {v:Value} {xs:List Value} (h:w.ownsRow base 221 4 v n xs) (hb:Below w.heap.size w w'):w'.ownsRow base 221 4 v n xs:=by
 obtain ⟨a,cap,rfl⟩:∃ a cap,v=.slice a n cap:=by
  rcases h.2 with ⟨rfl,rfl⟩|⟨g,cap,cur,rfl,_⟩
  ·exact ⟨none,0,rfl⟩
  ·exact ⟨_,cap,rfl⟩
 exact h.kept (row:=none) ⟨hb.os,hb.tape,hb.output,hb.size,fun k hk _=>hb.block k hk⟩ (by cases a with|none=>exact .inl rfl|some x=>exact .inr (by simp [Value.ownBlock]))
theorem zex {W w w3:World} {o:Obj} (hb:Below W.heap.size W w) (hg:(w.alloc o).grownBy w3 (some W.heap.size)):Below W.heap.size W w3:=
 (hb.alloc hb.size o).grown hg (Nat.le_trans hb.size (by simp)) (fun k e=>by cases e;exact Nat.le_refl _)
section
attribute [local go_sem] Oper.semAt_some
attribute [local go_sem ↓] zhb
theorem zux (av bv:Value) (al bl:List zaj) (W:World) (hA:zro W av al) (hB:zro W bv bl) (hl:al.length+bl.length≤1000000000) :
  Calls Tryz.prog 71 #[av,bv] W fun e w'=>∃ mv,e=.returned mv∧zro w' mv (zcq al bl)∧Below W.heap.size W w'∧mv.ownBlock=some W.heap.size:=by
 obtain ⟨aa,acap,rfl,hA1,hA2⟩:=hA
 obtain ⟨ba,bcap,rfl,hB1,hB2⟩:=hB
 obtain ⟨i62,hi,hz0,hz1,hz2⟩:=info_parts Tryz.info221
 have HA:Hid (zro W (.slice aa al.length acap) al):=⟨aa,acap,rfl,hA1,hA2⟩
 have HB:Hid (zro W (.slice ba bl.length bcap) bl):=⟨ba,bcap,rfl,hB1,hB2⟩
 clear hA1 hA2 hB1 hB2
 refine (callsIn_wide (n:=9)).1 (callsIn_of_wp Tryz.func71 rfl trivial ?_ rfl)
 simp only [Tryz.ntmps71,List.size_toArray,List.length_cons,List.length_nil,Nat.reduceAdd,Nat.reduceSub,Array.replicate_succ,Array.replicate_zero,List.push_toArray,List.append_toArray,List.nil_append,List.cons_append]
 gi_wp2_with (first
  | (gi_at_make;refine wpListIn_make_own _ rfl _ _ _ rfl W.heap.size 221 i62 _ 4 Tryz.underlying141 hi hz0 hz1 _ _ _ (al.length+bl.length) rfl rfl (by simp) (by rw [hz2];omega) (by unfold maxLen;omega) (by simp) ?_;intro w1 hrow1 hg1))
 obtain ⟨cap,hcap⟩:∃ cap,cap=al.length+bl.length:=⟨_,rfl⟩
 rw [← hcap] at hrow1 ⊢
 have hI0:yjt W al bl cap (.slice aa al.length acap) (.slice ba bl.length bcap) (.slice (some ⟨W.heap.size,0,none⟩) 0 cap) al bl [] w1:=⟨zaa HA,zaa HB,rfl,by simpa [zch] using hrow1,rfl,by simp [hcap],⟨hg1.os,hg1.tape,hg1.output,hg1.size,fun k hk=>hg1.block k hk (by simp)⟩⟩
 have HI0:=zac hI0
 have Hcap:=zac hcap
 clear hI0 hrow1 hg1 hcap HA HB
 gi_loopw [0,1,5] (fun a b m wr=>∃ a' b' ms,yjt W al bl cap a b m a' b' ms wr) (fun a b _ _=>zxc a+zxc b)
 case atStart=>exact ⟨al,bl,[],zaa HI0⟩
 case round =>
  obtain ⟨a',b',ms,hI⟩:=hrel
  obtain ⟨ab,ac,rfl,hA3,hA4⟩:=hI.a
  obtain ⟨bb,bc,rfl,hB3,hB4⟩:=hI.b
  obtain rfl:=hI.m
  have hroom:=hI.room
  have hcapB:=zaa Hcap
  by_cases hab:a'=[]∨b'=[]
  ·have hmm:zcq a' b'=a' ++ b':=by
    rcases hab with rfl|rfl
    ·simp [mg0]
    ·rw [yar,List.append_nil]
   have hr1:=hA3.below hI.low
   obtain ⟨w3,hap1,hown3,hg3⟩:=ykb hI.own hr1 hA4 (by have:=hI.room;omega)
   have hlow3:Below W.heap.size W w3:=hI.low.grown hg3 hI.low.size (fun k e=>by cases e;exact Nat.le_refl _)
   obtain ⟨w4,hap2,hown4,hg4⟩:=ykb hown3 (hB3.below hlow3) hB4 (by have:=hI.room;rw [List.length_append];omega)
   have hlow4:Below W.heap.size W w4:=hlow3.grown hg4 hlow3.size (fun k e=>by cases e;exact Nat.le_refl _)
   have hfin:zro w4 (.slice (some ⟨W.heap.size,0,none⟩) (ms ++ a' ++ b').length cap) (zcq al bl):=by
    have he:zcq al bl=ms ++ a' ++ b':=by rw [hI.eq,hmm,List.append_assoc]
    rw [he]
    exact ⟨_,cap,rfl,ybf hown4,fun e=>by cases e⟩
   have Hfin:=zac hfin
   have Hlow4:=zac hlow4
   clear hr1 hown3 hg3 hlow3 hown4 hg4 hlow4 hfin hI hA3 hB3 hA4 hB4
   clear hroom hcapB hmm
   have hz:¬ (0:Int)<(a'.length:Int)∨((0:Int)<(a'.length:Int)∧¬ (0:Int)<(b'.length:Int)):=by
    rcases hab with rfl|rfl
    ·left;simp
    ·by_cases h:0<a'.length
     ·right;exact ⟨by omega,by simp⟩
     ·left;omega
   clear hab
   generalize (ms ++ a' ++ b').length=M2 at *
   generalize (ms ++ a').length=M1 at *
   generalize a'.length=La at *
   generalize b'.length=Lb at *
   generalize ms.length=M0 at *
   rcases hz with hz|⟨hz1',hz2'⟩
   ·gi_wp2
    refine bodyPost_ret (results_tmp rfl _ _ _) rfl ?_
    exact ⟨_,rfl,zaa Hfin,zaa Hlow4,rfl⟩
   ·gi_wp2
    refine bodyPost_ret (results_tmp rfl _ _ _) rfl ?_
    exact ⟨_,rfl,zaa Hfin,zaa Hlow4,rfl⟩
  ·have hne:a'≠[]∧b'≠[]:=⟨fun e=>hab (.inl e),fun e=>hab (.inr e)⟩
   clear hab
   obtain ⟨x,a1,rfl⟩:=List.exists_cons_of_ne_nil hne.1
   obtain ⟨y,b1,rfl⟩:=List.exists_cons_of_ne_nil hne.2
   clear hne
   obtain ⟨ba0,ao0,tva,rfl,hsa,hta,hla⟩:=zro.tail hA3
   obtain ⟨bb0,bo0,tvb,rfl,hsb,htb,hlb⟩:=zro.tail hB3
   have hxr:=(hA3.below hI.low)
   have hyr:=(hB3.below hI.low)
   obtain ⟨_,_,e1,_,hx1⟩:=id hxr
   injection e1 with e1a e1b e1c
   obtain ⟨b9,o9,e9,x0,x1,x2,x3,_⟩:=hx1 0 (by simp)
   have e9':=e1a.trans e9
   injection e9' with e9'
   injection e9' with e9a e9b
   subst e9a e9b
   obtain ⟨_,_,e2,_,hy1⟩:=id hyr
   injection e2 with e2a e2b e2c
   obtain ⟨b8,o8,e8,y0,y1,y2,y3,_⟩:=hy1 0 (by simp)
   have e8':=e2a.trans e8
   injection e8' with e8'
   injection e8' with e8a e8b
   subst e8a e8b
   simp only [List.getElem?_cons_zero,Option.getD_some,Nat.zero_mul,Nat.add_zero] at x0 x1 x2 x3 y0 y1 y2 y3
   obtain ⟨⟨xa,xb,xc⟩,xw⟩:=x
   obtain ⟨⟨ya,yb,yc⟩,yw⟩:=y
   dsimp only at x0 x1 x2 x3 y0 y1 y2 y3
   have hcmp:=yf8 ((xa,xb,xc),xw) ((ya,yb,yc),yw) wr.drew
   dsimp only at hcmp
   simp only [List.length_cons] at hroom
   have hPa:(0:Int)<(a1.length:Int)+1:=by omega
   have hPb:(0:Int)<(b1.length:Int)+1:=by omega
   have HRa:=zac hI.a
   have HRb:=zac hI.b
   have HI:=zac hI
   have Hcmp:=zac hcmp
   have Hsa:=zac hsa
   have Hsb:=zac hsb
   have Hta:=zac hta
   have Htb:=zac htb
   have Hla:=zac hla
   have Hlb:=zac hlb
   have Hroom:=zac hroom
   obtain ⟨cc,hcc⟩:∃ cc,cc=zi4 (xa,xb,xc) (ya,yb,yc):=⟨_,rfl⟩
   rw [← hcc] at hcmp
   have Hcmp:=zac hcmp
   have Hcc:=zac hcc
   clear hI hcmp hsa hsb hta htb hla hlb hroom hA3 hB3 hA4 hB4 hxr hyr hx1 hy1 e1a e2a e8 e9 hcc e1b e1c e2b e2c hcapB
   simp only [List.length_cons] at *
   gi_wp2_with fail
   refine zdu ?_
   refine wpIn_region_any (by kernel_rfl) ?_
   change wpAnyIn _ _ _ _ _ _ _ _ _ (World.drew _)
   refine wpAnyIn_take (i:=0) (v:=.slice (some ⟨ba0,ao0,none⟩) (a1.length+1) ac) rfl rfl (by kernel_rfl) (by kernel_rfl) (by kernel_rfl) (fun _ _ _ h=>h) ⟨Or.inl ⟨by rfl,(fun w'=>?_)⟩,fun _=>rfl⟩ ?_
   ·go_simp
   refine wpAnyIn_take (i:=1) (v:=.pointer (some ⟨ba0,ao0,none⟩)) rfl rfl (by kernel_rfl) (by kernel_rfl) (by kernel_rfl) (fun _ _ _ h=>h) ⟨Or.inl ⟨by rfl,(fun w'=>?_)⟩,fun _=>rfl⟩ ?_
   ·go_simp
   refine wpAnyIn_take (i:=3) (v:=.slice (some ⟨bb0,bo0,none⟩) (b1.length+1) bc) rfl rfl (by kernel_rfl) (by kernel_rfl) (by kernel_rfl) (fun _ _ _ h=>h) ⟨Or.inl ⟨by rfl,(fun w'=>?_)⟩,fun _=>rfl⟩ ?_
   ·go_simp
   refine wpAnyIn_take (i:=4) (v:=.pointer (some ⟨bb0,bo0,none⟩)) rfl rfl (by kernel_rfl) (by kernel_rfl) (by kernel_rfl) (fun _ _ _ h=>h) ⟨Or.inl ⟨by rfl,(fun w'=>?_)⟩,fun _=>rfl⟩ ?_
   ·go_simp
   refine zao (i:=2) (v:=.agg #[.int .i64 xa,.int .i64 xb,.int .i64 xc,.int .i64 xw]) [2,5] rfl rfl (by kernel_rfl) (by kernel_rfl) (by kernel_rfl) (fun _ _ _ h=>h) ⟨by rfl,(fun w' hw=>?_),(fun _=>rfl)⟩ ?_
   ·have q0:=hw.cell (show wr.drew.cell? ⟨ba0,ao0,none⟩=_ from x0)
    have q1:=hw.cell (show wr.drew.cell? ⟨ba0,ao0+1,none⟩=_ from x1)
    have q2:=hw.cell (show wr.drew.cell? ⟨ba0,ao0+2,none⟩=_ from x2)
    have q3:=hw.cell (show wr.drew.cell? ⟨ba0,ao0+3,none⟩=_ from x3)
    go_simp
   refine zao (i:=5) (v:=.agg #[.int .i64 ya,.int .i64 yb,.int .i64 yc,.int .i64 yw]) [5] rfl rfl (by kernel_rfl) (by kernel_rfl) (by kernel_rfl) (fun _ _ _ h=>h) ⟨by rfl,(fun w' hw=>?_),(fun _=>rfl)⟩ ?_
   ·have q0:=hw.cell (show wr.drew.cell? ⟨bb0,bo0,none⟩=_ from y0)
    have q1:=hw.cell (show wr.drew.cell? ⟨bb0,bo0+1,none⟩=_ from y1)
    have q2:=hw.cell (show wr.drew.cell? ⟨bb0,bo0+2,none⟩=_ from y2)
    have q3:=hw.cell (show wr.drew.cell? ⟨bb0,bo0+3,none⟩=_ from y3)
    go_simp
   refine wpAnyIn_ready (rs:=[6]) (by kernel_rfl) (by simp) ?_
   refine AllReadyIn.cons rfl (fun K hK=>?_) AllReadyIn.nil
   go_simp
   refine ⟨trivial,?_⟩
   refine (callsIn_wide.2 (zaa Hcmp)).mono ?_
   rintro e w2 ⟨rfl,hb2⟩
   dsimp only
   refine hK _ _ ?_
   clear hK K
   refine wpAnyIn_take (i:=7) (v:=.int .i64 cc) rfl rfl (by kernel_rfl) (by kernel_rfl) (by kernel_rfl) (fun _ _ _ h=>h) ⟨Or.inl ⟨by rfl,(fun w'=>?_)⟩,fun _=>rfl⟩ ?_
   ·go_simp
   refine wpAnyIn_done (by kernel_rfl) ?_ _
   dsimp only [zkb]
   have hbw2:Below wr.heap.size wr w2:=(zav _ _).trans hb2
   have hx2:∀ (B o:Nat) (v:Value),wr.cell? ⟨B,o,none⟩=some v→w2.cell? ⟨B,o,none⟩=some v:=fun B o v h=>(hbw2.cell (p:=⟨B,o,none⟩) (World.block_lt_of_cell? _ _ h)).trans h
   replace x0:=hx2 _ _ _ x0
   replace x1:=hx2 _ _ _ x1
   replace x2:=hx2 _ _ _ x2
   replace x3:=hx2 _ _ _ x3
   replace y0:=hx2 _ _ _ y0
   replace y1:=hx2 _ _ _ y1
   replace y2:=hx2 _ _ _ y2
   replace y3:=hx2 _ _ _ y3
   have hown2:w2.drew.ownsRow W.heap.size 221 4 (.slice (some ⟨W.heap.size,0,none⟩) ms.length cap) ms.length (zch ms):=zmg (zaa HI).own (hbw2.trans (zav _ _))
   have hlow2:Below W.heap.size W w2.drew:=(zaa HI).low.trans ((hbw2.mono (zaa HI).low.size).trans (zav _ _))
   have Hown2:=zac hown2
   have Hlow2:=zac hlow2
   clear hbw2 hx2 hb2 hown2 hlow2
   rcases Int.lt_trichotomy cc 0 with hc|hc|hc
   ·have hcl:=hc
    obtain ⟨w3,hap,hown3,hg3⟩:=yij (W:=W) ((xa,xb,xc),xw) (zaa Hown2) (by have:=zaa Hroom;omega)
    have Hown3:=zac hown3
    have Hlow3:=zac (zex (zaa Hlow2) hg3)
    have hs9:=zaa Hsa
    clear hown3 hg3
    replace hap:(zjy #[141,141] 141 #[.slice (some ⟨W.heap.size,0,none⟩) ms.length cap,.slice (some ⟨w2.heap.size,0,none⟩) 1 1]).run Tryz.prog (w2.alloc (.cells #[.int .i64 xa,.int .i64 xb,.int .i64 xc,.int .i64 xw] 221)).drew=.ok (.slice (some ⟨W.heap.size,0,none⟩) (ms.length+1) cap) w3:=hap
    gi_wp2_with fail
    refine zdu ?_
    refine wpIn_region_any (by kernel_rfl) ?_
    change wpAnyIn _ _ _ _ _ _ _ _ _ (World.drew _)
    refine wpAnyIn_take (i:=0) (v:=.slice (some ⟨W.heap.size,0,none⟩) ms.length cap) rfl rfl (by kernel_rfl) (by kernel_rfl) (by kernel_rfl) (fun _ _ _ h=>h) ⟨Or.inl ⟨by rfl,(fun w'=>?_)⟩,fun _=>rfl⟩ ?_
    ·go_simp
    refine wpAnyIn_take (i:=1) (v:=.slice (some ⟨ba0,ao0,none⟩) (a1.length+1) ac) rfl rfl (by kernel_rfl) (by kernel_rfl) (by kernel_rfl) (fun _ _ _ h=>h) ⟨Or.inl ⟨by rfl,(fun w'=>?_)⟩,fun _=>rfl⟩ ?_
    ·go_simp
    refine wpAnyIn_take (i:=2) (v:=.pointer (some ⟨ba0,ao0,none⟩)) rfl rfl (by kernel_rfl) (by kernel_rfl) (by kernel_rfl) (fun _ _ _ h=>h) ⟨Or.inl ⟨by rfl,(fun w'=>?_)⟩,fun _=>rfl⟩ ?_
    ·go_simp
    refine wpAnyIn_take (i:=6) (v:=.slice (some ⟨ba0,ao0,none⟩) (a1.length+1) ac) rfl rfl (by kernel_rfl) (by kernel_rfl) (by kernel_rfl) (fun _ _ _ h=>h) ⟨Or.inl ⟨by rfl,(fun w'=>?_)⟩,fun _=>rfl⟩ ?_
    ·go_simp
    refine wpAnyIn_take (i:=7) (v:=tva) rfl rfl (by kernel_rfl) (by kernel_rfl) (by kernel_rfl) (fun _ _ _ h=>h) ⟨Or.inl ⟨by rfl,(fun w'=>?_)⟩,fun _=>rfl⟩ ?_
    ·have q:=hs9 w'
     go_simp
    refine zao (i:=3) (v:=.agg #[.int .i64 xa,.int .i64 xb,.int .i64 xc,.int .i64 xw]) [3] rfl rfl (by kernel_rfl) (by kernel_rfl) (by kernel_rfl) (fun _ _ _ h=>h) ⟨by rfl,(fun w' hw=>?_),(fun _=>rfl)⟩ ?_
    ·have q0:=hw.cell (show w2.drew.cell? ⟨ba0,ao0,none⟩=_ from x0)
     have q1:=hw.cell (show w2.drew.cell? ⟨ba0,ao0+1,none⟩=_ from x1)
     have q2:=hw.cell (show w2.drew.cell? ⟨ba0,ao0+2,none⟩=_ from x2)
     have q3:=hw.cell (show w2.drew.cell? ⟨ba0,ao0+3,none⟩=_ from x3)
     go_simp
    refine wpAnyIn_ready (rs:=[4]) (by kernel_rfl) (by simp) ?_
    refine AllReadyIn.cons rfl (fun K hK=>?_) AllReadyIn.nil
    go_simp
    refine hK _ _ ?_
    clear hK K
    refine wpAnyIn_ready (rs:=[5]) (by kernel_rfl) (by simp) ?_
    refine AllReadyIn.cons rfl (fun K hK=>?_) AllReadyIn.nil
    go_simp
    refine hK _ _ ?_
    clear hK K
    refine wpAnyIn_take (i:=8) (v:=.slice (some ⟨W.heap.size,0,none⟩) (ms.length+1) cap) rfl rfl (by kernel_rfl) (by kernel_rfl) (by kernel_rfl) (fun _ _ _ h=>h) ⟨Or.inl ⟨by rfl,(fun w'=>?_)⟩,fun _=>rfl⟩ ?_
    ·go_simp
    refine wpAnyIn_take (i:=9) (v:=tva) rfl rfl (by kernel_rfl) (by kernel_rfl) (by kernel_rfl) (fun _ _ _ h=>h) ⟨Or.inl ⟨by rfl,(fun w'=>?_)⟩,fun _=>rfl⟩ ?_
    ·go_simp
    refine wpAnyIn_done (by kernel_rfl) ?_ _
    dsimp only [zkb]
    have Hrel:Hid (yjt W al bl cap tva (.slice (some ⟨bb0,bo0,none⟩) (b1.length+1) bc) (.slice (some ⟨W.heap.size,0,none⟩) (ms.length+1) cap) a1 (((ya,yb,yc),yw) :: b1) (ms ++ [((xa,xb,xc),xw)]) w3):=by
     refine ⟨zaa Hta,zaa HRb,by first|rfl|simp,zaa Hown3,?_,by have:=zaa Hroom;first|omega|(simp only [List.length_append,List.length_cons,List.length_nil];omega),zaa Hlow3⟩
     rw [(zaa HI).eq,mgC]
     rw [if_pos (by rw [← zaa Hcc];exact hc)]
     simp
    gi_wp2
    refine ⟨?_,?_⟩
    ·(repeat apply Exists.intro)
     exact ⟨⟨a1,(((ya,yb,yc),yw) :: b1),(ms ++ [((xa,xb,xc),xw)]),zaa Hrel⟩,rfl⟩
    ·have h1:=zaa Hla
     have h2:=zaa Hlb
     show zxc tva+zxc (.slice (some ⟨bb0,bo0,none⟩) (b1.length+1) bc)<(a1.length+1)+(b1.length+1)
     simp only [zxc] at h1 h2 ⊢
     omega
   ·subst hc
    gi_wp2_with fail
    refine zdu ?_
    refine wpIn_region_any (by kernel_rfl) ?_
    change wpAnyIn _ _ _ _ _ _ _ _ _ (World.drew _)
    refine wpAnyIn_take (i:=0) (v:=.slice (some ⟨ba0,ao0,none⟩) (a1.length+1) ac) rfl rfl (by kernel_rfl) (by kernel_rfl) (by kernel_rfl) (fun _ _ _ h=>h) ⟨Or.inl ⟨by rfl,(fun w'=>?_)⟩,fun _=>rfl⟩ ?_
    ·go_simp
    refine wpAnyIn_take (i:=1) (v:=.pointer (some ⟨ba0,ao0,none⟩)) rfl rfl (by kernel_rfl) (by kernel_rfl) (by kernel_rfl) (fun _ _ _ h=>h) ⟨Or.inl ⟨by rfl,(fun w'=>?_)⟩,fun _=>rfl⟩ ?_
    ·go_simp
    refine wpAnyIn_take (i:=2) (v:=.pointer (some ⟨ba0,ao0+3,none⟩)) rfl rfl (by kernel_rfl) (by kernel_rfl) (by kernel_rfl) (fun _ _ _ h=>h) ⟨Or.inl ⟨by rfl,(fun w'=>?_)⟩,fun _=>rfl⟩ ?_
    ·go_simp
    refine wpAnyIn_take (i:=4) (v:=.slice (some ⟨bb0,bo0,none⟩) (b1.length+1) bc) rfl rfl (by kernel_rfl) (by kernel_rfl) (by kernel_rfl) (fun _ _ _ h=>h) ⟨Or.inl ⟨by rfl,(fun w'=>?_)⟩,fun _=>rfl⟩ ?_
    ·go_simp
    refine wpAnyIn_take (i:=5) (v:=.pointer (some ⟨bb0,bo0,none⟩)) rfl rfl (by kernel_rfl) (by kernel_rfl) (by kernel_rfl) (fun _ _ _ h=>h) ⟨Or.inl ⟨by rfl,(fun w'=>?_)⟩,fun _=>rfl⟩ ?_
    ·go_simp
    refine wpAnyIn_take (i:=6) (v:=.pointer (some ⟨bb0,bo0+3,none⟩)) rfl rfl (by kernel_rfl) (by kernel_rfl) (by kernel_rfl) (fun _ _ _ h=>h) ⟨Or.inl ⟨by rfl,(fun w'=>?_)⟩,fun _=>rfl⟩ ?_
    ·go_simp
    refine zao (i:=3) (v:=.int .i64 xw) [3,7] rfl rfl (by kernel_rfl) (by kernel_rfl) (by kernel_rfl) (fun _ _ _ h=>h) ⟨by rfl,(fun w' hw=>?_),(fun _=>rfl)⟩ ?_
    ·have q0:=hw.cell (show w2.drew.cell? ⟨ba0,ao0+3,none⟩=_ from x3)
     go_simp
    refine zao (i:=7) (v:=.int .i64 yw) [7] rfl rfl (by kernel_rfl) (by kernel_rfl) (by kernel_rfl) (fun _ _ _ h=>h) ⟨by rfl,(fun w' hw=>?_),(fun _=>rfl)⟩ ?_
    ·have q0:=hw.cell (show w2.drew.cell? ⟨bb0,bo0+3,none⟩=_ from y3)
     go_simp
    refine wpAnyIn_take (i:=8) (v:=.int .i64 (wrap64 (xw+yw))) rfl rfl (by kernel_rfl) (by kernel_rfl) (by kernel_rfl) (fun _ _ _ h=>h) ⟨Or.inl ⟨by rfl,(fun w'=>?_)⟩,fun _=>rfl⟩ ?_
    ·go_simp
     exact IntWalk.i64_left _
    refine wpAnyIn_take (i:=9) (v:=.int .i64 (wrap64 (xw+yw))) rfl rfl (by kernel_rfl) (by kernel_rfl) (by kernel_rfl) (fun _ _ _ h=>h) ⟨Or.inl ⟨by rfl,(fun w'=>?_)⟩,fun _=>rfl⟩ ?_
    ·go_simp
    refine wpAnyIn_done (by kernel_rfl) ?_ _
    dsimp only [zkb]
    have hs9:=zaa Hsa
    have hs8:=zaa Hsb
    by_cases hz:wrap64 (xw+yw)=0
    ·have hzb:(wrap64 (xw+yw) == 0)=true:=by simp [hz]
     gi_wp2_with fail
     refine zdu ?_
     refine wpIn_region_any (by kernel_rfl) ?_
     change wpAnyIn _ _ _ _ _ _ _ _ _ (World.drew _)
     refine wpAnyIn_take (i:=0) (v:=.slice (some ⟨ba0,ao0,none⟩) (a1.length+1) ac) rfl rfl (by kernel_rfl) (by kernel_rfl) (by kernel_rfl) (fun _ _ _ h=>h) ⟨Or.inl ⟨by rfl,(fun w'=>?_)⟩,fun _=>rfl⟩ ?_
     ·go_simp
     refine wpAnyIn_take (i:=1) (v:=tva) rfl rfl (by kernel_rfl) (by kernel_rfl) (by kernel_rfl) (fun _ _ _ h=>h) ⟨Or.inl ⟨by rfl,(fun w'=>?_)⟩,fun _=>rfl⟩ ?_
     ·have q:=hs9 w'
      go_simp
     refine wpAnyIn_take (i:=2) (v:=.slice (some ⟨bb0,bo0,none⟩) (b1.length+1) bc) rfl rfl (by kernel_rfl) (by kernel_rfl) (by kernel_rfl) (fun _ _ _ h=>h) ⟨Or.inl ⟨by rfl,(fun w'=>?_)⟩,fun _=>rfl⟩ ?_
     ·go_simp
     refine wpAnyIn_take (i:=3) (v:=tvb) rfl rfl (by kernel_rfl) (by kernel_rfl) (by kernel_rfl) (fun _ _ _ h=>h) ⟨Or.inl ⟨by rfl,(fun w'=>?_)⟩,fun _=>rfl⟩ ?_
     ·have q:=hs8 w'
      go_simp
     refine wpAnyIn_take (i:=4) (v:=tva) rfl rfl (by kernel_rfl) (by kernel_rfl) (by kernel_rfl) (fun _ _ _ h=>h) ⟨Or.inl ⟨by rfl,(fun w'=>?_)⟩,fun _=>rfl⟩ ?_
     ·go_simp
     refine wpAnyIn_take (i:=5) (v:=tvb) rfl rfl (by kernel_rfl) (by kernel_rfl) (by kernel_rfl) (fun _ _ _ h=>h) ⟨Or.inl ⟨by rfl,(fun w'=>?_)⟩,fun _=>rfl⟩ ?_
     ·go_simp
     refine wpAnyIn_done (by kernel_rfl) ?_ _
     dsimp only [zkb]
     have Hrel:Hid (yjt W al bl cap tva tvb (.slice (some ⟨W.heap.size,0,none⟩) ms.length cap) a1 b1 ms w2.drew.drew):=by
      refine ⟨zaa Hta,zaa Htb,by first|rfl|simp,zmg (zaa Hown2) (zav _ _),?_,by have:=zaa Hroom;first|omega|(simp only [List.length_append,List.length_cons,List.length_nil];omega),(zaa Hlow2).trans (zav _ _)⟩
      rw [(zaa HI).eq,mgC]
      rw [if_neg (by rw [← zaa Hcc];omega),if_neg (by rw [← zaa Hcc];omega)]
      rw [if_pos hz]
     gi_wp2
     refine ⟨?_,?_⟩
     ·(repeat apply Exists.intro)
      exact ⟨⟨a1,b1,ms,zaa Hrel⟩,rfl⟩
     ·have h1:=zaa Hla
      have h2:=zaa Hlb
      show zxc tva+zxc tvb<(a1.length+1)+(b1.length+1)
      simp only [zxc] at h1 h2 ⊢
      omega
    ·have hzb:(wrap64 (xw+yw) == 0)=false:=by simp [hz]
     obtain ⟨w3,hap,hown3,hg3⟩:=yij (W:=W) ((xa,xb,xc),wrap64 (xw+yw)) (zaa Hown2) (by have:=zaa Hroom;omega)
     have Hown3:=zac hown3
     have Hlow3:=zac (zex (zaa Hlow2) hg3)
     clear hown3 hg3
     generalize hsw:wrap64 (xw+yw)=sw at *
     replace hap:(zjy #[141,141] 141 #[.slice (some ⟨W.heap.size,0,none⟩) ms.length cap,.slice (some ⟨w2.heap.size,0,none⟩) 1 1]).run Tryz.prog (w2.alloc (.cells #[.int .i64 xa,.int .i64 xb,.int .i64 xc,.int .i64 sw] 221)).drew=.ok (.slice (some ⟨W.heap.size,0,none⟩) (ms.length+1) cap) w3:=hap
     have Hsw:=zac hsw
     clear hsw
     gi_wp2_with fail
     refine zdu ?_
     refine wpIn_region_any (by kernel_rfl) ?_
     change wpAnyIn _ _ _ _ _ _ _ _ _ (World.drew _)
     refine wpAnyIn_take (i:=0) (v:=.slice (some ⟨ba0,ao0,none⟩) (a1.length+1) ac) rfl rfl (by kernel_rfl) (by kernel_rfl) (by kernel_rfl) (fun _ _ _ h=>h) ⟨Or.inl ⟨by rfl,(fun w'=>?_)⟩,fun _=>rfl⟩ ?_
     ·go_simp
     refine wpAnyIn_take (i:=1) (v:=tva) rfl rfl (by kernel_rfl) (by kernel_rfl) (by kernel_rfl) (fun _ _ _ h=>h) ⟨Or.inl ⟨by rfl,(fun w'=>?_)⟩,fun _=>rfl⟩ ?_
     ·have q:=hs9 w'
      go_simp
     refine wpAnyIn_take (i:=2) (v:=.slice (some ⟨bb0,bo0,none⟩) (b1.length+1) bc) rfl rfl (by kernel_rfl) (by kernel_rfl) (by kernel_rfl) (fun _ _ _ h=>h) ⟨Or.inl ⟨by rfl,(fun w'=>?_)⟩,fun _=>rfl⟩ ?_
     ·go_simp
     refine wpAnyIn_take (i:=3) (v:=tvb) rfl rfl (by kernel_rfl) (by kernel_rfl) (by kernel_rfl) (fun _ _ _ h=>h) ⟨Or.inl ⟨by rfl,(fun w'=>?_)⟩,fun _=>rfl⟩ ?_
     ·have q:=hs8 w'
      go_simp
     refine wpAnyIn_take (i:=4) (v:=tva) rfl rfl (by kernel_rfl) (by kernel_rfl) (by kernel_rfl) (fun _ _ _ h=>h) ⟨Or.inl ⟨by rfl,(fun w'=>?_)⟩,fun _=>rfl⟩ ?_
     ·go_simp
     refine wpAnyIn_take (i:=5) (v:=tvb) rfl rfl (by kernel_rfl) (by kernel_rfl) (by kernel_rfl) (fun _ _ _ h=>h) ⟨Or.inl ⟨by rfl,(fun w'=>?_)⟩,fun _=>rfl⟩ ?_
     ·go_simp
     refine wpAnyIn_done (by kernel_rfl) ?_ _
     dsimp only [zkb]
     have Hrel:Hid (yjt W al bl cap tva tvb (.slice (some ⟨W.heap.size,0,none⟩) (ms.length+1) cap) a1 b1 (ms ++ [((xa,xb,xc),sw)]) w3.drew):=by
      refine ⟨zaa Hta,zaa Htb,by first|rfl|simp,zmg (zaa Hown3) (zav _ _),?_,by have:=zaa Hroom;first|omega|(simp only [List.length_append,List.length_cons,List.length_nil];omega),(zaa Hlow3).trans (zav _ _)⟩
      rw [(zaa HI).eq,mgC]
      rw [if_neg (by rw [← zaa Hcc];omega),if_neg (by rw [← zaa Hcc];omega)]
      rw [zaa Hsw,if_neg hz]
      simp
     gi_wp2
     refine ⟨?_,?_⟩
     ·(repeat apply Exists.intro)
      exact ⟨⟨a1,b1,(ms ++ [((xa,xb,xc),sw)]),zaa Hrel⟩,rfl⟩
     ·have h1:=zaa Hla
      have h2:=zaa Hlb
      show zxc tva+zxc tvb<(a1.length+1)+(b1.length+1)
      simp only [zxc] at h1 h2 ⊢
      omega
   ·have hcl:=hc
    have hcn:¬ cc<0:=by omega
    obtain ⟨w3,hap,hown3,hg3⟩:=yij (W:=W) ((ya,yb,yc),yw) (zaa Hown2) (by have:=zaa Hroom;omega)
    have Hown3:=zac hown3
    have Hlow3:=zac (zex (zaa Hlow2) hg3)
    have hs9:=zaa Hsb
    clear hown3 hg3
    replace hap:(zjy #[141,141] 141 #[.slice (some ⟨W.heap.size,0,none⟩) ms.length cap,.slice (some ⟨w2.heap.size,0,none⟩) 1 1]).run Tryz.prog (w2.alloc (.cells #[.int .i64 ya,.int .i64 yb,.int .i64 yc,.int .i64 yw] 221)).drew=.ok (.slice (some ⟨W.heap.size,0,none⟩) (ms.length+1) cap) w3:=hap
    gi_wp2_with fail
    refine zdu ?_
    refine wpIn_region_any (by kernel_rfl) ?_
    change wpAnyIn _ _ _ _ _ _ _ _ _ (World.drew _)
    refine wpAnyIn_take (i:=0) (v:=.slice (some ⟨W.heap.size,0,none⟩) ms.length cap) rfl rfl (by kernel_rfl) (by kernel_rfl) (by kernel_rfl) (fun _ _ _ h=>h) ⟨Or.inl ⟨by rfl,(fun w'=>?_)⟩,fun _=>rfl⟩ ?_
    ·go_simp
    refine wpAnyIn_take (i:=1) (v:=.slice (some ⟨bb0,bo0,none⟩) (b1.length+1) bc) rfl rfl (by kernel_rfl) (by kernel_rfl) (by kernel_rfl) (fun _ _ _ h=>h) ⟨Or.inl ⟨by rfl,(fun w'=>?_)⟩,fun _=>rfl⟩ ?_
    ·go_simp
    refine wpAnyIn_take (i:=2) (v:=.pointer (some ⟨bb0,bo0,none⟩)) rfl rfl (by kernel_rfl) (by kernel_rfl) (by kernel_rfl) (fun _ _ _ h=>h) ⟨Or.inl ⟨by rfl,(fun w'=>?_)⟩,fun _=>rfl⟩ ?_
    ·go_simp
    refine wpAnyIn_take (i:=6) (v:=.slice (some ⟨bb0,bo0,none⟩) (b1.length+1) bc) rfl rfl (by kernel_rfl) (by kernel_rfl) (by kernel_rfl) (fun _ _ _ h=>h) ⟨Or.inl ⟨by rfl,(fun w'=>?_)⟩,fun _=>rfl⟩ ?_
    ·go_simp
    refine wpAnyIn_take (i:=7) (v:=tvb) rfl rfl (by kernel_rfl) (by kernel_rfl) (by kernel_rfl) (fun _ _ _ h=>h) ⟨Or.inl ⟨by rfl,(fun w'=>?_)⟩,fun _=>rfl⟩ ?_
    ·have q:=hs9 w'
     go_simp
    refine zao (i:=3) (v:=.agg #[.int .i64 ya,.int .i64 yb,.int .i64 yc,.int .i64 yw]) [3] rfl rfl (by kernel_rfl) (by kernel_rfl) (by kernel_rfl) (fun _ _ _ h=>h) ⟨by rfl,(fun w' hw=>?_),(fun _=>rfl)⟩ ?_
    ·have q0:=hw.cell (show w2.drew.cell? ⟨bb0,bo0,none⟩=_ from y0)
     have q1:=hw.cell (show w2.drew.cell? ⟨bb0,bo0+1,none⟩=_ from y1)
     have q2:=hw.cell (show w2.drew.cell? ⟨bb0,bo0+2,none⟩=_ from y2)
     have q3:=hw.cell (show w2.drew.cell? ⟨bb0,bo0+3,none⟩=_ from y3)
     go_simp
    refine wpAnyIn_ready (rs:=[4]) (by kernel_rfl) (by simp) ?_
    refine AllReadyIn.cons rfl (fun K hK=>?_) AllReadyIn.nil
    go_simp
    refine hK _ _ ?_
    clear hK K
    refine wpAnyIn_ready (rs:=[5]) (by kernel_rfl) (by simp) ?_
    refine AllReadyIn.cons rfl (fun K hK=>?_) AllReadyIn.nil
    go_simp
    refine hK _ _ ?_
    clear hK K
    refine wpAnyIn_take (i:=8) (v:=.slice (some ⟨W.heap.size,0,none⟩) (ms.length+1) cap) rfl rfl (by kernel_rfl) (by kernel_rfl) (by kernel_rfl) (fun _ _ _ h=>h) ⟨Or.inl ⟨by rfl,(fun w'=>?_)⟩,fun _=>rfl⟩ ?_
    ·go_simp
    refine wpAnyIn_take (i:=9) (v:=tvb) rfl rfl (by kernel_rfl) (by kernel_rfl) (by kernel_rfl) (fun _ _ _ h=>h) ⟨Or.inl ⟨by rfl,(fun w'=>?_)⟩,fun _=>rfl⟩ ?_
    ·go_simp
    refine wpAnyIn_done (by kernel_rfl) ?_ _
    dsimp only [zkb]
    have Hrel:Hid (yjt W al bl cap (.slice (some ⟨ba0,ao0,none⟩) (a1.length+1) ac) tvb (.slice (some ⟨W.heap.size,0,none⟩) (ms.length+1) cap) (((xa,xb,xc),xw) :: a1) b1 (ms ++ [((ya,yb,yc),yw)]) w3):=by
     refine ⟨zaa HRa,zaa Htb,by first|rfl|simp,zaa Hown3,?_,by have:=zaa Hroom;first|omega|(simp only [List.length_append,List.length_cons,List.length_nil];omega),zaa Hlow3⟩
     rw [(zaa HI).eq,mgC]
     rw [if_neg (by rw [← zaa Hcc];omega),if_pos (by rw [← zaa Hcc];exact hc)]
     simp
    gi_wp2
    refine ⟨?_,?_⟩
    ·(repeat apply Exists.intro)
     exact ⟨⟨(((xa,xb,xc),xw) :: a1),b1,(ms ++ [((ya,yb,yc),yw)]),zaa Hrel⟩,rfl⟩
    ·have h1:=zaa Hla
     have h2:=zaa Hlb
     show zxc (.slice (some ⟨ba0,ao0,none⟩) (a1.length+1) ac)+zxc tvb<(a1.length+1)+(b1.length+1)
     simp only [zxc] at h1 h2 ⊢
     omega
end
end Go.Proofs.YtoifcnidhfnapaaGreatDoor
namespace Go.Proofs.YtoifcnidhfnapaaGreatDoor
def zhy (L:Nat→List zaj) (n:Nat) (φ:(Nat→Row)→B64):B64:=zlj zcy L n fun g=>φ (fun i=>(g i).1)*zg5 (fun i=>wtB (g i)) n
def Eqv (L L':List zaj):Prop:=∀ ψ:Row→B64,zbz L (fun e=>ψ e.1*wtB e)=zbz L' (fun e=>ψ e.1*wtB e)
theorem Eqv.refl (L:List zaj):Eqv L L:=fun _=>rfl
theorem Eqv.trans {L L' L'':List zaj} (h:Eqv L L') (k:Eqv L' L''):Eqv L L'':=fun ψ=>(h ψ).trans (k ψ)
theorem Eqv.append {A A' B B':List zaj} (h:Eqv A A') (k:Eqv B B'):Eqv (A ++ B) (A' ++ B'):=fun ψ=>by rw [zbf,zbf,h ψ,k ψ]
theorem yht (g:Nat→zaj) (n:Nat) (e:zaj):(fun i=>(zhn g n e i).1)=zhn (fun i=>(g i).1) n e.1:=by
 funext i
 unfold zhn
 split <;> rfl
theorem zei (L:Nat→List zaj) (n:Nat) (φ:(Nat→Row)→B64):zhy L (n+1) φ=zbz (L n) fun e=>zhy L n (fun r=>φ (zhn r n e.1))*wtB e:=by
 show zbz (L n) (fun e=>zlj zcy L n (fun g=>φ (fun i=>(zhn g n e i).1)*zg5 (fun i=>wtB (zhn g n e i)) (n+1)))=_
 refine zax fun e _=>?_
 unfold zhy
 rw [← zs8]
 refine zdc _ _ _ _ _ fun g _=>?_
 rw [ztt,yht,BitVec.mul_assoc]
theorem znq:∀ (n:Nat) {L L':Nat→List zaj} (φ:(Nat→Row)→B64),(∀ i,i<n→Eqv (L i) (L' i))→zhy L n φ=zhy L' n φ
 | 0,L,L',φ,_=>rfl
 | n+1,L,L',φ,h=>by
  rw [zei,zei,h n (by omega) fun r=>zhy L n (fun q=>φ (zhn q n r))]
  exact zax fun e _=>by rw [znq n _ fun i hi=>h i (by omega)]
theorem zf4 (n:Nat) {L L':Nat→List zaj} (φ:(Nat→Row)→B64) (h:∀ i,i<n→L i=L' i):zhy L n φ=zhy L' n φ:=
 znq n φ fun i hi=>by rw [h i hi];exact Eqv.refl _
theorem zy1 {i:Nat} (A B:List zaj):∀ (n:Nat) (L:Nat→List zaj) (φ:(Nat→Row)→B64),i<n→zhy (zhn L i (A ++ B)) n φ=zhy (zhn L i A) n φ+zhy (zhn L i B) n φ
 | 0,_,_,h=>absurd h (Nat.not_lt_zero _)
 | n+1,L,φ,h=>by
  rw [zei,zei,zei]
  by_cases e:i=n
  ·subst e
   have hs:∀ C,zhn L i C i=C:=fun C=>by simp [zhn]
   have hl:∀ C (ψ:(Nat→Row)→B64),zhy (zhn L i C) i ψ=zhy L i ψ:=fun C ψ=>zf4 i ψ fun k hk=>by simp [zhn,Nat.ne_of_lt hk]
   simp only [hs,hl,zbf]
  ·have hs:∀ C,zhn L i C n=L n:=fun C=>if_neg fun e':n=i=>e e'.symm
   simp only [hs]
   rw [← znk]
   refine zax fun x _=>?_
   rw [zy1 A B n L _ (by omega)]
   grind
def zlu (N B O:Nat→List zaj) (k:Nat):Nat→List zaj:=fun i=>if i<k then N i else if i=k then B i else O i
def ydu (N O:Nat→List zaj) (k:Nat):Nat→List zaj:=fun i=>if i<k then N i else O i
theorem ydk (N B O:Nat→List zaj) (n:Nat) (φ:(Nat→Row)→B64) (h:∀ i,i<n→Eqv (N i) (O i ++ B i)):zhy N n φ=zhy O n φ+zbz (List.range n) fun k=>zhy (zlu N B O k) n φ:=by
 have key:∀ k,k≤n→zhy (ydu N O k) n φ=zhy O n φ+zbz (List.range k) fun k=>zhy (zlu N B O k) n φ:=by
  intro k
  induction k with
  | zero=>intro _;rw [zf4 (L':=O) n φ fun i _=>by simp [ydu]];simp [zbz]
  | succ k ih =>
   intro hk
   rw [List.range_succ,zbf,← BitVec.add_assoc,← ih (by omega)]
   have e1:zhy (ydu N O (k+1)) n φ=zhy (zhn (ydu N O k) k (O k ++ B k)) n φ:=by
    refine znq n φ fun i hi=>?_
    unfold zhn ydu
    by_cases e:i=k
    ·subst e;simp only [Nat.lt_succ_self,if_true];exact h i hi
    ·rw [if_neg e]
     by_cases e2:i<k
     ·rw [if_pos (by omega),if_pos e2];exact Eqv.refl _
     ·rw [if_neg (by omega),if_neg e2];exact Eqv.refl _
   have e2:zhy (zhn (ydu N O k) k (O k)) n φ=zhy (ydu N O k) n φ:=zf4 n φ fun i _=>by
    unfold zhn ydu
    by_cases e:i=k
    ·subst e;simp
    ·simp [e]
   have e3:zhy (zhn (ydu N O k) k (B k)) n φ=zhy (zlu N B O k) n φ:=zf4 n φ fun i _=>by
    unfold zhn ydu zlu
    by_cases e:i=k
    ·subst e;simp
    ·simp [e]
   rw [e1,zy1 _ _ n _ φ (by omega),e2,e3]
   simp [zbz]
 rw [← key n (Nat.le_refl _)]
 exact zf4 n φ fun i hi=>by simp [ydu,hi]
theorem zos:∀ (sts:List Stp) (cs:Nat→Nat) (row:H4) (g g':Nat→zaj),(∀ i,(g i).1=(g' i).1)→zeu sts cs row g=zeu sts cs row g'
 | [],_,_,_,_,_=>rfl
 | st :: sts,cs,row,g,g',h=>by
  have hz:zOf st.us cs g=zOf st.us cs g':=by
   unfold zOf
   split
   ·rfl
   ·rw [h]
  have hu:∀ z,zc7 st.us cs g z=zc7 st.us cs g' z:=by
   intro z
   unfold zc7 zeg
   simp only [h]
  simp only [zeu]
  rw [hz,hu,zos sts _ _ g g' h]
def zg4 (r:Nat→Row):Nat→zaj:=fun i=>(r i,0)
def zwu (sts:List Stp) (cs:Nat→Nat) (row h:H4) (r:Nat→Row):B64:=if zeu sts cs row (zg4 r)=some h then 1#64 else 0#64
theorem ye6 (na:Nat) (sts:List Stp) (S:Nat→Src) (row h:H4):zs9 na sts S row h=zhy (zcn S) na (zwu sts (fun i=>(S i).c) row h):=by
 unfold zs9 zhy
 refine zdc _ _ _ _ _ fun g _=>?_
 unfold zwu
 rw [zos sts _ row g (zg4 fun i=>(g i).1) fun i=>rfl]
 split
 ·simp
 ·simp
end Go.Proofs.YtoifcnidhfnapaaGreatDoor
