import Derived.Test.YtoifcnidhfnapabGreatDoorB17
import Derived.Test.YtoifcnidhfnapabGreatDoorB13
set_option linter.unusedVariables false
set_option linter.unusedSimpArgs false
set_option maxRecDepth 100000
set_option maxHeartbeats 16000000
namespace Go.Proofs.YtoifcnidhfnapabGreatDoor
open Go.RowKit Go.Maps Go.Sort Go.Shelf
def zxc:Value→Nat
 | .slice _ n _=>n
 | _=>0
def ztz (W:World) (v:Value) (es:List zai):Prop:=∃ a cap,v=.slice a es.length cap∧zb1 W v es∧(a=none→cap=0)
structure ykq (W:World) (al bl:List zai) (cap:Nat) (av bv mv:Value) (a' b' ms:List zai) (wr:World):Prop where
 a:ztz W av a'
 b:ztz W bv b'
 m:mv=.slice (some ⟨W.heap.size,0,none⟩) ms.length cap
 own:wr.ownsRow W.heap.size 259 4 (.slice (some ⟨W.heap.size,0,none⟩) ms.length cap) ms.length (zce ms)
 eq:zci al bl=ms ++ zci a' b'
 room:ms.length+(a'.length+b'.length)≤cap
 low:Below W.heap.size W wr
theorem ztz.tail {W:World} {a:Option Addr} {cap:Nat} {x:zai} {al:List zai} (h:zb1 W (.slice a (x :: al).length cap) (x :: al)):∃ b o tv,a=some ⟨b,o,none⟩∧(∀ q,(Instr.sliceAt 197 (.slice a (al.length+1) cap) (some (.int .i64 1)) none none).run Tryz.prog q=.ok tv q)∧ztz W tv al∧zxc tv=al.length:=by
 obtain ⟨b,o,ad,cap',ha,hs,hr⟩:=yh2 h
 exact ⟨b,o,_,ha,hs,⟨some ad,cap',rfl,hr,fun e=>by cases e⟩,rfl⟩
theorem zmm {w w':World} {base n:Nat} {v:Value} {xs:List Value} (h:w.ownsRow base 259 4 v n xs) (hb:Below w.heap.size w w'):w'.ownsRow base 259 4 v n xs:=by
 obtain ⟨a,cap,rfl⟩:∃ a cap,v=.slice a n cap:=by
  rcases h.2 with ⟨rfl,rfl⟩|⟨g,cap,cur,rfl,_⟩
  ·exact ⟨none,0,rfl⟩
  ·exact ⟨_,cap,rfl⟩
 exact h.kept (row:=none) ⟨hb.os,hb.tape,hb.output,hb.size,fun k hk _=>hb.block k hk⟩ (by cases a with|none=>exact .inl rfl|some x=>exact .inr (by simp [Value.ownBlock]))
theorem zes {W w w3:World} {o:Obj} (hb:Below W.heap.size W w) (hg:(w.alloc o).grownBy w3 (some W.heap.size)):Below W.heap.size W w3:=
 (hb.alloc hb.size o).grown hg (Nat.le_trans hb.size (by simp)) (fun k e=>by cases e;exact Nat.le_refl _)
section
attribute [local go_sem] Oper.semAt_some
attribute [local go_sem ↓] zgw
theorem yea (av bv:Value) (al bl:List zai) (W:World) (hA:ztz W av al) (hB:ztz W bv bl) (hl:al.length+bl.length≤1000000000) :
  Calls Tryz.prog 102 #[av,bv] W fun e w'=>∃ mv,e=.returned mv∧ztz w' mv (zci al bl)∧Below W.heap.size W w'∧mv.ownBlock=some W.heap.size:=by
 obtain ⟨aa,acap,rfl,hA1,hA2⟩:=hA
 obtain ⟨ba,bcap,rfl,hB1,hB2⟩:=hB
 obtain ⟨i62,hi,hz0,hz1,hz2⟩:=info_parts Tryz.info259
 have HA:Hid (ztz W (.slice aa al.length acap) al):=⟨aa,acap,rfl,hA1,hA2⟩
 have HB:Hid (ztz W (.slice ba bl.length bcap) bl):=⟨ba,bcap,rfl,hB1,hB2⟩
 clear hA1 hA2 hB1 hB2
 refine (callsIn_wide (n:=9)).1 (callsIn_of_wp Tryz.func102 rfl trivial ?_ rfl)
 simp only [Tryz.ntmps102,List.size_toArray,List.length_cons,List.length_nil,Nat.reduceAdd,Nat.reduceSub,Array.replicate_succ,Array.replicate_zero,List.push_toArray,List.append_toArray,List.nil_append,List.cons_append]
 gi_wp2_with (first
  | (gi_at_make;refine wpListIn_make_own _ rfl _ _ _ rfl W.heap.size 259 i62 _ 4 Tryz.underlying197 hi hz0 hz1 _ _ _ (al.length+bl.length) rfl rfl (by simp) (by rw [hz2];omega) (by unfold maxLen;omega) (by simp) ?_;intro w1 hrow1 hg1))
 obtain ⟨cap,hcap⟩:∃ cap,cap=al.length+bl.length:=⟨_,rfl⟩
 rw [← hcap] at hrow1 ⊢
 have hI0:ykq W al bl cap (.slice aa al.length acap) (.slice ba bl.length bcap) (.slice (some ⟨W.heap.size,0,none⟩) 0 cap) al bl [] w1:=⟨zaa HA,zaa HB,rfl,by simpa [zce] using hrow1,rfl,by simp [hcap],⟨hg1.os,hg1.tape,hg1.output,hg1.size,fun k hk=>hg1.block k hk (by simp)⟩⟩
 have HI0:=zac hI0
 have Hcap:=zac hcap
 clear hI0 hrow1 hg1 hcap HA HB
 gi_loopw [0,1,5] (fun a b m wr=>∃ a' b' ms,ykq W al bl cap a b m a' b' ms wr) (fun a b _ _=>zxc a+zxc b)
 case atStart=>exact ⟨al,bl,[],zaa HI0⟩
 case round =>
  obtain ⟨a',b',ms,hI⟩:=hrel
  obtain ⟨ab,ac,rfl,hA3,hA4⟩:=hI.a
  obtain ⟨bb,bc,rfl,hB3,hB4⟩:=hI.b
  obtain rfl:=hI.m
  have hroom:=hI.room
  have hcapB:=zaa Hcap
  by_cases hab:a'=[]∨b'=[]
  ·have hmm:zci a' b'=a' ++ b':=by
    rcases hab with rfl|rfl
    ·simp [zxf]
    ·rw [yas,List.append_nil]
   have hr1:=hA3.below hI.low
   obtain ⟨w3,hap1,hown3,hg3⟩:=yk8 hI.own hr1 hA4 (by have:=hI.room;omega)
   have hlow3:Below W.heap.size W w3:=hI.low.grown hg3 hI.low.size (fun k e=>by cases e;exact Nat.le_refl _)
   obtain ⟨w4,hap2,hown4,hg4⟩:=yk8 hown3 (hB3.below hlow3) hB4 (by have:=hI.room;rw [List.length_append];omega)
   have hlow4:Below W.heap.size W w4:=hlow3.grown hg4 hlow3.size (fun k e=>by cases e;exact Nat.le_refl _)
   have hfin:ztz w4 (.slice (some ⟨W.heap.size,0,none⟩) (ms ++ a' ++ b').length cap) (zci al bl):=by
    have he:zci al bl=ms ++ a' ++ b':=by rw [hI.eq,hmm,List.append_assoc]
    rw [he]
    exact ⟨_,cap,rfl,ybi hown4,fun e=>by cases e⟩
   have Hfin:=zac hfin
   have Hlow4:=zac hlow4
   clear hr1 hown3 hg3 hlow3 hown4 hg4 hlow4 hfin hI hA3 hB3 hA4 hB4
   clear hroom hcapB hmm
   have hz:¬ (0:Int)<(a'.length:Int)∨((0:Int)<(a'.length:Int)∧¬ (0:Int)<(b'.length:Int)):=by
    rcases hab with rfl|rfl
    ·left;simp
    ·by_cases h:0<a'.length
     ·right;exact ⟨by omega,by simp⟩
     ·left;omega
   clear hab
   generalize (ms ++ a' ++ b').length=M2 at *
   generalize (ms ++ a').length=M1 at *
   generalize a'.length=La at *
   generalize b'.length=Lb at *
   generalize ms.length=M0 at *
   rcases hz with hz|⟨hz1',hz2'⟩
   ·gi_wp2
    refine bodyPost_ret (results_tmp rfl _ _ _) rfl ?_
    exact ⟨_,rfl,zaa Hfin,zaa Hlow4,rfl⟩
   ·gi_wp2
    refine bodyPost_ret (results_tmp rfl _ _ _) rfl ?_
    exact ⟨_,rfl,zaa Hfin,zaa Hlow4,rfl⟩
  ·have hne:a'≠[]∧b'≠[]:=⟨fun e=>hab (.inl e),fun e=>hab (.inr e)⟩
   clear hab
   obtain ⟨x,a1,rfl⟩:=List.exists_cons_of_ne_nil hne.1
   obtain ⟨y,b1,rfl⟩:=List.exists_cons_of_ne_nil hne.2
   clear hne
   obtain ⟨ba0,ao0,tva,rfl,hsa,hta,hla⟩:=ztz.tail hA3
   obtain ⟨bb0,bo0,tvb,rfl,hsb,htb,hlb⟩:=ztz.tail hB3
   have hxr:=(hA3.below hI.low)
   have hyr:=(hB3.below hI.low)
   obtain ⟨_,_,e1,_,hx1⟩:=id hxr
   injection e1 with e1a e1b e1c
   obtain ⟨b9,o9,e9,x0,x1,x2,x3,_⟩:=hx1 0 (by simp)
   have e9':=e1a.trans e9
   injection e9' with e9'
   injection e9' with e9a e9b
   subst e9a e9b
   obtain ⟨_,_,e2,_,hy1⟩:=id hyr
   injection e2 with e2a e2b e2c
   obtain ⟨b8,o8,e8,y0,y1,y2,y3,_⟩:=hy1 0 (by simp)
   have e8':=e2a.trans e8
   injection e8' with e8'
   injection e8' with e8a e8b
   subst e8a e8b
   simp only [List.getElem?_cons_zero,Option.getD_some,Nat.zero_mul,Nat.add_zero] at x0 x1 x2 x3 y0 y1 y2 y3
   obtain ⟨⟨xa,xb,xc⟩,xw⟩:=x
   obtain ⟨⟨ya,yb,yc⟩,yw⟩:=y
   dsimp only at x0 x1 x2 x3 y0 y1 y2 y3
   have hcmp:=ygl ((xa,xb,xc),xw) ((ya,yb,yc),yw) wr.drew
   dsimp only at hcmp
   simp only [List.length_cons] at hroom
   have hPa:(0:Int)<(a1.length:Int)+1:=by omega
   have hPb:(0:Int)<(b1.length:Int)+1:=by omega
   have HRa:=zac hI.a
   have HRb:=zac hI.b
   have HI:=zac hI
   have Hcmp:=zac hcmp
   have Hsa:=zac hsa
   have Hsb:=zac hsb
   have Hta:=zac hta
   have Htb:=zac htb
   have Hla:=zac hla
   have Hlb:=zac hlb
   have Hroom:=zac hroom
   obtain ⟨cc,hcc⟩:∃ cc,cc=zf7 (xa,xb,xc) (ya,yb,yc):=⟨_,rfl⟩
   rw [← hcc] at hcmp
   have Hcmp:=zac hcmp
   have Hcc:=zac hcc
   clear hI hcmp hsa hsb hta htb hla hlb hroom hA3 hB3 hA4 hB4 hxr hyr hx1 hy1 e1a e2a e8 e9 hcc e1b e1c e2b e2c hcapB
   simp only [List.length_cons] at *
   gi_wp2_with fail
   refine zdx ?_
   refine wpIn_region_any (by kernel_rfl) ?_
   change wpAnyIn _ _ _ _ _ _ _ _ _ (World.drew _)
   refine wpAnyIn_take (i:=0) (v:=.slice (some ⟨ba0,ao0,none⟩) (a1.length+1) ac) rfl rfl (by kernel_rfl) (by kernel_rfl) (by kernel_rfl) (fun _ _ _ h=>h) ⟨Or.inl ⟨by rfl,(fun w'=>?_)⟩,fun _=>rfl⟩ ?_
   ·go_simp
   refine wpAnyIn_take (i:=1) (v:=.pointer (some ⟨ba0,ao0,none⟩)) rfl rfl (by kernel_rfl) (by kernel_rfl) (by kernel_rfl) (fun _ _ _ h=>h) ⟨Or.inl ⟨by rfl,(fun w'=>?_)⟩,fun _=>rfl⟩ ?_
   ·go_simp
   refine wpAnyIn_take (i:=3) (v:=.slice (some ⟨bb0,bo0,none⟩) (b1.length+1) bc) rfl rfl (by kernel_rfl) (by kernel_rfl) (by kernel_rfl) (fun _ _ _ h=>h) ⟨Or.inl ⟨by rfl,(fun w'=>?_)⟩,fun _=>rfl⟩ ?_
   ·go_simp
   refine wpAnyIn_take (i:=4) (v:=.pointer (some ⟨bb0,bo0,none⟩)) rfl rfl (by kernel_rfl) (by kernel_rfl) (by kernel_rfl) (fun _ _ _ h=>h) ⟨Or.inl ⟨by rfl,(fun w'=>?_)⟩,fun _=>rfl⟩ ?_
   ·go_simp
   refine zap (i:=2) (v:=.agg #[.int .i64 xa,.int .i64 xb,.int .i64 xc,.int .i64 xw]) [2,5] rfl rfl (by kernel_rfl) (by kernel_rfl) (by kernel_rfl) (fun _ _ _ h=>h) ⟨by rfl,(fun w' hw=>?_),(fun _=>rfl)⟩ ?_
   ·have q0:=hw.cell (show wr.drew.cell? ⟨ba0,ao0,none⟩=_ from x0)
    have q1:=hw.cell (show wr.drew.cell? ⟨ba0,ao0+1,none⟩=_ from x1)
    have q2:=hw.cell (show wr.drew.cell? ⟨ba0,ao0+2,none⟩=_ from x2)
    have q3:=hw.cell (show wr.drew.cell? ⟨ba0,ao0+3,none⟩=_ from x3)
    go_simp
   refine zap (i:=5) (v:=.agg #[.int .i64 ya,.int .i64 yb,.int .i64 yc,.int .i64 yw]) [5] rfl rfl (by kernel_rfl) (by kernel_rfl) (by kernel_rfl) (fun _ _ _ h=>h) ⟨by rfl,(fun w' hw=>?_),(fun _=>rfl)⟩ ?_
   ·have q0:=hw.cell (show wr.drew.cell? ⟨bb0,bo0,none⟩=_ from y0)
    have q1:=hw.cell (show wr.drew.cell? ⟨bb0,bo0+1,none⟩=_ from y1)
    have q2:=hw.cell (show wr.drew.cell? ⟨bb0,bo0+2,none⟩=_ from y2)
    have q3:=hw.cell (show wr.drew.cell? ⟨bb0,bo0+3,none⟩=_ from y3)
    go_simp
   refine wpAnyIn_ready (rs:=[6]) (by kernel_rfl) (by simp) ?_
   refine AllReadyIn.cons rfl (fun K hK=>?_) AllReadyIn.nil
   go_simp
   refine ⟨trivial,?_⟩
   refine (callsIn_wide.2 (zaa Hcmp)).mono ?_
   rintro e w2 ⟨rfl,hb2⟩
   dsimp only
   refine hK _ _ ?_
   clear hK K
   refine wpAnyIn_take (i:=7) (v:=.int .i64 cc) rfl rfl (by kernel_rfl) (by kernel_rfl) (by kernel_rfl) (fun _ _ _ h=>h) ⟨Or.inl ⟨by rfl,(fun w'=>?_)⟩,fun _=>rfl⟩ ?_
   ·go_simp
   refine wpAnyIn_done (by kernel_rfl) ?_ _
   dsimp only [zkd]
   have hbw2:Below wr.heap.size wr w2:=(zar _ _).trans hb2
   have hx2:∀ (B o:Nat) (v:Value),wr.cell? ⟨B,o,none⟩=some v→w2.cell? ⟨B,o,none⟩=some v:=fun B o v h=>(hbw2.cell (p:=⟨B,o,none⟩) (World.block_lt_of_cell? _ _ h)).trans h
   replace x0:=hx2 _ _ _ x0
   replace x1:=hx2 _ _ _ x1
   replace x2:=hx2 _ _ _ x2
   replace x3:=hx2 _ _ _ x3
   replace y0:=hx2 _ _ _ y0
   replace y1:=hx2 _ _ _ y1
   replace y2:=hx2 _ _ _ y2
   replace y3:=hx2 _ _ _ y3
   have hown2:w2.drew.ownsRow W.heap.size 259 4 (.slice (some ⟨W.heap.size,0,none⟩) ms.length cap) ms.length (zce ms):=zmm (zaa HI).own (hbw2.trans (zar _ _))
   have hlow2:Below W.heap.size W w2.drew:=(zaa HI).low.trans ((hbw2.mono (zaa HI).low.size).trans (zar _ _))
   have Hown2:=zac hown2
   have Hlow2:=zac hlow2
   clear hbw2 hx2 hb2 hown2 hlow2
   rcases Int.lt_trichotomy cc 0 with hc|hc|hc
   ·have hcl:=hc
    obtain ⟨w3,hap,hown3,hg3⟩:=yja (W:=W) ((xa,xb,xc),xw) (zaa Hown2) (by have:=zaa Hroom;omega)
    have Hown3:=zac hown3
    have Hlow3:=zac (zes (zaa Hlow2) hg3)
    have hs9:=zaa Hsa
    clear hown3 hg3
    replace hap:(zjz #[197,197] 197 #[.slice (some ⟨W.heap.size,0,none⟩) ms.length cap,.slice (some ⟨w2.heap.size,0,none⟩) 1 1]).run Tryz.prog (w2.alloc (.cells #[.int .i64 xa,.int .i64 xb,.int .i64 xc,.int .i64 xw] 259)).drew=.ok (.slice (some ⟨W.heap.size,0,none⟩) (ms.length+1) cap) w3:=hap
    gi_wp2_with fail
    refine zdx ?_
    refine wpIn_region_any (by kernel_rfl) ?_
    change wpAnyIn _ _ _ _ _ _ _ _ _ (World.drew _)
    refine wpAnyIn_take (i:=0) (v:=.slice (some ⟨W.heap.size,0,none⟩) ms.length cap) rfl rfl (by kernel_rfl) (by kernel_rfl) (by kernel_rfl) (fun _ _ _ h=>h) ⟨Or.inl ⟨by rfl,(fun w'=>?_)⟩,fun _=>rfl⟩ ?_
    ·go_simp
    refine wpAnyIn_take (i:=1) (v:=.slice (some ⟨ba0,ao0,none⟩) (a1.length+1) ac) rfl rfl (by kernel_rfl) (by kernel_rfl) (by kernel_rfl) (fun _ _ _ h=>h) ⟨Or.inl ⟨by rfl,(fun w'=>?_)⟩,fun _=>rfl⟩ ?_
    ·go_simp
    refine wpAnyIn_take (i:=2) (v:=.pointer (some ⟨ba0,ao0,none⟩)) rfl rfl (by kernel_rfl) (by kernel_rfl) (by kernel_rfl) (fun _ _ _ h=>h) ⟨Or.inl ⟨by rfl,(fun w'=>?_)⟩,fun _=>rfl⟩ ?_
    ·go_simp
    refine wpAnyIn_take (i:=6) (v:=.slice (some ⟨ba0,ao0,none⟩) (a1.length+1) ac) rfl rfl (by kernel_rfl) (by kernel_rfl) (by kernel_rfl) (fun _ _ _ h=>h) ⟨Or.inl ⟨by rfl,(fun w'=>?_)⟩,fun _=>rfl⟩ ?_
    ·go_simp
    refine wpAnyIn_take (i:=7) (v:=tva) rfl rfl (by kernel_rfl) (by kernel_rfl) (by kernel_rfl) (fun _ _ _ h=>h) ⟨Or.inl ⟨by rfl,(fun w'=>?_)⟩,fun _=>rfl⟩ ?_
    ·have q:=hs9 w'
     go_simp
    refine zap (i:=3) (v:=.agg #[.int .i64 xa,.int .i64 xb,.int .i64 xc,.int .i64 xw]) [3] rfl rfl (by kernel_rfl) (by kernel_rfl) (by kernel_rfl) (fun _ _ _ h=>h) ⟨by rfl,(fun w' hw=>?_),(fun _=>rfl)⟩ ?_
    ·have q0:=hw.cell (show w2.drew.cell? ⟨ba0,ao0,none⟩=_ from x0)
     have q1:=hw.cell (show w2.drew.cell? ⟨ba0,ao0+1,none⟩=_ from x1)
     have q2:=hw.cell (show w2.drew.cell? ⟨ba0,ao0+2,none⟩=_ from x2)
     have q3:=hw.cell (show w2.drew.cell? ⟨ba0,ao0+3,none⟩=_ from x3)
     go_simp
    refine wpAnyIn_ready (rs:=[4]) (by kernel_rfl) (by simp) ?_
    refine AllReadyIn.cons rfl (fun K hK=>?_) AllReadyIn.nil
    go_simp
    refine hK _ _ ?_
    clear hK K
    refine wpAnyIn_ready (rs:=[5]) (by kernel_rfl) (by simp) ?_
    refine AllReadyIn.cons rfl (fun K hK=>?_) AllReadyIn.nil
    go_simp
    refine hK _ _ ?_
    clear hK K
    refine wpAnyIn_take (i:=8) (v:=.slice (some ⟨W.heap.size,0,none⟩) (ms.length+1) cap) rfl rfl (by kernel_rfl) (by kernel_rfl) (by kernel_rfl) (fun _ _ _ h=>h) ⟨Or.inl ⟨by rfl,(fun w'=>?_)⟩,fun _=>rfl⟩ ?_
    ·go_simp
    refine wpAnyIn_take (i:=9) (v:=tva) rfl rfl (by kernel_rfl) (by kernel_rfl) (by kernel_rfl) (fun _ _ _ h=>h) ⟨Or.inl ⟨by rfl,(fun w'=>?_)⟩,fun _=>rfl⟩ ?_
    ·go_simp
    refine wpAnyIn_done (by kernel_rfl) ?_ _
    dsimp only [zkd]
    have Hrel:Hid (ykq W al bl cap tva (.slice (some ⟨bb0,bo0,none⟩) (b1.length+1) bc) (.slice (some ⟨W.heap.size,0,none⟩) (ms.length+1) cap) a1 (((ya,yb,yc),yw) :: b1) (ms ++ [((xa,xb,xc),xw)]) w3):=by
     refine ⟨zaa Hta,zaa HRb,by first|rfl|simp,zaa Hown3,?_,by have:=zaa Hroom;first|omega|(simp only [List.length_append,List.length_cons,List.length_nil];omega),zaa Hlow3⟩
     rw [(zaa HI).eq,zf2]
     rw [if_pos (by rw [← zaa Hcc];exact hc)]
     simp
    gi_wp2
    refine ⟨?_,?_⟩
    ·(repeat apply Exists.intro)
     exact ⟨⟨a1,(((ya,yb,yc),yw) :: b1),(ms ++ [((xa,xb,xc),xw)]),zaa Hrel⟩,rfl⟩
    ·have h1:=zaa Hla
     have h2:=zaa Hlb
     show zxc tva+zxc (.slice (some ⟨bb0,bo0,none⟩) (b1.length+1) bc)<(a1.length+1)+(b1.length+1)
     simp only [zxc] at h1 h2 ⊢
     omega
   ·subst hc
    gi_wp2_with fail
    refine zdx ?_
    refine wpIn_region_any (by kernel_rfl) ?_
    change wpAnyIn _ _ _ _ _ _ _ _ _ (World.drew _)
    refine wpAnyIn_take (i:=0) (v:=.slice (some ⟨ba0,ao0,none⟩) (a1.length+1) ac) rfl rfl (by kernel_rfl) (by kernel_rfl) (by kernel_rfl) (fun _ _ _ h=>h) ⟨Or.inl ⟨by rfl,(fun w'=>?_)⟩,fun _=>rfl⟩ ?_
    ·go_simp
    refine wpAnyIn_take (i:=1) (v:=.pointer (some ⟨ba0,ao0,none⟩)) rfl rfl (by kernel_rfl) (by kernel_rfl) (by kernel_rfl) (fun _ _ _ h=>h) ⟨Or.inl ⟨by rfl,(fun w'=>?_)⟩,fun _=>rfl⟩ ?_
    ·go_simp
    refine wpAnyIn_take (i:=2) (v:=.pointer (some ⟨ba0,ao0+3,none⟩)) rfl rfl (by kernel_rfl) (by kernel_rfl) (by kernel_rfl) (fun _ _ _ h=>h) ⟨Or.inl ⟨by rfl,(fun w'=>?_)⟩,fun _=>rfl⟩ ?_
    ·go_simp
    refine wpAnyIn_take (i:=4) (v:=.slice (some ⟨bb0,bo0,none⟩) (b1.length+1) bc) rfl rfl (by kernel_rfl) (by kernel_rfl) (by kernel_rfl) (fun _ _ _ h=>h) ⟨Or.inl ⟨by rfl,(fun w'=>?_)⟩,fun _=>rfl⟩ ?_
    ·go_simp
    refine wpAnyIn_take (i:=5) (v:=.pointer (some ⟨bb0,bo0,none⟩)) rfl rfl (by kernel_rfl) (by kernel_rfl) (by kernel_rfl) (fun _ _ _ h=>h) ⟨Or.inl ⟨by rfl,(fun w'=>?_)⟩,fun _=>rfl⟩ ?_
    ·go_simp
    refine wpAnyIn_take (i:=6) (v:=.pointer (some ⟨bb0,bo0+3,none⟩)) rfl rfl (by kernel_rfl) (by kernel_rfl) (by kernel_rfl) (fun _ _ _ h=>h) ⟨Or.inl ⟨by rfl,(fun w'=>?_)⟩,fun _=>rfl⟩ ?_
    ·go_simp
    refine zap (i:=3) (v:=.int .i64 xw) [3,7] rfl rfl (by kernel_rfl) (by kernel_rfl) (by kernel_rfl) (fun _ _ _ h=>h) ⟨by rfl,(fun w' hw=>?_),(fun _=>rfl)⟩ ?_
    ·have q0:=hw.cell (show w2.drew.cell? ⟨ba0,ao0+3,none⟩=_ from x3)
     go_simp
    refine zap (i:=7) (v:=.int .i64 yw) [7] rfl rfl (by kernel_rfl) (by kernel_rfl) (by kernel_rfl) (fun _ _ _ h=>h) ⟨by rfl,(fun w' hw=>?_),(fun _=>rfl)⟩ ?_
    ·have q0:=hw.cell (show w2.drew.cell? ⟨bb0,bo0+3,none⟩=_ from y3)
     go_simp
    refine wpAnyIn_take (i:=8) (v:=.int .i64 (wrap64 (xw+yw))) rfl rfl (by kernel_rfl) (by kernel_rfl) (by kernel_rfl) (fun _ _ _ h=>h) ⟨Or.inl ⟨by rfl,(fun w'=>?_)⟩,fun _=>rfl⟩ ?_
    ·go_simp
     exact IntWalk.i64_left _
    refine wpAnyIn_take (i:=9) (v:=.int .i64 (wrap64 (xw+yw))) rfl rfl (by kernel_rfl) (by kernel_rfl) (by kernel_rfl) (fun _ _ _ h=>h) ⟨Or.inl ⟨by rfl,(fun w'=>?_)⟩,fun _=>rfl⟩ ?_
    ·go_simp
    refine wpAnyIn_done (by kernel_rfl) ?_ _
    dsimp only [zkd]
    have hs9:=zaa Hsa
    have hs8:=zaa Hsb
    by_cases hz:wrap64 (xw+yw)=0
    ·have hzb:(wrap64 (xw+yw) == 0)=true:=by simp [hz]
     gi_wp2_with fail
     refine zdx ?_
     refine wpIn_region_any (by kernel_rfl) ?_
     change wpAnyIn _ _ _ _ _ _ _ _ _ (World.drew _)
     refine wpAnyIn_take (i:=0) (v:=.slice (some ⟨ba0,ao0,none⟩) (a1.length+1) ac) rfl rfl (by kernel_rfl) (by kernel_rfl) (by kernel_rfl) (fun _ _ _ h=>h) ⟨Or.inl ⟨by rfl,(fun w'=>?_)⟩,fun _=>rfl⟩ ?_
     ·go_simp
     refine wpAnyIn_take (i:=1) (v:=tva) rfl rfl (by kernel_rfl) (by kernel_rfl) (by kernel_rfl) (fun _ _ _ h=>h) ⟨Or.inl ⟨by rfl,(fun w'=>?_)⟩,fun _=>rfl⟩ ?_
     ·have q:=hs9 w'
      go_simp
     refine wpAnyIn_take (i:=2) (v:=.slice (some ⟨bb0,bo0,none⟩) (b1.length+1) bc) rfl rfl (by kernel_rfl) (by kernel_rfl) (by kernel_rfl) (fun _ _ _ h=>h) ⟨Or.inl ⟨by rfl,(fun w'=>?_)⟩,fun _=>rfl⟩ ?_
     ·go_simp
     refine wpAnyIn_take (i:=3) (v:=tvb) rfl rfl (by kernel_rfl) (by kernel_rfl) (by kernel_rfl) (fun _ _ _ h=>h) ⟨Or.inl ⟨by rfl,(fun w'=>?_)⟩,fun _=>rfl⟩ ?_
     ·have q:=hs8 w'
      go_simp
     refine wpAnyIn_take (i:=4) (v:=tva) rfl rfl (by kernel_rfl) (by kernel_rfl) (by kernel_rfl) (fun _ _ _ h=>h) ⟨Or.inl ⟨by rfl,(fun w'=>?_)⟩,fun _=>rfl⟩ ?_
     ·go_simp
     refine wpAnyIn_take (i:=5) (v:=tvb) rfl rfl (by kernel_rfl) (by kernel_rfl) (by kernel_rfl) (fun _ _ _ h=>h) ⟨Or.inl ⟨by rfl,(fun w'=>?_)⟩,fun _=>rfl⟩ ?_
     ·go_simp
     refine wpAnyIn_done (by kernel_rfl) ?_ _
     dsimp only [zkd]
     have Hrel:Hid (ykq W al bl cap tva tvb (.slice (some ⟨W.heap.size,0,none⟩) ms.length cap) a1 b1 ms w2.drew.drew):=by
      refine ⟨zaa Hta,zaa Htb,by first|rfl|simp,zmm (zaa Hown2) (zar _ _),?_,by have:=zaa Hroom;first|omega|(simp only [List.length_append,List.length_cons,List.length_nil];omega),(zaa Hlow2).trans (zar _ _)⟩
      rw [(zaa HI).eq,zf2]
      rw [if_neg (by rw [← zaa Hcc];omega),if_neg (by rw [← zaa Hcc];omega)]
      rw [if_pos hz]
     gi_wp2
     refine ⟨?_,?_⟩
     ·(repeat apply Exists.intro)
      exact ⟨⟨a1,b1,ms,zaa Hrel⟩,rfl⟩
     ·have h1:=zaa Hla
      have h2:=zaa Hlb
      show zxc tva+zxc tvb<(a1.length+1)+(b1.length+1)
      simp only [zxc] at h1 h2 ⊢
      omega
    ·have hzb:(wrap64 (xw+yw) == 0)=false:=by simp [hz]
     obtain ⟨w3,hap,hown3,hg3⟩:=yja (W:=W) ((xa,xb,xc),wrap64 (xw+yw)) (zaa Hown2) (by have:=zaa Hroom;omega)
     have Hown3:=zac hown3
     have Hlow3:=zac (zes (zaa Hlow2) hg3)
     clear hown3 hg3
     generalize hsw:wrap64 (xw+yw)=sw at *
     replace hap:(zjz #[197,197] 197 #[.slice (some ⟨W.heap.size,0,none⟩) ms.length cap,.slice (some ⟨w2.heap.size,0,none⟩) 1 1]).run Tryz.prog (w2.alloc (.cells #[.int .i64 xa,.int .i64 xb,.int .i64 xc,.int .i64 sw] 259)).drew=.ok (.slice (some ⟨W.heap.size,0,none⟩) (ms.length+1) cap) w3:=hap
     have Hsw:=zac hsw
     clear hsw
     gi_wp2_with fail
     refine zdx ?_
     refine wpIn_region_any (by kernel_rfl) ?_
     change wpAnyIn _ _ _ _ _ _ _ _ _ (World.drew _)
     refine wpAnyIn_take (i:=0) (v:=.slice (some ⟨ba0,ao0,none⟩) (a1.length+1) ac) rfl rfl (by kernel_rfl) (by kernel_rfl) (by kernel_rfl) (fun _ _ _ h=>h) ⟨Or.inl ⟨by rfl,(fun w'=>?_)⟩,fun _=>rfl⟩ ?_
     ·go_simp
     refine wpAnyIn_take (i:=1) (v:=tva) rfl rfl (by kernel_rfl) (by kernel_rfl) (by kernel_rfl) (fun _ _ _ h=>h) ⟨Or.inl ⟨by rfl,(fun w'=>?_)⟩,fun _=>rfl⟩ ?_
     ·have q:=hs9 w'
      go_simp
     refine wpAnyIn_take (i:=2) (v:=.slice (some ⟨bb0,bo0,none⟩) (b1.length+1) bc) rfl rfl (by kernel_rfl) (by kernel_rfl) (by kernel_rfl) (fun _ _ _ h=>h) ⟨Or.inl ⟨by rfl,(fun w'=>?_)⟩,fun _=>rfl⟩ ?_
     ·go_simp
     refine wpAnyIn_take (i:=3) (v:=tvb) rfl rfl (by kernel_rfl) (by kernel_rfl) (by kernel_rfl) (fun _ _ _ h=>h) ⟨Or.inl ⟨by rfl,(fun w'=>?_)⟩,fun _=>rfl⟩ ?_
     ·have q:=hs8 w'
      go_simp
     refine wpAnyIn_take (i:=4) (v:=tva) rfl rfl (by kernel_rfl) (by kernel_rfl) (by kernel_rfl) (fun _ _ _ h=>h) ⟨Or.inl ⟨by rfl,(fun w'=>?_)⟩,fun _=>rfl⟩ ?_
     ·go_simp
     refine wpAnyIn_take (i:=5) (v:=tvb) rfl rfl (by kernel_rfl) (by kernel_rfl) (by kernel_rfl) (fun _ _ _ h=>h) ⟨Or.inl ⟨by rfl,(fun w'=>?_)⟩,fun _=>rfl⟩ ?_
     ·go_simp
     refine wpAnyIn_done (by kernel_rfl) ?_ _
     dsimp only [zkd]
     have Hrel:Hid (ykq W al bl cap tva tvb (.slice (some ⟨W.heap.size,0,none⟩) (ms.length+1) cap) a1 b1 (ms ++ [((xa,xb,xc),sw)]) w3.drew):=by
      refine ⟨zaa Hta,zaa Htb,by first|rfl|simp,zmm (zaa Hown3) (zar _ _),?_,by have:=zaa Hroom;first|omega|(simp only [List.length_append,List.length_cons,List.length_nil];omega),(zaa Hlow3).trans (zar _ _)⟩
      rw [(zaa HI).eq,zf2]
      rw [if_neg (by rw [← zaa Hcc];omega),if_neg (by rw [← zaa Hcc];omega)]
      rw [zaa Hsw,if_neg hz]
      simp
     gi_wp2
     refine ⟨?_,?_⟩
     ·(repeat apply Exists.intro)
      exact ⟨⟨a1,b1,(ms ++ [((xa,xb,xc),sw)]),zaa Hrel⟩,rfl⟩
     ·have h1:=zaa Hla
      have h2:=zaa Hlb
      show zxc tva+zxc tvb<(a1.length+1)+(b1.length+1)
      simp only [zxc] at h1 h2 ⊢
      omega
   ·have hcl:=hc
    have hcn:¬ cc<0:=by omega
    obtain ⟨w3,hap,hown3,hg3⟩:=yja (W:=W) ((ya,yb,yc),yw) (zaa Hown2) (by have:=zaa Hroom;omega)
    have Hown3:=zac hown3
    have Hlow3:=zac (zes (zaa Hlow2) hg3)
    have hs9:=zaa Hsb
    clear hown3 hg3
    replace hap:(zjz #[197,197] 197 #[.slice (some ⟨W.heap.size,0,none⟩) ms.length cap,.slice (some ⟨w2.heap.size,0,none⟩) 1 1]).run Tryz.prog (w2.alloc (.cells #[.int .i64 ya,.int .i64 yb,.int .i64 yc,.int .i64 yw] 259)).drew=.ok (.slice (some ⟨W.heap.size,0,none⟩) (ms.length+1) cap) w3:=hap
    gi_wp2_with fail
    refine zdx ?_
    refine wpIn_region_any (by kernel_rfl) ?_
    change wpAnyIn _ _ _ _ _ _ _ _ _ (World.drew _)
    refine wpAnyIn_take (i:=0) (v:=.slice (some ⟨W.heap.size,0,none⟩) ms.length cap) rfl rfl (by kernel_rfl) (by kernel_rfl) (by kernel_rfl) (fun _ _ _ h=>h) ⟨Or.inl ⟨by rfl,(fun w'=>?_)⟩,fun _=>rfl⟩ ?_
    ·go_simp
    refine wpAnyIn_take (i:=1) (v:=.slice (some ⟨bb0,bo0,none⟩) (b1.length+1) bc) rfl rfl (by kernel_rfl) (by kernel_rfl) (by kernel_rfl) (fun _ _ _ h=>h) ⟨Or.inl ⟨by rfl,(fun w'=>?_)⟩,fun _=>rfl⟩ ?_
    ·go_simp
    refine wpAnyIn_take (i:=2) (v:=.pointer (some ⟨bb0,bo0,none⟩)) rfl rfl (by kernel_rfl) (by kernel_rfl) (by kernel_rfl) (fun _ _ _ h=>h) ⟨Or.inl ⟨by rfl,(fun w'=>?_)⟩,fun _=>rfl⟩ ?_
    ·go_simp
    refine wpAnyIn_take (i:=6) (v:=.slice (some ⟨bb0,bo0,none⟩) (b1.length+1) bc) rfl rfl (by kernel_rfl) (by kernel_rfl) (by kernel_rfl) (fun _ _ _ h=>h) ⟨Or.inl ⟨by rfl,(fun w'=>?_)⟩,fun _=>rfl⟩ ?_
    ·go_simp
    refine wpAnyIn_take (i:=7) (v:=tvb) rfl rfl (by kernel_rfl) (by kernel_rfl) (by kernel_rfl) (fun _ _ _ h=>h) ⟨Or.inl ⟨by rfl,(fun w'=>?_)⟩,fun _=>rfl⟩ ?_
    ·have q:=hs9 w'
     go_simp
    refine zap (i:=3) (v:=.agg #[.int .i64 ya,.int .i64 yb,.int .i64 yc,.int .i64 yw]) [3] rfl rfl (by kernel_rfl) (by kernel_rfl) (by kernel_rfl) (fun _ _ _ h=>h) ⟨by rfl,(fun w' hw=>?_),(fun _=>rfl)⟩ ?_
    ·have q0:=hw.cell (show w2.drew.cell? ⟨bb0,bo0,none⟩=_ from y0)
     have q1:=hw.cell (show w2.drew.cell? ⟨bb0,bo0+1,none⟩=_ from y1)
     have q2:=hw.cell (show w2.drew.cell? ⟨bb0,bo0+2,none⟩=_ from y2)
     have q3:=hw.cell (show w2.drew.cell? ⟨bb0,bo0+3,none⟩=_ from y3)
     go_simp
    refine wpAnyIn_ready (rs:=[4]) (by kernel_rfl) (by simp) ?_
    refine AllReadyIn.cons rfl (fun K hK=>?_) AllReadyIn.nil
    go_simp
    refine hK _ _ ?_
    clear hK K
    refine wpAnyIn_ready (rs:=[5]) (by kernel_rfl) (by simp) ?_
    refine AllReadyIn.cons rfl (fun K hK=>?_) AllReadyIn.nil
    go_simp
    refine hK _ _ ?_
    clear hK K
    refine wpAnyIn_take (i:=8) (v:=.slice (some ⟨W.heap.size,0,none⟩) (ms.length+1) cap) rfl rfl (by kernel_rfl) (by kernel_rfl) (by kernel_rfl) (fun _ _ _ h=>h) ⟨Or.inl ⟨by rfl,(fun w'=>?_)⟩,fun _=>rfl⟩ ?_
    ·go_simp
    refine wpAnyIn_take (i:=9) (v:=tvb) rfl rfl (by kernel_rfl) (by kernel_rfl) (by kernel_rfl) (fun _ _ _ h=>h) ⟨Or.inl ⟨by rfl,(fun w'=>?_)⟩,fun _=>rfl⟩ ?_
    ·go_simp
    refine wpAnyIn_done (by kernel_rfl) ?_ _
    dsimp only [zkd]
    have Hrel:Hid (ykq W al bl cap (.slice (some ⟨ba0,ao0,none⟩) (a1.length+1) ac) tvb (.slice (some ⟨W.heap.size,0,none⟩) (ms.length+1) cap) (((xa,xb,xc),xw) :: a1) b1 (ms ++ [((ya,yb,yc),yw)]) w3):=by
     refine ⟨zaa HRa,zaa Htb,by first|rfl|simp,zaa Hown3,?_,by have:=zaa Hroom;first|omega|(simp only [List.length_append,List.length_cons,List.length_nil];omega),zaa Hlow3⟩
     rw [(zaa HI).eq,zf2]
     rw [if_neg (by rw [← zaa Hcc];omega),if_pos (by rw [← zaa Hcc];exact hc)]
     simp
    gi_wp2
    refine ⟨?_,?_⟩
    ·(repeat apply Exists.intro)
     exact ⟨⟨(((xa,xb,xc),xw) :: a1),b1,(ms ++ [((ya,yb,yc),yw)]),zaa Hrel⟩,rfl⟩
    ·have h1:=zaa Hla
     have h2:=zaa Hlb
     show zxc (.slice (some ⟨ba0,ao0,none⟩) (a1.length+1) ac)+zxc tvb<(a1.length+1)+(b1.length+1)
     simp only [zxc] at h1 h2 ⊢
     omega
end
end Go.Proofs.YtoifcnidhfnapabGreatDoor
namespace Go.Proofs.YtoifcnidhfnapabGreatDoor
def zih (L:Nat→List zai) (n:Nat) (φ:(Nat→Row)→B64):B64:=zlu zct L n fun g=>φ (fun i=>(g i).1)*zgq (fun i=>wtB (g i)) n
def Eqv (L L':List zai):Prop:=∀ ψ:Row→B64,zby L (fun e=>ψ e.1*wtB e)=zby L' (fun e=>ψ e.1*wtB e)
theorem Eqv.refl (L:List zai):Eqv L L:=fun _=>rfl
theorem Eqv.trans {L L' L'':List zai} (h:Eqv L L') (k:Eqv L' L''):Eqv L L'':=fun ψ=>(h ψ).trans (k ψ)
theorem Eqv.append {A A' B B':List zai} (h:Eqv A A') (k:Eqv B B'):Eqv (A ++ B) (A' ++ B'):=fun ψ=>by rw [zbg,zbg,h ψ,k ψ]
theorem yij (g:Nat→zai) (n:Nat) (e:zai):(fun i=>(zis g n e i).1)=zis (fun i=>(g i).1) n e.1:=by
 funext i
 unfold zis
 split <;> rfl
theorem zfz (L:Nat→List zai) (n:Nat) (φ:(Nat→Row)→B64):zih L (n+1) φ=zby (L n) fun e=>zih L n (fun r=>φ (zis r n e.1))*wtB e:=by
 show zby (L n) (fun e=>zlu zct L n (fun g=>φ (fun i=>(zis g n e i).1)*zgq (fun i=>wtB (zis g n e i)) (n+1)))=_
 refine za8 fun e _=>?_
 unfold zih
 rw [← ztk]
 refine zc9 _ _ _ _ _ fun g _=>?_
 rw [zt6,yij,BitVec.mul_assoc]
theorem zn0:∀ (n:Nat) {L L':Nat→List zai} (φ:(Nat→Row)→B64),(∀ i,i<n→Eqv (L i) (L' i))→zih L n φ=zih L' n φ
 | 0,L,L',φ,_=>rfl
 | n+1,L,L',φ,h=>by
  rw [zfz,zfz,h n (by omega) fun r=>zih L n (fun q=>φ (zis q n r))]
  exact za8 fun e _=>by rw [zn0 n _ fun i hi=>h i (by omega)]
theorem zft (n:Nat) {L L':Nat→List zai} (φ:(Nat→Row)→B64) (h:∀ i,i<n→L i=L' i):zih L n φ=zih L' n φ:=
 zn0 n φ fun i hi=>by rw [h i hi];exact Eqv.refl _
theorem zyv {i:Nat} (A B:List zai):∀ (n:Nat) (L:Nat→List zai) (φ:(Nat→Row)→B64),i<n→zih (zis L i (A ++ B)) n φ=zih (zis L i A) n φ+zih (zis L i B) n φ
 | 0,_,_,h=>absurd h (Nat.not_lt_zero _)
 | n+1,L,φ,h=>by
  rw [zfz,zfz,zfz]
  by_cases e:i=n
  ·subst e
   have hs:∀ C,zis L i C i=C:=fun C=>by simp [zis]
   have hl:∀ C (ψ:(Nat→Row)→B64),zih (zis L i C) i ψ=zih L i ψ:=fun C ψ=>zft i ψ fun k hk=>by simp [zis,Nat.ne_of_lt hk]
   simp only [hs,hl,zbg]
  ·have hs:∀ C,zis L i C n=L n:=fun C=>if_neg fun e':n=i=>e e'.symm
   simp only [hs]
   rw [← znv]
   refine za8 fun x _=>?_
   rw [zyv A B n L _ (by omega)]
   grind
def zl3 (N B O:Nat→List zai) (k:Nat):Nat→List zai:=fun i=>if i<k then N i else if i=k then B i else O i
def yeb (N O:Nat→List zai) (k:Nat):Nat→List zai:=fun i=>if i<k then N i else O i
theorem ydz (N B O:Nat→List zai) (n:Nat) (φ:(Nat→Row)→B64) (h:∀ i,i<n→Eqv (N i) (O i ++ B i)):zih N n φ=zih O n φ+zby (List.range n) fun k=>zih (zl3 N B O k) n φ:=by
 have key:∀ k,k≤n→zih (yeb N O k) n φ=zih O n φ+zby (List.range k) fun k=>zih (zl3 N B O k) n φ:=by
  intro k
  induction k with
  | zero=>intro _;rw [zft (L':=O) n φ fun i _=>by simp [yeb]];simp [zby]
  | succ k ih =>
   intro hk
   rw [List.range_succ,zbg,← BitVec.add_assoc,← ih (by omega)]
   have e1:zih (yeb N O (k+1)) n φ=zih (zis (yeb N O k) k (O k ++ B k)) n φ:=by
    refine zn0 n φ fun i hi=>?_
    unfold zis yeb
    by_cases e:i=k
    ·subst e;simp only [Nat.lt_succ_self,if_true];exact h i hi
    ·rw [if_neg e]
     by_cases e2:i<k
     ·rw [if_pos (by omega),if_pos e2];exact Eqv.refl _
     ·rw [if_neg (by omega),if_neg e2];exact Eqv.refl _
   have e2:zih (zis (yeb N O k) k (O k)) n φ=zih (yeb N O k) n φ:=zft n φ fun i _=>by
    unfold zis yeb
    by_cases e:i=k
    ·subst e;simp
    ·simp [e]
   have e3:zih (zis (yeb N O k) k (B k)) n φ=zih (zl3 N B O k) n φ:=zft n φ fun i _=>by
    unfold zis yeb zl3
    by_cases e:i=k
    ·subst e;simp
    ·simp [e]
   rw [e1,zyv _ _ n _ φ (by omega),e2,e3]
   simp [zby]
 rw [← key n (Nat.le_refl _)]
 exact zft n φ fun i hi=>by simp [yeb,hi]
theorem zpa:∀ (sts:List Stp) (cs:Nat→Nat) (row:H4) (g g':Nat→zai),(∀ i,(g i).1=(g' i).1)→zeq sts cs row g=zeq sts cs row g'
 | [],_,_,_,_,_=>rfl
 | st :: sts,cs,row,g,g',h=>by
  have hz:zOf st.us cs g=zOf st.us cs g':=by
   unfold zOf
   split
   ·rfl
   ·rw [h]
  have hu:∀ z,zc1 st.us cs g z=zc1 st.us cs g' z:=by
   intro z
   unfold zc1 zef
   simp only [h]
  simp only [zeq]
  rw [hz,hu,zpa sts _ _ g g' h]
def zgp (r:Nat→Row):Nat→zai:=fun i=>(r i,0)
def zyo (sts:List Stp) (cs:Nat→Nat) (row h:H4) (r:Nat→Row):B64:=if zeq sts cs row (zgp r)=some h then 1#64 else 0#64
theorem yfp (na:Nat) (sts:List Stp) (S:Nat→Src) (row h:H4):ztl na sts S row h=zih (zcn S) na (zyo sts (fun i=>(S i).c) row h):=by
 unfold ztl zih
 refine zc9 _ _ _ _ _ fun g _=>?_
 unfold zyo
 rw [zpa sts _ row g (zgp fun i=>(g i).1) fun i=>rfl]
 split
 ·simp
 ·simp
end Go.Proofs.YtoifcnidhfnapabGreatDoor
