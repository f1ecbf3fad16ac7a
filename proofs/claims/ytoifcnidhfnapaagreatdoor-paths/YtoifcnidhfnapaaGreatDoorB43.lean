import Derived.Test.YtoifcnidhfnapaaGreatDoorB42
import Derived.Test.YtoifcnidhfnapaaGreatDoorB40
set_option linter.unusedVariables false
set_option linter.unusedSimpArgs false
set_option maxRecDepth 100000
set_option maxHeartbeats 16000000
namespace Go.Proofs.YtoifcnidhfnapaaGreatDoor
open Go.RowKit Go.Maps
def zkm (W:World) (B0 RB QB:Nat) (bv:Value) (s:ByteArray) (p:Nat) (e:Ending) (w':World):Prop:=
 (∃ hs q hv,zwz s p=.ok (hs,q)∧e=.returned .nilIface∧Rdr w' RB s q∧w'.heap[QB]? = some (.cells #[hv,bv] 188 (0,0))∧w'.ownsRow B0 307 2 hv hs.length (zl7 hs)∧zif B0 RB W w') ∨
 (∃ q v,zwz s p=.error q∧e=.returned v∧ErrAt B0 w' v 5 q∧zif B0 RB W w')
theorem zu8 (RB QB B0:Nat) (s:ByteArray) (bv:Value) (p:Nat) (W:World) (h:Rdr W RB s p) (hQ:W.heap[QB]? = some (.cells #[.slice none 0 0,bv] 188 (0,0))) (hl1:B0≤QB) (hl2:RB<B0) :
  Calls Tryz.prog 140 #[.pointer (some ⟨RB,0,none⟩),.pointer (some ⟨QB,0,none⟩)] W (zkm W B0 RB QB bv s p):=by
 have hRl:=h.lt
 have hQl:QB<W.heap.size:=(Array.getElem?_eq_some_iff.1 hQ).1
 obtain ⟨W2,hW2⟩:∃ W2,W2=(W.alloc (.cells #[.pointer (some ⟨RB,0,none⟩)] 243)).alloc (.cells #[.pointer (some ⟨QB,0,none⟩)] 119):=⟨_,rfl⟩
 have hb2:Below W.heap.size W W2:=by rw [hW2];exact ((Below.refl _ _).alloc (Nat.le_refl _) _).alloc (by simp) _
 have hbox:Boxed W2 W.heap.size 243 (.pointer (some ⟨RB,0,none⟩)):=by rw [hW2];exact (Boxed.new W 243 _).alloc _
 have hboxq:Boxed W2 (W.heap.size+1) 119 (.pointer (some ⟨QB,0,none⟩)):=by rw [hW2];exact zae _ _ _ (by simp)
 have hH:zna W2 B0 RB W.heap.size (W.heap.size+1) QB bv []:=⟨hbox,hboxq,⟨_,(hb2.block QB hQl).trans hQ,World.ownsRow_nil _ _ _ _⟩,by omega,by omega,hl1,hl2⟩
 have c0:W2.cell? ⟨W.heap.size,0,none⟩=some (.pointer (some ⟨RB,0,none⟩)):=hbox.cell
 have Hm:=zac (zk4 RB s p 40 (by omega) W2 (h.below hb2))
 have HH:=zac hH
 have Hb2:=zac hb2
 clear h hQ hbox hboxq hH hb2
 go_enter Tryz.func140,Tryz.ntmps140
 go_wp2_with fail
 rw [← hW2]
 refine (zaa Hm).mono ?_
 clear hW2
 rintro e w1 (⟨p1,hm1,rfl,hR1,hK1⟩|⟨q,v,hm1,rfl,hE1,hK1⟩)
 ·have hH1:=(zaa HH).keep hK1
  have c1:w1.cell? ⟨W.heap.size,0,none⟩=some (.pointer (some ⟨RB,0,none⟩)):=hH1.box.cell
  have Ht:=zac (zlh RB s p1 41 (by omega) w1 hR1)
  have HK1:=zac ((KeepX.ofBelow (zaa Hb2)).trans hK1)
  have HH1:=zac hH1
  have hp:zwz s p=if zaq s (zbc s p1)=41 then .ok ([],zbc s p1+1) else
   match zhg (zja s) s 4 (zbc s p1) [] with
   | .error r=>.error r
   | .ok (hs,p2)=>match zj9 s 41 p2 with
    | .error r=>.error r
    | .ok p3=>.ok (hs,p3):=by unfold zwz;rw [hm1];rfl
  clear hR1 hK1 hH1 Hm hm1
  by_cases hc:zaq s (zbc s p1)=41
  ·rw [if_pos hc] at hp Ht
   rw [decide_eq_true hc] at Ht
   have Hp:=zac hp
   clear hp hc
   go_wp2_with (first|(go_at_call 177;refine (zaa Ht).mono ?_;rintro e w2 ⟨rfl,hR2,hK2⟩;have HR2:=zac hR2;have HK2:=zac hK2;clear hR2 hK2))
   go_ret
   obtain ⟨hv,hb,ho⟩:=((zaa HH1).keep (zaa HK2)).blk
   exact .inl ⟨[],_,hv,zaa Hp,rfl,zaa HR2,hb,ho,((zaa HK1).trans (zaa HK2)).mono fun q _ e=>.inl e⟩
  ·rw [if_neg hc] at hp Ht
   rw [decide_eq_false hc] at Ht
   have Hp:=zac hp
   clear hp hc
   go_wp2_with (first|(go_at_call 177;refine (zaa Ht).mono ?_;rintro e w2 ⟨rfl,hR2,hK2⟩;have hH2:=(zaa HH1).keep hK2;have c2:w2.cell? ⟨W.heap.size,0,none⟩=some (.pointer (some ⟨RB,0,none⟩)):=hH2.box.cell;have HH2:=zac hH2;have HR2:=zac hR2;have HK2:=zac hK2;clear hR2 hK2 hH2))
   have hB2:B0≤w2.heap.size:=by have:=(zaa HK1).size;have:=(zaa HK2).size;omega
   refine (ygr RB B0 s ⟨#[118,97,114,105,97,98,108,101]⟩ (by decide) 4 (by omega) (by omega) (.pointer (some ⟨W.heap.size,0,none⟩)) (.pointer (some ⟨W.heap.size+1,0,none⟩)) (zja s) (fun acc w=>zna w B0 RB W.heap.size (W.heap.size+1) QB bv acc) (fun w=>∃ acc,zna w B0 RB W.heap.size (W.heap.size+1) QB bv acc) (fun acc w w' h hk=>h.keep hk) (fun w w' ⟨acc,h⟩ hk=>⟨acc,h.keep hk⟩) (fun acc p w hl3 hR hA hB=>zsx RB W.heap.size (W.heap.size+1) QB B0 s bv p acc (by omega) w hR hA hB) _ w2 (zaa HR2) (zaa HH2) hB2).mono ?_
   rintro e w3 (⟨hs,q2,hl3,rfl,hR3,hH3,hK3⟩|⟨q2,v,hl3,rfl,hE3,_,hK3⟩)
   ·have c3:w3.cell? ⟨W.heap.size,0,none⟩=some (.pointer (some ⟨RB,0,none⟩)):=hH3.box.cell
    have Hm3:=zac (zk4 RB s q2 41 (by omega) w3 hR3)
    have HK3:=zac ((((zaa HK1).trans (zaa HK2)).mono fun q _ e=>.inl e).trans hK3:zif B0 RB W w3)
    have HH3:=zac hH3
    have hs3:=hK3.size
    have Hp3:=zac (show zwz s p=match zj9 s 41 q2 with
     | .error r=>.error r
     | .ok p3=>.ok (hs,p3) by rw [zaa Hp,hl3])
    clear hR3 hH3 hK3 hl3
    go_wp2_with fail
    refine (zaa Hm3).mono ?_
    rintro e w4 (⟨q3,hm4,rfl,hR4,hK4⟩|⟨q3,v,hm4,rfl,hE4,hK4⟩)
    ·obtain ⟨hv,hb,ho⟩:=((zaa HH3).keep hK4).blk
     have HF:=zac (show zkm W B0 RB QB bv s p (.returned .nilIface) w4 from .inl ⟨hs,q3,hv,by rw [zaa Hp3,hm4],rfl,hR4,hb,ho,(zaa HK3).trans (hK4.mono fun q _ e=>.inl e)⟩)
     clear hR4 hK4 hb ho hm4
     go_wp2
     go_ret
     exact zaa HF
    ·have HF:=zac (show zkm W B0 RB QB bv s p (.returned v) w4 from .inr ⟨q3,v,by rw [zaa Hp3,hm4],rfl,hE4.mono (by omega),(zaa HK3).trans (hK4.mono fun q _ e=>.inl e)⟩)
     clear hE4 hK4 hm4
     go_wp2
     go_ret
     exact zaa HF
   ·obtain ⟨ty,b,rfl,hty⟩:=hE3.form
    have HF:=zac (show zkm W B0 RB QB bv s p (.returned (.iface ty (.pointer (some ⟨b,0,none⟩)))) w3 from .inr ⟨q2,_,by rw [zaa Hp,hl3],rfl,hE3,(((zaa HK1).trans (zaa HK2)).mono fun q _ e=>.inl e).trans hK3⟩)
    clear hE3 hK3 hl3
    go_wp2
    go_ret
    exact zaa HF
 ·obtain ⟨ty,b,rfl,hty⟩:=hE1.form
  have HF:=zac (show zkm W B0 RB QB bv s p (.returned (.iface ty (.pointer (some ⟨b,0,none⟩)))) w1 from .inr ⟨q,_,by unfold zwz;rw [hm1],rfl,hE1.mono (by have:=(zaa Hb2).size;omega),(((KeepX.ofBelow (zaa Hb2)).trans hK1).mono fun q _ e=>.inl e)⟩)
  clear hE1 hK1 hm1
  go_wp2
  go_ret
  exact zaa HF
theorem Tryz.info268:(Tryz.prog.info? 268).map (fun i=>(i.zero,i.size,i.bytes))=some (some (.agg #[.string ⟨#[]⟩,.int .i64 0,.slice none 0 0]),3,48):=by kernel_rfl
def zkv (xs:List (zba×Value)):List Value:=xs.flatMap fun x=>[.string x.1.nm,.int .i64 x.1.pl,x.2]
structure zth (W:World) (B0 RB Bb Bq QB:Nat) (hv:Value) (hs:List (Nat×Nat)) (acc:List zba):Prop where
 box:Boxed W Bb 243 (.pointer (some ⟨RB,0,none⟩))
 boxq:Boxed W Bq 119 (.pointer (some ⟨QB,0,none⟩))
 blk:∃ bv xs,xs.map (·.1)=acc∧W.heap[QB]? = some (.cells #[hv,bv] 188 (0,0))∧W.ownsRow B0 268 3 bv xs.length (zkv xs)∧∀ x∈xs,W.ownsRow B0 327 2 x.2 x.1.ts.length (zgf x.1.ts)
 lo:Bb≠RB∧Bq≠RB∧B0≤QB∧RB<B0
 head:W.ownsRow B0 307 2 hv hs.length (zl7 hs)
theorem zth.keep {W w:World} {B0 RB Bb Bq QB:Nat} {hv:Value} {hs:List (Nat×Nat)} {acc:List zba} (h:zth W B0 RB Bb Bq QB hv hs acc) (hk:KeepX (fun q=>q=RB) W w):zth w B0 RB Bb Bq QB hv hs acc:=by
 obtain ⟨hb,hq,⟨bv,xs,h0,h1,h2,h2'⟩,⟨h3,h4,h5,h6⟩,h7⟩:=h
 exact ⟨(hk.blk Bb (Array.getElem?_eq_some_iff.1 hb).1 h3).trans hb,(hk.blk Bq (Array.getElem?_eq_some_iff.1 hq).1 h4).trans hq,⟨bv,xs,h0,(hk.blk QB (Array.getElem?_eq_some_iff.1 h1).1 (by omega)).trans h1,zcl h2 hk (fun g hg=>by omega),fun x hx=>zcl (h2' x hx) hk (fun g hg=>by omega)⟩,⟨h3,h4,h5,h6⟩,zcl h7 hk (fun g hg=>by omega)⟩
theorem zc1 {W:World} {B0 n:Nat} {tv:Value} {xs:List Value} (h:W.ownsRow B0 268 3 tv n xs) {g:Nat} (hg:tv.ownBlock=some g):B0≤g∧∃ cur,W.heap[g]? = some (.cells cur 268 (0,0)):=by
 rcases h.2 with ⟨rfl,_⟩|⟨g',cap,cur,rfl,hb,hgh,_⟩
 ·simp [Value.ownBlock] at hg
 ·simp only [Value.ownBlock] at hg
  injection hg with hg
  subst hg
  exact ⟨hb,cur,hgh⟩
theorem yfz (RB:Nat) (s:ByteArray) (p:Nat) (W:World) (h:Rdr W RB s p) :
  Calls Tryz.prog 184 #[.pointer (some ⟨RB,0,none⟩)] W fun e w'=>∃ (n:ByteArray) (m:Int) (ta:Option Addr) (tn tc:Nat) (v:Value),e=.returned (.tuple #[.agg #[.string n,.int .i64 m,.slice ta tn tc],v]) ∧
   Hid ((∃ a q,znd s p=.ok (a,q)∧v=.nilIface∧a.nm=n∧(a.pl:Int)=m∧Rdr w' RB s q∧w'.ownsRow W.heap.size 327 2 (.slice ta tn tc) a.ts.length (zgf a.ts))∨(∃ q,znd s p=.error q∧ErrAt W.heap.size w' v 5 q))∧KeepX (fun q=>q=RB) W w':=by
 refine (zu6 RB s p W h).mono ?_
 rintro e w' (⟨a,q,tv,h1,rfl,h2,h3,h4⟩|⟨q,v,n,m,ta,tn,tc,h1,rfl,h2,h3⟩)
 ·obtain ⟨ta,tc,rfl,_⟩:=zak h3
  exact ⟨a.nm,a.pl,ta,a.ts.length,tc,.nilIface,rfl,.inl ⟨a,q,h1,rfl,rfl,rfl,h2,h3⟩,h4⟩
 ·exact ⟨n,m,ta,tn,tc,v,rfl,.inr ⟨q,h1,h2⟩,h3⟩
section
attribute [local go_sem ↓] zhb
theorem zsw (RB Bb Bq QB B0:Nat) (s:ByteArray) (hv:Value) (hs:List (Nat×Nat)) (p:Nat) (acc:List zba) (hacc:acc.length≤100) (W:World) (h:Rdr W RB s p) (hA:zth W B0 RB Bb Bq QB hv hs acc) (hB0:B0≤W.heap.size) :
  Calls Tryz.prog 183 #[.pointer (some ⟨Bb,0,none⟩),.pointer (some ⟨Bq,0,none⟩)] W (zfq B0 RB s (znd s p) (fun x w=>zth w B0 RB Bb Bq QB hv hs (acc ++ [x])) (fun _=>True) W):=by
 have cb:W.cell? ⟨Bb,0,none⟩=some (.pointer (some ⟨RB,0,none⟩)):=hA.box.cell
 have H:=zac (yfz RB s p W h)
 have HA:=zac hA
 clear hA h
 go_enter Tryz.func183,Tryz.ntmps183
 go_wp2_with fail
 refine (zaa H).mono ?_
 rintro e w1 ⟨n,m,ta,tn,tc,v,rfl,Hs,hK1⟩
 have hA1:=(zaa HA).keep hK1
 obtain ⟨w5,hw5⟩:∃ w5,w5=w1.alloc (.cells #[.string n,.int .i64 m,.slice ta tn tc] 268):=⟨_,rfl⟩
 have hb5:Below w1.heap.size w1 w5:=by rw [hw5];exact (Below.refl _ _).alloc (Nat.le_refl _) _
 have hA5:=hA1.keep (KeepX.ofBelow hb5)
 have hx5:w5.heap[w1.heap.size]? = some (.cells #[.string n,.int .i64 m,.slice ta tn tc] 268 (0,0)):=by rw [hw5];exact zae _ _ _ rfl
 obtain ⟨bv,xs,hxs,hqb,hown,hall⟩:=hA5.blk
 have hxl:xs.length=acc.length:=by rw [← hxs];simp
 have hs5:w1.heap.size<w5.heap.size:=(Array.getElem?_eq_some_iff.1 hx5).1
 have hown':w5.drew.ownsRow B0 268 3 bv xs.length (zkv xs):=zcl hown (KeepX.ofBelow (X:=fun _=>False) (zav _ _)) (fun _ _ h=>h)
 obtain ⟨g',cap',w6,hA6,hown6,hg6⟩:=ycb (w2:=w5.drew) #[.string n,.int .i64 m,.slice ta tn tc] 186 268 Tryz.underlying186 Tryz.info268 rfl (by decide) rfl (by simp [Value.oneCell']) hown' (Nat.le_trans hB0 (Nat.le_trans hK1.size hb5.size)) (by omega) (by omega)
 have hbA:Below w5.heap.size w5 (w5.drew.alloc (.cells #[.string n,.int .i64 m,.slice ta tn tc] 268)):=(zav _ _).alloc (Nat.le_refl _) _
 have hql:QB<w5.heap.size:=(Array.getElem?_eq_some_iff.1 hqb).1
 have hbql:Bq<w5.heap.size:=hA5.boxq.lt
 have hbbl:Bb<w5.heap.size:=hA5.box.lt
 have hA6':(zjy #[186,186] 186 #[bv,.slice (some ⟨w5.heap.size,0,none⟩) 1 1]).run Tryz.prog (w5.alloc (.cells #[.string n,.int .i64 m,.slice ta tn tc] 268)).drew=.ok (.slice (some ⟨g',0,none⟩) (xs.length+1) cap') w6:=hA6
 have q1:w5.drew.cell? ⟨Bq,0,none⟩=some (.pointer (some ⟨QB,0,none⟩)):=hA5.boxq.cell
 have q0:w5.drew.cell? ⟨QB,1,none⟩=some bv:=zab hqb 1
 have y0:w5.drew.cell? ⟨w1.heap.size,0,none⟩=some (.string n):=zab hx5 0
 have y1:w5.drew.cell? ⟨w1.heap.size,1,none⟩=some (.int .i64 m):=zab hx5 1
 have y2:w5.drew.cell? ⟨w1.heap.size,2,none⟩=some (.slice ta tn tc):=zab hx5 2
 have q1A:(w5.alloc (.cells #[.string n,.int .i64 m,.slice ta tn tc] 268)).drew.cell? ⟨Bq,0,none⟩=some (.pointer (some ⟨QB,0,none⟩)):=(hbA.cell (p:=⟨Bq,0,none⟩) hbql).trans hA5.boxq.cell
 have q0A:(w5.alloc (.cells #[.string n,.int .i64 m,.slice ta tn tc] 268)).drew.cell? ⟨QB,1,none⟩=some bv:=(hbA.cell (p:=⟨QB,1,none⟩) hql).trans (zab hqb 1)
 have hnq:bv.ownBlock≠some QB:=fun e=>by
  obtain ⟨_,cur,hc⟩:=zc1 hown e
  rw [hqb] at hc;simp at hc
 have hnb:bv.ownBlock≠some Bb:=fun e=>by
  obtain ⟨_,cur,hc⟩:=zc1 hown e
  rw [show w5.heap[Bb]? = _ from hA5.box] at hc;simp at hc
 have hnB:bv.ownBlock≠some Bq:=fun e=>by
  obtain ⟨_,cur,hc⟩:=zc1 hown e
  rw [show w5.heap[Bq]? = _ from hA5.boxq] at hc;simp at hc
 have hK6:KeepX (fun q=>bv.ownBlock=some q) w5 w6:=(KeepX.ofBelow hbA).trans ⟨hg6.os,hg6.tape,hg6.output,hg6.size,fun q hq hx=>hg6.block q hq (fun e=>hx e.symm)⟩
 have hqb6:=(hK6.blk QB hql hnq).trans hqb
 have hbq6:Boxed w6 Bq 119 (.pointer (some ⟨QB,0,none⟩)):=(hK6.blk Bq hbql hnB).trans hA5.boxq
 have q1B:w6.cell? ⟨Bq,0,none⟩=some (.pointer (some ⟨QB,0,none⟩)):=hbq6.cell
 have q0B:w6.cell? ⟨QB,1,none⟩=some bv:=zab hqb6 1
 have fB:w6.frozen? ⟨QB,1,none⟩=false:=zad hqb6 1
 have hgQ:g'≠QB:=fun e=>by
  obtain ⟨_,cur,hc⟩:=zc1 hown6 (g:=g') rfl
  rw [e,hqb6] at hc;simp at hc
 have hnqq:Bb≠QB∧Bq≠QB:=⟨fun e=>by have h1:=hqb;rw [← e,show w5.heap[Bb]? = _ from hA5.box] at h1;simp at h1,fun e=>by have h1:=hqb;rw [← e,show w5.heap[Bq]? = _ from hA5.boxq] at h1;simp at h1⟩
 obtain ⟨hl1,hl2,hl3,hl4⟩:=hA5.lo
 have hFin:zfq B0 RB s (znd s p) (fun x w=>zth w B0 RB Bb Bq QB hv hs (acc ++ [x])) (fun _=>True) W (.returned v) (w6.setCell ⟨QB,1,none⟩ (.slice (some ⟨g',0,none⟩) (xs.length+1) cap')):=by
  have hK7:KeepX (fun q=>bv.ownBlock=some q∨q=QB) w5 (w6.setCell ⟨QB,1,none⟩ (.slice (some ⟨g',0,none⟩) (xs.length+1) cap')):=(hK6.mono fun q _ e=>.inl e).trans ((za4 w6 QB 1 _).mono fun q _ e=>.inr e)
  have hX:∀ q,(bv.ownBlock=some q∨q=QB)→B0≤q:=fun q hq=>by
   rcases hq with hq|hq
   ·exact (zc1 hown hq).1
   ·omega
  have hXW:∀ q,(bv.ownBlock=some q∨q=QB)→q<W.heap.size:=fun q hq=>by
   obtain ⟨bv',xs',_,hqb0,hown0,_⟩:=(zaa HA).blk
   have hq0:QB<W.heap.size:=(Array.getElem?_eq_some_iff.1 hqb0).1
   rcases hq with hq|hq
   ·have e1:=(hK1.blk QB hq0 (by omega)).trans hqb0
    have e2:=(hb5.block QB (Nat.lt_of_lt_of_le hq0 hK1.size)).trans e1
    rw [hqb] at e2
    simp at e2
    rw [e2] at hq
    obtain ⟨_,cur,hc⟩:=zc1 hown0 hq
    exact (Array.getElem?_eq_some_iff.1 hc).1
   ·omega
  have hKW:zif B0 RB W (w6.setCell ⟨QB,1,none⟩ (.slice (some ⟨g',0,none⟩) (xs.length+1) cap')):=((hK1.mono fun q _ e=>.inl e).trans (KeepX.ofBelow hb5)).trans (hK7.mono fun q _ e=>.inr (hX q e))
  rcases zaa Hs with ⟨a,q,h1,rfl,rfl,rfl,hR,ho⟩|⟨q,h1,hE⟩
  ·have hR5:=hR.below hb5
   refine .inl ⟨a,q,h1,rfl,hR5.keep (hK7.blk RB hR5.lt (fun e=>by have:=hX RB e;omega)),?_,hKW⟩
   have hox:∀ (u:Value) (k:Nat) (l:List Value),w5.ownsRow B0 327 2 u k l→(w6.setCell ⟨QB,1,none⟩ (.slice (some ⟨g',0,none⟩) (xs.length+1) cap')).ownsRow B0 327 2 u k l:=fun u k l hu=>zcc hu hK7 (fun g hg=>by
    obtain ⟨_,cur,hc⟩:=zd5 hu hg
    rintro (e|e)
    ·obtain ⟨_,cur',hc'⟩:=zc1 hown e
     rw [hc] at hc';simp at hc'
    ·rw [e,hqb] at hc;simp at hc)
   refine ⟨(hK7.blk Bb hbbl (fun e=>e.elim hnb hnqq.1)).trans hA5.box,(hK7.blk Bq hbql (fun e=>e.elim hnB hnqq.2)).trans hA5.boxq,⟨.slice (some ⟨g',0,none⟩) (xs.length+1) cap',xs ++ [(a,.slice ta tn tc)],by simp [hxs],?_,?_,fun x hx=>?_⟩,⟨hl1,hl2,hl3,hl4⟩,zcc hA5.head hK7 (fun g hg=>by
    obtain ⟨_,cur,hc⟩:=zd4 hA5.head hg
    rintro (e|e)
    ·obtain ⟨_,cur',hc'⟩:=zc1 hown e
     rw [hc] at hc';simp at hc'
    ·rw [e,hqb] at hc;simp at hc)⟩
   ·simp only [World.setCell]
    rw [Array.getElem?_modify,if_pos rfl,hqb6]
    rfl
   ·have e:zkv (xs ++ [(a,.slice ta tn tc)])=zkv xs ++ [.string a.nm,.int .i64 a.pl,.slice ta tn tc]:=by simp [zkv]
    rw [e,List.length_append]
    refine zcc hown6 (za4 w6 QB 1 _) (fun g hg=>?_)
    simp only [Value.ownBlock] at hg
    injection hg with hg
    omega
   ·rcases List.mem_append.1 hx with hx|hx
    ·exact hox _ _ _ (hall x hx)
    ·simp at hx
     subst hx
     exact hox _ _ _ (zir (zcl ho (KeepX.ofBelow (X:=fun _=>False) hb5) (fun _ _ h=>h)) hB0)
  ·exact .inr ⟨q,v,h1,rfl,((hE.bel hb5).keep hK7 (fun k hk=>hXW k hk)).mono hB0,trivial,hKW⟩
 have HFin:=zac hFin
 clear hA6 hFin hK1 hA1 hA5 hqb hown hown' hown6 hg6 hbA hK6 hqb6 hbq6 hnq hnb hnB hall hx5 hb5 hxs Hs hxl
 go_wp2_with fail
 rw [← hw5]
 clear hw5
 go_region_with fail
 all_goals
  go_wp2
  go_ret
  exact zaa HFin
end
def zyn (W:World) (B0 RB QB:Nat) (hv:Value) (hs:List (Nat×Nat)) (s:ByteArray) (p:Nat) (e:Ending) (w':World):Prop:=
 (∃ xs bv,zzx s p=.ok (xs.map (·.1))∧e=.returned .nilIface∧w'.heap[QB]? = some (.cells #[hv,bv] 188 (0,0))∧w'.ownsRow B0 268 3 bv xs.length (zkv xs)∧(∀ x∈xs,w'.ownsRow B0 327 2 x.2 x.1.ts.length (zgf x.1.ts))∧w'.ownsRow B0 307 2 hv hs.length (zl7 hs)∧zif B0 RB W w') ∨
 (∃ q v,zzx s p=.error q∧e=.returned v∧ErrAt B0 w' v 5 q∧zif B0 RB W w')
theorem zu7 (RB QB B0:Nat) (s:ByteArray) (hv:Value) (hs:List (Nat×Nat)) (p:Nat) (W:World) (h:Rdr W RB s p) (hQ:W.heap[QB]? = some (.cells #[hv,.slice none 0 0] 188 (0,0))) (hl1:B0≤QB) (hl2:RB<B0) (hh:W.ownsRow B0 307 2 hv hs.length (zl7 hs)) :
  Calls Tryz.prog 142 #[.pointer (some ⟨RB,0,none⟩),.pointer (some ⟨QB,0,none⟩)] W (zyn W B0 RB QB hv hs s p):=by
 have hRl:=h.lt
 have hsz:=h.sz
 have hQl:QB<W.heap.size:=(Array.getElem?_eq_some_iff.1 hQ).1
 obtain ⟨W2,hW2⟩:∃ W2,W2=(W.alloc (.cells #[.pointer (some ⟨RB,0,none⟩)] 243)).alloc (.cells #[.pointer (some ⟨QB,0,none⟩)] 119):=⟨_,rfl⟩
 have hb2:Below W.heap.size W W2:=by rw [hW2];exact ((Below.refl _ _).alloc (Nat.le_refl _) _).alloc (by simp) _
 have hbox:Boxed W2 W.heap.size 243 (.pointer (some ⟨RB,0,none⟩)):=by rw [hW2];exact (Boxed.new W 243 _).alloc _
 have hboxq:Boxed W2 (W.heap.size+1) 119 (.pointer (some ⟨QB,0,none⟩)):=by rw [hW2];exact zae _ _ _ (by simp)
 have hH:zth W2 B0 RB W.heap.size (W.heap.size+1) QB hv hs []:=⟨hbox,hboxq,⟨_,[],rfl,(hb2.block QB hQl).trans hQ,World.ownsRow_nil _ _ _ _,fun x hx=>by simp at hx⟩,⟨by omega,by omega,hl1,hl2⟩,zcl hh (KeepX.ofBelow (X:=fun _=>False) hb2) (fun _ _ h=>h)⟩
 have c0:W2.cell? ⟨W.heap.size,0,none⟩=some (.pointer (some ⟨RB,0,none⟩)):=hbox.cell
 have HL:=zac (ygs RB B0 s ⟨#[97,116,111,109]⟩ (by decide) 4 (by omega) (by omega) (.pointer (some ⟨W.heap.size,0,none⟩)) (.pointer (some ⟨W.heap.size+1,0,none⟩)) (znd s) (fun acc w=>zth w B0 RB W.heap.size (W.heap.size+1) QB hv hs acc) (fun _=>True) (fun acc w w' h hk=>h.keep hk) (fun w w' _ _=>trivial) (fun acc p w hl3 hR hA hB=>zsw RB W.heap.size (W.heap.size+1) QB B0 s hv hs p acc (by omega) w hR hA hB) p W2 (h.below hb2) hH (by have:=hb2.size;omega))
 have Hb2:=zac hb2
 clear h hQ hbox hboxq hH hb2 hh
 go_enter Tryz.func142,Tryz.ntmps142
 go_wp2_with fail
 rw [← hW2]
 refine (zaa HL).mono ?_
 clear hW2
 rintro e w3 (⟨bs,q2,hl3,rfl,hR3,hH3,hK3⟩|⟨q2,v,hl3,rfl,hE3,_,hK3⟩)
 ·have c3:w3.cell? ⟨W.heap.size,0,none⟩=some (.pointer (some ⟨RB,0,none⟩)):=hH3.box.cell
  have hp:zzx s p=if zbc s q2<s.size then .error (zbc s q2) else .ok bs:=by unfold zzx;rw [hl3]
  have Hsk:=zac (zzg RB s q2 w3 hR3)
  have HK3:=zac ((KeepX.ofBelow (zaa Hb2)).trans hK3:zif B0 RB W w3)
  have HH3:=zac hH3
  clear hR3 hH3 hK3 hl3 HL
  obtain ⟨q,hq⟩:∃ q,q=zbc s q2:=⟨_,rfl⟩
  rw [← hq] at hp Hsk
  clear hq
  by_cases hlt:q<s.size
  ·rw [if_pos hlt] at hp
   have hz:(q:Int)<(s.size:Int):=by omega
   have Hp:=zac hp
   clear hp
   go_wp2_with fail
   refine (zaa Hsk).mono ?_
   rintro e w4 ⟨rfl,hR4,hK4⟩
   have hH4:=(zaa HH3).keep hK4
   have c4:w4.cell? ⟨W.heap.size,0,none⟩=some (.pointer (some ⟨RB,0,none⟩)):=hH4.box.cell
   have d0:=hR4.c0
   have d1:=hR4.c1
   have Hf:=zac (fun n=>zf8 RB s q (w4.drewN n) (hR4.below (zed _ _ _)))
   have HK4:=zac hK4
   clear hR4 hH4 hK4
   go_wp2_with fail
   go_quiet (fail)
   have c5:(w4.drewN nq).cell? ⟨W.heap.size,0,none⟩=some (.pointer (some ⟨RB,0,none⟩)):=c4
   go_wp2_with (first|(go_at_call 181;refine ((zaa Hf) _).mono ?_;rintro e w6 ⟨v,rfl,hE6,hb6⟩;have HE6:=zac hE6;have Hb6:=zac hb6;clear hE6 hb6))
   go_ret
   exact .inr ⟨q,v,zaa Hp,rfl,(zaa HE6).mono (by have:=(zaa HK3).size;have:=(zaa HK4).size;have:(w4.drewN nq).heap.size=w4.heap.size:=rfl;omega),((zaa HK3).trans ((zaa HK4).mono fun q _ e=>.inl e)).trans ((KeepX.ofBelow (zed _ _ _)).trans (KeepX.ofBelow (zaa Hb6)))⟩
  ·rw [if_neg hlt] at hp
   have hz:¬ (q:Int)<(s.size:Int):=by omega
   have Hp:=zac hp
   clear hp
   go_wp2_with fail
   refine (zaa Hsk).mono ?_
   rintro e w4 ⟨rfl,hR4,hK4⟩
   have hH4:=(zaa HH3).keep hK4
   have c4:w4.cell? ⟨W.heap.size,0,none⟩=some (.pointer (some ⟨RB,0,none⟩)):=hH4.box.cell
   have d0:=hR4.c0
   have d1:=hR4.c1
   have HH4:=zac hH4
   have HK4:=zac hK4
   clear hR4 hH4 hK4
   go_wp2_with fail
   go_quiet (fail)
   go_wp2
   go_ret
   obtain ⟨bv,xs,h1,h2,h3,h4⟩:=((zaa HH4).keep (KeepX.ofBelow (zed _ nq _))).blk
   exact .inl ⟨xs,bv,by rw [zaa Hp,h1],rfl,h2,h3,h4,((zaa HH4).keep (KeepX.ofBelow (zed _ nq _))).head,((zaa HK3).trans ((zaa HK4).mono fun q _ e=>.inl e)).trans (KeepX.ofBelow (zed _ _ _))⟩
 ·obtain ⟨ty,b,rfl,hty⟩:=hE3.form
  have HF:=zac (show zyn W B0 RB QB hv hs s p (.returned (.iface ty (.pointer (some ⟨b,0,none⟩)))) w3 from .inr ⟨q2,_,by unfold zzx;rw [hl3],rfl,hE3,(KeepX.ofBelow (zaa Hb2)).trans hK3⟩)
  clear hE3 hK3 hl3
  go_wp2
  go_ret
  exact zaa HF
def yfs (W:World) (RB:Nat) (s:ByteArray) (p:Nat) (e:Ending) (w':World):Prop:=
 (∃ q,zxf s p=.ok q∧e=.returned .nilIface∧Rdr w' RB s q∧KeepX (fun q=>q=RB) W w') ∨
 (∃ q v,zxf s p=.error q∧e=.returned v∧ErrAt W.heap.size w' v 5 q∧KeepX (fun q=>q=RB) W w')
theorem zu9 (RB:Nat) (s:ByteArray) (p:Nat) (W:World) (h:Rdr W RB s p) :
  Calls Tryz.prog 141 #[.pointer (some ⟨RB,0,none⟩)] W (yfs W RB s p):=by
 have Hm:=zac (zk4 RB s p 58 (by omega) W h)
 clear h
 go_enter Tryz.func141,Tryz.ntmps141
 go_wp2_with fail
 refine (zaa Hm).mono ?_
 rintro e w1 (⟨q,h1,rfl,hR1,hK1⟩|⟨q,v,h1,rfl,hE1,hK1⟩)
 ·have hmk:zxf s p=if zaq s q=45 then .ok (q+1) else .error q:=by unfold zxf;rw [h1]
  have Hh:=zac (zfr RB s q w1 hR1)
  by_cases hb:zaq s q=45
  ·have hlt:q<s.size:=zds (by omega)
   rw [if_pos hb] at hmk
   rw [hb] at Hh
   have hsz:=hR1.sz
   have Hmk:=zac hmk
   have HR1:=zac hR1
   have HK1:=zac hK1
   clear hmk hR1 hK1 h1 Hm hb
   go_wp2_with (first
    | (go_at_call 182;refine (zaa Hh).mono ?_;rintro e w3 ⟨rfl,hd⟩;have hR3:=(zaa HR1).below hd.bel;have d1:=hR3.c1;have f1:=hR3.f1;have HR3:=zac hR3;have Hd:=zac hd;clear hR3 hd))
   go_ret
   exact .inl ⟨q+1,zaa Hmk,rfl,zfx (q:=q+1) (zaa HR3) (by omega),((zaa HK1).trans (KeepX.ofBelow (zaa Hd).bel)).trans (za4 _ _ _ _)⟩
  ·rw [if_neg hb] at hmk
   have hbz:¬ (zaq s q:Int)=45:=by omega
   have Hmk:=zac hmk
   have HR1:=zac hR1
   have HK1:=zac hK1
   clear hmk hR1 hK1 h1 Hm
   generalize zaq s q=bq at *
   go_wp2_with (first
    | (go_at_call 182;refine (zaa Hh).mono ?_;rintro e w3 ⟨rfl,hd⟩;have hR3:=(zaa HR1).below hd.bel;have HR3:=zac hR3;have Hd:=zac hd;clear hR3 hd)
    | (go_at_call 181;refine (zf8 RB s q _ (zaa HR3)).mono ?_;rintro e w4 ⟨v,rfl,hE4,hb4⟩;have HE4:=zac hE4;have Hb4:=zac hb4;clear hE4 hb4))
   go_ret
   exact .inr ⟨q,v,zaa Hmk,rfl,(zaa HE4).mono (Nat.le_trans (zaa HK1).size (zaa Hd).bel.size),((zaa HK1).trans (KeepX.ofBelow (zaa Hd).bel)).trans (KeepX.ofBelow (zaa Hb4))⟩
 ·have hmk:zxf s p=.error q:=by unfold zxf;rw [h1]
  obtain ⟨ty,b,rfl,hty⟩:=hE1.form
  have Hmk:=zac hmk
  have HE1:=zac hE1
  have HK1:=zac hK1
  clear hmk hE1 hK1 h1 Hm
  go_wp2
  go_ret
  exact .inr ⟨q,_,zaa Hmk,rfl,zaa HE1,zaa HK1⟩
def zko (W:World) (s:ByteArray) (e:Ending) (w':World):Prop:=
 (∃ hs xs hv bv QB,zff s=.ok (hs,xs.map (·.1))∧e=.returned (.tuple #[.pointer (some ⟨QB,0,none⟩),.nilIface])∧W.heap.size≤QB∧w'.heap[QB]? = some (.cells #[hv,bv] 188 (0,0))∧w'.ownsRow W.heap.size 307 2 hv hs.length (zl7 hs)∧w'.ownsRow W.heap.size 268 3 bv xs.length (zkv xs)∧(∀ x∈xs,w'.ownsRow W.heap.size 327 2 x.2 x.1.ts.length (zgf x.1.ts))∧Below W.heap.size W w') ∨
 (∃ q v,zff s=.error q∧e=.returned (.tuple #[.pointer none,v])∧ErrAt W.heap.size w' v 5 q∧Below W.heap.size W w')
theorem ze2 {W W2 w:World} {RB B:Nat} (h:Below W.heap.size W W2) (k:zif B RB W2 w) (h1:W.heap.size≤B) (h2:W.heap.size≤RB):Below W.heap.size W w:=
 h.trans ⟨k.os,k.tape,k.output,k.size,fun q hq=>k.blk q (Nat.lt_of_lt_of_le hq h.size) (fun e=>by omega)⟩
theorem yg5 (s:ByteArray) (hsz:s.size≤300) (W:World):Calls Tryz.prog 97 #[.string s] W (zko W s):=by
 obtain ⟨W2,hW2⟩:∃ W2,W2=(W.alloc (.cells #[.string s,.int .i64 0] 245)).alloc (.cells #[.slice none 0 0,.slice none 0 0] 188):=⟨_,rfl⟩
 have hb2:Below W.heap.size W W2:=by rw [hW2];exact ((Below.refl _ _).alloc (Nat.le_refl _) _).alloc (by simp) _
 have hs2:W2.heap.size=W.heap.size+2:=by rw [hW2];simp
 have hR2:Rdr W2 W.heap.size s 0:=⟨by rw [hW2,Below.heap_alloc _ _ _ (by simp)];exact zae _ _ _ rfl,Nat.zero_le _,hsz⟩
 have hQ2:W2.heap[W.heap.size+1]? = some (.cells #[.slice none 0 0,.slice none 0 0] 188 (0,0)):=by rw [hW2];exact zae _ _ _ (by simp)
 have Hh:=zac (zu8 W.heap.size (W.heap.size+1) (W.heap.size+1) s (.slice none 0 0) 0 W2 hR2 hQ2 (Nat.le_refl _) (by omega))
 have Hb2:=zac hb2
 clear hR2 hQ2 hb2
 go_enter Tryz.func97,Tryz.ntmps97
 go_wp2_with fail
 rw [← hW2]
 refine (zaa Hh).mono ?_
 clear hW2
 rintro e w3 (⟨hs,q1,hv,h1,rfl,hR3,hQ3,ho3,hK3⟩|⟨q,v,h1,rfl,hE3,hK3⟩)
 ·have Hm:=zac (zu9 W.heap.size s q1 w3 hR3)
  have HB3:=zac (ze2 (zaa Hb2) hK3 (by omega) (Nat.le_refl _))
  have hs3:=hK3.size
  have HQ3:=zac hQ3
  have Ho3:=zac ho3
  have H1:=zac h1
  clear hR3 hQ3 ho3 hK3 h1 Hh
  go_wp2_with (first
   | (go_at_call 139;refine (zuj _ _).mono ?_;rintro e w4 ⟨rfl,hw4⟩;replace hw4:=hw4.symm;subst hw4))
  refine (zaa Hm).mono ?_
  rintro e w5 (⟨q2,h2,rfl,hR5,hK5⟩|⟨q2,v,h2,rfl,hE5,hK5⟩)
  ·have hQl:W.heap.size+1<w3.heap.size:=(Array.getElem?_eq_some_iff.1 (zaa HQ3)).1
   have hQ5:=(hK5.blk (W.heap.size+1) hQl (by omega)).trans (zaa HQ3)
   have ho5:=zcl (zaa Ho3) hK5 (fun g hg=>by omega)
   have Hbd:=zac (zu7 W.heap.size (W.heap.size+1) (W.heap.size+1) s hv hs q2 w5 hR5 hQ5 (Nat.le_refl _) (by omega) ho5)
   have HB5:=zac (ze2 (B:=W.heap.size+1) (zaa HB3) (hK5.mono fun q _ e=>.inl e) (by omega) (Nat.le_refl _))
   have H2:=zac h2
   have hs5:w3.heap.size≤w5.heap.size:=hK5.size
   clear hR5 hK5 hQ5 ho5 h2 Hm
   go_wp2_with (first
    | (go_at_call 139;refine (zuj _ _).mono ?_;rintro e w6 ⟨rfl,hw6⟩;replace hw6:=hw6.symm;subst hw6))
   refine (zaa Hbd).mono ?_
   rintro e w7 (⟨xs,bv,h3,rfl,hQ7,ho7,hx7,hh7,hK7⟩|⟨q3,v,h3,rfl,hE7,hK7⟩)
   ·have HF:=zac (show zko W s (.returned (.tuple #[.pointer (some ⟨W.heap.size+1,0,none⟩),.nilIface])) w7 from .inl ⟨hs,xs,hv,bv,W.heap.size+1,by unfold zff;rw [zaa H1];simp only [zaa H2,h3],rfl,by omega,hQ7,zir hh7 (by omega),zir ho7 (by omega),fun x hx=>zir (hx7 x hx) (by omega),ze2 (zaa HB5) hK7 (by omega) (Nat.le_refl _)⟩)
    clear hQ7 ho7 hx7 hh7 hK7 h3
    go_wp2_with (first
     | (go_at_call 139;refine (zuj _ _).mono ?_;rintro e w8 ⟨rfl,hw8⟩;replace hw8:=hw8.symm;subst hw8))
    go_ret2
    exact zaa HF
   ·have Hin:=zac (zui ⟨#[98,111,100,121]⟩ v _ 5 q3 w7 hE7 (by have:=hK7.size;omega))
    have HB7:=zac (ze2 (zaa HB5) hK7 (by omega) (Nat.le_refl _))
    have Hr:=zac (show zff s=.error q3 by unfold zff;rw [zaa H1];simp only [zaa H2,h3])
    clear hE7 hK7 h3
    go_wp2_with fail
    refine (zaa Hin).mono ?_
    rintro e w8 ⟨v',rfl,hE8,hb8⟩
    obtain ⟨ty,b,rfl,hty⟩:=hE8.form
    have HF:=zac (show zko W s (.returned (.tuple #[.pointer none,.iface ty (.pointer (some ⟨b,0,none⟩))])) w8 from .inr ⟨q3,_,zaa Hr,rfl,hE8.mono (by omega),(zaa HB7).trans (hb8.mono (zaa HB7).size)⟩)
    clear hE8 hb8
    go_wp2
    go_ret2
    exact zaa HF
  ·have Hin:=zac (zui ⟨#[109,97,114,107]⟩ v _ 5 q2 w5 hE5 hK5.size)
   have HB5:=zac (ze2 (B:=W.heap.size+1) (zaa HB3) (hK5.mono fun q _ e=>.inl e) (by omega) (Nat.le_refl _))
   have Hr:=zac (show zff s=.error q2 by unfold zff;rw [zaa H1];simp only [h2])
   clear hE5 hK5 h2 Hm
   go_wp2_with fail
   refine (zaa Hin).mono ?_
   rintro e w8 ⟨v',rfl,hE8,hb8⟩
   obtain ⟨ty,b,rfl,hty⟩:=hE8.form
   have HF:=zac (show zko W s (.returned (.tuple #[.pointer none,.iface ty (.pointer (some ⟨b,0,none⟩))])) w8 from .inr ⟨q2,_,zaa Hr,rfl,hE8.mono (zaa HB3).size,(zaa HB5).trans (hb8.mono (zaa HB5).size)⟩)
   clear hE8 hb8
   go_wp2
   go_ret2
   exact zaa HF
 ·have Hin:=zac (zui ⟨#[104,101,97,100]⟩ v _ 5 q w3 hE3 (by have:=hK3.size;omega))
  have HB3:=zac (ze2 (zaa Hb2) hK3 (by omega) (Nat.le_refl _))
  have Hr:=zac (show zff s=.error q by unfold zff;rw [h1])
  clear hE3 hK3 h1 Hh
  go_wp2_with fail
  refine (zaa Hin).mono ?_
  rintro e w8 ⟨v',rfl,hE8,hb8⟩
  obtain ⟨ty,b,rfl,hty⟩:=hE8.form
  have HF:=zac (show zko W s (.returned (.tuple #[.pointer none,.iface ty (.pointer (some ⟨b,0,none⟩))])) w8 from .inr ⟨q,_,zaa Hr,rfl,hE8.mono (by omega),(zaa HB3).trans (hb8.mono (zaa HB3).size)⟩)
  clear hE8 hb8
  go_wp2
  go_ret2
  exact zaa HF
end Go.Proofs.YtoifcnidhfnapaaGreatDoor
