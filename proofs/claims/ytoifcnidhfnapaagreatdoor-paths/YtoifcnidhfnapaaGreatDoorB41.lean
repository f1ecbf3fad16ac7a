import Derived.Test.YtoifcnidhfnapaaGreatDoorB40
import Derived.Test.YtoifcnidhfnapaaGreatDoorB10
import Derived.Test.YtoifcnidhfnapaaGreatDoorB05
import Derived.Test.YtoifcnidhfnapaaGreatDoorB26
set_option linter.unusedVariables false
set_option linter.unusedSimpArgs false
set_option maxRecDepth 100000
set_option maxHeartbeats 16000000
namespace Go.Proofs.YtoifcnidhfnapaaGreatDoor
open Go.RowKit Go.Maps
theorem Tryz.info327:(Tryz.prog.info? 327).map (fun i=>(i.zero,i.size,i.bytes))=some (some (.agg #[.int .u8 0,.int .i64 0]),2,16):=by kernel_rfl
def zvo (x:Nat×Int):List Value:=[.int .u8 x.1,.int .i64 x.2]
def zgf (xs:List (Nat×Int)):List Value:=xs.flatMap zvo
abbrev zif (B0 RB:Nat) (W w:World):Prop:=KeepX (fun q=>q=RB∨B0≤q) W w
structure zpp (W:World) (B0 RB Bb AB:Nat) (nm:ByteArray) (pl:Nat) (acc:List (Nat×Int)):Prop where
 box:Boxed W Bb 243 (.pointer (some ⟨RB,0,none⟩))
 blk:∃ tv,W.heap[AB]? = some (.cells #[.string nm,.int .i64 pl,tv] 268 (0,0))∧W.ownsRow B0 327 2 tv acc.length (zgf acc)
 lo:Bb≠RB∧B0≤AB∧RB<B0
theorem zcl {X:Nat→Prop} {W W':World} {base:Nat} {e:TypeId} {size:Nat} {v:Value} {n:Nat} {xs:List Value} (h:W.ownsRow base e size v n xs) (hk:KeepX X W W') (hx:∀ g,base≤g→¬ X g):W'.ownsRow base e size v n xs:=by
 refine zcc h hk fun g hg=>hx g ?_
 rcases h.2 with ⟨rfl,_⟩|⟨g',cap,cur,rfl,hb,_⟩
 ·simp [Value.ownBlock] at hg
 ·simp only [Value.ownBlock] at hg
  injection hg with hg
  omega
theorem zpp.keep {W w:World} {B0 RB Bb AB:Nat} {nm:ByteArray} {pl:Nat} {acc:List (Nat×Int)} (h:zpp W B0 RB Bb AB nm pl acc) (hk:KeepX (fun q=>q=RB) W w):zpp w B0 RB Bb AB nm pl acc:=by
 obtain ⟨hb,⟨tv,h1,h2⟩,h3,h4,h5⟩:=h
 exact ⟨(hk.blk Bb (Array.getElem?_eq_some_iff.1 hb).1 h3).trans hb,⟨tv,(hk.blk AB (Array.getElem?_eq_some_iff.1 h1).1 (by omega)).trans h1,zcl h2 hk (fun g hg=>by omega)⟩,h3,h4,h5⟩
def zfq {α:Type} (B0 RB:Nat) (s:ByteArray) (r:Except Nat (α×Nat)) (J:α→World→Prop) (J':World→Prop) (W:World) (e:Ending) (w':World):Prop:=
 (∃ x q,r=.ok (x,q)∧e=.returned .nilIface∧Rdr w' RB s q∧J x w'∧zif B0 RB W w')∨(∃ q v,r=.error q∧e=.returned v∧ErrAt B0 w' v 5 q∧J' w'∧zif B0 RB W w')
theorem zd5 {W:World} {B0 n:Nat} {tv:Value} {xs:List Value} (h:W.ownsRow B0 327 2 tv n xs) {g:Nat} (hg:tv.ownBlock=some g):B0≤g∧∃ cur,W.heap[g]? = some (.cells cur 327 (0,0)):=by
 rcases h.2 with ⟨rfl,_⟩|⟨g',cap,cur,rfl,hb,hgh,_⟩
 ·simp [Value.ownBlock] at hg
 ·simp only [Value.ownBlock] at hg
  injection hg with hg
  subst hg
  exact ⟨hb,cur,hgh⟩
theorem zsv (RB Bb AB B0:Nat) (s nm:ByteArray) (p pl:Nat) (acc:List (Nat×Int)) (hacc:acc.length≤100) (W:World) (h:Rdr W RB s p) (hA:zpp W B0 RB Bb AB nm pl acc) :
  Calls Tryz.prog 217 #[.pointer (some ⟨Bb,0,none⟩),.pointer (some ⟨AB,0,none⟩)] W (zfq B0 RB s (zp8 s p) (fun x w=>zpp w B0 RB Bb AB nm pl (acc ++ [x])) (fun w=>∃ acc',zpp w B0 RB Bb AB nm pl acc') W):=by
 obtain ⟨i,hi,hz0,hz1,hz2⟩:=info_parts Tryz.info327
 obtain ⟨tv,hblk,hown⟩:=hA.blk
 have hbx:=hA.box
 obtain ⟨hl1,hl2,hl3⟩:=hA.lo
 have hAl:AB<W.heap.size:=(Array.getElem?_eq_some_iff.1 hblk).1
 have hbl:Bb<W.heap.size:=hbx.lt
 have cb:W.cell? ⟨Bb,0,none⟩=some (.pointer (some ⟨RB,0,none⟩)):=hbx.cell
 have HT:=zac (zvb RB s p W h)
 have Hown:=zac hown
 have Hblk:=zac hblk
 have Hbx:=zac hbx
 clear hA h hown hblk hbx
 go_enter Tryz.func217,Tryz.ntmps217
 go_wp2_with fail
 refine (zaa HT).mono ?_
 rintro e w1 hS
 -- the term as it comes,and how it ends
 obtain ⟨x,v,hsay,rfl,hK1,hvv⟩:∃ (x:Nat×Int) (v:Value),((∃ q,zp8 s p=.ok (x,q)∧v=.nilIface∧Rdr w1 RB s q)∨(∃ q,zp8 s p=.error q∧ErrAt W.heap.size w1 v 5 q))∧e=.returned (.tuple #[.agg #[.int .u8 x.1,.int .i64 x.2],v])∧KeepX (fun q=>q=RB) W w1∧True:=by
  rcases hS with ⟨x,q,h1,rfl,h2,h3⟩|⟨q,v,z,h1,rfl,h2,h3⟩
  ·exact ⟨x,.nilIface,.inl ⟨q,h1,rfl,h2⟩,rfl,h3,trivial⟩
  ·exact ⟨(0,z),v,.inr ⟨q,h1,h2⟩,rfl,h3,trivial⟩
 obtain ⟨x1,x2⟩:=x
 have hblk1:=(hK1.blk AB hAl (by omega)).trans (zaa Hblk)
 have hbx1:Boxed w1 Bb 243 (.pointer (some ⟨RB,0,none⟩)):=(hK1.blk Bb hbl (by omega)).trans (zaa Hbx)
 have hown1:w1.ownsRow B0 327 2 tv acc.length (zgf acc):=zcc (zaa Hown) hK1 (fun g hg e=>by have:=(zd5 (zaa Hown) hg).1;omega)
 have hA2:=(Below.heap_alloc w1 (.cells #[.int .u8 x1,.int .i64 x2] 327) AB (by have:=hK1.size;omega)).trans hblk1
 have c2:(w1.alloc (.cells #[.int .u8 x1,.int .i64 x2] 327)).cell? ⟨AB,2,none⟩=some tv:=zab hA2 2
 have f0:(w1.alloc (.cells #[.int .u8 x1,.int .i64 x2] 327)).cell? ⟨w1.heap.size,0,none⟩=some (.int .u8 x1):=zab (zae _ _ _ rfl) 0
 have f1:(w1.alloc (.cells #[.int .u8 x1,.int .i64 x2] 327)).cell? ⟨w1.heap.size,1,none⟩=some (.int .i64 x2):=zab (zae _ _ _ rfl) 1
 have Hsay:=zac hsay
 have HK1:=zac hK1
 have Hblk1:=zac hblk1
 have Hbx1:=zac hbx1
 have Hown1:=zac hown1
 clear hsay hK1 hblk1 hbx1 hown1 hA2 HT hS
 dsimp only
 have hnew:∀ j u,[Value.int .u8 x1,Value.int .i64 x2][j]? = some u→((w1.alloc (.cells #[.int .u8 x1,.int .i64 x2] 327)).alloc (.cells #[.int .u8 x1,.int .i64 x2] 327)).cell? ((⟨w1.heap.size+1,0,none⟩:Addr).add j)=some u:=by
  have:=zl1 (w1.alloc (.cells #[.int .u8 x1,.int .i64 x2] 327)) (.int .u8 x1) (.int .i64 x2) 327
  simpa using this
 have hneA:tv.ownBlock≠some AB:=fun e=>by
  obtain ⟨_,cur,hc⟩:=zd5 (zaa Hown1) e
  rw [zaa Hblk1] at hc
  simp at hc
 have hneB:tv.ownBlock≠some Bb:=fun e=>by
  obtain ⟨_,cur,hc⟩:=zd5 (zaa Hown1) e
  rw [show w1.heap[Bb]? = _ from zaa Hbx1] at hc
  simp at hc
 have hs1:=(zaa HK1).size
 go_wp2_with (first
  | (at_builtin;refine wpList_append_own_at _ rfl _ _ 266 rfl B0 327 i _ 2 16 Tryz.underlying266 hi hz0 hz1 hz2 rfl (by decide) _ _ _ rfl (((zaa Hown1).alloc _).alloc _) ⟨w1.heap.size+1,0,none⟩ 1 1 [.int .u8 x1,.int .i64 x2] rfl rfl hnew (by simp [Value.oneCell']) (by unfold maxLen;omega) (by omega) (by simp;omega) ?_;intro v' w2 hown2 hg2 _ _;have hA3:=(hg2.block AB (by simp;omega) (fun e=>hneA e.symm)).trans ((Below.heap_alloc _ _ AB (by simp;omega)).trans ((Below.heap_alloc _ _ AB (by omega)).trans (zaa Hblk1)));have ca:=zab hA3 2;have fa:=zad hA3 2;obtain ⟨g',cap',rfl⟩:=zgr hown2;have Hown2:=zac hown2;have Hg2:=zac hg2;have HA3:=zac hA3;clear hown2 hg2 hA3))
 go_ret
 show zfq B0 RB s (zp8 s p) _ _ W (.returned v) (w2.setCell ⟨AB,2,none⟩ (.slice (some ⟨g',0,none⟩) (acc.length+1) cap'))
 have hBA:Bb≠AB:=fun e=>by
  have h1:=zaa Hblk1
  rw [← e,show w1.heap[Bb]? = _ from zaa Hbx1] at h1
  simp at h1
 have hgA:g'≠AB:=fun e=>by
  obtain ⟨_,cur,hc⟩:=zd5 (zaa Hown2) (g:=g') rfl
  rw [e,zaa HA3] at hc
  simp at hc
 have hg2:=zaa Hg2
 have hK2:KeepX (fun q=>tv.ownBlock=some q∨q=AB) w1 w2:=(KeepX.ofBelow (((Below.refl _ w1).alloc (Nat.le_refl _) _).alloc (by simp) _)).trans ⟨hg2.os,hg2.tape,hg2.output,hg2.size,fun q hq hx=>hg2.block q hq (fun e=>hx (.inl e.symm))⟩
 have hK3:KeepX (fun q=>tv.ownBlock=some q∨q=AB) w1 (w2.setCell ⟨AB,2,none⟩ (.slice (some ⟨g',0,none⟩) (acc.length+1) cap')):=hK2.trans ((za4 w2 AB 2 _).mono fun q _ e=>.inr e)
 have hXB:∀ q,(tv.ownBlock=some q∨q=AB)→B0≤q∧q<W.heap.size:=fun q hq=>by
  rcases hq with hq|hq
  ·obtain ⟨h1,cur,h2⟩:=zd5 (zaa Hown) hq
   exact ⟨h1,(Array.getElem?_eq_some_iff.1 h2).1⟩
  ·subst hq;exact ⟨hl2,hAl⟩
 have hKR:zif B0 RB W (w2.setCell ⟨AB,2,none⟩ (.slice (some ⟨g',0,none⟩) (acc.length+1) cap')):=((zaa HK1).mono fun q _ e=>.inl e).trans (hK3.mono fun q _ e=>.inr (hXB q e).1)
 have hAtom:zpp (w2.setCell ⟨AB,2,none⟩ (.slice (some ⟨g',0,none⟩) (acc.length+1) cap')) B0 RB Bb AB nm pl (acc ++ [(x1,x2)]):=by
  refine ⟨?_,⟨.slice (some ⟨g',0,none⟩) (acc.length+1) cap',?_,?_⟩,hl1,hl2,hl3⟩
  ·exact (hK3.blk Bb (by omega) (fun e=>e.elim hneB hBA)).trans (zaa Hbx1)
  ·simp only [World.setCell]
   rw [Array.getElem?_modify,if_pos rfl,zaa HA3]
   rfl
  ·have e:zgf (acc ++ [(x1,x2)])=zgf acc ++ [.int .u8 x1,.int .i64 x2]:=by simp [zgf,zvo]
   rw [e,List.length_append]
   refine zcc (zaa Hown2) (za4 w2 AB 2 _) (fun g hg=>?_)
   simp only [Value.ownBlock] at hg
   injection hg with hg
   omega
 rcases zaa Hsay with ⟨q,h1,rfl,hR⟩|⟨q,h1,hE⟩
 ·exact .inl ⟨(x1,x2),q,h1,rfl,hR.keep (hK3.blk RB hR.lt (fun e=>by have:=(hXB RB e).1;omega)),hAtom,hKR⟩
 ·exact .inr ⟨q,v,h1,rfl,(hE.keep hK3 (fun k hk=>(hXB k hk).2)).mono (by have:=(hXB AB (.inr rfl)).1;omega),⟨_,hAtom⟩,hKR⟩
theorem zsc {α:Type} {item:Nat→Except Nat (α×Nat)} {s:ByteArray} {m p q:Nat} {acc:List α} {x:α} (h:item p=.ok (x,q)):zhg item s (m+1) p acc=if m=0 then .ok (acc ++ [x],q) else if zaq s (zbc s q)=44 then zhg item s m (zbc s q+1) (acc ++ [x]) else .ok (acc ++ [x],zbc s q):=by
 simp only [zhg,h]
theorem zoq {α:Type} {item:Nat→Except Nat (α×Nat)} {s:ByteArray} {m p q:Nat} {acc:List α} (h:item p=.error q):zhg item s (m+1) p acc=.error q:=by
 simp only [zhg,h]
def zrn {α:Type} (B0 RB:Nat) (s:ByteArray) (r:Except Nat (List α×Nat)) (J:List α→World→Prop) (J':World→Prop) (W:World) (e:Ending) (w':World):Prop:=
 (∃ xs q,r=.ok (xs,q)∧e=.returned .nilIface∧Rdr w' RB s q∧J xs w'∧zif B0 RB W w')∨(∃ q v,r=.error q∧e=.returned v∧ErrAt B0 w' v 5 q∧J' w'∧zif B0 RB W w')
theorem ygt {α:Type} (RB B0:Nat) (s t:ByteArray) (ht:t.size≤1000) (most:Nat) (h1:1≤most) (h9:most≤9) (c1 c2:Value) (item:Nat→Except Nat (α×Nat)) (J:List α→World→Prop) (J':World→Prop)
  (hJ:∀ acc w w',J acc w→KeepX (fun q=>q=RB) w w'→J acc w') (hJ':∀ w w',J' w→KeepX (fun q=>q=RB) w w'→J' w')
  (hcall:∀ acc p w,acc.length<most→Rdr w RB s p→J acc w→B0≤w.heap.size→Calls Tryz.prog 217 #[c1,c2] w (zfq B0 RB s (item p) (fun x w'=>J (acc ++ [x]) w') J' w))
  (p:Nat) (W:World) (hR:Rdr W RB s p) (h0:J [] W) (hB:B0≤W.heap.size) :
  Calls Tryz.prog 178 #[.pointer (some ⟨RB,0,none⟩),.string t,.int .i64 most,.func (.func 217) #[] #[c1,c2]] W (zrn B0 RB s (zhg item s most p []) J J' W):=by
 have HR:=zac hR
 have H0:=zac h0
 have Hcall:=zac hcall
 have HJ:=zac hJ
 have HJ':=zac hJ'
 clear hR h0 hcall hJ hJ'
 go_enter Tryz.func178,Tryz.ntmps178
 go_wp2
 go_loopw [9] (fun i wr=>∃ (k p':Nat) (acc:List α),acc.length=k∧k<most∧i=.int .i64 ((k:Int)+1)∧Rdr wr RB s p'∧J acc wr∧zif B0 RB W wr∧zhg item s (most - k) p' acc=zhg item s most p []) (fun i _=>most - (intOf i).toNat)
 case atStart=>exact ⟨0,p,[],rfl,by omega,rfl,zaa HR,zaa H0,KeepX.refl _ _,by simp⟩
 case round =>
  obtain ⟨k,p',acc,hk,hlt,rfl,hRr,hJr,hKr,hlist⟩:=hrel
  have hBr:B0≤wr.heap.size:=Nat.le_trans hB hKr.size
  have Hc:=zac ((zaa Hcall) acc p' wr (by omega) hRr hJr hBr)
  have HKr:=zac hKr
  have Hlist:=zac hlist
  obtain ⟨m,hm⟩:∃ m,most - k=m+1:=⟨most - k - 1,by omega⟩
  rw [hm] at hlist
  have Hl:=zac hlist
  clear hRr hJr hKr hlist
  go_wp2_with fail
  refine (zaa Hc).mono ?_
  rintro e w1 (⟨x,q,hi,rfl,hR1,hJ1,hK1⟩|⟨q,v,hi,rfl,hE1,hJ1,hK1⟩)
  ·have hl2:=(zsc hi).symm.trans (zaa Hl)
   by_cases hmost:k+1=most
   ·have hz:(k:Int)+1=(most:Int):=by omega
    rw [if_pos (show m=0 by omega)] at hl2
    have HF:=zac (And.intro hl2.symm (And.intro hR1 (And.intro hJ1 ((zaa HKr).trans hK1))))
    clear hl2 hR1 hJ1 hK1 Hc Hl hi
    go_wp2
    go_ret
    exact .inl ⟨_,_,(zaa HF).1,rfl,(zaa HF).2.1,(zaa HF).2.2.1,(zaa HF).2.2.2⟩
   ·have hz:¬ (k:Int)+1=(most:Int):=by omega
    rw [if_neg (show ¬ m=0 by omega)] at hl2
    have Ht:=zac (zlh RB s q 44 (by omega) w1 hR1)
    by_cases hcm:zaq s (zbc s q)=44
    ·rw [if_pos hcm] at hl2 Ht
     rw [decide_eq_true hcm] at Ht
     have HJ1:=zac hJ1
     have HK1:=zac ((zaa HKr).trans hK1)
     have Hl2:=zac hl2
     clear hl2 hR1 hJ1 hK1 Hc Hl hi hcm
     go_wp2_with (first|(go_at_call 177;refine (zaa Ht).mono ?_;rintro e w2 ⟨rfl,hR2,hK2⟩;have HR2:=zac hR2;have HK2:=zac hK2;clear hR2 hK2))
     go_roundw
     case rel=>exact ⟨k+1,_,acc ++ [x],by simp [hk],by omega,by go_num,zaa HR2,(zaa HJ) _ _ _ (zaa HJ1) (zaa HK2),(zaa HK1).trans ((zaa HK2).mono fun q _ e=>.inl e),by rw [show most - (k+1)=m by omega];exact zaa Hl2⟩
     case measure=>simp [intOf];omega
    ·rw [if_neg hcm] at hl2 Ht
     rw [decide_eq_false hcm] at Ht
     have HJ1:=zac hJ1
     have HK1:=zac ((zaa HKr).trans hK1)
     have Hl2:=zac hl2
     clear hl2 hR1 hJ1 hK1 Hc Hl hi hcm
     go_wp2_with (first|(go_at_call 177;refine (zaa Ht).mono ?_;rintro e w2 ⟨rfl,hR2,hK2⟩;have HR2:=zac hR2;have HK2:=zac hK2;clear hR2 hK2))
     go_ret
     exact .inl ⟨_,_,(zaa Hl2).symm,rfl,zaa HR2,(zaa HJ) _ _ _ (zaa HJ1) (zaa HK2),(zaa HK1).trans ((zaa HK2).mono fun q _ e=>.inl e)⟩
  ·have hl2:=(zoq hi).symm.trans (zaa Hl)
   obtain ⟨ty,b,rfl,hty⟩:=hE1.form
   have Hi:=zac (zl9 t (k+1) _ B0 5 q w1 ht (by omega) hE1 (Nat.le_trans hBr hK1.size))
   have HJ1:=zac hJ1
   have HK1:=zac ((zaa HKr).trans hK1)
   have Hl2:=zac hl2
   clear hl2 hE1 hJ1 hK1 Hc Hl hi
   go_wp2_with (first|(go_at_call 186;refine (zaa Hi).mono ?_;rintro e w2 ⟨v',rfl,hE2,hb2⟩;have HE2:=zac hE2;have Hb2:=zac hb2;clear hE2 hb2))
   go_ret
   exact .inr ⟨_,_,(zaa Hl2).symm,rfl,zaa HE2,(zaa HJ') _ _ (zaa HJ1) (KeepX.ofBelow (zaa Hb2)),(zaa HK1).trans (KeepX.ofBelow (zaa Hb2))⟩
theorem ygr {α:Type} (RB B0:Nat) (s t:ByteArray) (ht:t.size≤1000) (most:Nat) (h1:1≤most) (h9:most≤9) (c1 c2:Value) (item:Nat→Except Nat (α×Nat)) (J:List α→World→Prop) (J':World→Prop)
  (hJ:∀ acc w w',J acc w→KeepX (fun q=>q=RB) w w'→J acc w') (hJ':∀ w w',J' w→KeepX (fun q=>q=RB) w w'→J' w')
  (hcall:∀ acc p w,acc.length<most→Rdr w RB s p→J acc w→B0≤w.heap.size→Calls Tryz.prog 179 #[c1,c2] w (zfq B0 RB s (item p) (fun x w'=>J (acc ++ [x]) w') J' w))
  (p:Nat) (W:World) (hR:Rdr W RB s p) (h0:J [] W) (hB:B0≤W.heap.size) :
  Calls Tryz.prog 178 #[.pointer (some ⟨RB,0,none⟩),.string t,.int .i64 most,.func (.func 179) #[] #[c1,c2]] W (zrn B0 RB s (zhg item s most p []) J J' W):=by
 have HR:=zac hR
 have H0:=zac h0
 have Hcall:=zac hcall
 have HJ:=zac hJ
 have HJ':=zac hJ'
 clear hR h0 hcall hJ hJ'
 go_enter Tryz.func178,Tryz.ntmps178
 go_wp2
 go_loopw [9] (fun i wr=>∃ (k p':Nat) (acc:List α),acc.length=k∧k<most∧i=.int .i64 ((k:Int)+1)∧Rdr wr RB s p'∧J acc wr∧zif B0 RB W wr∧zhg item s (most - k) p' acc=zhg item s most p []) (fun i _=>most - (intOf i).toNat)
 case atStart=>exact ⟨0,p,[],rfl,by omega,rfl,zaa HR,zaa H0,KeepX.refl _ _,by simp⟩
 case round =>
  obtain ⟨k,p',acc,hk,hlt,rfl,hRr,hJr,hKr,hlist⟩:=hrel
  have hBr:B0≤wr.heap.size:=Nat.le_trans hB hKr.size
  have Hc:=zac ((zaa Hcall) acc p' wr (by omega) hRr hJr hBr)
  have HKr:=zac hKr
  have Hlist:=zac hlist
  obtain ⟨m,hm⟩:∃ m,most - k=m+1:=⟨most - k - 1,by omega⟩
  rw [hm] at hlist
  have Hl:=zac hlist
  clear hRr hJr hKr hlist
  go_wp2_with fail
  refine (zaa Hc).mono ?_
  rintro e w1 (⟨x,q,hi,rfl,hR1,hJ1,hK1⟩|⟨q,v,hi,rfl,hE1,hJ1,hK1⟩)
  ·have hl2:=(zsc hi).symm.trans (zaa Hl)
   by_cases hmost:k+1=most
   ·have hz:(k:Int)+1=(most:Int):=by omega
    rw [if_pos (show m=0 by omega)] at hl2
    have HF:=zac (And.intro hl2.symm (And.intro hR1 (And.intro hJ1 ((zaa HKr).trans hK1))))
    clear hl2 hR1 hJ1 hK1 Hc Hl hi
    go_wp2
    go_ret
    exact .inl ⟨_,_,(zaa HF).1,rfl,(zaa HF).2.1,(zaa HF).2.2.1,(zaa HF).2.2.2⟩
   ·have hz:¬ (k:Int)+1=(most:Int):=by omega
    rw [if_neg (show ¬ m=0 by omega)] at hl2
    have Ht:=zac (zlh RB s q 44 (by omega) w1 hR1)
    by_cases hcm:zaq s (zbc s q)=44
    ·rw [if_pos hcm] at hl2 Ht
     rw [decide_eq_true hcm] at Ht
     have HJ1:=zac hJ1
     have HK1:=zac ((zaa HKr).trans hK1)
     have Hl2:=zac hl2
     clear hl2 hR1 hJ1 hK1 Hc Hl hi hcm
     go_wp2_with (first|(go_at_call 177;refine (zaa Ht).mono ?_;rintro e w2 ⟨rfl,hR2,hK2⟩;have HR2:=zac hR2;have HK2:=zac hK2;clear hR2 hK2))
     go_roundw
     case rel=>exact ⟨k+1,_,acc ++ [x],by simp [hk],by omega,by go_num,zaa HR2,(zaa HJ) _ _ _ (zaa HJ1) (zaa HK2),(zaa HK1).trans ((zaa HK2).mono fun q _ e=>.inl e),by rw [show most - (k+1)=m by omega];exact zaa Hl2⟩
     case measure=>simp [intOf];omega
    ·rw [if_neg hcm] at hl2 Ht
     rw [decide_eq_false hcm] at Ht
     have HJ1:=zac hJ1
     have HK1:=zac ((zaa HKr).trans hK1)
     have Hl2:=zac hl2
     clear hl2 hR1 hJ1 hK1 Hc Hl hi hcm
     go_wp2_with (first|(go_at_call 177;refine (zaa Ht).mono ?_;rintro e w2 ⟨rfl,hR2,hK2⟩;have HR2:=zac hR2;have HK2:=zac hK2;clear hR2 hK2))
     go_ret
     exact .inl ⟨_,_,(zaa Hl2).symm,rfl,zaa HR2,(zaa HJ) _ _ _ (zaa HJ1) (zaa HK2),(zaa HK1).trans ((zaa HK2).mono fun q _ e=>.inl e)⟩
  ·have hl2:=(zoq hi).symm.trans (zaa Hl)
   obtain ⟨ty,b,rfl,hty⟩:=hE1.form
   have Hi:=zac (zl9 t (k+1) _ B0 5 q w1 ht (by omega) hE1 (Nat.le_trans hBr hK1.size))
   have HJ1:=zac hJ1
   have HK1:=zac ((zaa HKr).trans hK1)
   have Hl2:=zac hl2
   clear hl2 hE1 hJ1 hK1 Hc Hl hi
   go_wp2_with (first|(go_at_call 186;refine (zaa Hi).mono ?_;rintro e w2 ⟨v',rfl,hE2,hb2⟩;have HE2:=zac hE2;have Hb2:=zac hb2;clear hE2 hb2))
   go_ret
   exact .inr ⟨_,_,(zaa Hl2).symm,rfl,zaa HE2,(zaa HJ') _ _ (zaa HJ1) (KeepX.ofBelow (zaa Hb2)),(zaa HK1).trans (KeepX.ofBelow (zaa Hb2))⟩
theorem ygs {α:Type} (RB B0:Nat) (s t:ByteArray) (ht:t.size≤1000) (most:Nat) (h1:1≤most) (h9:most≤9) (c1 c2:Value) (item:Nat→Except Nat (α×Nat)) (J:List α→World→Prop) (J':World→Prop)
  (hJ:∀ acc w w',J acc w→KeepX (fun q=>q=RB) w w'→J acc w') (hJ':∀ w w',J' w→KeepX (fun q=>q=RB) w w'→J' w')
  (hcall:∀ acc p w,acc.length<most→Rdr w RB s p→J acc w→B0≤w.heap.size→Calls Tryz.prog 183 #[c1,c2] w (zfq B0 RB s (item p) (fun x w'=>J (acc ++ [x]) w') J' w))
  (p:Nat) (W:World) (hR:Rdr W RB s p) (h0:J [] W) (hB:B0≤W.heap.size) :
  Calls Tryz.prog 178 #[.pointer (some ⟨RB,0,none⟩),.string t,.int .i64 most,.func (.func 183) #[] #[c1,c2]] W (zrn B0 RB s (zhg item s most p []) J J' W):=by
 have HR:=zac hR
 have H0:=zac h0
 have Hcall:=zac hcall
 have HJ:=zac hJ
 have HJ':=zac hJ'
 clear hR h0 hcall hJ hJ'
 go_enter Tryz.func178,Tryz.ntmps178
 go_wp2
 go_loopw [9] (fun i wr=>∃ (k p':Nat) (acc:List α),acc.length=k∧k<most∧i=.int .i64 ((k:Int)+1)∧Rdr wr RB s p'∧J acc wr∧zif B0 RB W wr∧zhg item s (most - k) p' acc=zhg item s most p []) (fun i _=>most - (intOf i).toNat)
 case atStart=>exact ⟨0,p,[],rfl,by omega,rfl,zaa HR,zaa H0,KeepX.refl _ _,by simp⟩
 case round =>
  obtain ⟨k,p',acc,hk,hlt,rfl,hRr,hJr,hKr,hlist⟩:=hrel
  have hBr:B0≤wr.heap.size:=Nat.le_trans hB hKr.size
  have Hc:=zac ((zaa Hcall) acc p' wr (by omega) hRr hJr hBr)
  have HKr:=zac hKr
  have Hlist:=zac hlist
  obtain ⟨m,hm⟩:∃ m,most - k=m+1:=⟨most - k - 1,by omega⟩
  rw [hm] at hlist
  have Hl:=zac hlist
  clear hRr hJr hKr hlist
  go_wp2_with fail
  refine (zaa Hc).mono ?_
  rintro e w1 (⟨x,q,hi,rfl,hR1,hJ1,hK1⟩|⟨q,v,hi,rfl,hE1,hJ1,hK1⟩)
  ·have hl2:=(zsc hi).symm.trans (zaa Hl)
   by_cases hmost:k+1=most
   ·have hz:(k:Int)+1=(most:Int):=by omega
    rw [if_pos (show m=0 by omega)] at hl2
    have HF:=zac (And.intro hl2.symm (And.intro hR1 (And.intro hJ1 ((zaa HKr).trans hK1))))
    clear hl2 hR1 hJ1 hK1 Hc Hl hi
    go_wp2
    go_ret
    exact .inl ⟨_,_,(zaa HF).1,rfl,(zaa HF).2.1,(zaa HF).2.2.1,(zaa HF).2.2.2⟩
   ·have hz:¬ (k:Int)+1=(most:Int):=by omega
    rw [if_neg (show ¬ m=0 by omega)] at hl2
    have Ht:=zac (zlh RB s q 44 (by omega) w1 hR1)
    by_cases hcm:zaq s (zbc s q)=44
    ·rw [if_pos hcm] at hl2 Ht
     rw [decide_eq_true hcm] at Ht
     have HJ1:=zac hJ1
     have HK1:=zac ((zaa HKr).trans hK1)
     have Hl2:=zac hl2
     clear hl2 hR1 hJ1 hK1 Hc Hl hi hcm
     go_wp2_with (first|(go_at_call 177;refine (zaa Ht).mono ?_;rintro e w2 ⟨rfl,hR2,hK2⟩;have HR2:=zac hR2;have HK2:=zac hK2;clear hR2 hK2))
     go_roundw
     case rel=>exact ⟨k+1,_,acc ++ [x],by simp [hk],by omega,by go_num,zaa HR2,(zaa HJ) _ _ _ (zaa HJ1) (zaa HK2),(zaa HK1).trans ((zaa HK2).mono fun q _ e=>.inl e),by rw [show most - (k+1)=m by omega];exact zaa Hl2⟩
     case measure=>simp [intOf];omega
    ·rw [if_neg hcm] at hl2 Ht
     rw [decide_eq_false hcm] at Ht
     have HJ1:=zac hJ1
     have HK1:=zac ((zaa HKr).trans hK1)
     have Hl2:=zac hl2
     clear hl2 hR1 hJ1 hK1 Hc Hl hi hcm
     go_wp2_with (first|(go_at_call 177;refine (zaa Ht).mono ?_;rintro e w2 ⟨rfl,hR2,hK2⟩;have HR2:=zac hR2;have HK2:=zac hK2;clear hR2 hK2))
     go_ret
     exact .inl ⟨_,_,(zaa Hl2).symm,rfl,zaa HR2,(zaa HJ) _ _ _ (zaa HJ1) (zaa HK2),(zaa HK1).trans ((zaa HK2).mono fun q _ e=>.inl e)⟩
  ·have hl2:=(zoq hi).symm.trans (zaa Hl)
   obtain ⟨ty,b,rfl,hty⟩:=hE1.form
   have Hi:=zac (zl9 t (k+1) _ B0 5 q w1 ht (by omega) hE1 (Nat.le_trans hBr hK1.size))
   have HJ1:=zac hJ1
   have HK1:=zac ((zaa HKr).trans hK1)
   have Hl2:=zac hl2
   clear hl2 hE1 hJ1 hK1 Hc Hl hi
   go_wp2_with (first|(go_at_call 186;refine (zaa Hi).mono ?_;rintro e w2 ⟨v',rfl,hE2,hb2⟩;have HE2:=zac hE2;have Hb2:=zac hb2;clear hE2 hb2))
   go_ret
   exact .inr ⟨_,_,(zaa Hl2).symm,rfl,zaa HE2,(zaa HJ') _ _ (zaa HJ1) (KeepX.ofBelow (zaa Hb2)),(zaa HK1).trans (KeepX.ofBelow (zaa Hb2))⟩
end Go.Proofs.YtoifcnidhfnapaaGreatDoor
