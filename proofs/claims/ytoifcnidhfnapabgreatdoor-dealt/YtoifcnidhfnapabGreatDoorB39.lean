import Derived.Test.YtoifcnidhfnapabGreatDoorB38
import Derived.Test.YtoifcnidhfnapabGreatDoorB10
import Derived.Test.YtoifcnidhfnapabGreatDoorB05
import Derived.Test.YtoifcnidhfnapabGreatDoorB25
set_option linter.unusedVariables false
set_option linter.unusedSimpArgs false
set_option maxRecDepth 100000
set_option maxHeartbeats 16000000
namespace Go.Proofs.YtoifcnidhfnapabGreatDoor
open Go.RowKit Go.Maps
def ymp (W:World) (RB:Nat):Nat:=match W.cell? ⟨RB,1,none⟩ with|some (.int _ z)=>z.toNat|_=>0
theorem Rdr.pl {W:World} {RB:Nat} {s:ByteArray} {p:Nat} (h:Rdr W RB s p):ymp W RB=p:=by
 unfold ymp
 rw [h.c1]
 simp
def zoa (s:ByteArray) (RB p:Nat) (W:World) (e:Ending) (w':World):Prop:=
 (∃ z q,yku s p=.ok (z,q)∧e=.returned (.tuple #[.int .i64 z,.nilIface])∧Rdr w' RB s q∧KeepX (fun q=>q=RB) W w')∨(∃ q v,yku s p=.error q∧e=.returned (.tuple #[.int .i64 0,v])∧zcx W.heap.size w' v 5 q∧KeepX (fun q=>q=RB) W w')
theorem zql (RB:Nat) (s:ByteArray) (p:Nat) (W:World) (h:Rdr W RB s p) :
  Calls Tryz.prog 173 #[.pointer (some ⟨RB,0,none⟩)] W (zoa s RB p W):=by
 have hh:=zfk RB s p W h
 have hsz:=h.sz
 have hle:=h.le
 have hRl:=h.lt
 obtain ⟨q0,hq0⟩:∃ q0,q0=if zaq s p=45 then p+1 else p:=⟨_,rfl⟩
 obtain ⟨sg,hsg⟩:∃ sg:Int,sg=if zaq s p=45 then -1 else 1:=⟨_,rfl⟩
 have hq0s:q0≤s.size:=by
  rw [hq0]
  split
  ·rename_i hm
   have:=zdv (s:=s) (p:=p) (by omega)
   omega
  ·exact hle
 obtain ⟨rv,hrv⟩:∃ rv,rv=yb4 s 9 q0 0:=⟨_,rfl⟩
 have hres:yku s p=if rv.2=q0 then Except.error q0 else Except.ok (sg*(rv.1:Int),rv.2):=by
  unfold yku
  dsimp only
  rw [← hq0,← hrv,hsg]
  by_cases hm:zaq s p=45
  ·rw [if_pos hm,if_pos hm];simp
  ·rw [if_neg hm,if_neg hm];simp
 have hfin0:∀ (w':World) (v:Value),rv.2=q0→zcx W.heap.size w' v 5 q0→KeepX (fun q=>q=RB) W w'→zoa s RB p W (.returned (.tuple #[.int .i64 0,v])) w':=fun w' v he hE hK=>.inr ⟨q0,v,by rw [hres,if_pos he],rfl,hE,hK⟩
 have hfin1:∀ (w':World) (acc k:Nat),rv=(acc,q0+k)→k≠0→Rdr w' RB s (q0+k)→KeepX (fun q=>q=RB) W w'→zoa s RB p W (.returned (.tuple #[.int .i64 (sg*(acc:Int)),.nilIface])) w':=fun w' acc k he hk hR hK=>.inl ⟨_,_,by rw [hres,he,if_neg (by dsimp only;omega)],rfl,hR,hK⟩
 have hsg2:sg=1∨sg=-1:=by rw [hsg];split <;> simp
 have Hq:=zac hrv
 have H:=zac h
 have Hh:=zac hh
 have Hfin0:=zac hfin0
 have Hfin1:=zac hfin1
 clear hrv hres h hh hfin0 hfin1
 by_cases hm:zaq s p=45
 ·rw [if_pos hm] at hq0 hsg
  have hlt:p<s.size:=zdv (by omega)
  rw [hm] at Hh
  clear hm
  subst hq0
  have hf1:∀ (w':World) (acc k:Nat),rv=(acc,p+1+k)→k≠0→Rdr w' RB s (p+1+k)→KeepX (fun q=>q=RB) W w'→zoa s RB p W (.returned (.tuple #[.int .i64 (-(acc:Int)),.nilIface])) w':=fun w' acc k a b c d=>by
   have h:=(zaa Hfin1) w' acc k a b c d
   rw [hsg,show (-1:Int)*(acc:Int)=-(acc:Int) by omega] at h
   exact h
  have Hf1:=zac hf1
  clear hf1 hsg hsg2 Hfin1
  go_enter Tryz.func173,Tryz.ntmps173
  go_wp2_with (first|(go_at_call 111;refine (zaa Hh).mono ?_;rintro e w1 ⟨rfl,hd⟩;have hR1:=(zaa H).below hd.bel;have d1:=hR1.c1;have f1:=hR1.f1;have HR1:=zac hR1;have Hd:=zac hd;clear hR1 hd))
  have hS:Rdr (w1.setCell ⟨RB,1,none⟩ (.int .i64 ((p:Int)+1))) RB s (p+1):=zfn (q:=p+1) (zaa HR1) (by omega)
  have hK:KeepX (fun q=>q=RB) W (w1.setCell ⟨RB,1,none⟩ (.int .i64 ((p:Int)+1))):=(KeepX.ofBelow (zaa Hd).bel).trans (za4 _ _ _ _)
  obtain ⟨w2,hw2⟩:∃ w2,w2=w1.setCell ⟨RB,1,none⟩ (.int .i64 ((p:Int)+1)):=⟨_,rfl⟩
  rw [← hw2] at hS hK ⊢
  have HS:=zac hS
  have HK:=zac hK
  clear hS hK hw2 HR1 d1 f1
  go_loopw [5] (fun v5 wr=>∃ (k acc:Nat),k≤9∧v5=.int .i64 acc∧acc<10 ^ k∧Rdr wr RB s (p+1+k)∧yb4 s (9 - k) (p+1+k) acc=rv∧KeepX (fun q=>q=RB) W wr) (fun _ wr=>s.size+1 - ymp wr RB)
  case atStart=>exact ⟨0,0,by omega,rfl,by omega,zaa HS,(zaa Hq).symm,zaa HK⟩
  case round =>
   obtain ⟨k,acc,hk9,rfl,hacc,hR,hdig,hKr⟩:=hrel
   have hhr:=zfk RB s (p+1+k) wr hR
   have hacc9:acc<10 ^ 9:=Nat.lt_of_lt_of_le hacc (Nat.pow_le_pow_right (by omega) hk9)
   have hle2:=hR.le
   by_cases hdg:zwe (zaq s (p+1+k))=true
   ·by_cases hk:k<9
    ·have hb:48≤zaq s (p+1+k)∧zaq s (p+1+k)≤57:=by simpa [zwe] using hdg
     have hlt2:p+1+k<s.size:=zdv (by omega)
     have hstep:yb4 s (9 - (k+1)) (p+1+(k+1)) (10*acc+(zaq s (p+1+k) - 48))=rv:=by
      rw [← hdig,show 9 - k=(9 - (k+1))+1 by omega,yde hdg]
      rfl
     obtain ⟨bq,hbq⟩:∃ bq,bq=zaq s (p+1+k):=⟨_,rfl⟩
     have hpow:10*acc+(bq - 48)<10 ^ (k+1):=by rw [Nat.pow_succ];omega
     have hisd:=fun w=>zi9 bq w
     rw [← hbq] at hhr hb hstep hdg
     have hb1:(48:Int)≤(bq:Int):=by omega
     have hb2:(bq:Int)≤57:=by omega
     have e1:((bq:Int) - 48)=((bq - 48:Nat):Int):=by omega
     have Hhr:=zac hhr
     have hh2:=fun w' (hd:za9 wr w')=>zfk RB s (p+1+k) w' (hR.below hd.bel)
     rw [← hbq] at hh2
     have Hh2:=zac hh2
     have HR:=zac hR
     have HKr:=zac hKr
     have Hstep:=zac hstep
     have Hisd:=zac hisd
     have Hpow:=zac hpow
     have cr:=hR.c1
     clear hhr hh2 hR hKr hdig hstep hisd hbq hacc hpow
     go_wp2_with (first
      | (go_at_call 201;refine ((zaa Hisd) _).mono ?_;rintro e w4 ⟨rfl,rfl⟩;rw [hdg])
      | (go_at_call 111;refine (zaa Hhr).mono ?_;rintro e w3 ⟨rfl,hd⟩;have hR1:=(zaa HR).below hd.bel;have d1:=hR1.c1;have HR1:=zac hR1;have Hd:=zac hd;clear hR1 hd)
      | (go_at_call 111;refine ((zaa Hh2) _ (zaa Hd)).mono ?_;rintro e w5 ⟨rfl,hd5⟩;have hR5:=(zaa HR1).below hd5.bel;have d5:=hR5.c1;have f5:=hR5.f1;have HR5:=zac hR5;have Hd5:=zac hd5;clear hR5 hd5))
     have hset:Rdr (w5.setCell ⟨RB,1,none⟩ (.int .i64 ((p:Int)+1+(k:Int)+1))) RB s (p+1+(k+1)):=by
      have h:=zfn (q:=p+1+(k+1)) (zaa HR5) (by omega)
      rw [show ((p+1+(k+1):Nat):Int)=(p:Int)+1+(k:Int)+1 by omega] at h
      exact h
     have hmes:=hset.pl
     go_roundw
     case rel=>exact ⟨k+1,10*acc+(bq - 48),by omega,by first|rfl|(congr 1;omega)|(congr 1),zaa Hpow,hset,zaa Hstep,(((zaa HKr).trans (KeepX.ofBelow (zaa Hd).bel)).trans (KeepX.ofBelow (zaa Hd5).bel)).trans (za4 _ _ _ _)⟩
     case measure=>rw [hmes,(zaa HR).pl];omega
    ·have hk':k=9:=by omega
     subst hk'
     have hrv:rv=(acc,p+1+9):=hdig.symm
     have hisd:=fun w=>zi9 (zaq s (p+1+9)) w
     generalize zaq s (p+1+9)=bq at *
     have Hhr:=zac hhr
     have HR:=zac hR
     have HKr:=zac hKr
     have Hisd:=zac hisd
     have Hrv:=zac hrv
     clear hhr hR hKr hdig hisd hrv hacc
     go_wp2_with (first
      | (go_at_call 201;refine ((zaa Hisd) _).mono ?_;rintro e w4 ⟨rfl,rfl⟩;rw [hdg])
      | (go_at_call 111;refine (zaa Hhr).mono ?_;rintro e w3 ⟨rfl,hd⟩;have hR1:=(zaa HR).below hd.bel;have d1:=hR1.c1;have HR1:=zac hR1;have Hd:=zac hd;clear hR1 hd))
     go_ret2
     exact (zaa Hf1) _ acc 9 (zaa Hrv) (by omega) (zaa HR1) ((zaa HKr).trans (KeepX.ofBelow (zaa Hd).bel))
   ·have hdf:zwe (zaq s (p+1+k))=false:=by simpa using hdg
    have hrv:rv=(acc,p+1+k):=by rw [← hdig];exact zuj hdf
    have hisd:=fun w=>zi9 (zaq s (p+1+k)) w
    generalize zaq s (p+1+k)=bq at *
    have Hhr:=zac hhr
    have HR:=zac hR
    have HKr:=zac hKr
    have Hisd:=zac hisd
    have Hrv:=zac hrv
    clear hhr hR hKr hdig hisd hrv hacc hdg
    by_cases hk0:k=0
    ·subst hk0
     go_wp2_with (first
      | (go_at_call 201;refine ((zaa Hisd) _).mono ?_;rintro e w4 ⟨rfl,rfl⟩;rw [hdf])
      | (go_at_call 111;refine (zaa Hhr).mono ?_;rintro e w3 ⟨rfl,hd⟩;have hR1:=(zaa HR).below hd.bel;have d1:=hR1.c1;have HR1:=zac hR1;have Hd:=zac hd;clear hR1 hd)
      | (go_at_call 110;refine (zfx RB s (p+1) _ (zaa HR1)).mono ?_;rintro e w6 ⟨v,rfl,hE,hb6⟩;have HE:=zac hE;have Hb6:=zac hb6;clear hE hb6))
     go_ret2
     exact (zaa Hfin0) _ _ (congrArg Prod.snd (zaa Hrv)) ((zaa HE).mono (by have:=(zaa HKr).size;have:=(zaa Hd).bel.size;omega)) (((zaa HKr).trans (KeepX.ofBelow (zaa Hd).bel)).trans (KeepX.ofBelow (zaa Hb6)))
    ·have hkz:¬ ((p:Int)+1+(k:Int)=(p:Int)+1):=by omega
     go_wp2_with (first
      | (go_at_call 201;refine ((zaa Hisd) _).mono ?_;rintro e w4 ⟨rfl,rfl⟩;rw [hdf])
      | (go_at_call 111;refine (zaa Hhr).mono ?_;rintro e w3 ⟨rfl,hd⟩;have hR1:=(zaa HR).below hd.bel;have d1:=hR1.c1;have HR1:=zac hR1;have Hd:=zac hd;clear hR1 hd))
     go_ret2
     exact (zaa Hf1) _ acc k (zaa Hrv) (by omega) (zaa HR1) ((zaa HKr).trans (KeepX.ofBelow (zaa Hd).bel))

 ·rw [if_neg hm] at hq0 hsg
  have hmz:((zaq s p:Int) == 45)=false:=by
   rw [beq_eq_false_iff_ne]
   omega
  generalize zaq s p=bp at *
  clear hm
  subst hq0
  have hf1:∀ (w':World) (acc k:Nat),rv=(acc,q0+k)→k≠0→Rdr w' RB s (q0+k)→KeepX (fun q=>q=RB) W w'→zoa s RB q0 W (.returned (.tuple #[.int .i64 (acc:Int),.nilIface])) w':=fun w' acc k a b c d=>by
   have h:=(zaa Hfin1) w' acc k a b c d
   rw [hsg,Int.one_mul] at h
   exact h
  have Hf1:=zac hf1
  clear hf1 hsg hsg2 Hfin1
  go_enter Tryz.func173,Tryz.ntmps173
  go_wp2_with (first|(go_at_call 111;refine (zaa Hh).mono ?_;rintro e w2 ⟨rfl,hd⟩;have hR1:=(zaa H).below hd.bel;have d1:=hR1.c1;have HR1:=zac hR1;have Hd:=zac hd;clear hR1 hd))
  have hS:Rdr w2 RB s q0:=zaa HR1
  have hK:KeepX (fun q=>q=RB) W w2:=KeepX.ofBelow (zaa Hd).bel
  have HS:=zac hS
  have HK:=zac hK
  clear hS hK HR1 d1
  go_loopw [5] (fun v5 wr=>∃ (k acc:Nat),k≤9∧v5=.int .i64 acc∧acc<10 ^ k∧Rdr wr RB s (q0+k)∧yb4 s (9 - k) (q0+k) acc=rv∧KeepX (fun q=>q=RB) W wr) (fun _ wr=>s.size+1 - ymp wr RB)
  case atStart=>exact ⟨0,0,by omega,rfl,by omega,zaa HS,(zaa Hq).symm,zaa HK⟩
  case round =>
   obtain ⟨k,acc,hk9,rfl,hacc,hR,hdig,hKr⟩:=hrel
   have hhr:=zfk RB s (q0+k) wr hR
   have hacc9:acc<10 ^ 9:=Nat.lt_of_lt_of_le hacc (Nat.pow_le_pow_right (by omega) hk9)
   have hle2:=hR.le
   by_cases hdg:zwe (zaq s (q0+k))=true
   ·by_cases hk:k<9
    ·have hb:48≤zaq s (q0+k)∧zaq s (q0+k)≤57:=by simpa [zwe] using hdg
     have hlt2:q0+k<s.size:=zdv (by omega)
     have hstep:yb4 s (9 - (k+1)) (q0+(k+1)) (10*acc+(zaq s (q0+k) - 48))=rv:=by
      rw [← hdig,show 9 - k=(9 - (k+1))+1 by omega,yde hdg]
      rfl
     obtain ⟨bq,hbq⟩:∃ bq,bq=zaq s (q0+k):=⟨_,rfl⟩
     have hpow:10*acc+(bq - 48)<10 ^ (k+1):=by rw [Nat.pow_succ];omega
     have hisd:=fun w=>zi9 bq w
     rw [← hbq] at hhr hb hstep hdg
     have hb1:(48:Int)≤(bq:Int):=by omega
     have hb2:(bq:Int)≤57:=by omega
     have e1:((bq:Int) - 48)=((bq - 48:Nat):Int):=by omega
     have Hhr:=zac hhr
     have hh2:=fun w' (hd:za9 wr w')=>zfk RB s (q0+k) w' (hR.below hd.bel)
     rw [← hbq] at hh2
     have Hh2:=zac hh2
     have HR:=zac hR
     have HKr:=zac hKr
     have Hstep:=zac hstep
     have Hisd:=zac hisd
     have Hpow:=zac hpow
     have cr:=hR.c1
     clear hhr hh2 hR hKr hdig hstep hisd hbq hacc hpow
     go_wp2_with (first
      | (go_at_call 201;refine ((zaa Hisd) _).mono ?_;rintro e w4 ⟨rfl,rfl⟩;rw [hdg])
      | (go_at_call 111;refine (zaa Hhr).mono ?_;rintro e w3 ⟨rfl,hd⟩;have hR1:=(zaa HR).below hd.bel;have d1:=hR1.c1;have HR1:=zac hR1;have Hd:=zac hd;clear hR1 hd)
      | (go_at_call 111;refine ((zaa Hh2) _ (zaa Hd)).mono ?_;rintro e w5 ⟨rfl,hd5⟩;have hR5:=(zaa HR1).below hd5.bel;have d5:=hR5.c1;have f5:=hR5.f1;have HR5:=zac hR5;have Hd5:=zac hd5;clear hR5 hd5))
     have hset:Rdr (w5.setCell ⟨RB,1,none⟩ (.int .i64 ((q0:Int)+(k:Int)+1))) RB s (q0+(k+1)):=by
      have h:=zfn (q:=q0+(k+1)) (zaa HR5) (by omega)
      rw [show ((q0+(k+1):Nat):Int)=(q0:Int)+(k:Int)+1 by omega] at h
      exact h
     have hmes:=hset.pl
     go_roundw
     case rel=>exact ⟨k+1,10*acc+(bq - 48),by omega,by first|rfl|(congr 1;omega)|(congr 1),zaa Hpow,hset,zaa Hstep,(((zaa HKr).trans (KeepX.ofBelow (zaa Hd).bel)).trans (KeepX.ofBelow (zaa Hd5).bel)).trans (za4 _ _ _ _)⟩
     case measure=>rw [hmes,(zaa HR).pl];omega
    ·have hk':k=9:=by omega
     subst hk'
     have hrv:rv=(acc,q0+9):=hdig.symm
     have hisd:=fun w=>zi9 (zaq s (q0+9)) w
     generalize zaq s (q0+9)=bq at *
     have Hhr:=zac hhr
     have HR:=zac hR
     have HKr:=zac hKr
     have Hisd:=zac hisd
     have Hrv:=zac hrv
     clear hhr hR hKr hdig hisd hrv hacc
     go_wp2_with (first
      | (go_at_call 201;refine ((zaa Hisd) _).mono ?_;rintro e w4 ⟨rfl,rfl⟩;rw [hdg])
      | (go_at_call 111;refine (zaa Hhr).mono ?_;rintro e w3 ⟨rfl,hd⟩;have hR1:=(zaa HR).below hd.bel;have d1:=hR1.c1;have HR1:=zac hR1;have Hd:=zac hd;clear hR1 hd))
     go_ret2
     exact (zaa Hf1) _ acc 9 (zaa Hrv) (by omega) (zaa HR1) ((zaa HKr).trans (KeepX.ofBelow (zaa Hd).bel))
   ·have hdf:zwe (zaq s (q0+k))=false:=by simpa using hdg
    have hrv:rv=(acc,q0+k):=by rw [← hdig];exact zuj hdf
    have hisd:=fun w=>zi9 (zaq s (q0+k)) w
    generalize zaq s (q0+k)=bq at *
    have Hhr:=zac hhr
    have HR:=zac hR
    have HKr:=zac hKr
    have Hisd:=zac hisd
    have Hrv:=zac hrv
    clear hhr hR hKr hdig hisd hrv hacc hdg
    by_cases hk0:k=0
    ·subst hk0
     go_wp2_with (first
      | (go_at_call 201;refine ((zaa Hisd) _).mono ?_;rintro e w4 ⟨rfl,rfl⟩;rw [hdf])
      | (go_at_call 111;refine (zaa Hhr).mono ?_;rintro e w3 ⟨rfl,hd⟩;have hR1:=(zaa HR).below hd.bel;have d1:=hR1.c1;have HR1:=zac hR1;have Hd:=zac hd;clear hR1 hd)
      | (go_at_call 110;refine (zfx RB s (q0) _ (zaa HR1)).mono ?_;rintro e w6 ⟨v,rfl,hE,hb6⟩;have HE:=zac hE;have Hb6:=zac hb6;clear hE hb6))
     go_ret2
     exact (zaa Hfin0) _ _ (congrArg Prod.snd (zaa Hrv)) ((zaa HE).mono (by have:=(zaa HKr).size;have:=(zaa Hd).bel.size;omega)) (((zaa HKr).trans (KeepX.ofBelow (zaa Hd).bel)).trans (KeepX.ofBelow (zaa Hb6)))
    ·have hkz:¬ ((q0:Int)+(k:Int)=(q0:Int)):=by omega
     go_wp2_with (first
      | (go_at_call 201;refine ((zaa Hisd) _).mono ?_;rintro e w4 ⟨rfl,rfl⟩;rw [hdf])
      | (go_at_call 111;refine (zaa Hhr).mono ?_;rintro e w3 ⟨rfl,hd⟩;have hR1:=(zaa HR).below hd.bel;have d1:=hR1.c1;have HR1:=zac hR1;have Hd:=zac hd;clear hR1 hd))
     go_ret2
     exact (zaa Hf1) _ acc k (zaa Hrv) (by omega) (zaa HR1) ((zaa HKr).trans (KeepX.ofBelow (zaa Hd).bel))
theorem zcb {X:Nat→Prop} {W w:World} (h:KeepX X W w) {b:Nat} (hb:W.heap.size≤b) (o:Nat) (v:Value):KeepX X W (w.setCell ⟨b,o,none⟩ v):=
 ⟨h.os,h.tape,h.output,Nat.le_trans h.size (KeepsWalks.setCell w _ v).size,fun q hq hx=>(Below.heap_setCell _ _ _ q (fun e=>by simp at e;omega)).trans (h.blk q hq hx)⟩
theorem Rdr.setO {w:World} {RB:Nat} {s:ByteArray} {q:Nat} (h:Rdr w RB s q) {b:Nat} (hb:b≠RB) (o:Nat) (v:Value):Rdr (w.setCell ⟨b,o,none⟩ v) RB s q:=
 h.keep (Below.heap_setCell _ _ _ RB (fun e=>hb (by simp at e;omega)))
theorem zcx.setO {B:Nat} {W:World} {v:Value} {c q:Nat} (h:zcx B W v c q) {b:Nat} (hb:b<B) (o:Nat) (u:Value):zcx B (W.setCell ⟨b,o,none⟩ u) v c q:=
 h.keep (za4 W b o u) (fun k e=>by omega)
def yf5 (W:World) (RB:Nat) (s:ByteArray) (p:Nat) (e:Ending) (w':World):Prop:=
 (∃ x q,zqq s p=.ok (x,q)∧e=.returned (.tuple #[.agg #[.int .u8 x.1,.int .i64 x.2],.nilIface])∧Rdr w' RB s q∧KeepX (fun q=>q=RB) W w') ∨
 (∃ q v z,zqq s p=.error q∧e=.returned (.tuple #[.agg #[.int .u8 0,.int .i64 z],v])∧zcx W.heap.size w' v 5 q∧KeepX (fun q=>q=RB) W w')
theorem zvi (RB:Nat) (s:ByteArray) (p:Nat) (W:World) (h:Rdr W RB s p) :
  Calls Tryz.prog 146 #[.pointer (some ⟨RB,0,none⟩)] W (yf5 W RB s p):=by
 have hsz:=h.sz
 have hl:=h.lt
 have h0:=h.below ((Below.refl _ _).alloc (Nat.le_refl _) (.cells #[.int .u8 0,.int .i64 0] 240))
 have H:=zac (zgh RB s p _ h0)
 clear h h0
 have ht:zqq s p=if zuw (zaq s (zba s p)) then .ok ((zaq s (zba s p),0),zba s p+1) else match yku s (zba s p) with
  | .error q=>.error q
  | .ok (z,q)=>.ok ((0,z),q):=rfl
 obtain ⟨q,hq⟩:∃ q,q=zba s p:=⟨_,rfl⟩
 rw [← hq] at H ht
 clear hq
 obtain ⟨bq,hbq⟩:∃ bq,bq=zaq s q:=⟨_,rfl⟩
 rw [← hbq] at H ht
 have hv:=fun w=>zsi bq w
 by_cases hb:zuw bq=true
 ·have hlt:q<s.size:=zdv (by rw [← hbq];intro e;rw [e] at hb;cases hb)
  rw [hb] at hv
  rw [if_pos hb] at ht
  have Ht:=zac ht
  clear ht
  have Hv:=zac hv
  clear hbq hb hv
  go_enter Tryz.func146,Tryz.ntmps146
  go_wp2_with (first
   | (go_at_call 53;refine ((zaa Hv) _).mono ?_;rintro e w4 ⟨rfl,rfl⟩)
   | (go_at_call 109;refine (zaa H).mono ?_;rintro e w1 ⟨rfl,hR1,hK1⟩;have d1:=hR1.c1;have f1:=hR1.f1;have hB1:=(hK1.blk W.heap.size (by simp) (by omega)).trans (zae _ _ _ rfl);have e0:w1.cell? ⟨W.heap.size,0,none⟩=some (.int .u8 0):=zab hB1 0;have e1:w1.cell? ⟨W.heap.size,1,none⟩=some (.int .i64 0):=zab hB1 1;have g0:w1.frozen? ⟨W.heap.size,0,none⟩=false:=zad hB1 0;have g1:w1.frozen? ⟨W.heap.size,1,none⟩=false:=zad hB1 1;have HR1:=zac hR1;have HK1:=zac hK1;have HB1:=zac hB1;clear hR1 hK1 hB1))
  have hKW:KeepX (fun q=>q=RB) W w4:=(KeepX.ofBelow ((Below.refl _ _).alloc (Nat.le_refl _) _)).trans (zaa HK1)
  refine bodyPost_ret (v:=.tuple #[.agg #[.int .u8 bq,.int .i64 0],.nilIface]) (by simp [results,Tryz.results146,go_sem,e0,e1,g0,g1]) rfl (.inl ⟨_,_,zaa Ht,rfl,?_,?_⟩)
  ·exact ((zfn (q:=q+1) (zaa HR1) (by omega)).setO (by omega) _ _).setO (by omega) _ _
  ·exact zcb (zcb (hKW.trans (za4 _ _ _ _)) (Nat.le_refl _) _ _) (Nat.le_refl _) _ _
 ·have hbf:zuw bq=false:=by simpa using hb
  rw [hbf] at hv
  rw [if_neg (by simp [hbf])] at ht
  have Ht:=zac ht
  clear ht
  have Hv:=zac hv
  clear hbq hb hv
  go_enter Tryz.func146,Tryz.ntmps146
  go_wp2_with (first
   | (go_at_call 53;refine ((zaa Hv) _).mono ?_;rintro e w4 ⟨rfl,rfl⟩)
   | (go_at_call 109;refine (zaa H).mono ?_;rintro e w1 ⟨rfl,hR1,hK1⟩;have hB1:=(hK1.blk W.heap.size (by simp) (by omega)).trans (zae _ _ _ rfl);have HR1:=zac hR1;have HK1:=zac hK1;have HB1:=zac hB1;clear hR1 hK1 hB1)
   | (go_at_call 173;refine (zql RB s q _ (zaa HR1)).mono ?_))
  rintro e w2 hN
  have hKW:KeepX (fun q=>q=RB) W w4:=(KeepX.ofBelow ((Below.refl _ _).alloc (Nat.le_refl _) _)).trans (zaa HK1)
  have hlt4:W.heap.size<w4.heap.size:=by have:=(zaa HK1).size;simp at this;omega
  rcases hN with ⟨z,q2,hn,rfl,hR2,hK2⟩|⟨q2,v,hn,rfl,hE2,hK2⟩
  ·have hB2:=(hK2.blk W.heap.size hlt4 (by omega)).trans (zaa HB1)
   have e0:w2.cell? ⟨W.heap.size,0,none⟩=some (.int .u8 0):=zab hB2 0
   have e1:w2.cell? ⟨W.heap.size,1,none⟩=some (.int .i64 0):=zab hB2 1
   have g0:w2.frozen? ⟨W.heap.size,0,none⟩=false:=zad hB2 0
   have g1:w2.frozen? ⟨W.heap.size,1,none⟩=false:=zad hB2 1
   have HR2:=zac hR2
   have HK2:=zac (hKW.trans hK2)
   have Hn:=zac hn
   clear hR2 hK2 hKW hB2 hn HR1 HK1 HB1
   go_wp2_with (first
    | (go_at_call 75;refine (zuu _ _).mono ?_;rintro e w5 ⟨rfl,rfl⟩))
   refine bodyPost_ret (v:=.tuple #[.agg #[.int .u8 0,.int .i64 z],.nilIface]) (by simp [results,Tryz.results146,go_sem,e0,e1,g0,g1]) rfl (.inl ⟨(0,z),q2,by rw [zaa Ht,zaa Hn],rfl,?_,?_⟩)
   ·exact ((zaa HR2).setO (by omega) _ _).setO (by omega) _ _
   ·exact zcb (zcb (zaa HK2) (Nat.le_refl _) _ _) (Nat.le_refl _) _ _
  ·have hB2:=(hK2.blk W.heap.size hlt4 (by omega)).trans (zaa HB1)
   have HE:=zac (zut ⟨#[110,117,109,98,101,114]⟩ v _ 5 q2 w2 hE2 hK2.size)
   have HB2:=zac hB2
   have hl2:W.heap.size<w2.heap.size:=by have:=hK2.size;omega
   have HK2:=zac (hKW.trans hK2)
   have Hn:=zac hn
   clear hE2 hK2 hKW hB2 hn HR1 HK1 HB1
   go_wp2_with fail
   refine (zaa HE).mono ?_
   rintro e w3 ⟨v',rfl,hE3,hb3⟩
   have hB3:=(hb3.block W.heap.size hl2).trans (zaa HB2)
   have e0:w3.cell? ⟨W.heap.size,0,none⟩=some (.int .u8 0):=zab hB3 0
   have e1:w3.cell? ⟨W.heap.size,1,none⟩=some (.int .i64 0):=zab hB3 1
   have g0:w3.frozen? ⟨W.heap.size,0,none⟩=false:=zad hB3 0
   have g1:w3.frozen? ⟨W.heap.size,1,none⟩=false:=zad hB3 1
   have HE3:=zac hE3
   have HK3:=zac ((zaa HK2).trans (KeepX.ofBelow hb3))
   clear hE3 hb3 hB3
   go_wp2_with fail
   refine bodyPost_ret (v:=.tuple #[.agg #[.int .u8 0,.int .i64 0],v']) (by simp [results,Tryz.results146,go_sem,e0,e1,g0,g1]) rfl (.inr ⟨q2,v',0,by rw [zaa Ht,zaa Hn],rfl,?_,?_⟩)
   ·exact ((((zaa HE3).setO hlt4 _ _).setO hlt4 _ _)).mono (by omega)
   ·exact zcb (zcb (zaa HK3) (Nat.le_refl _) _ _) (Nat.le_refl _) _ _
theorem Tryz.info240:(Tryz.prog.info? 240).map (fun i=>(i.zero,i.size,i.bytes))=some (some (.agg #[.int .u8 0,.int .i64 0]),2,16):=by kernel_rfl
def zvw (x:Nat×Int):List Value:=[.int .u8 x.1,.int .i64 x.2]
def zf4 (xs:List (Nat×Int)):List Value:=xs.flatMap zvw
abbrev zh4 (B0 RB:Nat) (W w:World):Prop:=KeepX (fun q=>q=RB∨B0≤q) W w
structure zp7 (W:World) (B0 RB Bb AB:Nat) (nm:ByteArray) (pl:Nat) (acc:List (Nat×Int)):Prop where
 box:Boxed W Bb 156 (.pointer (some ⟨RB,0,none⟩))
 blk:∃ tv,W.heap[AB]? = some (.cells #[.string nm,.int .i64 pl,tv] 183 (0,0))∧W.ownsRow B0 240 2 tv acc.length (zf4 acc)
 lo:Bb≠RB∧B0≤AB∧RB<B0
theorem zcj {X:Nat→Prop} {W W':World} {base:Nat} {e:TypeId} {size:Nat} {v:Value} {n:Nat} {xs:List Value} (h:W.ownsRow base e size v n xs) (hk:KeepX X W W') (hx:∀ g,base≤g→¬ X g):W'.ownsRow base e size v n xs:=by
 refine zca h hk fun g hg=>hx g ?_
 rcases h.2 with ⟨rfl,_⟩|⟨g',cap,cur,rfl,hb,_⟩
 ·simp [Value.ownBlock] at hg
 ·simp only [Value.ownBlock] at hg
  injection hg with hg
  omega
theorem zp7.keep {W w:World} {B0 RB Bb AB:Nat} {nm:ByteArray} {pl:Nat} {acc:List (Nat×Int)} (h:zp7 W B0 RB Bb AB nm pl acc) (hk:KeepX (fun q=>q=RB) W w):zp7 w B0 RB Bb AB nm pl acc:=by
 obtain ⟨hb,⟨tv,h1,h2⟩,h3,h4,h5⟩:=h
 exact ⟨(hk.blk Bb (Array.getElem?_eq_some_iff.1 hb).1 h3).trans hb,⟨tv,(hk.blk AB (Array.getElem?_eq_some_iff.1 h1).1 (by omega)).trans h1,zcj h2 hk (fun g hg=>by omega)⟩,h3,h4,h5⟩
def zfi {α:Type} (B0 RB:Nat) (s:ByteArray) (r:Except Nat (α×Nat)) (J:α→World→Prop) (J':World→Prop) (W:World) (e:Ending) (w':World):Prop:=
 (∃ x q,r=.ok (x,q)∧e=.returned .nilIface∧Rdr w' RB s q∧J x w'∧zh4 B0 RB W w')∨(∃ q v,r=.error q∧e=.returned v∧zcx B0 w' v 5 q∧J' w'∧zh4 B0 RB W w')
theorem zd5 {W:World} {B0 n:Nat} {tv:Value} {xs:List Value} (h:W.ownsRow B0 240 2 tv n xs) {g:Nat} (hg:tv.ownBlock=some g):B0≤g∧∃ cur,W.heap[g]? = some (.cells cur 240 (0,0)):=by
 rcases h.2 with ⟨rfl,_⟩|⟨g',cap,cur,rfl,hb,hgh,_⟩
 ·simp [Value.ownBlock] at hg
 ·simp only [Value.ownBlock] at hg
  injection hg with hg
  subst hg
  exact ⟨hb,cur,hgh⟩
theorem zs5 (RB Bb AB B0:Nat) (s nm:ByteArray) (p pl:Nat) (acc:List (Nat×Int)) (hacc:acc.length≤100) (W:World) (h:Rdr W RB s p) (hA:zp7 W B0 RB Bb AB nm pl acc) :
  Calls Tryz.prog 145 #[.pointer (some ⟨Bb,0,none⟩),.pointer (some ⟨AB,0,none⟩)] W (zfi B0 RB s (zqq s p) (fun x w=>zp7 w B0 RB Bb AB nm pl (acc ++ [x])) (fun w=>∃ acc',zp7 w B0 RB Bb AB nm pl acc') W):=by
 obtain ⟨i,hi,hz0,hz1,hz2⟩:=info_parts Tryz.info240
 obtain ⟨tv,hblk,hown⟩:=hA.blk
 have hbx:=hA.box
 obtain ⟨hl1,hl2,hl3⟩:=hA.lo
 have hAl:AB<W.heap.size:=(Array.getElem?_eq_some_iff.1 hblk).1
 have hbl:Bb<W.heap.size:=hbx.lt
 have cb:W.cell? ⟨Bb,0,none⟩=some (.pointer (some ⟨RB,0,none⟩)):=hbx.cell
 have HT:=zac (zvi RB s p W h)
 have Hown:=zac hown
 have Hblk:=zac hblk
 have Hbx:=zac hbx
 clear hA h hown hblk hbx
 go_enter Tryz.func145,Tryz.ntmps145
 go_wp2_with fail
 refine (zaa HT).mono ?_
 rintro e w1 hS
 -- the term as it comes,and how it ends
 obtain ⟨x,v,hsay,rfl,hK1,hvv⟩:∃ (x:Nat×Int) (v:Value),((∃ q,zqq s p=.ok (x,q)∧v=.nilIface∧Rdr w1 RB s q)∨(∃ q,zqq s p=.error q∧zcx W.heap.size w1 v 5 q))∧e=.returned (.tuple #[.agg #[.int .u8 x.1,.int .i64 x.2],v])∧KeepX (fun q=>q=RB) W w1∧True:=by
  rcases hS with ⟨x,q,h1,rfl,h2,h3⟩|⟨q,v,z,h1,rfl,h2,h3⟩
  ·exact ⟨x,.nilIface,.inl ⟨q,h1,rfl,h2⟩,rfl,h3,trivial⟩
  ·exact ⟨(0,z),v,.inr ⟨q,h1,h2⟩,rfl,h3,trivial⟩
 obtain ⟨x1,x2⟩:=x
 have hblk1:=(hK1.blk AB hAl (by omega)).trans (zaa Hblk)
 have hbx1:Boxed w1 Bb 156 (.pointer (some ⟨RB,0,none⟩)):=(hK1.blk Bb hbl (by omega)).trans (zaa Hbx)
 have hown1:w1.ownsRow B0 240 2 tv acc.length (zf4 acc):=zca (zaa Hown) hK1 (fun g hg e=>by have:=(zd5 (zaa Hown) hg).1;omega)
 have hA2:=(Below.heap_alloc w1 (.cells #[.int .u8 x1,.int .i64 x2] 240) AB (by have:=hK1.size;omega)).trans hblk1
 have c2:(w1.alloc (.cells #[.int .u8 x1,.int .i64 x2] 240)).cell? ⟨AB,2,none⟩=some tv:=zab hA2 2
 have f0:(w1.alloc (.cells #[.int .u8 x1,.int .i64 x2] 240)).cell? ⟨w1.heap.size,0,none⟩=some (.int .u8 x1):=zab (zae _ _ _ rfl) 0
 have f1:(w1.alloc (.cells #[.int .u8 x1,.int .i64 x2] 240)).cell? ⟨w1.heap.size,1,none⟩=some (.int .i64 x2):=zab (zae _ _ _ rfl) 1
 have Hsay:=zac hsay
 have HK1:=zac hK1
 have Hblk1:=zac hblk1
 have Hbx1:=zac hbx1
 have Hown1:=zac hown1
 clear hsay hK1 hblk1 hbx1 hown1 hA2 HT hS
 dsimp only
 have hnew:∀ j u,[Value.int .u8 x1,Value.int .i64 x2][j]? = some u→((w1.alloc (.cells #[.int .u8 x1,.int .i64 x2] 240)).alloc (.cells #[.int .u8 x1,.int .i64 x2] 240)).cell? ((⟨w1.heap.size+1,0,none⟩:Addr).add j)=some u:=by
  have:=zl9 (w1.alloc (.cells #[.int .u8 x1,.int .i64 x2] 240)) (.int .u8 x1) (.int .i64 x2) 240
  simpa using this
 have hneA:tv.ownBlock≠some AB:=fun e=>by
  obtain ⟨_,cur,hc⟩:=zd5 (zaa Hown1) e
  rw [zaa Hblk1] at hc
  simp at hc
 have hneB:tv.ownBlock≠some Bb:=fun e=>by
  obtain ⟨_,cur,hc⟩:=zd5 (zaa Hown1) e
  rw [show w1.heap[Bb]? = _ from zaa Hbx1] at hc
  simp at hc
 have hs1:=(zaa HK1).size
 go_wp2_with (first
  | (at_builtin;refine wpList_append_own_at _ rfl _ _ 181 rfl B0 240 i _ 2 16 Tryz.underlying181 hi hz0 hz1 hz2 rfl (by decide) _ _ _ rfl (((zaa Hown1).alloc _).alloc _) ⟨w1.heap.size+1,0,none⟩ 1 1 [.int .u8 x1,.int .i64 x2] rfl rfl hnew (by simp [Value.oneCell']) (by unfold maxLen;omega) (by omega) (by simp;omega) ?_;intro v' w2 hown2 hg2 _ _;have hA3:=(hg2.block AB (by simp;omega) (fun e=>hneA e.symm)).trans ((Below.heap_alloc _ _ AB (by simp;omega)).trans ((Below.heap_alloc _ _ AB (by omega)).trans (zaa Hblk1)));have ca:=zab hA3 2;have fa:=zad hA3 2;obtain ⟨g',cap',rfl⟩:=zge hown2;have Hown2:=zac hown2;have Hg2:=zac hg2;have HA3:=zac hA3;clear hown2 hg2 hA3))
 go_ret
 show zfi B0 RB s (zqq s p) _ _ W (.returned v) (w2.setCell ⟨AB,2,none⟩ (.slice (some ⟨g',0,none⟩) (acc.length+1) cap'))
 have hBA:Bb≠AB:=fun e=>by
  have h1:=zaa Hblk1
  rw [← e,show w1.heap[Bb]? = _ from zaa Hbx1] at h1
  simp at h1
 have hgA:g'≠AB:=fun e=>by
  obtain ⟨_,cur,hc⟩:=zd5 (zaa Hown2) (g:=g') rfl
  rw [e,zaa HA3] at hc
  simp at hc
 have hg2:=zaa Hg2
 have hK2:KeepX (fun q=>tv.ownBlock=some q∨q=AB) w1 w2:=(KeepX.ofBelow (((Below.refl _ w1).alloc (Nat.le_refl _) _).alloc (by simp) _)).trans ⟨hg2.os,hg2.tape,hg2.output,hg2.size,fun q hq hx=>hg2.block q hq (fun e=>hx (.inl e.symm))⟩
 have hK3:KeepX (fun q=>tv.ownBlock=some q∨q=AB) w1 (w2.setCell ⟨AB,2,none⟩ (.slice (some ⟨g',0,none⟩) (acc.length+1) cap')):=hK2.trans ((za4 w2 AB 2 _).mono fun q _ e=>.inr e)
 have hXB:∀ q,(tv.ownBlock=some q∨q=AB)→B0≤q∧q<W.heap.size:=fun q hq=>by
  rcases hq with hq|hq
  ·obtain ⟨h1,cur,h2⟩:=zd5 (zaa Hown) hq
   exact ⟨h1,(Array.getElem?_eq_some_iff.1 h2).1⟩
  ·subst hq;exact ⟨hl2,hAl⟩
 have hKR:zh4 B0 RB W (w2.setCell ⟨AB,2,none⟩ (.slice (some ⟨g',0,none⟩) (acc.length+1) cap')):=((zaa HK1).mono fun q _ e=>.inl e).trans (hK3.mono fun q _ e=>.inr (hXB q e).1)
 have hAtom:zp7 (w2.setCell ⟨AB,2,none⟩ (.slice (some ⟨g',0,none⟩) (acc.length+1) cap')) B0 RB Bb AB nm pl (acc ++ [(x1,x2)]):=by
  refine ⟨?_,⟨.slice (some ⟨g',0,none⟩) (acc.length+1) cap',?_,?_⟩,hl1,hl2,hl3⟩
  ·exact (hK3.blk Bb (by omega) (fun e=>e.elim hneB hBA)).trans (zaa Hbx1)
  ·simp only [World.setCell]
   rw [Array.getElem?_modify,if_pos rfl,zaa HA3]
   rfl
  ·have e:zf4 (acc ++ [(x1,x2)])=zf4 acc ++ [.int .u8 x1,.int .i64 x2]:=by simp [zf4,zvw]
   rw [e,List.length_append]
   refine zca (zaa Hown2) (za4 w2 AB 2 _) (fun g hg=>?_)
   simp only [Value.ownBlock] at hg
   injection hg with hg
   omega
 rcases zaa Hsay with ⟨q,h1,rfl,hR⟩|⟨q,h1,hE⟩
 ·exact .inl ⟨(x1,x2),q,h1,rfl,hR.keep (hK3.blk RB hR.lt (fun e=>by have:=(hXB RB e).1;omega)),hAtom,hKR⟩
 ·exact .inr ⟨q,v,h1,rfl,(hE.keep hK3 (fun k hk=>(hXB k hk).2)).mono (by have:=(hXB AB (.inr rfl)).1;omega),⟨_,hAtom⟩,hKR⟩
end Go.Proofs.YtoifcnidhfnapabGreatDoor
