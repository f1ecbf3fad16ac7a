import Derived.Test.YtoifcnidhfnapaaGreatDoorB39
set_option linter.unusedVariables false
set_option linter.unusedSimpArgs false
set_option maxRecDepth 100000
set_option maxHeartbeats 16000000
namespace Go.Proofs.YtoifcnidhfnapaaGreatDoor
open Go.RowKit Go.Maps
theorem zr6 (c:Nat) (W:World):Calls Tryz.prog 101 #[.int .u8 c] W fun e w'=>e=.returned (.bool (zun c))∧w'=W:=by
 by_cases h1:65≤c
 ·have h1z:(65:Int)≤(c:Int):=by omega
  by_cases h2:c≤90
  ·have h2z:(c:Int)≤90:=by omega
   have hv:zun c=true:=by simp [zun,h1,h2]
   rw [hv]
   go_enter Tryz.func101,Tryz.ntmps101
   go_wp2
   go_ret
   exact ⟨rfl,rfl⟩
  ·have h2z:¬ (c:Int)≤90:=by omega
   have hv:zun c=false:=by simp [zun,h1,h2]
   rw [hv]
   go_enter Tryz.func101,Tryz.ntmps101
   go_wp2
   go_ret
   exact ⟨rfl,rfl⟩
 ·have h1z:¬ (65:Int)≤(c:Int):=by omega
  have hv:zun c=false:=by simp [zun,h1]
  rw [hv]
  go_enter Tryz.func101,Tryz.ntmps101
  go_wp2
  go_ret
  exact ⟨rfl,rfl⟩
theorem ygm (c:Nat) (W:World):Calls Tryz.prog 216 #[.int .u8 c] W fun e w'=>e=.returned (.bool (yfm c))∧w'=W:=by
 by_cases h1:97≤c
 ·have h1z:(97:Int)≤(c:Int):=by omega
  by_cases h2:c≤122
  ·have h2z:(c:Int)≤122:=by omega
   have hv:yfm c=true:=by simp [yfm,h1,h2]
   rw [hv]
   go_enter Tryz.func216,Tryz.ntmps216
   go_wp2
   go_ret
   exact ⟨rfl,rfl⟩
  ·have h2z:¬ (c:Int)≤122:=by omega
   have hv:yfm c=false:=by simp [yfm,h1,h2]
   rw [hv]
   go_enter Tryz.func216,Tryz.ntmps216
   go_wp2
   go_ret
   exact ⟨rfl,rfl⟩
 ·have h1z:¬ (97:Int)≤(c:Int):=by omega
  have hv:yfm c=false:=by simp [yfm,h1]
  rw [hv]
  go_enter Tryz.func216,Tryz.ntmps216
  go_wp2
  go_ret
  exact ⟨rfl,rfl⟩
theorem zjb (c:Nat) (W:World):Calls Tryz.prog 278 #[.int .u8 c] W fun e w'=>e=.returned (.bool (zv9 c))∧w'=W:=by
 by_cases h1:48≤c
 ·have h1z:(48:Int)≤(c:Int):=by omega
  by_cases h2:c≤57
  ·have h2z:(c:Int)≤57:=by omega
   have hv:zv9 c=true:=by simp [zv9,h1,h2]
   rw [hv]
   go_enter Tryz.func278,Tryz.ntmps278
   go_wp2
   go_ret
   exact ⟨rfl,rfl⟩
  ·have h2z:¬ (c:Int)≤57:=by omega
   have hv:zv9 c=false:=by simp [zv9,h1,h2]
   rw [hv]
   go_enter Tryz.func278,Tryz.ntmps278
   go_wp2
   go_ret
   exact ⟨rfl,rfl⟩
 ·have h1z:¬ (48:Int)≤(c:Int):=by omega
  have hv:zv9 c=false:=by simp [zv9,h1]
  rw [hv]
  go_enter Tryz.func278,Tryz.ntmps278
  go_wp2
  go_ret
  exact ⟨rfl,rfl⟩
theorem ybi (n:Nat) (hn:n≤9) (W:World):Calls Tryz.prog 287 #[.int .i64 n] W fun e w'=>(∃ t:ByteArray,e=.returned (.string t)∧t.size=1)∧w'=W:=by
 rcases (by omega:n=0∨n=1∨n=2∨n=3∨n=4∨n=5∨n=6∨n=7∨n=8∨n=9) with rfl|rfl|rfl|rfl|rfl|rfl|rfl|rfl|rfl|rfl
 all_goals
  go_enter Tryz.func287,Tryz.ntmps287
  go_wp2
  go_ret
  exact ⟨⟨_,rfl,rfl⟩,rfl⟩
theorem ygo (n:Nat) (hn:n≤9) (W:World):Calls Tryz.prog 219 #[.int .i64 n] W fun e w'=>(∃ t:ByteArray,e=.returned (.string t)∧t.size=1)∧w'=W:=by
 have h1:Calls Tryz.prog 279 #[.int .i64 n,.int .i64 10] W fun e w'=>(∃ t:ByteArray,e=.returned (.string t)∧t.size=1)∧w'=W:=by
  have H:=zac (ybi n hn W)
  have hz:(n:Int)<100:=by omega
  have hz0:(0:Int)≤(n:Int):=by omega
  go_enter Tryz.func279,Tryz.ntmps279
  go_wp2_with (first|(go_at_call 287;refine (zaa H).mono ?_;rintro e w1 ⟨⟨t,rfl,ht⟩,rfl⟩;have Ht:=zac ht;clear ht))
  go_ret
  exact ⟨⟨_,rfl,zaa Ht⟩,rfl⟩
 have h2:Calls Tryz.prog 251 #[.int .i64 n] W fun e w'=>(∃ t:ByteArray,e=.returned (.string t)∧t.size=1)∧w'=W:=by
  have H:=zac h1
  clear h1
  go_enter Tryz.func251,Tryz.ntmps251
  go_wp2_with (first|(go_at_call 279;refine (zaa H).mono ?_;rintro e w1 ⟨⟨t,rfl,ht⟩,rfl⟩;have Ht:=zac ht;clear ht))
  go_ret
  exact ⟨⟨_,rfl,zaa Ht⟩,rfl⟩
 have H:=zac h2
 clear h1 h2
 go_enter Tryz.func219,Tryz.ntmps219
 go_wp2_with (first|(go_at_call 251;refine (zaa H).mono ?_;rintro e w1 ⟨⟨t,rfl,ht⟩,rfl⟩;have Ht:=zac ht;clear ht))
 go_ret
 exact ⟨⟨_,rfl,zaa Ht⟩,rfl⟩
theorem zl9 (t:ByteArray) (n:Nat) (v:Value) (B c q:Nat) (W:World) (ht:t.size≤1000) (hn:n≤9) (h:ErrAt B W v c q) (hB:B≤W.heap.size):Calls Tryz.prog 186 #[.string t,.int .i64 n,v] W fun e w'=>∃ v',e=.returned v'∧ErrAt B w' v' c q∧Below W.heap.size W w':=by
 have Hi:=zac (ygo n hn W)
 obtain ⟨ty,b,rfl,_⟩:=h.form
 have H:=zac h
 clear h
 go_enter Tryz.func186,Tryz.ntmps186
 go_wp2_with (first|(go_at_call 219;refine (zaa Hi).mono ?_;rintro e w1 ⟨⟨u,rfl,hu⟩,rfl⟩))
 go_ret
 exact ⟨_,rfl,.wrap hB (zae _ _ _ rfl) ((zaa H).bel ((Below.refl _ _).alloc (Nat.le_refl _) _)),(Below.refl _ _).alloc (Nat.le_refl _) _⟩
def ylf (W:World) (RB:Nat):Nat:=match W.cell? ⟨RB,1,none⟩ with|some (.int _ z)=>z.toNat|_=>0
theorem Rdr.pl {W:World} {RB:Nat} {s:ByteArray} {p:Nat} (h:Rdr W RB s p):ylf W RB=p:=by
 unfold ylf
 rw [h.c1]
 simp
def znw (s:ByteArray) (RB p:Nat) (W:World) (e:Ending) (w':World):Prop:=
 (∃ z q,yj0 s p=.ok (z,q)∧e=.returned (.tuple #[.int .i64 z,.nilIface])∧Rdr w' RB s q∧KeepX (fun q=>q=RB) W w')∨(∃ q v,yj0 s p=.error q∧e=.returned (.tuple #[.int .i64 0,v])∧ErrAt W.heap.size w' v 5 q∧KeepX (fun q=>q=RB) W w')
theorem zp2 (RB:Nat) (s:ByteArray) (p:Nat) (W:World) (h:Rdr W RB s p) :
  Calls Tryz.prog 250 #[.pointer (some ⟨RB,0,none⟩)] W (znw s RB p W):=by
 have hh:=zfr RB s p W h
 have hsz:=h.sz
 have hle:=h.le
 have hRl:=h.lt
 obtain ⟨q0,hq0⟩:∃ q0,q0=if zaq s p=45 then p+1 else p:=⟨_,rfl⟩
 obtain ⟨sg,hsg⟩:∃ sg:Int,sg=if zaq s p=45 then -1 else 1:=⟨_,rfl⟩
 have hq0s:q0≤s.size:=by
  rw [hq0]
  split
  ·rename_i hm
   have:=zds (s:=s) (p:=p) (by omega)
   omega
  ·exact hle
 obtain ⟨rv,hrv⟩:∃ rv,rv=ybu s 9 q0 0:=⟨_,rfl⟩
 have hres:yj0 s p=if rv.2=q0 then Except.error q0 else Except.ok (sg*(rv.1:Int),rv.2):=by
  unfold yj0
  dsimp only
  rw [← hq0,← hrv,hsg]
  by_cases hm:zaq s p=45
  ·rw [if_pos hm,if_pos hm];simp
  ·rw [if_neg hm,if_neg hm];simp
 have hfin0:∀ (w':World) (v:Value),rv.2=q0→ErrAt W.heap.size w' v 5 q0→KeepX (fun q=>q=RB) W w'→znw s RB p W (.returned (.tuple #[.int .i64 0,v])) w':=fun w' v he hE hK=>.inr ⟨q0,v,by rw [hres,if_pos he],rfl,hE,hK⟩
 have hfin1:∀ (w':World) (acc k:Nat),rv=(acc,q0+k)→k≠0→Rdr w' RB s (q0+k)→KeepX (fun q=>q=RB) W w'→znw s RB p W (.returned (.tuple #[.int .i64 (sg*(acc:Int)),.nilIface])) w':=fun w' acc k he hk hR hK=>.inl ⟨_,_,by rw [hres,he,if_neg (by dsimp only;omega)],rfl,hR,hK⟩
 have hsg2:sg=1∨sg=-1:=by rw [hsg];split <;> simp
 have Hq:=zac hrv
 have H:=zac h
 have Hh:=zac hh
 have Hfin0:=zac hfin0
 have Hfin1:=zac hfin1
 clear hrv hres h hh hfin0 hfin1
 by_cases hm:zaq s p=45
 ·rw [if_pos hm] at hq0 hsg
  have hlt:p<s.size:=zds (by omega)
  rw [hm] at Hh
  clear hm
  subst hq0
  have hf1:∀ (w':World) (acc k:Nat),rv=(acc,p+1+k)→k≠0→Rdr w' RB s (p+1+k)→KeepX (fun q=>q=RB) W w'→znw s RB p W (.returned (.tuple #[.int .i64 (-(acc:Int)),.nilIface])) w':=fun w' acc k a b c d=>by
   have h:=(zaa Hfin1) w' acc k a b c d
   rw [hsg,show (-1:Int)*(acc:Int)=-(acc:Int) by omega] at h
   exact h
  have Hf1:=zac hf1
  clear hf1 hsg hsg2 Hfin1
  go_enter Tryz.func250,Tryz.ntmps250
  go_wp2_with (first|(go_at_call 182;refine (zaa Hh).mono ?_;rintro e w1 ⟨rfl,hd⟩;have hR1:=(zaa H).below hd.bel;have d1:=hR1.c1;have f1:=hR1.f1;have HR1:=zac hR1;have Hd:=zac hd;clear hR1 hd))
  have hS:Rdr (w1.setCell ⟨RB,1,none⟩ (.int .i64 ((p:Int)+1))) RB s (p+1):=zfx (q:=p+1) (zaa HR1) (by omega)
  have hK:KeepX (fun q=>q=RB) W (w1.setCell ⟨RB,1,none⟩ (.int .i64 ((p:Int)+1))):=(KeepX.ofBelow (zaa Hd).bel).trans (za4 _ _ _ _)
  obtain ⟨w2,hw2⟩:∃ w2,w2=w1.setCell ⟨RB,1,none⟩ (.int .i64 ((p:Int)+1)):=⟨_,rfl⟩
  rw [← hw2] at hS hK ⊢
  have HS:=zac hS
  have HK:=zac hK
  clear hS hK hw2 HR1 d1 f1
  go_loopw [5] (fun v5 wr=>∃ (k acc:Nat),k≤9∧v5=.int .i64 acc∧acc<10 ^ k∧Rdr wr RB s (p+1+k)∧ybu s (9 - k) (p+1+k) acc=rv∧KeepX (fun q=>q=RB) W wr) (fun _ wr=>s.size+1 - ylf wr RB)
  case atStart=>exact ⟨0,0,by omega,rfl,by omega,zaa HS,(zaa Hq).symm,zaa HK⟩
  case round =>
   obtain ⟨k,acc,hk9,rfl,hacc,hR,hdig,hKr⟩:=hrel
   have hhr:=zfr RB s (p+1+k) wr hR
   have hacc9:acc<10 ^ 9:=Nat.lt_of_lt_of_le hacc (Nat.pow_le_pow_right (by omega) hk9)
   have hle2:=hR.le
   by_cases hdg:zv9 (zaq s (p+1+k))=true
   ·by_cases hk:k<9
    ·have hb:48≤zaq s (p+1+k)∧zaq s (p+1+k)≤57:=by simpa [zv9] using hdg
     have hlt2:p+1+k<s.size:=zds (by omega)
     have hstep:ybu s (9 - (k+1)) (p+1+(k+1)) (10*acc+(zaq s (p+1+k) - 48))=rv:=by
      rw [← hdig,show 9 - k=(9 - (k+1))+1 by omega,ycz hdg]
      rfl
     obtain ⟨bq,hbq⟩:∃ bq,bq=zaq s (p+1+k):=⟨_,rfl⟩
     have hpow:10*acc+(bq - 48)<10 ^ (k+1):=by rw [Nat.pow_succ];omega
     have hisd:=fun w=>zjb bq w
     rw [← hbq] at hhr hb hstep hdg
     have hb1:(48:Int)≤(bq:Int):=by omega
     have hb2:(bq:Int)≤57:=by omega
     have e1:((bq:Int) - 48)=((bq - 48:Nat):Int):=by omega
     have Hhr:=zac hhr
     have hh2:=fun w' (hd:zbd wr w')=>zfr RB s (p+1+k) w' (hR.below hd.bel)
     rw [← hbq] at hh2
     have Hh2:=zac hh2
     have HR:=zac hR
     have HKr:=zac hKr
     have Hstep:=zac hstep
     have Hisd:=zac hisd
     have Hpow:=zac hpow
     have cr:=hR.c1
     clear hhr hh2 hR hKr hdig hstep hisd hbq hacc hpow
     go_wp2_with (first
      | (go_at_call 278;refine ((zaa Hisd) _).mono ?_;rintro e w4 ⟨rfl,rfl⟩;rw [hdg])
      | (go_at_call 182;refine (zaa Hhr).mono ?_;rintro e w3 ⟨rfl,hd⟩;have hR1:=(zaa HR).below hd.bel;have d1:=hR1.c1;have HR1:=zac hR1;have Hd:=zac hd;clear hR1 hd)
      | (go_at_call 182;refine ((zaa Hh2) _ (zaa Hd)).mono ?_;rintro e w5 ⟨rfl,hd5⟩;have hR5:=(zaa HR1).below hd5.bel;have d5:=hR5.c1;have f5:=hR5.f1;have HR5:=zac hR5;have Hd5:=zac hd5;clear hR5 hd5))
     have hset:Rdr (w5.setCell ⟨RB,1,none⟩ (.int .i64 ((p:Int)+1+(k:Int)+1))) RB s (p+1+(k+1)):=by
      have h:=zfx (q:=p+1+(k+1)) (zaa HR5) (by omega)
      rw [show ((p+1+(k+1):Nat):Int)=(p:Int)+1+(k:Int)+1 by omega] at h
      exact h
     have hmes:=hset.pl
     go_roundw
     case rel=>exact ⟨k+1,10*acc+(bq - 48),by omega,by first|rfl|(congr 1;omega)|(congr 1),zaa Hpow,hset,zaa Hstep,(((zaa HKr).trans (KeepX.ofBelow (zaa Hd).bel)).trans (KeepX.ofBelow (zaa Hd5).bel)).trans (za4 _ _ _ _)⟩
     case measure=>rw [hmes,(zaa HR).pl];omega
    ·have hk':k=9:=by omega
     subst hk'
     have hrv:rv=(acc,p+1+9):=hdig.symm
     have hisd:=fun w=>zjb (zaq s (p+1+9)) w
     generalize zaq s (p+1+9)=bq at *
     have Hhr:=zac hhr
     have HR:=zac hR
     have HKr:=zac hKr
     have Hisd:=zac hisd
     have Hrv:=zac hrv
     clear hhr hR hKr hdig hisd hrv hacc
     go_wp2_with (first
      | (go_at_call 278;refine ((zaa Hisd) _).mono ?_;rintro e w4 ⟨rfl,rfl⟩;rw [hdg])
      | (go_at_call 182;refine (zaa Hhr).mono ?_;rintro e w3 ⟨rfl,hd⟩;have hR1:=(zaa HR).below hd.bel;have d1:=hR1.c1;have HR1:=zac hR1;have Hd:=zac hd;clear hR1 hd))
     go_ret2
     exact (zaa Hf1) _ acc 9 (zaa Hrv) (by omega) (zaa HR1) ((zaa HKr).trans (KeepX.ofBelow (zaa Hd).bel))
   ·have hdf:zv9 (zaq s (p+1+k))=false:=by simpa using hdg
    have hrv:rv=(acc,p+1+k):=by rw [← hdig];exact zt8 hdf
    have hisd:=fun w=>zjb (zaq s (p+1+k)) w
    generalize zaq s (p+1+k)=bq at *
    have Hhr:=zac hhr
    have HR:=zac hR
    have HKr:=zac hKr
    have Hisd:=zac hisd
    have Hrv:=zac hrv
    clear hhr hR hKr hdig hisd hrv hacc hdg
    by_cases hk0:k=0
    ·subst hk0
     go_wp2_with (first
      | (go_at_call 278;refine ((zaa Hisd) _).mono ?_;rintro e w4 ⟨rfl,rfl⟩;rw [hdf])
      | (go_at_call 182;refine (zaa Hhr).mono ?_;rintro e w3 ⟨rfl,hd⟩;have hR1:=(zaa HR).below hd.bel;have d1:=hR1.c1;have HR1:=zac hR1;have Hd:=zac hd;clear hR1 hd)
      | (go_at_call 181;refine (zf8 RB s (p+1) _ (zaa HR1)).mono ?_;rintro e w6 ⟨v,rfl,hE,hb6⟩;have HE:=zac hE;have Hb6:=zac hb6;clear hE hb6))
     go_ret2
     exact (zaa Hfin0) _ _ (congrArg Prod.snd (zaa Hrv)) ((zaa HE).mono (by have:=(zaa HKr).size;have:=(zaa Hd).bel.size;omega)) (((zaa HKr).trans (KeepX.ofBelow (zaa Hd).bel)).trans (KeepX.ofBelow (zaa Hb6)))
    ·have hkz:¬ ((p:Int)+1+(k:Int)=(p:Int)+1):=by omega
     go_wp2_with (first
      | (go_at_call 278;refine ((zaa Hisd) _).mono ?_;rintro e w4 ⟨rfl,rfl⟩;rw [hdf])
      | (go_at_call 182;refine (zaa Hhr).mono ?_;rintro e w3 ⟨rfl,hd⟩;have hR1:=(zaa HR).below hd.bel;have d1:=hR1.c1;have HR1:=zac hR1;have Hd:=zac hd;clear hR1 hd))
     go_ret2
     exact (zaa Hf1) _ acc k (zaa Hrv) (by omega) (zaa HR1) ((zaa HKr).trans (KeepX.ofBelow (zaa Hd).bel))

 ·rw [if_neg hm] at hq0 hsg
  have hmz:((zaq s p:Int) == 45)=false:=by
   rw [beq_eq_false_iff_ne]
   omega
  generalize zaq s p=bp at *
  clear hm
  subst hq0
  have hf1:∀ (w':World) (acc k:Nat),rv=(acc,q0+k)→k≠0→Rdr w' RB s (q0+k)→KeepX (fun q=>q=RB) W w'→znw s RB q0 W (.returned (.tuple #[.int .i64 (acc:Int),.nilIface])) w':=fun w' acc k a b c d=>by
   have h:=(zaa Hfin1) w' acc k a b c d
   rw [hsg,Int.one_mul] at h
   exact h
  have Hf1:=zac hf1
  clear hf1 hsg hsg2 Hfin1
  go_enter Tryz.func250,Tryz.ntmps250
  go_wp2_with (first|(go_at_call 182;refine (zaa Hh).mono ?_;rintro e w2 ⟨rfl,hd⟩;have hR1:=(zaa H).below hd.bel;have d1:=hR1.c1;have HR1:=zac hR1;have Hd:=zac hd;clear hR1 hd))
  have hS:Rdr w2 RB s q0:=zaa HR1
  have hK:KeepX (fun q=>q=RB) W w2:=KeepX.ofBelow (zaa Hd).bel
  have HS:=zac hS
  have HK:=zac hK
  clear hS hK HR1 d1
  go_loopw [5] (fun v5 wr=>∃ (k acc:Nat),k≤9∧v5=.int .i64 acc∧acc<10 ^ k∧Rdr wr RB s (q0+k)∧ybu s (9 - k) (q0+k) acc=rv∧KeepX (fun q=>q=RB) W wr) (fun _ wr=>s.size+1 - ylf wr RB)
  case atStart=>exact ⟨0,0,by omega,rfl,by omega,zaa HS,(zaa Hq).symm,zaa HK⟩
  case round =>
   obtain ⟨k,acc,hk9,rfl,hacc,hR,hdig,hKr⟩:=hrel
   have hhr:=zfr RB s (q0+k) wr hR
   have hacc9:acc<10 ^ 9:=Nat.lt_of_lt_of_le hacc (Nat.pow_le_pow_right (by omega) hk9)
   have hle2:=hR.le
   by_cases hdg:zv9 (zaq s (q0+k))=true
   ·by_cases hk:k<9
    ·have hb:48≤zaq s (q0+k)∧zaq s (q0+k)≤57:=by simpa [zv9] using hdg
     have hlt2:q0+k<s.size:=zds (by omega)
     have hstep:ybu s (9 - (k+1)) (q0+(k+1)) (10*acc+(zaq s (q0+k) - 48))=rv:=by
      rw [← hdig,show 9 - k=(9 - (k+1))+1 by omega,ycz hdg]
      rfl
     obtain ⟨bq,hbq⟩:∃ bq,bq=zaq s (q0+k):=⟨_,rfl⟩
     have hpow:10*acc+(bq - 48)<10 ^ (k+1):=by rw [Nat.pow_succ];omega
     have hisd:=fun w=>zjb bq w
     rw [← hbq] at hhr hb hstep hdg
     have hb1:(48:Int)≤(bq:Int):=by omega
     have hb2:(bq:Int)≤57:=by omega
     have e1:((bq:Int) - 48)=((bq - 48:Nat):Int):=by omega
     have Hhr:=zac hhr
     have hh2:=fun w' (hd:zbd wr w')=>zfr RB s (q0+k) w' (hR.below hd.bel)
     rw [← hbq] at hh2
     have Hh2:=zac hh2
     have HR:=zac hR
     have HKr:=zac hKr
     have Hstep:=zac hstep
     have Hisd:=zac hisd
     have Hpow:=zac hpow
     have cr:=hR.c1
     clear hhr hh2 hR hKr hdig hstep hisd hbq hacc hpow
     go_wp2_with (first
      | (go_at_call 278;refine ((zaa Hisd) _).mono ?_;rintro e w4 ⟨rfl,rfl⟩;rw [hdg])
      | (go_at_call 182;refine (zaa Hhr).mono ?_;rintro e w3 ⟨rfl,hd⟩;have hR1:=(zaa HR).below hd.bel;have d1:=hR1.c1;have HR1:=zac hR1;have Hd:=zac hd;clear hR1 hd)
      | (go_at_call 182;refine ((zaa Hh2) _ (zaa Hd)).mono ?_;rintro e w5 ⟨rfl,hd5⟩;have hR5:=(zaa HR1).below hd5.bel;have d5:=hR5.c1;have f5:=hR5.f1;have HR5:=zac hR5;have Hd5:=zac hd5;clear hR5 hd5))
     have hset:Rdr (w5.setCell ⟨RB,1,none⟩ (.int .i64 ((q0:Int)+(k:Int)+1))) RB s (q0+(k+1)):=by
      have h:=zfx (q:=q0+(k+1)) (zaa HR5) (by omega)
      rw [show ((q0+(k+1):Nat):Int)=(q0:Int)+(k:Int)+1 by omega] at h
      exact h
     have hmes:=hset.pl
     go_roundw
     case rel=>exact ⟨k+1,10*acc+(bq - 48),by omega,by first|rfl|(congr 1;omega)|(congr 1),zaa Hpow,hset,zaa Hstep,(((zaa HKr).trans (KeepX.ofBelow (zaa Hd).bel)).trans (KeepX.ofBelow (zaa Hd5).bel)).trans (za4 _ _ _ _)⟩
     case measure=>rw [hmes,(zaa HR).pl];omega
    ·have hk':k=9:=by omega
     subst hk'
     have hrv:rv=(acc,q0+9):=hdig.symm
     have hisd:=fun w=>zjb (zaq s (q0+9)) w
     generalize zaq s (q0+9)=bq at *
     have Hhr:=zac hhr
     have HR:=zac hR
     have HKr:=zac hKr
     have Hisd:=zac hisd
     have Hrv:=zac hrv
     clear hhr hR hKr hdig hisd hrv hacc
     go_wp2_with (first
      | (go_at_call 278;refine ((zaa Hisd) _).mono ?_;rintro e w4 ⟨rfl,rfl⟩;rw [hdg])
      | (go_at_call 182;refine (zaa Hhr).mono ?_;rintro e w3 ⟨rfl,hd⟩;have hR1:=(zaa HR).below hd.bel;have d1:=hR1.c1;have HR1:=zac hR1;have Hd:=zac hd;clear hR1 hd))
     go_ret2
     exact (zaa Hf1) _ acc 9 (zaa Hrv) (by omega) (zaa HR1) ((zaa HKr).trans (KeepX.ofBelow (zaa Hd).bel))
   ·have hdf:zv9 (zaq s (q0+k))=false:=by simpa using hdg
    have hrv:rv=(acc,q0+k):=by rw [← hdig];exact zt8 hdf
    have hisd:=fun w=>zjb (zaq s (q0+k)) w
    generalize zaq s (q0+k)=bq at *
    have Hhr:=zac hhr
    have HR:=zac hR
    have HKr:=zac hKr
    have Hisd:=zac hisd
    have Hrv:=zac hrv
    clear hhr hR hKr hdig hisd hrv hacc hdg
    by_cases hk0:k=0
    ·subst hk0
     go_wp2_with (first
      | (go_at_call 278;refine ((zaa Hisd) _).mono ?_;rintro e w4 ⟨rfl,rfl⟩;rw [hdf])
      | (go_at_call 182;refine (zaa Hhr).mono ?_;rintro e w3 ⟨rfl,hd⟩;have hR1:=(zaa HR).below hd.bel;have d1:=hR1.c1;have HR1:=zac hR1;have Hd:=zac hd;clear hR1 hd)
      | (go_at_call 181;refine (zf8 RB s (q0) _ (zaa HR1)).mono ?_;rintro e w6 ⟨v,rfl,hE,hb6⟩;have HE:=zac hE;have Hb6:=zac hb6;clear hE hb6))
     go_ret2
     exact (zaa Hfin0) _ _ (congrArg Prod.snd (zaa Hrv)) ((zaa HE).mono (by have:=(zaa HKr).size;have:=(zaa Hd).bel.size;omega)) (((zaa HKr).trans (KeepX.ofBelow (zaa Hd).bel)).trans (KeepX.ofBelow (zaa Hb6)))
    ·have hkz:¬ ((q0:Int)+(k:Int)=(q0:Int)):=by omega
     go_wp2_with (first
      | (go_at_call 278;refine ((zaa Hisd) _).mono ?_;rintro e w4 ⟨rfl,rfl⟩;rw [hdf])
      | (go_at_call 182;refine (zaa Hhr).mono ?_;rintro e w3 ⟨rfl,hd⟩;have hR1:=(zaa HR).below hd.bel;have d1:=hR1.c1;have HR1:=zac hR1;have Hd:=zac hd;clear hR1 hd))
     go_ret2
     exact (zaa Hf1) _ acc k (zaa Hrv) (by omega) (zaa HR1) ((zaa HKr).trans (KeepX.ofBelow (zaa Hd).bel))
theorem zcd {X:Nat→Prop} {W w:World} (h:KeepX X W w) {b:Nat} (hb:W.heap.size≤b) (o:Nat) (v:Value):KeepX X W (w.setCell ⟨b,o,none⟩ v):=
 ⟨h.os,h.tape,h.output,Nat.le_trans h.size (KeepsWalks.setCell w _ v).size,fun q hq hx=>(Below.heap_setCell _ _ _ q (fun e=>by simp at e;omega)).trans (h.blk q hq hx)⟩
theorem Rdr.setO {w:World} {RB:Nat} {s:ByteArray} {q:Nat} (h:Rdr w RB s q) {b:Nat} (hb:b≠RB) (o:Nat) (v:Value):Rdr (w.setCell ⟨b,o,none⟩ v) RB s q:=
 h.keep (Below.heap_setCell _ _ _ RB (fun e=>hb (by simp at e;omega)))
theorem ErrAt.setO {B:Nat} {W:World} {v:Value} {c q:Nat} (h:ErrAt B W v c q) {b:Nat} (hb:b<B) (o:Nat) (u:Value):ErrAt B (W.setCell ⟨b,o,none⟩ u) v c q:=
 h.keep (za4 W b o u) (fun k e=>by omega)
def yft (W:World) (RB:Nat) (s:ByteArray) (p:Nat) (e:Ending) (w':World):Prop:=
 (∃ x q,zp8 s p=.ok (x,q)∧e=.returned (.tuple #[.agg #[.int .u8 x.1,.int .i64 x.2],.nilIface])∧Rdr w' RB s q∧KeepX (fun q=>q=RB) W w') ∨
 (∃ q v z,zp8 s p=.error q∧e=.returned (.tuple #[.agg #[.int .u8 0,.int .i64 z],v])∧ErrAt W.heap.size w' v 5 q∧KeepX (fun q=>q=RB) W w')
theorem zvb (RB:Nat) (s:ByteArray) (p:Nat) (W:World) (h:Rdr W RB s p) :
  Calls Tryz.prog 218 #[.pointer (some ⟨RB,0,none⟩)] W (yft W RB s p):=by
 have hsz:=h.sz
 have hl:=h.lt
 have h0:=h.below ((Below.refl _ _).alloc (Nat.le_refl _) (.cells #[.int .u8 0,.int .i64 0] 327))
 have H:=zac (zgu RB s p _ h0)
 clear h h0
 have ht:zp8 s p=if zun (zaq s (zbc s p)) then .ok ((zaq s (zbc s p),0),zbc s p+1) else match yj0 s (zbc s p) with
  | .error q=>.error q
  | .ok (z,q)=>.ok ((0,z),q):=rfl
 obtain ⟨q,hq⟩:∃ q,q=zbc s p:=⟨_,rfl⟩
 rw [← hq] at H ht
 clear hq
 obtain ⟨bq,hbq⟩:∃ bq,bq=zaq s q:=⟨_,rfl⟩
 rw [← hbq] at H ht
 have hv:=fun w=>zr6 bq w
 by_cases hb:zun bq=true
 ·have hlt:q<s.size:=zds (by rw [← hbq];intro e;rw [e] at hb;cases hb)
  rw [hb] at hv
  rw [if_pos hb] at ht
  have Ht:=zac ht
  clear ht
  have Hv:=zac hv
  clear hbq hb hv
  go_enter Tryz.func218,Tryz.ntmps218
  go_wp2_with (first
   | (go_at_call 101;refine ((zaa Hv) _).mono ?_;rintro e w4 ⟨rfl,rfl⟩)
   | (go_at_call 180;refine (zaa H).mono ?_;rintro e w1 ⟨rfl,hR1,hK1⟩;have d1:=hR1.c1;have f1:=hR1.f1;have hB1:=(hK1.blk W.heap.size (by simp) (by omega)).trans (zae _ _ _ rfl);have e0:w1.cell? ⟨W.heap.size,0,none⟩=some (.int .u8 0):=zab hB1 0;have e1:w1.cell? ⟨W.heap.size,1,none⟩=some (.int .i64 0):=zab hB1 1;have g0:w1.frozen? ⟨W.heap.size,0,none⟩=false:=zad hB1 0;have g1:w1.frozen? ⟨W.heap.size,1,none⟩=false:=zad hB1 1;have HR1:=zac hR1;have HK1:=zac hK1;have HB1:=zac hB1;clear hR1 hK1 hB1))
  have hKW:KeepX (fun q=>q=RB) W w4:=(KeepX.ofBelow ((Below.refl _ _).alloc (Nat.le_refl _) _)).trans (zaa HK1)
  refine bodyPost_ret (v:=.tuple #[.agg #[.int .u8 bq,.int .i64 0],.nilIface]) (by simp [results,Tryz.results218,go_sem,e0,e1,g0,g1]) rfl (.inl ⟨_,_,zaa Ht,rfl,?_,?_⟩)
  ·exact ((zfx (q:=q+1) (zaa HR1) (by omega)).setO (by omega) _ _).setO (by omega) _ _
  ·exact zcd (zcd (hKW.trans (za4 _ _ _ _)) (Nat.le_refl _) _ _) (Nat.le_refl _) _ _
 ·have hbf:zun bq=false:=by simpa using hb
  rw [hbf] at hv
  rw [if_neg (by simp [hbf])] at ht
  have Ht:=zac ht
  clear ht
  have Hv:=zac hv
  clear hbq hb hv
  go_enter Tryz.func218,Tryz.ntmps218
  go_wp2_with (first
   | (go_at_call 101;refine ((zaa Hv) _).mono ?_;rintro e w4 ⟨rfl,rfl⟩)
   | (go_at_call 180;refine (zaa H).mono ?_;rintro e w1 ⟨rfl,hR1,hK1⟩;have hB1:=(hK1.blk W.heap.size (by simp) (by omega)).trans (zae _ _ _ rfl);have HR1:=zac hR1;have HK1:=zac hK1;have HB1:=zac hB1;clear hR1 hK1 hB1)
   | (go_at_call 250;refine (zp2 RB s q _ (zaa HR1)).mono ?_))
  rintro e w2 hN
  have hKW:KeepX (fun q=>q=RB) W w4:=(KeepX.ofBelow ((Below.refl _ _).alloc (Nat.le_refl _) _)).trans (zaa HK1)
  have hlt4:W.heap.size<w4.heap.size:=by have:=(zaa HK1).size;simp at this;omega
  rcases hN with ⟨z,q2,hn,rfl,hR2,hK2⟩|⟨q2,v,hn,rfl,hE2,hK2⟩
  ·have hB2:=(hK2.blk W.heap.size hlt4 (by omega)).trans (zaa HB1)
   have e0:w2.cell? ⟨W.heap.size,0,none⟩=some (.int .u8 0):=zab hB2 0
   have e1:w2.cell? ⟨W.heap.size,1,none⟩=some (.int .i64 0):=zab hB2 1
   have g0:w2.frozen? ⟨W.heap.size,0,none⟩=false:=zad hB2 0
   have g1:w2.frozen? ⟨W.heap.size,1,none⟩=false:=zad hB2 1
   have HR2:=zac hR2
   have HK2:=zac (hKW.trans hK2)
   have Hn:=zac hn
   clear hR2 hK2 hKW hB2 hn HR1 HK1 HB1
   go_wp2_with (first
    | (go_at_call 139;refine (zuj _ _).mono ?_;rintro e w5 ⟨rfl,rfl⟩))
   refine bodyPost_ret (v:=.tuple #[.agg #[.int .u8 0,.int .i64 z],.nilIface]) (by simp [results,Tryz.results218,go_sem,e0,e1,g0,g1]) rfl (.inl ⟨(0,z),q2,by rw [zaa Ht,zaa Hn],rfl,?_,?_⟩)
   ·exact ((zaa HR2).setO (by omega) _ _).setO (by omega) _ _
   ·exact zcd (zcd (zaa HK2) (Nat.le_refl _) _ _) (Nat.le_refl _) _ _
  ·have hB2:=(hK2.blk W.heap.size hlt4 (by omega)).trans (zaa HB1)
   have HE:=zac (zui ⟨#[110,117,109,98,101,114]⟩ v _ 5 q2 w2 hE2 hK2.size)
   have HB2:=zac hB2
   have hl2:W.heap.size<w2.heap.size:=by have:=hK2.size;omega
   have HK2:=zac (hKW.trans hK2)
   have Hn:=zac hn
   clear hE2 hK2 hKW hB2 hn HR1 HK1 HB1
   go_wp2_with fail
   refine (zaa HE).mono ?_
   rintro e w3 ⟨v',rfl,hE3,hb3⟩
   have hB3:=(hb3.block W.heap.size hl2).trans (zaa HB2)
   have e0:w3.cell? ⟨W.heap.size,0,none⟩=some (.int .u8 0):=zab hB3 0
   have e1:w3.cell? ⟨W.heap.size,1,none⟩=some (.int .i64 0):=zab hB3 1
   have g0:w3.frozen? ⟨W.heap.size,0,none⟩=false:=zad hB3 0
   have g1:w3.frozen? ⟨W.heap.size,1,none⟩=false:=zad hB3 1
   have HE3:=zac hE3
   have HK3:=zac ((zaa HK2).trans (KeepX.ofBelow hb3))
   clear hE3 hb3 hB3
   go_wp2_with fail
   refine bodyPost_ret (v:=.tuple #[.agg #[.int .u8 0,.int .i64 0],v']) (by simp [results,Tryz.results218,go_sem,e0,e1,g0,g1]) rfl (.inr ⟨q2,v',0,by rw [zaa Ht,zaa Hn],rfl,?_,?_⟩)
   ·exact ((((zaa HE3).setO hlt4 _ _).setO hlt4 _ _)).mono (by omega)
   ·exact zcd (zcd (zaa HK3) (Nat.le_refl _) _ _) (Nat.le_refl _) _ _
end Go.Proofs.YtoifcnidhfnapaaGreatDoor
