import Derived.Test.YtoifcnidhfnapabGreatDoorB39
set_option linter.unusedVariables false
set_option linter.unusedSimpArgs false
set_option maxRecDepth 100000
set_option maxHeartbeats 16000000
namespace Go.Proofs.YtoifcnidhfnapabGreatDoor
open Go.RowKit Go.Maps
theorem zsp {α:Type} {item:Nat→Except Nat (α×Nat)} {s:ByteArray} {m p q:Nat} {acc:List α} {x:α} (h:item p=.ok (x,q)):zg1 item s (m+1) p acc=if m=0 then .ok (acc ++ [x],q) else if zaq s (zba s q)=44 then zg1 item s m (zba s q+1) (acc ++ [x]) else .ok (acc ++ [x],zba s q):=by
 simp only [zg1,h]
theorem zo8 {α:Type} {item:Nat→Except Nat (α×Nat)} {s:ByteArray} {m p q:Nat} {acc:List α} (h:item p=.error q):zg1 item s (m+1) p acc=.error q:=by
 simp only [zg1,h]
def zr1 {α:Type} (B0 RB:Nat) (s:ByteArray) (r:Except Nat (List α×Nat)) (J:List α→World→Prop) (J':World→Prop) (W:World) (e:Ending) (w':World):Prop:=
 (∃ xs q,r=.ok (xs,q)∧e=.returned .nilIface∧Rdr w' RB s q∧J xs w'∧zh4 B0 RB W w')∨(∃ q v,r=.error q∧e=.returned v∧zcx B0 w' v 5 q∧J' w'∧zh4 B0 RB W w')
theorem yhj {α:Type} (RB B0:Nat) (s t:ByteArray) (ht:t.size≤1000) (most:Nat) (h1:1≤most) (h9:most≤9) (c1 c2:Value) (item:Nat→Except Nat (α×Nat)) (J:List α→World→Prop) (J':World→Prop)
  (hJ:∀ acc w w',J acc w→KeepX (fun q=>q=RB) w w'→J acc w') (hJ':∀ w w',J' w→KeepX (fun q=>q=RB) w w'→J' w')
  (hcall:∀ acc p w,acc.length<most→Rdr w RB s p→J acc w→B0≤w.heap.size→Calls Tryz.prog 145 #[c1,c2] w (zfi B0 RB s (item p) (fun x w'=>J (acc ++ [x]) w') J' w))
  (p:Nat) (W:World) (hR:Rdr W RB s p) (h0:J [] W) (hB:B0≤W.heap.size) :
  Calls Tryz.prog 107 #[.pointer (some ⟨RB,0,none⟩),.string t,.int .i64 most,.func (.func 145) #[] #[c1,c2]] W (zr1 B0 RB s (zg1 item s most p []) J J' W):=by
 have HR:=zac hR
 have H0:=zac h0
 have Hcall:=zac hcall
 have HJ:=zac hJ
 have HJ':=zac hJ'
 clear hR h0 hcall hJ hJ'
 go_enter Tryz.func107,Tryz.ntmps107
 go_wp2
 go_loopw [9] (fun i wr=>∃ (k p':Nat) (acc:List α),acc.length=k∧k<most∧i=.int .i64 ((k:Int)+1)∧Rdr wr RB s p'∧J acc wr∧zh4 B0 RB W wr∧zg1 item s (most - k) p' acc=zg1 item s most p []) (fun i _=>most - (intOf i).toNat)
 case atStart=>exact ⟨0,p,[],rfl,by omega,rfl,zaa HR,zaa H0,KeepX.refl _ _,by simp⟩
 case round =>
  obtain ⟨k,p',acc,hk,hlt,rfl,hRr,hJr,hKr,hlist⟩:=hrel
  have hBr:B0≤wr.heap.size:=Nat.le_trans hB hKr.size
  have Hc:=zac ((zaa Hcall) acc p' wr (by omega) hRr hJr hBr)
  have HKr:=zac hKr
  have Hlist:=zac hlist
  obtain ⟨m,hm⟩:∃ m,most - k=m+1:=⟨most - k - 1,by omega⟩
  rw [hm] at hlist
  have Hl:=zac hlist
  clear hRr hJr hKr hlist
  go_wp2_with fail
  refine (zaa Hc).mono ?_
  rintro e w1 (⟨x,q,hi,rfl,hR1,hJ1,hK1⟩|⟨q,v,hi,rfl,hE1,hJ1,hK1⟩)
  ·have hl2:=(zsp hi).symm.trans (zaa Hl)
   by_cases hmost:k+1=most
   ·have hz:(k:Int)+1=(most:Int):=by omega
    rw [if_pos (show m=0 by omega)] at hl2
    have HF:=zac (And.intro hl2.symm (And.intro hR1 (And.intro hJ1 ((zaa HKr).trans hK1))))
    clear hl2 hR1 hJ1 hK1 Hc Hl hi
    go_wp2
    go_ret
    exact .inl ⟨_,_,(zaa HF).1,rfl,(zaa HF).2.1,(zaa HF).2.2.1,(zaa HF).2.2.2⟩
   ·have hz:¬ (k:Int)+1=(most:Int):=by omega
    rw [if_neg (show ¬ m=0 by omega)] at hl2
    have Ht:=zac (zlq RB s q 44 (by omega) w1 hR1)
    by_cases hcm:zaq s (zba s q)=44
    ·rw [if_pos hcm] at hl2 Ht
     rw [decide_eq_true hcm] at Ht
     have HJ1:=zac hJ1
     have HK1:=zac ((zaa HKr).trans hK1)
     have Hl2:=zac hl2
     clear hl2 hR1 hJ1 hK1 Hc Hl hi hcm
     go_wp2_with (first|(go_at_call 106;refine (zaa Ht).mono ?_;rintro e w2 ⟨rfl,hR2,hK2⟩;have HR2:=zac hR2;have HK2:=zac hK2;clear hR2 hK2))
     go_roundw
     case rel=>exact ⟨k+1,_,acc ++ [x],by simp [hk],by omega,by go_num,zaa HR2,(zaa HJ) _ _ _ (zaa HJ1) (zaa HK2),(zaa HK1).trans ((zaa HK2).mono fun q _ e=>.inl e),by rw [show most - (k+1)=m by omega];exact zaa Hl2⟩
     case measure=>simp [intOf];omega
    ·rw [if_neg hcm] at hl2 Ht
     rw [decide_eq_false hcm] at Ht
     have HJ1:=zac hJ1
     have HK1:=zac ((zaa HKr).trans hK1)
     have Hl2:=zac hl2
     clear hl2 hR1 hJ1 hK1 Hc Hl hi hcm
     go_wp2_with (first|(go_at_call 106;refine (zaa Ht).mono ?_;rintro e w2 ⟨rfl,hR2,hK2⟩;have HR2:=zac hR2;have HK2:=zac hK2;clear hR2 hK2))
     go_ret
     exact .inl ⟨_,_,(zaa Hl2).symm,rfl,zaa HR2,(zaa HJ) _ _ _ (zaa HJ1) (zaa HK2),(zaa HK1).trans ((zaa HK2).mono fun q _ e=>.inl e)⟩
  ·have hl2:=(zo8 hi).symm.trans (zaa Hl)
   obtain ⟨ty,b,rfl,hty⟩:=hE1.form
   have Hi:=zac (zmh t (k+1) _ B0 5 q w1 ht (by omega) hE1 (Nat.le_trans hBr hK1.size))
   have HJ1:=zac hJ1
   have HK1:=zac ((zaa HKr).trans hK1)
   have Hl2:=zac hl2
   clear hl2 hE1 hJ1 hK1 Hc Hl hi
   go_wp2_with (first|(go_at_call 115;refine (zaa Hi).mono ?_;rintro e w2 ⟨v',rfl,hE2,hb2⟩;have HE2:=zac hE2;have Hb2:=zac hb2;clear hE2 hb2))
   go_ret
   exact .inr ⟨_,_,(zaa Hl2).symm,rfl,zaa HE2,(zaa HJ') _ _ (zaa HJ1) (KeepX.ofBelow (zaa Hb2)),(zaa HK1).trans (KeepX.ofBelow (zaa Hb2))⟩
theorem yhh {α:Type} (RB B0:Nat) (s t:ByteArray) (ht:t.size≤1000) (most:Nat) (h1:1≤most) (h9:most≤9) (c1 c2:Value) (item:Nat→Except Nat (α×Nat)) (J:List α→World→Prop) (J':World→Prop)
  (hJ:∀ acc w w',J acc w→KeepX (fun q=>q=RB) w w'→J acc w') (hJ':∀ w w',J' w→KeepX (fun q=>q=RB) w w'→J' w')
  (hcall:∀ acc p w,acc.length<most→Rdr w RB s p→J acc w→B0≤w.heap.size→Calls Tryz.prog 108 #[c1,c2] w (zfi B0 RB s (item p) (fun x w'=>J (acc ++ [x]) w') J' w))
  (p:Nat) (W:World) (hR:Rdr W RB s p) (h0:J [] W) (hB:B0≤W.heap.size) :
  Calls Tryz.prog 107 #[.pointer (some ⟨RB,0,none⟩),.string t,.int .i64 most,.func (.func 108) #[] #[c1,c2]] W (zr1 B0 RB s (zg1 item s most p []) J J' W):=by
 have HR:=zac hR
 have H0:=zac h0
 have Hcall:=zac hcall
 have HJ:=zac hJ
 have HJ':=zac hJ'
 clear hR h0 hcall hJ hJ'
 go_enter Tryz.func107,Tryz.ntmps107
 go_wp2
 go_loopw [9] (fun i wr=>∃ (k p':Nat) (acc:List α),acc.length=k∧k<most∧i=.int .i64 ((k:Int)+1)∧Rdr wr RB s p'∧J acc wr∧zh4 B0 RB W wr∧zg1 item s (most - k) p' acc=zg1 item s most p []) (fun i _=>most - (intOf i).toNat)
 case atStart=>exact ⟨0,p,[],rfl,by omega,rfl,zaa HR,zaa H0,KeepX.refl _ _,by simp⟩
 case round =>
  obtain ⟨k,p',acc,hk,hlt,rfl,hRr,hJr,hKr,hlist⟩:=hrel
  have hBr:B0≤wr.heap.size:=Nat.le_trans hB hKr.size
  have Hc:=zac ((zaa Hcall) acc p' wr (by omega) hRr hJr hBr)
  have HKr:=zac hKr
  have Hlist:=zac hlist
  obtain ⟨m,hm⟩:∃ m,most - k=m+1:=⟨most - k - 1,by omega⟩
  rw [hm] at hlist
  have Hl:=zac hlist
  clear hRr hJr hKr hlist
  go_wp2_with fail
  refine (zaa Hc).mono ?_
  rintro e w1 (⟨x,q,hi,rfl,hR1,hJ1,hK1⟩|⟨q,v,hi,rfl,hE1,hJ1,hK1⟩)
  ·have hl2:=(zsp hi).symm.trans (zaa Hl)
   by_cases hmost:k+1=most
   ·have hz:(k:Int)+1=(most:Int):=by omega
    rw [if_pos (show m=0 by omega)] at hl2
    have HF:=zac (And.intro hl2.symm (And.intro hR1 (And.intro hJ1 ((zaa HKr).trans hK1))))
    clear hl2 hR1 hJ1 hK1 Hc Hl hi
    go_wp2
    go_ret
    exact .inl ⟨_,_,(zaa HF).1,rfl,(zaa HF).2.1,(zaa HF).2.2.1,(zaa HF).2.2.2⟩
   ·have hz:¬ (k:Int)+1=(most:Int):=by omega
    rw [if_neg (show ¬ m=0 by omega)] at hl2
    have Ht:=zac (zlq RB s q 44 (by omega) w1 hR1)
    by_cases hcm:zaq s (zba s q)=44
    ·rw [if_pos hcm] at hl2 Ht
     rw [decide_eq_true hcm] at Ht
     have HJ1:=zac hJ1
     have HK1:=zac ((zaa HKr).trans hK1)
     have Hl2:=zac hl2
     clear hl2 hR1 hJ1 hK1 Hc Hl hi hcm
     go_wp2_with (first|(go_at_call 106;refine (zaa Ht).mono ?_;rintro e w2 ⟨rfl,hR2,hK2⟩;have HR2:=zac hR2;have HK2:=zac hK2;clear hR2 hK2))
     go_roundw
     case rel=>exact ⟨k+1,_,acc ++ [x],by simp [hk],by omega,by go_num,zaa HR2,(zaa HJ) _ _ _ (zaa HJ1) (zaa HK2),(zaa HK1).trans ((zaa HK2).mono fun q _ e=>.inl e),by rw [show most - (k+1)=m by omega];exact zaa Hl2⟩
     case measure=>simp [intOf];omega
    ·rw [if_neg hcm] at hl2 Ht
     rw [decide_eq_false hcm] at Ht
     have HJ1:=zac hJ1
     have HK1:=zac ((zaa HKr).trans hK1)
     have Hl2:=zac hl2
     clear hl2 hR1 hJ1 hK1 Hc Hl hi hcm
     go_wp2_with (first|(go_at_call 106;refine (zaa Ht).mono ?_;rintro e w2 ⟨rfl,hR2,hK2⟩;have HR2:=zac hR2;have HK2:=zac hK2;clear hR2 hK2))
     go_ret
     exact .inl ⟨_,_,(zaa Hl2).symm,rfl,zaa HR2,(zaa HJ) _ _ _ (zaa HJ1) (zaa HK2),(zaa HK1).trans ((zaa HK2).mono fun q _ e=>.inl e)⟩
  ·have hl2:=(zo8 hi).symm.trans (zaa Hl)
   obtain ⟨ty,b,rfl,hty⟩:=hE1.form
   have Hi:=zac (zmh t (k+1) _ B0 5 q w1 ht (by omega) hE1 (Nat.le_trans hBr hK1.size))
   have HJ1:=zac hJ1
   have HK1:=zac ((zaa HKr).trans hK1)
   have Hl2:=zac hl2
   clear hl2 hE1 hJ1 hK1 Hc Hl hi
   go_wp2_with (first|(go_at_call 115;refine (zaa Hi).mono ?_;rintro e w2 ⟨v',rfl,hE2,hb2⟩;have HE2:=zac hE2;have Hb2:=zac hb2;clear hE2 hb2))
   go_ret
   exact .inr ⟨_,_,(zaa Hl2).symm,rfl,zaa HE2,(zaa HJ') _ _ (zaa HJ1) (KeepX.ofBelow (zaa Hb2)),(zaa HK1).trans (KeepX.ofBelow (zaa Hb2))⟩
theorem yhi {α:Type} (RB B0:Nat) (s t:ByteArray) (ht:t.size≤1000) (most:Nat) (h1:1≤most) (h9:most≤9) (c1 c2:Value) (item:Nat→Except Nat (α×Nat)) (J:List α→World→Prop) (J':World→Prop)
  (hJ:∀ acc w w',J acc w→KeepX (fun q=>q=RB) w w'→J acc w') (hJ':∀ w w',J' w→KeepX (fun q=>q=RB) w w'→J' w')
  (hcall:∀ acc p w,acc.length<most→Rdr w RB s p→J acc w→B0≤w.heap.size→Calls Tryz.prog 112 #[c1,c2] w (zfi B0 RB s (item p) (fun x w'=>J (acc ++ [x]) w') J' w))
  (p:Nat) (W:World) (hR:Rdr W RB s p) (h0:J [] W) (hB:B0≤W.heap.size) :
  Calls Tryz.prog 107 #[.pointer (some ⟨RB,0,none⟩),.string t,.int .i64 most,.func (.func 112) #[] #[c1,c2]] W (zr1 B0 RB s (zg1 item s most p []) J J' W):=by
 have HR:=zac hR
 have H0:=zac h0
 have Hcall:=zac hcall
 have HJ:=zac hJ
 have HJ':=zac hJ'
 clear hR h0 hcall hJ hJ'
 go_enter Tryz.func107,Tryz.ntmps107
 go_wp2
 go_loopw [9] (fun i wr=>∃ (k p':Nat) (acc:List α),acc.length=k∧k<most∧i=.int .i64 ((k:Int)+1)∧Rdr wr RB s p'∧J acc wr∧zh4 B0 RB W wr∧zg1 item s (most - k) p' acc=zg1 item s most p []) (fun i _=>most - (intOf i).toNat)
 case atStart=>exact ⟨0,p,[],rfl,by omega,rfl,zaa HR,zaa H0,KeepX.refl _ _,by simp⟩
 case round =>
  obtain ⟨k,p',acc,hk,hlt,rfl,hRr,hJr,hKr,hlist⟩:=hrel
  have hBr:B0≤wr.heap.size:=Nat.le_trans hB hKr.size
  have Hc:=zac ((zaa Hcall) acc p' wr (by omega) hRr hJr hBr)
  have HKr:=zac hKr
  have Hlist:=zac hlist
  obtain ⟨m,hm⟩:∃ m,most - k=m+1:=⟨most - k - 1,by omega⟩
  rw [hm] at hlist
  have Hl:=zac hlist
  clear hRr hJr hKr hlist
  go_wp2_with fail
  refine (zaa Hc).mono ?_
  rintro e w1 (⟨x,q,hi,rfl,hR1,hJ1,hK1⟩|⟨q,v,hi,rfl,hE1,hJ1,hK1⟩)
  ·have hl2:=(zsp hi).symm.trans (zaa Hl)
   by_cases hmost:k+1=most
   ·have hz:(k:Int)+1=(most:Int):=by omega
    rw [if_pos (show m=0 by omega)] at hl2
    have HF:=zac (And.intro hl2.symm (And.intro hR1 (And.intro hJ1 ((zaa HKr).trans hK1))))
    clear hl2 hR1 hJ1 hK1 Hc Hl hi
    go_wp2
    go_ret
    exact .inl ⟨_,_,(zaa HF).1,rfl,(zaa HF).2.1,(zaa HF).2.2.1,(zaa HF).2.2.2⟩
   ·have hz:¬ (k:Int)+1=(most:Int):=by omega
    rw [if_neg (show ¬ m=0 by omega)] at hl2
    have Ht:=zac (zlq RB s q 44 (by omega) w1 hR1)
    by_cases hcm:zaq s (zba s q)=44
    ·rw [if_pos hcm] at hl2 Ht
     rw [decide_eq_true hcm] at Ht
     have HJ1:=zac hJ1
     have HK1:=zac ((zaa HKr).trans hK1)
     have Hl2:=zac hl2
     clear hl2 hR1 hJ1 hK1 Hc Hl hi hcm
     go_wp2_with (first|(go_at_call 106;refine (zaa Ht).mono ?_;rintro e w2 ⟨rfl,hR2,hK2⟩;have HR2:=zac hR2;have HK2:=zac hK2;clear hR2 hK2))
     go_roundw
     case rel=>exact ⟨k+1,_,acc ++ [x],by simp [hk],by omega,by go_num,zaa HR2,(zaa HJ) _ _ _ (zaa HJ1) (zaa HK2),(zaa HK1).trans ((zaa HK2).mono fun q _ e=>.inl e),by rw [show most - (k+1)=m by omega];exact zaa Hl2⟩
     case measure=>simp [intOf];omega
    ·rw [if_neg hcm] at hl2 Ht
     rw [decide_eq_false hcm] at Ht
     have HJ1:=zac hJ1
     have HK1:=zac ((zaa HKr).trans hK1)
     have Hl2:=zac hl2
     clear hl2 hR1 hJ1 hK1 Hc Hl hi hcm
     go_wp2_with (first|(go_at_call 106;refine (zaa Ht).mono ?_;rintro e w2 ⟨rfl,hR2,hK2⟩;have HR2:=zac hR2;have HK2:=zac hK2;clear hR2 hK2))
     go_ret
     exact .inl ⟨_,_,(zaa Hl2).symm,rfl,zaa HR2,(zaa HJ) _ _ _ (zaa HJ1) (zaa HK2),(zaa HK1).trans ((zaa HK2).mono fun q _ e=>.inl e)⟩
  ·have hl2:=(zo8 hi).symm.trans (zaa Hl)
   obtain ⟨ty,b,rfl,hty⟩:=hE1.form
   have Hi:=zac (zmh t (k+1) _ B0 5 q w1 ht (by omega) hE1 (Nat.le_trans hBr hK1.size))
   have HJ1:=zac hJ1
   have HK1:=zac ((zaa HKr).trans hK1)
   have Hl2:=zac hl2
   clear hl2 hE1 hJ1 hK1 Hc Hl hi
   go_wp2_with (first|(go_at_call 115;refine (zaa Hi).mono ?_;rintro e w2 ⟨v',rfl,hE2,hb2⟩;have HE2:=zac hE2;have Hb2:=zac hb2;clear hE2 hb2))
   go_ret
   exact .inr ⟨_,_,(zaa Hl2).symm,rfl,zaa HE2,(zaa HJ') _ _ (zaa HJ1) (KeepX.ofBelow (zaa Hb2)),(zaa HK1).trans (KeepX.ofBelow (zaa Hb2))⟩
end Go.Proofs.YtoifcnidhfnapabGreatDoor
