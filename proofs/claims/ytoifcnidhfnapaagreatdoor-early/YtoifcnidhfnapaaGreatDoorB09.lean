import Derived.Test.YtoifcnidhfnapaaGreatDoorB08
import Derived.Stop.RegionWithIn
set_option linter.unusedVariables false
set_option linter.unusedSimpArgs false
set_option maxRecDepth 100000
set_option maxHeartbeats 16000000
namespace Go.Proofs.YtoifcnidhfnapaaGreatDoor
theorem zm0 (es:List zaj) (p:zaj→Bool):(List.range es.length).countP (fun i=>p (es[i]?.getD zcy))=es.countP p:=by
 have h:(List.range es.length).map (fun i=>es[i]?.getD zcy)=es:=by
  apply List.ext_getElem
  ·simp
  ·intro i h1 h2
   simp at h1
   simp [h1]
 conv=>rhs;rw [← h]
 rw [List.countP_map]
 rfl
theorem zz4 (p:zaj→Bool) (es:List zaj) (h:es.Pairwise fun a b=>p a=true→p b=true):es.drop (es.countP fun e=>!p e)=es.filter p:=by
 induction es with
 | nil=>rfl
 | cons x xs ih =>
  obtain ⟨h1,h2⟩:=List.pairwise_cons.1 h
  cases hp:p x with
  | false=>simp [List.countP_cons,hp,ih h2]
  | true =>
   have h0:xs.countP (fun e=>!p e)=0:=by
    rw [List.countP_eq_zero]
    intro a ha
    simp [h1 a ha hp]
   have hf:xs.filter p=xs:=List.filter_eq_self.2 (fun a ha=>h1 a ha hp)
   simp [List.countP_cons,hp,h0,hf]
theorem ybo (p:zaj→Bool) (es:List zaj) (h:es.Pairwise fun a b=>p a=true→p b=true):es.take (es.countP fun e=>!p e)=es.filter fun e=>!p e:=by
 induction es with
 | nil=>rfl
 | cons x xs ih =>
  obtain ⟨h1,h2⟩:=List.pairwise_cons.1 h
  cases hp:p x with
  | false=>simp [List.countP_cons,hp,ih h2]
  | true =>
   have h0:xs.countP (fun e=>!p e)=0:=by
    rw [List.countP_eq_zero]
    intro a ha
    simp [h1 a ha hp]
   have hf:xs.filter (fun e=>!p e)=[]:=by
    rw [List.filter_eq_nil_iff]
    intro a ha
    simp [h1 a ha hp]
   simp [List.countP_cons,hp,h0,hf]
theorem zr2 {c:Nat} {es:List zaj} (h:zbo c es) (z:Int):zfn c z es=es.filter fun e=>decide (z≤zal e.1 c):=by
 unfold zfn
 rw [zm0 es (fun e=>!decide (z≤zal e.1 c))]
 refine zz4 (fun e=>decide (z≤zal e.1 c)) es (h.imp ?_)
 intro a b hab ha
 simp only [decide_eq_true_eq] at ha ⊢
 omega
theorem yhr {c:Nat} {es:List zaj} (h:zbo c es) (z:Int):zp9 c z es=es.filter fun e=>decide (zal e.1 c≤z):=by
 unfold zp9
 rw [zm0 es (fun e=>!decide (z<zal e.1 c))]
 rw [ybo (fun e=>decide (z<zal e.1 c)) es (h.imp ?_)]
 ·congr 1
  funext e
  by_cases hz:z<zal e.1 c
  ·simp [hz];try omega
  ·simp [hz];omega
 ·intro a b hab ha
  simp only [decide_eq_true_eq] at ha ⊢
  omega
theorem zbo.filter {c:Nat} {es:List zaj} (h:zbo c es) (p:zaj→Bool):zbo c (es.filter p):=List.Pairwise.sublist List.filter_sublist h
theorem yek {c:Nat} {es:List zaj} (h:zbo c es) (z:Int):zp9 c z (zfn c z es)=es.filter fun e=>decide (zal e.1 c=z):=by
 rw [zr2 h,yhr (h.filter _),List.filter_filter]
 congr 1
 funext e
 by_cases h1:zal e.1 c=z
 ·simp [h1]
 ·simp [h1];omega
end Go.Proofs.YtoifcnidhfnapaaGreatDoor
namespace Go.Proofs.YtoifcnidhfnapaaGreatDoor
open Go.RowKit Go.Maps Go.Sort Go.Shelf
def zay (w:World) (sv:Value) (rs:List (List zaj)):Prop:=∃ a cap,sv=.slice a rs.length cap∧∀ i,i<rs.length→∃ g q b o cp,a=some ⟨g,q,none⟩ ∧
 w.cell? ⟨g,q+i,none⟩=some (.slice (some ⟨b,o,none⟩) (rs[i]?.getD []).length cp)∧zb1 w (.slice (some ⟨b,o,none⟩) (rs[i]?.getD []).length cp) (rs[i]?.getD [])
theorem zay.below {w w':World} {v:Value} {rs:List (List zaj)} (h:zay w v rs) (hb:Below w.heap.size w w'):zay w' v rs:=by
 obtain ⟨a,cap,rfl,hx⟩:=h
 refine ⟨a,cap,rfl,fun i hi=>?_⟩
 obtain ⟨g,q,b,o,cp,rfl,h0,h1⟩:=hx i hi
 exact ⟨g,q,b,o,cp,rfl,(hb.cell (p:=⟨g,q+i,none⟩) (World.block_lt_of_cell? w _ h0)).trans h0,h1.below hb⟩
def zhe (c:Nat) (z:Int) (s:Int×Bool) (r:List zaj):Int×Bool:=
 match zfn c z r with
 | []=>s
 | e :: _=>if s.2=false∨zal e.1 c<s.1 then (zal e.1 c,true) else s
def zgp (c:Nat) (z:Int) (rs:List (List zaj)):Int×Bool:=rs.foldl (zhe c z) (0,false)
theorem zop (c:Nat) (z:Int) (rs:List (List zaj)) (k:Nat) (hk:k<rs.length):zgp c z (rs.take (k+1))=zhe c z (zgp c z (rs.take k)) (rs[k]?.getD []):=by
 unfold zgp
 rw [List.take_succ_eq_append_getElem hk,List.foldl_append]
 simp [hk]
theorem ycg (n:Nat) (w:World) (m:Nat):Below n w (w.drewN m):=⟨rfl,rfl,rfl,Nat.le_refl _,fun _ _=>rfl⟩
theorem zsb (rs:List (List zaj)) (c:Nat) (z:Int) (sv:Value) (W:World) (h:zay W sv rs) (hs:∀ r∈rs,zbo c r) (hc:c<3) (hn:∀ r∈rs,r.length≤1000000000000) (hl:rs.length≤1000000000000) :
  Calls Tryz.prog 260 #[.agg #[sv,.int .i64 c],.int .i64 z] W fun e w'=>e=.returned (.tuple #[.int .i64 (zgp c z rs).1,.bool (zgp c z rs).2])∧Below W.heap.size W w':=by
 have h0:=h
 obtain ⟨a,cap,rfl,hx⟩:=h
 obtain ⟨W1,hW1⟩:∃ W1,W1=W.alloc (.cells #[.slice a rs.length cap,.int .i64 c] 190):=⟨_,rfl⟩
 have hb1:Below W.heap.size W W1:=by rw [hW1];exact (Below.refl _ _).alloc (Nat.le_refl _) _
 have hB:W1.heap[W.heap.size]? = some (.cells #[.slice a rs.length cap,.int .i64 c] 190 (0,0)):=by rw [hW1];exact zae _ _ _ rfl
 have c0:W1.cell? ⟨W.heap.size,0,none⟩=some (.slice a rs.length cap):=zab hB 0
 have c1:W1.cell? ⟨W.heap.size,1,none⟩=some (.int .i64 c):=zab hB 1
 have hlt1:W.heap.size<W1.heap.size:=by rw [hW1];simp
 have H0:=zac h0
 have Hb1:=zac hb1
 have Hs:=zac hs
 have Hn:=zac hn
 have Hx:=zac hx
 clear h0 hb1 hs hn hx hB
 go_enter Tryz.func260,Tryz.ntmps260
 go_wp2
 rw [← hW1]
 clear hW1
 go_wp2
 go_loopw [4,5,13] (fun l f i wr=>∃ k:Nat,k≤rs.length∧i=.int .i64 k∧l=.int .i64 (zgp c z (rs.take k)).1∧f=.bool (zgp c z (rs.take k)).2∧Below W1.heap.size W1 wr) (fun _ _ i _=>rs.length - (intOf i).toNat)
 case atStart=>exact ⟨0,Nat.zero_le _,rfl,rfl,rfl,Below.refl _ _⟩
 case round =>
  obtain ⟨k,hk,rfl,rfl,rfl,hB⟩:=hrel
  have HB:=zac hB
  by_cases hlt:k<rs.length
  ·have hkx:(k:Int)<(rs.length:Int):=by omega
   obtain ⟨g,q,b,o,cp,rfl,d0,hr⟩:=(zaa Hx) k hlt
   have hmem:rs[k]?.getD []∈rs:=by simp [hlt]
   have hso:=(zaa Hs) _ hmem
   have hle:=(zaa Hn) _ hmem
   have hsucc:=zop c z rs k hlt
   have hbr:Below W.heap.size W wr:=(zaa Hb1).trans (hB.mono (zaa Hb1).size)
   have d0':=(hbr.cell (p:=⟨g,q+k,none⟩) (World.block_lt_of_cell? W _ d0)).trans d0
   have c1':=(hB.cell (p:=⟨W.heap.size,1,none⟩) hlt1).trans c1
   obtain ⟨r,hre⟩:∃ r,r=rs[k]?.getD []:=⟨_,rfl⟩
   rw [← hre] at hr hso hle hsucc d0' d0
   obtain ⟨ls,hls⟩:∃ ls,ls=zgp c z (rs.take k):=⟨_,rfl⟩
   rw [← hls] at hsucc ⊢
   obtain ⟨l0,f0⟩:=ls
   have Hr:=zac (hr.below hbr)
   have Hso:=zac hso
   have Hsucc:=zac hsucc
   have Hbr:=zac hbr
   clear hr hso hsucc hre hls hmem hbr d0 hB
   dsimp only
   go_wp2_with (first
    | (go_at_call 225;refine (zyv r b o cp c z _ (zaa Hr) hc (zaa Hso) hle).mono ?_;rintro e w2 ⟨o',cap',rfl,hr2',hb2⟩;have hr2:=hr2'.below hb2;clear hr2'))
   ·have hz:(((zfn c z r).length:Int) == 0)=true:=by assumption
    have hnil:zfn c z r=[]:=by simpa using hz
    have hst:zgp c z (rs.take (k+1))=(l0,f0):=by rw [zaa Hsucc];simp [zhe,hnil]
    refine ⟨⟨k+1,by omega,by simp,by rw [hst],by rw [hst],(zaa HB).trans (hb2.mono (zaa HB).size)⟩,by simp [intOf];omega⟩
   ·have hz:(((zfn c z r).length:Int) == 0)=false:=by assumption
    obtain ⟨y,ys,hL⟩:∃ y ys,zfn c z r=y :: ys:=by
     cases hL:zfn c z r with
     | nil=>rw [hL] at hz;simp at hz
     | cons y ys=>exact ⟨y,ys,rfl⟩
    have hst:zgp c z (rs.take (k+1))=if f0=false∨zal y.1 c<l0 then (zal y.1 c,true) else (l0,f0):=by rw [zaa Hsucc];simp [zhe,hL]
    rw [hL] at hr2
    obtain ⟨b',oo,e,x0⟩:=hr2.col (i:=0) (by simp) hc
    injection e with e
    injection e with e1 e2
    subst e1 e2
    have c2:w2.cell? ⟨W.heap.size,1,none⟩=some (.int .i64 c):=(hb2.cell (p:=⟨W.heap.size,1,none⟩) (Nat.lt_of_lt_of_le hlt1 (zaa HB).size)).trans c1'
    obtain ⟨v,hv⟩:∃ v,v=zal y.1 c:=⟨_,rfl⟩
    simp only [List.getElem?_cons_zero,Option.getD_some,Nat.zero_mul,Nat.add_zero] at x0
    rw [← hv] at x0 hst
    have hlen:(0:Int)<((zfn c z r).length:Int):=by rw [hL];simp
    have hc3:(c:Int)<3:=by omega
    have Hst:=zac hst
    have Hb2:=zac hb2
    clear hst hb2 hr2 hL hv hz
    go_quiet (fail)
    have hfin:∀ m,Below W1.heap.size W1 (w2.drewN m):=fun m=>((zaa HB).trans ((zaa Hb2).mono (zaa HB).size)).trans (ycg _ _ _)
    have Hfin:=zac hfin
    clear hfin
    cases f0 with
    | false =>
     have hst:=zaa Hst
     rw [if_pos (.inl rfl)] at hst
     have Hst2:=zac hst
     clear hst
     go_wp2
     refine ⟨⟨k+1,by omega,by simp,by rw [zaa Hst2],by rw [zaa Hst2],(zaa Hfin) _⟩,by simp [intOf];omega⟩
    | true =>
     by_cases hvl:v<l0
     ·have hst:=zaa Hst
      rw [if_pos (.inr hvl)] at hst
      have Hst2:=zac hst
      clear hst
      go_wp2
      refine ⟨⟨k+1,by omega,by simp,by rw [zaa Hst2],by rw [zaa Hst2],(zaa Hfin) _⟩,by simp [intOf];omega⟩
     ·have hst:=zaa Hst
      rw [if_neg (by simp [hvl])] at hst
      have Hst2:=zac hst
      clear hst
      go_wp2
      refine ⟨⟨k+1,by omega,by simp,by rw [zaa Hst2],by rw [zaa Hst2],(zaa Hfin) _⟩,by simp [intOf];omega⟩
  ·have hke:k=rs.length:=by omega
   subst hke
   rw [List.take_length]
   go_wp2
   go_ret2
   exact ⟨rfl,(zaa Hb1).trans (hB.mono (zaa Hb1).size)⟩
theorem zt9 (a:Option Addr) (n cap:Nat) (c:Int) (W:World):Calls Tryz.prog 201 #[.agg #[.slice a n cap,.int .i64 c]] W fun e w'=>e=.returned (.bool (decide (n=0)))∧Below W.heap.size W w':=by
 have hb:Below W.heap.size W (W.alloc (.cells #[.slice a n cap,.int .i64 c] 190)):=(Below.refl _ _).alloc (Nat.le_refl _) _
 have Hb:=zac hb
 have hd:((n:Int) == 0)=decide (n=0):=by
  by_cases h:n=0
  ·subst h;rfl
  ·have:¬ (n:Int)=0:=by omega
   simp [h]
 clear hb
 go_enter Tryz.func201,Tryz.ntmps201
 go_wp2
 go_ret
 exact ⟨by simp [hd],zaa Hb⟩
def ybx (es:List zaj) (s:Int):Int:=es.foldl (fun s e=>wrap64 (s+e.2)) s
def zeq (rs:List (List zaj)):Int:=rs.foldl (fun s r=>ybx r s) 0
theorem yex (es:List zaj) (s:Int) (k:Nat) (hk:k<es.length):ybx (es.take (k+1)) s=wrap64 (ybx (es.take k) s+(es[k]?.getD zcy).2):=by
 unfold ybx
 rw [List.take_succ_eq_append_getElem hk,List.foldl_append]
 simp [hk]
theorem zvz (rs:List (List zaj)) (k:Nat) (hk:k<rs.length):zeq (rs.take (k+1))=ybx (rs[k]?.getD []) (zeq (rs.take k)):=by
 unfold zeq
 rw [List.take_succ_eq_append_getElem hk,List.foldl_append]
 simp [hk]
theorem zho (rs:List (List zaj)) (c:Int) (sv:Value) (W:World) (h:zay W sv rs) (hn:∀ r∈rs,r.length≤1000000000000) (hl:rs.length≤1000000000000) :
  Calls Tryz.prog 227 #[.agg #[sv,.int .i64 c]] W fun e w'=>e=.returned (.int .i64 (zeq rs))∧Below W.heap.size W w':=by
 obtain ⟨a,cap,rfl,hx⟩:=h
 obtain ⟨W1,hW1⟩:∃ W1,W1=W.alloc (.cells #[.slice a rs.length cap,.int .i64 c] 190):=⟨_,rfl⟩
 have hb1:Below W.heap.size W W1:=by rw [hW1];exact (Below.refl _ _).alloc (Nat.le_refl _) _
 have hB:W1.heap[W.heap.size]? = some (.cells #[.slice a rs.length cap,.int .i64 c] 190 (0,0)):=by rw [hW1];exact zae _ _ _ rfl
 have c0:W1.cell? ⟨W.heap.size,0,none⟩=some (.slice a rs.length cap):=zab hB 0
 have Hb1:=zac hb1
 have Hn:=zac hn
 have Hx:=zac hx
 clear hb1 hn hx hB
 go_enter Tryz.func227,Tryz.ntmps227
 go_wp2
 rw [← hW1]
 clear hW1
 try go_wp2
 go_loopw [3,11] (fun s i wr=>∃ k:Nat,k≤rs.length∧i=.int .i64 k∧s=.int .i64 (zeq (rs.take k))∧Below W1.heap.size W1 wr) (fun _ i _=>rs.length - (intOf i).toNat)
 case atStart=>exact ⟨0,Nat.zero_le _,rfl,rfl,Below.refl _ _⟩
 case round =>
  obtain ⟨k,hk,rfl,rfl,hB⟩:=hrel
  by_cases hlt:k<rs.length
  ·have hkx:(k:Int)<(rs.length:Int):=by omega
   obtain ⟨g,q,b,o,cp,rfl,d0,hr⟩:=(zaa Hx) k hlt
   have hmem:rs[k]?.getD []∈rs:=by simp [hlt]
   have hle:=(zaa Hn) _ hmem
   have hsucc:=zvz rs k hlt
   have hbr:Below W.heap.size W wr:=(zaa Hb1).trans (hB.mono (zaa Hb1).size)
   have d0':=(hbr.cell (p:=⟨g,q+k,none⟩) (World.block_lt_of_cell? W _ d0)).trans d0
   obtain ⟨r,hre⟩:∃ r,r=rs[k]?.getD []:=⟨_,rfl⟩
   rw [← hre] at hr hle hsucc d0' d0
   obtain ⟨s0,hs0⟩:∃ s0,s0=zeq (rs.take k):=⟨_,rfl⟩
   rw [← hs0] at hsucc ⊢
   obtain ⟨wo,hwo⟩:∃ wo,wo=wr:=⟨_,rfl⟩
   rw [← hwo] at hB hbr d0' ⊢
   clear hwo
   have Hr:=zac (hr.below hbr)
   have Hsucc:=zac hsucc
   have HB:=zac hB
   clear hr hsucc hre hs0 hmem hbr d0 hB
   go_wp2
   go_loopw [3,17] (fun s i wr=>∃ j:Nat,j≤r.length∧i=.int .i64 j∧s=.int .i64 (ybx (r.take j) s0)∧Below wo.heap.size wo wr) (fun _ i _=>r.length - (intOf i).toNat)
   case atStart=>exact ⟨0,Nat.zero_le _,rfl,rfl,Below.refl _ _⟩
   case round =>
    obtain ⟨j,hj,rfl,rfl,hB2⟩:=hrel
    by_cases hlt2:j<r.length
    ·have hjx:(j:Int)<(r.length:Int):=by omega
     obtain ⟨a',cap',e,_,hxx⟩:=(zaa Hr).below hB2
     injection e with e1 e2 e3
     subst e1
     obtain ⟨b',o',e,x0,x1,x2,x3,_⟩:=hxx j hlt2
     injection e with e
     injection e with e1 e2
     subst e1 e2
     have hs2:=yex r s0 j hlt2
     obtain ⟨y,hy⟩:∃ y,y=r[j]?.getD zcy:=⟨_,rfl⟩
     rw [← hy] at x0 x1 x2 x3 hs2
     obtain ⟨⟨y1,y2,y3⟩,yw⟩:=y
     dsimp only at x0 x1 x2 x3 hs2
     have Hs2:=zac hs2
     have HB2:=zac hB2
     clear hs2 hB2 hxx hy
     go_wp2
     refine ⟨⟨j+1,by omega,by simp,by rw [zaa Hs2],(zaa HB2).alloc (zaa HB2).size _⟩,by simp [intOf];omega⟩
    ·have hje:j=r.length:=by omega
     subst hje
     rw [List.take_length]
     have HB2:=zac hB2
     clear hB2
     go_wp2
     refine ⟨⟨k+1,by omega,by simp,by rw [zaa Hsucc],(zaa HB).trans ((zaa HB2).mono (zaa HB).size)⟩,by simp [intOf];omega⟩
  ·have hke:k=rs.length:=by omega
   subst hke
   rw [List.take_length]
   go_wp2
   go_ret
   exact ⟨rfl,(zaa Hb1).trans (hB.mono (zaa Hb1).size)⟩
structure zar (X:Nat→Prop) (W W':World):Prop where
  size:W.heap.size≤W'.heap.size
  same:∀ k o,W.heap[k]? = some o→(o.isCells=true∨o.isWalk=true)→¬ X k→W'.heap[k]? = some o
theorem zar.refl (X:Nat→Prop) (W:World):zar X W W:=⟨Nat.le_refl _,fun _ _ h _ _=>h⟩
theorem zar.trans {X:Nat→Prop} {A B C:World} (h:zar X A B) (k:zar X B C):zar X A C:=
  ⟨Nat.le_trans h.size k.size,fun i o hi ho hx=>k.same i o (h.same i o hi ho hx) ho hx⟩
theorem zar.of_grown {X:Nat→Prop} {A B:World} {row:Option Nat} (h:A.grownBy B row) (hr:∀ j,row=some j→X j):zar X A B:=
  ⟨h.size,fun k o hk _ hx=>(h.block k (Array.getElem?_eq_some_iff.1 hk).1 (fun e=>hx (hr k e.symm))).trans hk⟩
theorem zar.put {X:Nat→Prop} (W:World) (l:Nat) (o o':Obj) (h:W.heap[l]? = some o) (h1:o.isCells=false) (h2:o.isWalk=false):zar X W (W.putObj l o'):=by
  refine ⟨by simp,fun k p hk hp _=>?_⟩
  have hne:k≠l:=fun e=>by
    subst e
    rw [h] at hk
    cases hk
    rcases hp with hp|hp
    · rw [h1] at hp;cases hp
    · rw [h2] at hp;cases hp
  rw [World.putObj_heap_other hne];exact hk
theorem zar.cellOf {X:Nat→Prop} {W W':World} (h:zar X W W') {b o:Nat} {v:Value} (hc:W.cell? ⟨b,o,none⟩=some v) (hx:¬ X b):W'.cell? ⟨b,o,none⟩=some v:=by
  have hlt:=World.block_lt_of_cell? W _ hc
  cases hb:W.heap[b]? with
  | none=>rw [Array.getElem?_eq_none_iff] at hb;simp at hlt;omega
  | some ob =>
    cases ob with
    | cells cs t fr =>
      have h2:=h.same b _ hb (Or.inl rfl) hx
      rw [zab hb] at hc
      rw [zab h2];exact hc
    | _=>simp [World.cell?,hb] at hc
theorem zar.wmap {X:Nat→Prop} {W W':World} (h:zar X W W') {b n:Nat} {f:Row→Int} (hm:zfk W b n f) (hx:¬ X b):zfk W' b n f:=by
  obtain ⟨D,⟨es,cl,hb,h2⟩,hr⟩:=hm
  exact ⟨D,⟨es,cl,h.same b _ hb (Or.inr rfl) hx,h2⟩,hr⟩
def za6 (g:Row→Int) (ys:List Row):List (Row×Int):=ys.map fun y=>(y,g y)
theorem zf3 (W:World):W.grownBy W.drew none:=⟨rfl,rfl,rfl,Nat.le_refl _,fun _ _ _=>rfl⟩
theorem zwg (n:Nat) (hn:1≤n) (l Bn mb nn:Nat) (g:Row→Int) (X:Nat→Prop) (J Jx:List (Row×Int)→World→Prop) (N:Nat)
    (hY:∀ pre x W,J pre W→pre.length<N→YieldAt Fence.wide (n - 1) Tryz.prog l #[.agg #[.int .i64 x.1.1,.int .i64 x.1.2.1,.int .i64 x.1.2.2],.int .i64 x.2] W fun e W' =>
      (e=.returned (.bool true)∧J (pre ++ [x]) W'∧zar X W W')∨(e=.returned (.bool false)∧Jx (pre ++ [x]) W'))
    (W:World) (hJ:AbidesFrom W.heap.size J) (hX:∀ k,X k→k<W.heap.size) (hBn:W.cell? ⟨Bn,0,none⟩=some (.map (some mb))) (hBX:¬ X Bn)
    (hmX:¬ X mb) (D:DataW Unit) (hown:W.ownsMap Tryz.prog 77 (plainElem Tryz.prog 2) mb nn D) (hrep:Rep D g) (hnn:nn≤1000000000) (hN:∀ ys,zdg D ys→ys.length≤N) (h0:J [] W) :
    CallsIn Fence.wide n Tryz.prog 111 #[.func (.yield l) #[] #[],.pointer (some ⟨Bn,0,none⟩)] W fun e W'=>(∃ v,e=.returned v) ∧
      ((∃ xs,(∃ ys,zdg D ys∧xs=za6 g ys)∧J xs W')∨(∃ pre,True∧Jx pre W')):=by
  have hBl:=World.block_lt_of_cell? W _ hBn
  have hml:=hown.lt
  dsimp only at hBl
  have hkeys:(w:World)→(hw:w=W.alloc (.cells #[.map (some mb)] 127))→Calls Tryz.prog 112 #[.func (.func 162) #[] #[.pointer (some ⟨W.heap.size,0,none⟩)],zse] w fun e w'=>∃ v ys,e=.returned v∧zdg D ys∧zhs w' v ys∧RowKit.Below w.heap.size w w'∧ys.length≤nn∧∀ gb ln cap,v=.slice (some ⟨gb,0,none⟩) ln cap→w.heap.size≤gb:=
    fun w hw=>zg0 W.heap.size mb nn D g hrep w (by rw [hw];exact zab (zae _ _ _ rfl) 0) (by rw [hw];exact hown.alloc _) hnn
  have Hkeys:=zac (hkeys _ rfl)
  clear hkeys
  refine callsIn_of_wp Tryz.func111 rfl trivial ?_ rfl
  simp only [Tryz.ntmps111,List.size_toArray,List.length_cons,List.length_nil,Nat.reduceAdd,Nat.reduceSub,Array.replicate_succ,Array.replicate_zero,List.push_toArray,List.append_toArray,List.nil_append,List.cons_append]
  gi_wp2_with (first
    | (refine ⟨trivial,?_⟩;gi_at_call 113;refine (callsIn_wide.2 (zgq _ _)).mono ?_;rintro e w' ⟨rfl,rfl⟩)
    | (refine ⟨trivial,?_⟩;gi_at_call 112;refine (callsIn_wide.2 (zaa Hkeys)).mono ?_;rintro e w1 ⟨v,ys,rfl,hR,hT,hb,hyl,hgb⟩;obtain ⟨a,cap,rfl,hcs⟩:=hT))
  have hg1:W.grownBy w1 none:=(World.grownBy_alloc W (.cells #[.map (some mb)] 127) none).trans (zc3 hb none)
  have hJ1:J [] w1:=hJ [] W w1 none h0 hg1 (fun r e=>by cases e)
  have hk1:zar X W w1:=zar.of_grown hg1 (fun j e=>by cases e)
  have hB1:=hk1.cellOf hBn hBX
  have hm1:zfk w1 mb nn g:=hk1.wmap ⟨D,hown,hrep⟩ hmX
  have hys:=hN ys hR
  have hwf:=hR.wf
  have hfr:∀ gb ln cap',Value.slice a ys.length cap=.slice (some ⟨gb,0,none⟩) ln cap'→¬ X gb:=fun gb ln cap' e hx=>by
    have h1:=hgb gb ln cap' e
    have h2:=hX gb hx
    simp at h1
    omega
  have Hcs:=zac hcs
  have HR:=zac hR
  have HJ1:=zac hJ1
  clear hcs hR hJ1 Hkeys hN hgb hown hrep h0
  try go_frame
  gi_loopw [10] (fun i wr=>∃ k:Nat,k≤ys.length∧i=.int .i64 k∧J (za6 g (ys.take k)) wr∧zar X w1 wr∧W.heap.size≤wr.heap.size) (fun i _=>ys.length - (intOf i).toNat)
  case atStart=>exact ⟨0,Nat.zero_le _,rfl,zaa HJ1,zar.refl _ _,hg1.size⟩
  case round =>
    obtain ⟨k,hk,rfl,hJk,hkk,hsk⟩:=hrel
    by_cases hlt:k<ys.length
    · obtain ⟨gb,rfl,d0,d1,d2⟩:=(zaa Hcs) k hlt
      have hx:(k:Int)<(ys.length:Int):=by omega
      have hgX:¬ X gb:=hfr gb _ _ rfl
      replace d0:=hkk.cellOf d0 hgX
      replace d1:=hkk.cellOf d1 hgX
      replace d2:=hkk.cellOf d2 hgX
      obtain ⟨y,hy⟩:∃ y,y=ys[k]?.getD (0,0,0):=⟨_,rfl⟩
      have hye:y=ys[k]:=by rw [hy];simp [hlt]
      have hwy:zaw y:=by rw [hye];exact hwf _ (List.getElem_mem hlt)
      have htk:ys.take (k+1)=ys.take k ++ [y]:=by rw [List.take_succ_eq_append_getElem hlt,hye]
      rw [← hy] at d0 d1 d2
      obtain ⟨y1,y2,y3⟩:=y
      dsimp only at d0 d1 d2
      have hBr:=hkk.cellOf hB1 hBX
      have hmr:=hkk.wmap hm1 hmX
      have Htk:=zac htk
      have HJk:=zac hJk
      have Hkk:=zac hkk
      have Hmr:=zac hmr
      clear hy hye htk hJk hkk hmr
      gi_wp2_with fail
      have hJa:J (za6 g (ys.take k)) (wr.alloc (.cells #[.int .i64 y1,.int .i64 y2,.int .i64 y3] 77)).drew:=
        hJ _ wr _ none (zaa HJk) ((World.grownBy_alloc _ _ none).trans (zf3 _)) (fun r e=>by cases e)
      have hka:zar X wr (wr.alloc (.cells #[.int .i64 y1,.int .i64 y2,.int .i64 y3] 77)).drew:=zar.of_grown ((World.grownBy_alloc _ _ none).trans (zf3 _)) (fun j e=>by cases e)
      have hsa:wr.heap.size<(wr.alloc (.cells #[.int .i64 y1,.int .i64 y2,.int .i64 y3] 77)).drew.heap.size:=by
        show wr.heap.size<(wr.alloc _).heap.size
        simp
      obtain ⟨fn,tmps,assign,body,hy,hR⟩:=hY _ ((y1,y2,y3),g (y1,y2,y3)) _ hJa (by simp [za6];omega)
      have hR':=hR.mono (R':=fun e W'=>∃ r:Bool,e=.returned (.bool r)∧((r=true∧J (za6 g (ys.take k) ++ [((y1,y2,y3),g (y1,y2,y3))]) W'∧zar X (wr.alloc (.cells #[.int .i64 y1,.int .i64 y2,.int .i64 y3] 77)).drew W')∨(r=false∧Jx (za6 g (ys.take k) ++ [((y1,y2,y3),g (y1,y2,y3))]) W'))) (by
        rintro e W3 (⟨rfl,h1,h2⟩|⟨rfl,h1⟩)
        · exact ⟨true,rfl,.inl ⟨rfl,h1,h2⟩⟩
        · exact ⟨false,rfl,.inr ⟨rfl,h1⟩⟩)
      have hlk:(Instr.lookup 127 (.map (some mb)) (.agg #[.int .i64 y1,.int .i64 y2,.int .i64 y3]) false).run Tryz.prog (wr.alloc (.cells #[.int .i64 y1,.int .i64 y2,.int .i64 y3] 77)).drew=.ok (.int .i64 (g (y1,y2,y3))) (wr.alloc (.cells #[.int .i64 y1,.int .i64 y2,.int .i64 y3] 77)).drew:=(hka.wmap (zaa Hmr) hmX).look hwy
      have f0:(wr.alloc (.cells #[.int .i64 y1,.int .i64 y2,.int .i64 y3] 77)).drew.cell? ⟨wr.heap.size,0,none⟩=some (.int .i64 y1):=zab (zae _ _ _ rfl) 0
      have f1:(wr.alloc (.cells #[.int .i64 y1,.int .i64 y2,.int .i64 y3] 77)).drew.cell? ⟨wr.heap.size,1,none⟩=some (.int .i64 y2):=zab (zae _ _ _ rfl) 1
      have f2:(wr.alloc (.cells #[.int .i64 y1,.int .i64 y2,.int .i64 y3] 77)).drew.cell? ⟨wr.heap.size,2,none⟩=some (.int .i64 y3):=zab (zae _ _ _ rfl) 2
      have fB:=hka.cellOf hBr hBX
      dsimp only at hy
      have HR':=zac hR'
      have Hka:=zac hka
      have HJa:=zac hJa
      clear hR hR' hka hJa hBr d0 d1 d2 hB1 hm1 hBn hJ hY
      gi_region_with (refine (zaa HR').mono ?_;rintro e W3 ⟨r,rfl,hor⟩)
      all_goals (rcases hor with ⟨rfl,hJ3,hk3⟩|⟨rfl,hx3⟩)
      all_goals first
        | (gi_wp2
           go_roundw
           case rel=>exact ⟨k+1,by omega,by simp,by rw [zaa Htk];simpa [za6] using hJ3,((zaa Hkk).trans (zaa Hka)).trans hk3,by have:=hk3.size;omega⟩
           case measure=>simp [intOf];omega)
        | (gi_wp2
           refine bodyPost_ret (results_none rfl _ _ _) rfl ?_
           exact ⟨⟨_,rfl⟩,.inr ⟨_,trivial,hx3⟩⟩)
    · have hke:k=ys.length:=by omega
      subst hke
      rw [List.take_length] at hJk
      gi_wp2
      go_end0
      exact ⟨⟨_,rfl⟩,.inl ⟨_,⟨ys,zaa HR,rfl⟩,hJk⟩⟩
end Go.Proofs.YtoifcnidhfnapaaGreatDoor
