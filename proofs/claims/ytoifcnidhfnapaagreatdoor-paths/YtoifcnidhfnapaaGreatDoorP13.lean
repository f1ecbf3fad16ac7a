import Derived.Test.YtoifcnidhfnapaaGreatDoorP12
import Derived.Test.YtoifcnidhfnapaaGreatDoorP11
import Derived.Test.YtoifcnidhfnapaaGreatDoorP05
set_option linter.unusedVariables false
set_option linter.unusedSimpArgs false
namespace Go.Proofs.YtoifcnidhfnapaaGreatDoor
open Go.RowKit Go.Maps Go.Sort Go.Shelf
set_option maxRecDepth 100000 in
set_option maxHeartbeats 1000000 in
theorem upC_any (es:List REnt) (a:Option Addr) (cap c i B1 B2 B3:Nat) (z:Int) (W:World) (hr:zbq W (.slice a es.length cap) es) (hc:c<3) (hi:i<es.length)
  (h1:W.cell? ⟨B1,0,none⟩=some (.slice a es.length cap)) (h2:W.cell? ⟨B2,0,none⟩=some (.int .i64 c)) (h3:W.cell? ⟨B3,0,none⟩=some (.int .i64 z)) :
  Calls Tryz.prog 259 #[.int .i64 i,.pointer (some ⟨B1,0,none⟩),.pointer (some ⟨B2,0,none⟩),.pointer (some ⟨B3,0,none⟩)] W fun e w'=>e=.returned (.bool (decide (z<zah (es[i]?.getD zcg).1 c)))∧za4 W w':=by
 obtain ⟨b,o,rfl,d⟩:=hr.col hi hc
 generalize zah (es[i]?.getD zcg).1 c=q at d
 clear hr
 have hx:(i:Int)<(es.length:Int):=by omega
 have hc3:(c:Int)<3:=by omega
 go_enter Tryz.func259,Tryz.ntmps259
 go_wp2
 go_quiet (fail)
 go_wp2
 go_ret
 exact ⟨rfl,(za4.refl _).thenN _⟩
def znm (c:Nat) (z:Int) (es:List REnt):List REnt:=es.take ((List.range es.length).countP fun i=>!decide (z<zah (es[i]?.getD zcg).1 c))
theorem runTake {w:World} {b o n cap:Nat} {es:List REnt} (h:zbq w (.slice (some ⟨b,o,none⟩) n cap) es) (k:Nat) (hk:k≤es.length):zbq w (.slice (some ⟨b,o,none⟩) k cap) (es.take k):=by
 obtain ⟨a,cap',e,hc,hx⟩:=h
 injection e with e1 e2 e3
 subst e1 e3
 refine ⟨some ⟨b,o,none⟩,cap,by rw [List.length_take,Nat.min_eq_left hk],by rw [List.length_take];omega,fun i hi=>?_⟩
 rw [List.length_take] at hi
 obtain ⟨b',o',e,h0,h1,h2,h3⟩:=hx i (by omega)
 refine ⟨b',o',e,?_⟩
 rw [List.getElem?_take_of_lt (by omega)]
 exact ⟨h0,h1,h2,h3⟩
set_option maxRecDepth 100000 in
set_option maxHeartbeats 2000000 in
theorem upTo_any (es:List REnt) (b o cap c:Nat) (z:Int) (W:World) (hr:zbq W (.slice (some ⟨b,o,none⟩) es.length cap) es) (hc:c<3) (hs:zbc c es) (hn:es.length≤1000000000000) :
  Calls Tryz.prog 226 #[.slice (some ⟨b,o,none⟩) es.length cap,.int .i64 c,.int .i64 z] W fun e w'=>∃ o' cap',e=.returned (.slice (some ⟨b,o',none⟩) (znm c z es).length cap')∧zbq W (.slice (some ⟨b,o',none⟩) (znm c z es).length cap') (znm c z es)∧Below W.heap.size W w':=by
 obtain ⟨W3,hW3⟩:∃ W3,W3=((W.alloc (.cells #[.slice (some ⟨b,o,none⟩) es.length cap] 141)).alloc (.cells #[.int .i64 c] 3)).alloc (.cells #[.int .i64 z] 2):=⟨_,rfl⟩
 have hb3:Below W.heap.size W W3:=by rw [hW3];exact (((Below.refl _ _).alloc (Nat.le_refl _) _).alloc (by simp) _).alloc (by simp;omega) _
 have c1:W3.cell? ⟨W.heap.size,0,none⟩=some (.slice (some ⟨b,o,none⟩) es.length cap):=by
  rw [hW3]
  exact zab ((Below.heap_alloc _ _ _ (by simp;omega)).trans ((Below.heap_alloc _ _ _ (by simp)).trans (zad _ _ _ rfl))) 0
 have c2:W3.cell? ⟨W.heap.size+1,0,none⟩=some (.int .i64 c):=by
  rw [hW3]
  exact zab ((Below.heap_alloc _ _ _ (by simp)).trans (zad _ _ _ (by simp))) 0
 have c3:W3.cell? ⟨W.heap.size+2,0,none⟩=some (.int .i64 z):=by
  rw [hW3]
  exact zab (zad _ _ _ (by simp)) 0
 have hr3:=hr.below hb3
 have hcap:es.length≤cap:=hr.cap
 have HS:Hid (∀ m,Calls Tryz.prog 257 #[.int .i64 es.length,.func (.func 259) #[] #[.pointer (some ⟨W.heap.size,0,none⟩),.pointer (some ⟨W.heap.size+1,0,none⟩),.pointer (some ⟨W.heap.size+2,0,none⟩)]] (W3.drewN m) fun e w' =>
   e=.returned (.int .i64 ((List.range es.length).countP fun i=>!decide (z<zah (es[i]?.getD zcg).1 c):Nat))∧∃ q os,w'=grow ((W3.drewN m).drewN q) os):=by
  intro m0
  refine Any.sort_Search Tryz.searchL 259 _ es.length (fun i=>decide (z<zah (es[i]?.getD zcg).1 c)) (W3.drewN m0) (enters_of Tryz.func259 (by kernel_rfl) rfl) (by omega) (fun m os i hi=>?_) (fun i j hij hj hi=>?_)
  ·have hb:Below W3.heap.size W3 (grow ((W3.drewN m0).drewN m) os):=zic
   have hcell:∀ B q v,W3.cell? ⟨B,q,none⟩=some v→(grow ((W3.drewN m0).drewN m) os).cell? ⟨B,q,none⟩=some v:=fun B q v h=>(hb.cell (p:=⟨B,q,none⟩) (World.block_lt_of_cell? _ _ h)).trans h
   refine (upC_any es _ cap c i _ _ _ z _ (hr3.below hb) hc hi (hcell _ _ _ c1) (hcell _ _ _ c2) (hcell _ _ _ c3)).mono ?_
   rintro e w' ⟨rfl,hd⟩
   refine ⟨rfl,?_⟩
   obtain ⟨q,rfl⟩:=hd
   exact ⟨q,#[],by rw [grow_empty]⟩
  ·simp only [decide_eq_true_eq] at hi ⊢
   exact Int.lt_of_lt_of_le hi (hs.mono i j hij hj)
 have hcnt:(List.range es.length).countP (fun i=>!decide (z<zah (es[i]?.getD zcg).1 c))≤es.length:=by
  have:=List.countP_le_length (p:=fun i=>!decide (z<zah (es[i]?.getD zcg).1 c)) (l:=List.range es.length)
  simpa using this
 have Hdrop:=hide (runTake hr _ hcnt)
 have Hb3:=hide hb3
 have HfL:Hid (znm c z es=es.take ((List.range es.length).countP fun i=>!decide (z<zah (es[i]?.getD zcg).1 c))):=rfl
 generalize (List.range es.length).countP (fun i=>!decide (z<zah (es[i]?.getD zcg).1 c))=k at *
 clear hr hr3 hs hb3
 go_enter Tryz.func226,Tryz.ntmps226
 go_wp2
 rw [← hW3]
 clear hW3
 have hk0:(k:Int)≤(es.length:Int):=by omega
 go_region_with (go_at_call 257;refine (show Calls _ _ _ (W3.drewN 1) _ from (zaa HS) 1).mono ?_;rintro e w4 ⟨rfl,q,os,hw4⟩;have Hb4:=hide (yac hw4);have c1':w4.cell? ⟨W.heap.size,0,none⟩=some (.slice (some ⟨b,o,none⟩) es.length cap):=((zaa Hb4).cell (p:=⟨W.heap.size,0,none⟩) (World.block_lt_of_cell? _ _ c1)).trans c1;clear hw4)
 all_goals go_wp2
 all_goals go_ret
 all_goals rw [zaa HfL]
 all_goals first
  | exact ⟨o,cap,by rw [List.length_take,Nat.min_eq_left hcnt];rfl,by rw [List.length_take,Nat.min_eq_left hcnt];exact (zaa Hdrop),(zaa Hb3).trans ((zaa Hb4).mono (zaa Hb3).size)⟩
end Go.Proofs.YtoifcnidhfnapaaGreatDoor
namespace Go.Proofs.YtoifcnidhfnapaaGreatDoor
theorem zky (es:List REnt) (p:REnt→Bool):(List.range es.length).countP (fun i=>p (es[i]?.getD zcg))=es.countP p:=by
 have h:(List.range es.length).map (fun i=>es[i]?.getD zcg)=es:=by
  apply List.ext_getElem
  ·simp
  ·intro i h1 h2
   simp at h1
   simp [h1]
 conv=>rhs;rw [← h]
 rw [List.countP_map]
 rfl
theorem zwz (p:REnt→Bool) (es:List REnt) (h:es.Pairwise fun a b=>p a=true→p b=true):es.drop (es.countP fun e=>!p e)=es.filter p:=by
 induction es with
 | nil=>rfl
 | cons x xs ih =>
  obtain ⟨h1,h2⟩:=List.pairwise_cons.1 h
  cases hp:p x with
  | false=>simp [List.countP_cons,hp,ih h2]
  | true =>
   have h0:xs.countP (fun e=>!p e)=0:=by
    rw [List.countP_eq_zero]
    intro a ha
    simp [h1 a ha hp]
   have hf:xs.filter p=xs:=List.filter_eq_self.2 (fun a ha=>h1 a ha hp)
   simp [List.countP_cons,hp,h0,hf]
theorem zxt (p:REnt→Bool) (es:List REnt) (h:es.Pairwise fun a b=>p a=true→p b=true):es.take (es.countP fun e=>!p e)=es.filter fun e=>!p e:=by
 induction es with
 | nil=>rfl
 | cons x xs ih =>
  obtain ⟨h1,h2⟩:=List.pairwise_cons.1 h
  cases hp:p x with
  | false=>simp [List.countP_cons,hp,ih h2]
  | true =>
   have h0:xs.countP (fun e=>!p e)=0:=by
    rw [List.countP_eq_zero]
    intro a ha
    simp [h1 a ha hp]
   have hf:xs.filter (fun e=>!p e)=[]:=by
    rw [List.filter_eq_nil_iff]
    intro a ha
    simp [h1 a ha hp]
   simp [List.countP_cons,hp,h0,hf]
theorem zpo {c:Nat} {es:List REnt} (h:zbc c es) (z:Int):zet c z es=es.filter fun e=>decide (z≤zah e.1 c):=by
 unfold zet
 rw [zky es (fun e=>!decide (z≤zah e.1 c))]
 refine zwz (fun e=>decide (z≤zah e.1 c)) es (h.imp ?_)
 intro a b hab ha
 simp only [decide_eq_true_eq] at ha ⊢
 omega
theorem upToL_eq {c:Nat} {es:List REnt} (h:zbc c es) (z:Int):znm c z es=es.filter fun e=>decide (zah e.1 c≤z):=by
 unfold znm
 rw [zky es (fun e=>!decide (z<zah e.1 c))]
 rw [zxt (fun e=>decide (z<zah e.1 c)) es (h.imp ?_)]
 ·congr 1
  funext e
  by_cases hz:z<zah e.1 c
  ·simp [hz];try omega
  ·simp [hz];omega
 ·intro a b hab ha
  simp only [decide_eq_true_eq] at ha ⊢
  omega
theorem zbc.filter {c:Nat} {es:List REnt} (h:zbc c es) (p:REnt→Bool):zbc c (es.filter p):=List.Pairwise.sublist List.filter_sublist h
theorem yau {c:Nat} {es:List REnt} (h:zbc c es) (z:Int):znm c z (zet c z es)=es.filter fun e=>decide (zah e.1 c=z):=by
 rw [zpo h,upToL_eq (h.filter _),List.filter_filter]
 congr 1
 funext e
 by_cases h1:zah e.1 c=z
 ·simp [h1]
 ·simp [h1];omega
end Go.Proofs.YtoifcnidhfnapaaGreatDoor
namespace Go.Proofs.YtoifcnidhfnapaaGreatDoor
open Go.RowKit Go.Maps Go.Sort Go.Shelf
def zau (w:World) (sv:Value) (rs:List (List REnt)):Prop:=∃ a cap,sv=.slice a rs.length cap∧∀ i,i<rs.length→∃ g q b o cp,a=some ⟨g,q,none⟩ ∧
 w.cell? ⟨g,q+i,none⟩=some (.slice (some ⟨b,o,none⟩) (rs[i]?.getD []).length cp)∧zbq w (.slice (some ⟨b,o,none⟩) (rs[i]?.getD []).length cp) (rs[i]?.getD [])
theorem zau.below {w w':World} {v:Value} {rs:List (List REnt)} (h:zau w v rs) (hb:Below w.heap.size w w'):zau w' v rs:=by
 obtain ⟨a,cap,rfl,hx⟩:=h
 refine ⟨a,cap,rfl,fun i hi=>?_⟩
 obtain ⟨g,q,b,o,cp,rfl,h0,h1⟩:=hx i hi
 exact ⟨g,q,b,o,cp,rfl,(hb.cell (p:=⟨g,q+i,none⟩) (World.block_lt_of_cell? w _ h0)).trans h0,h1.below hb⟩
def zfy (c:Nat) (z:Int) (s:Int×Bool) (r:List REnt):Int×Bool:=
 match zet c z r with
 | []=>s
 | e :: _=>if s.2=false∨zah e.1 c<s.1 then (zah e.1 c,true) else s
def zfp (c:Nat) (z:Int) (rs:List (List REnt)):Int×Bool:=rs.foldl (zfy c z) (0,false)
theorem zmw (c:Nat) (z:Int) (rs:List (List REnt)) (k:Nat) (hk:k<rs.length):zfp c z (rs.take (k+1))=zfy c z (zfp c z (rs.take k)) (rs[k]?.getD []):=by
 unfold zfp
 rw [List.take_succ_eq_append_getElem hk,List.foldl_append]
 simp [hk]
theorem yad (n:Nat) (w:World) (m:Nat):Below n w (w.drewN m):=⟨rfl,rfl,rfl,Nat.le_refl _,fun _ _=>rfl⟩
set_option maxRecDepth 100000 in
set_option maxHeartbeats 4000000 in
theorem zo6 (rs:List (List REnt)) (c:Nat) (z:Int) (sv:Value) (W:World) (h:zau W sv rs) (hs:∀ r∈rs,zbc c r) (hc:c<3) (hn:∀ r∈rs,r.length≤1000000000000) (hl:rs.length≤1000000000000) :
  Calls Tryz.prog 260 #[.agg #[sv,.int .i64 c],.int .i64 z] W fun e w'=>e=.returned (.tuple #[.int .i64 (zfp c z rs).1,.bool (zfp c z rs).2])∧Below W.heap.size W w':=by
 have h0:=h
 obtain ⟨a,cap,rfl,hx⟩:=h
 obtain ⟨W1,hW1⟩:∃ W1,W1=W.alloc (.cells #[.slice a rs.length cap,.int .i64 c] 190):=⟨_,rfl⟩
 have hb1:Below W.heap.size W W1:=by rw [hW1];exact (Below.refl _ _).alloc (Nat.le_refl _) _
 have hB:W1.heap[W.heap.size]? = some (.cells #[.slice a rs.length cap,.int .i64 c] 190 (0,0)):=by rw [hW1];exact zad _ _ _ rfl
 have c0:W1.cell? ⟨W.heap.size,0,none⟩=some (.slice a rs.length cap):=zab hB 0
 have c1:W1.cell? ⟨W.heap.size,1,none⟩=some (.int .i64 c):=zab hB 1
 have hlt1:W.heap.size<W1.heap.size:=by rw [hW1];simp
 have H0:=hide h0
 have Hb1:=hide hb1
 have Hs:=hide hs
 have Hn:=hide hn
 have Hx:=hide hx
 clear h0 hb1 hs hn hx hB
 go_enter Tryz.func260,Tryz.ntmps260
 go_wp2
 rw [← hW1]
 clear hW1
 go_wp2
 go_loopw [4,5,13] (fun l f i wr=>∃ k:Nat,k≤rs.length∧i=.int .i64 k∧l=.int .i64 (zfp c z (rs.take k)).1∧f=.bool (zfp c z (rs.take k)).2∧Below W1.heap.size W1 wr) (fun _ _ i _=>rs.length - (intOf i).toNat)
 case atStart=>exact ⟨0,Nat.zero_le _,rfl,rfl,rfl,Below.refl _ _⟩
 case round =>
  obtain ⟨k,hk,rfl,rfl,rfl,hB⟩:=hrel
  have HB:=hide hB
  by_cases hlt:k<rs.length
  ·have hkx:(k:Int)<(rs.length:Int):=by omega
   obtain ⟨g,q,b,o,cp,rfl,d0,hr⟩:=(zaa Hx) k hlt
   have hmem:rs[k]?.getD []∈rs:=by simp [hlt]
   have hso:=(zaa Hs) _ hmem
   have hle:=(zaa Hn) _ hmem
   have hsucc:=zmw c z rs k hlt
   have hbr:Below W.heap.size W wr:=(zaa Hb1).trans (hB.mono (zaa Hb1).size)
   have d0':=(hbr.cell (p:=⟨g,q+k,none⟩) (World.block_lt_of_cell? W _ d0)).trans d0
   have c1':=(hB.cell (p:=⟨W.heap.size,1,none⟩) hlt1).trans c1
   obtain ⟨r,hre⟩:∃ r,r=rs[k]?.getD []:=⟨_,rfl⟩
   rw [← hre] at hr hso hle hsucc d0' d0
   obtain ⟨ls,hls⟩:∃ ls,ls=zfp c z (rs.take k):=⟨_,rfl⟩
   rw [← hls] at hsucc ⊢
   obtain ⟨l0,f0⟩:=ls
   have Hr:=hide (hr.below hbr)
   have Hso:=hide hso
   have Hsucc:=hide hsucc
   have Hbr:=hide hbr
   clear hr hso hsucc hre hls hmem hbr d0 hB
   dsimp only
   go_wp2_with (first
    | (go_at_call 225;refine (zvr r b o cp c z _ (zaa Hr) hc (zaa Hso) hle).mono ?_;rintro e w2 ⟨o',cap',rfl,hr2',hb2⟩;have hr2:=hr2'.below hb2;clear hr2'))
   ·have hz:(((zet c z r).length:Int) == 0)=true:=by assumption
    have hnil:zet c z r=[]:=by simpa using hz
    have hst:zfp c z (rs.take (k+1))=(l0,f0):=by rw [zaa Hsucc];simp [zfy,hnil]
    refine ⟨⟨k+1,by omega,by simp,by rw [hst],by rw [hst],(zaa HB).trans (hb2.mono (zaa HB).size)⟩,by simp [intOf];omega⟩
   ·have hz:(((zet c z r).length:Int) == 0)=false:=by assumption
    obtain ⟨y,ys,hL⟩:∃ y ys,zet c z r=y :: ys:=by
     cases hL:zet c z r with
     | nil=>rw [hL] at hz;simp at hz
     | cons y ys=>exact ⟨y,ys,rfl⟩
    have hst:zfp c z (rs.take (k+1))=if f0=false∨zah y.1 c<l0 then (zah y.1 c,true) else (l0,f0):=by rw [zaa Hsucc];simp [zfy,hL]
    rw [hL] at hr2
    obtain ⟨b',oo,e,x0⟩:=hr2.col (i:=0) (by simp) hc
    injection e with e
    injection e with e1 e2
    subst e1 e2
    have c2:w2.cell? ⟨W.heap.size,1,none⟩=some (.int .i64 c):=(hb2.cell (p:=⟨W.heap.size,1,none⟩) (Nat.lt_of_lt_of_le hlt1 (zaa HB).size)).trans c1'
    obtain ⟨v,hv⟩:∃ v,v=zah y.1 c:=⟨_,rfl⟩
    simp only [List.getElem?_cons_zero,Option.getD_some,Nat.zero_mul,Nat.add_zero] at x0
    rw [← hv] at x0 hst
    have hlen:(0:Int)<((zet c z r).length:Int):=by rw [hL];simp
    have hc3:(c:Int)<3:=by omega
    have Hst:=hide hst
    have Hb2:=hide hb2
    clear hst hb2 hr2 hL hv hz
    go_quiet (fail)
    have hfin:∀ m,Below W1.heap.size W1 (w2.drewN m):=fun m=>((zaa HB).trans ((zaa Hb2).mono (zaa HB).size)).trans (yad _ _ _)
    have Hfin:=hide hfin
    clear hfin
    cases f0 with
    | false =>
     have hst:=zaa Hst
     rw [if_pos (.inl rfl)] at hst
     have Hst2:=hide hst
     clear hst
     go_wp2
     refine ⟨⟨k+1,by omega,by simp,by rw [zaa Hst2],by rw [zaa Hst2],(zaa Hfin) _⟩,by simp [intOf];omega⟩
    | true =>
     by_cases hvl:v<l0
     ·have hst:=zaa Hst
      rw [if_pos (.inr hvl)] at hst
      have Hst2:=hide hst
      clear hst
      go_wp2
      refine ⟨⟨k+1,by omega,by simp,by rw [zaa Hst2],by rw [zaa Hst2],(zaa Hfin) _⟩,by simp [intOf];omega⟩
     ·have hst:=zaa Hst
      rw [if_neg (by simp [hvl])] at hst
      have Hst2:=hide hst
      clear hst
      go_wp2
      refine ⟨⟨k+1,by omega,by simp,by rw [zaa Hst2],by rw [zaa Hst2],(zaa Hfin) _⟩,by simp [intOf];omega⟩
  ·have hke:k=rs.length:=by omega
   subst hke
   rw [List.take_length]
   go_wp2
   go_ret2
   exact ⟨rfl,(zaa Hb1).trans (hB.mono (zaa Hb1).size)⟩
theorem zrf (a:Option Addr) (n cap:Nat) (c:Int) (W:World):Calls Tryz.prog 201 #[.agg #[.slice a n cap,.int .i64 c]] W fun e w'=>e=.returned (.bool (decide (n=0)))∧Below W.heap.size W w':=by
 have hb:Below W.heap.size W (W.alloc (.cells #[.slice a n cap,.int .i64 c] 190)):=(Below.refl _ _).alloc (Nat.le_refl _) _
 have Hb:=hide hb
 have hd:((n:Int) == 0)=decide (n=0):=by
  by_cases h:n=0
  ·subst h;rfl
  ·have:¬ (n:Int)=0:=by omega
   simp [h]
 clear hb
 go_enter Tryz.func201,Tryz.ntmps201
 go_wp2
 go_ret
 exact ⟨by simp [hd],zaa Hb⟩
def sumS (es:List REnt) (s:Int):Int:=es.foldl (fun s e=>wrap64 (s+e.2)) s
def zd5 (rs:List (List REnt)):Int:=rs.foldl (fun s r=>sumS r s) 0
theorem yav (es:List REnt) (s:Int) (k:Nat) (hk:k<es.length):sumS (es.take (k+1)) s=wrap64 (sumS (es.take k) s+(es[k]?.getD zcg).2):=by
 unfold sumS
 rw [List.take_succ_eq_append_getElem hk,List.foldl_append]
 simp [hk]
theorem zsp (rs:List (List REnt)) (k:Nat) (hk:k<rs.length):zd5 (rs.take (k+1))=sumS (rs[k]?.getD []) (zd5 (rs.take k)):=by
 unfold zd5
 rw [List.take_succ_eq_append_getElem hk,List.foldl_append]
 simp [hk]
set_option maxRecDepth 100000 in
set_option maxHeartbeats 4000000 in
theorem zf7 (rs:List (List REnt)) (c:Int) (sv:Value) (W:World) (h:zau W sv rs) (hn:∀ r∈rs,r.length≤1000000000000) (hl:rs.length≤1000000000000) :
  Calls Tryz.prog 227 #[.agg #[sv,.int .i64 c]] W fun e w'=>e=.returned (.int .i64 (zd5 rs))∧Below W.heap.size W w':=by
 obtain ⟨a,cap,rfl,hx⟩:=h
 obtain ⟨W1,hW1⟩:∃ W1,W1=W.alloc (.cells #[.slice a rs.length cap,.int .i64 c] 190):=⟨_,rfl⟩
 have hb1:Below W.heap.size W W1:=by rw [hW1];exact (Below.refl _ _).alloc (Nat.le_refl _) _
 have hB:W1.heap[W.heap.size]? = some (.cells #[.slice a rs.length cap,.int .i64 c] 190 (0,0)):=by rw [hW1];exact zad _ _ _ rfl
 have c0:W1.cell? ⟨W.heap.size,0,none⟩=some (.slice a rs.length cap):=zab hB 0
 have Hb1:=hide hb1
 have Hn:=hide hn
 have Hx:=hide hx
 clear hb1 hn hx hB
 go_enter Tryz.func227,Tryz.ntmps227
 go_wp2
 rw [← hW1]
 clear hW1
 try go_wp2
 go_loopw [3,11] (fun s i wr=>∃ k:Nat,k≤rs.length∧i=.int .i64 k∧s=.int .i64 (zd5 (rs.take k))∧Below W1.heap.size W1 wr) (fun _ i _=>rs.length - (intOf i).toNat)
 case atStart=>exact ⟨0,Nat.zero_le _,rfl,rfl,Below.refl _ _⟩
 case round =>
  obtain ⟨k,hk,rfl,rfl,hB⟩:=hrel
  by_cases hlt:k<rs.length
  ·have hkx:(k:Int)<(rs.length:Int):=by omega
   obtain ⟨g,q,b,o,cp,rfl,d0,hr⟩:=(zaa Hx) k hlt
   have hmem:rs[k]?.getD []∈rs:=by simp [hlt]
   have hle:=(zaa Hn) _ hmem
   have hsucc:=zsp rs k hlt
   have hbr:Below W.heap.size W wr:=(zaa Hb1).trans (hB.mono (zaa Hb1).size)
   have d0':=(hbr.cell (p:=⟨g,q+k,none⟩) (World.block_lt_of_cell? W _ d0)).trans d0
   obtain ⟨r,hre⟩:∃ r,r=rs[k]?.getD []:=⟨_,rfl⟩
   rw [← hre] at hr hle hsucc d0' d0
   obtain ⟨s0,hs0⟩:∃ s0,s0=zd5 (rs.take k):=⟨_,rfl⟩
   rw [← hs0] at hsucc ⊢
   obtain ⟨wo,hwo⟩:∃ wo,wo=wr:=⟨_,rfl⟩
   rw [← hwo] at hB hbr d0' ⊢
   clear hwo
   have Hr:=hide (hr.below hbr)
   have Hsucc:=hide hsucc
   have HB:=hide hB
   clear hr hsucc hre hs0 hmem hbr d0 hB
   go_wp2
   go_loopw [3,17] (fun s i wr=>∃ j:Nat,j≤r.length∧i=.int .i64 j∧s=.int .i64 (sumS (r.take j) s0)∧Below wo.heap.size wo wr) (fun _ i _=>r.length - (intOf i).toNat)
   case atStart=>exact ⟨0,Nat.zero_le _,rfl,rfl,Below.refl _ _⟩
   case round =>
    obtain ⟨j,hj,rfl,rfl,hB2⟩:=hrel
    by_cases hlt2:j<r.length
    ·have hjx:(j:Int)<(r.length:Int):=by omega
     obtain ⟨a',cap',e,_,hxx⟩:=(zaa Hr).below hB2
     injection e with e1 e2 e3
     subst e1
     obtain ⟨b',o',e,x0,x1,x2,x3,_⟩:=hxx j hlt2
     injection e with e
     injection e with e1 e2
     subst e1 e2
     have hs2:=yav r s0 j hlt2
     obtain ⟨y,hy⟩:∃ y,y=r[j]?.getD zcg:=⟨_,rfl⟩
     rw [← hy] at x0 x1 x2 x3 hs2
     obtain ⟨⟨y1,y2,y3⟩,yw⟩:=y
     dsimp only at x0 x1 x2 x3 hs2
     have Hs2:=hide hs2
     have HB2:=hide hB2
     clear hs2 hB2 hxx hy
     go_wp2
     refine ⟨⟨j+1,by omega,by simp,by rw [zaa Hs2],(zaa HB2).alloc (zaa HB2).size _⟩,by simp [intOf];omega⟩
    ·have hje:j=r.length:=by omega
     subst hje
     rw [List.take_length]
     have HB2:=hide hB2
     clear hB2
     go_wp2
     refine ⟨⟨k+1,by omega,by simp,by rw [zaa Hsucc],(zaa HB).trans ((zaa HB2).mono (zaa HB).size)⟩,by simp [intOf];omega⟩
  ·have hke:k=rs.length:=by omega
   subst hke
   rw [List.take_length]
   go_wp2
   go_ret
   exact ⟨rfl,(zaa Hb1).trans (hB.mono (zaa Hb1).size)⟩
end Go.Proofs.YtoifcnidhfnapaaGreatDoor
namespace Go.Proofs.YtoifcnidhfnapaaGreatDoor
open Go.RowKit Go.Maps
structure Raw where
 a:Option Addr
 n:Nat
 cap:Nat
 wt:Int
def kept (rs:List Raw):List Raw:=rs.filter fun r=>decide (r.wt≠0)
theorem zkj {P:Program} (w:World) {ops:Array Oper} {rest:List Oper} {o:Oper} {a:Act} {Q:Exit→Act→World→Prop} (hgd:o.guard=none) (s x:Operand) (t:TypeId)
  (ho:o.op=.call { callee:=.builtin .append,args:=#[s,x],argTypes:=#[t,t] })
  (base:Nat) (e:TypeId) (i:TypeInfo) (z:Value) (size bytes:Nat) (ht:P.underlying t=some (.slice e)) (hi:P.info? e=some i) (hz:i.zero=some z)
  (hsize:i.size=size) (hby:i.bytes=bytes) (hzs:z.cells.size=size) (hsz:0<size)
  (v:Value) (n:Nat) (xs:List Value) (hs:a.eval s=v) (hown:w.ownsRow base e size v n xs)
  (p:Option Addr) (m c:Nat) (news:List Value) (hx:a.eval x=.slice p m c) (hp:p=none→m=0∧c=0) (hl:news.length=m*size) (hnews:∀ ad,p=some ad→∀ j u,news[j]? = some u→w.cell? (ad.add j)=some u) (h1:∀ u∈news,u.oneCell'=true)
  (h63:n+m≤maxLen) (hbytes:(n+m)*bytes≤140737488355328) (hbase:base≤w.heap.size)
  (h:∀ v' w',w'.ownsRow base e size v' (n+m) (xs ++ news)→w.grownBy w' v.ownBlock→wpList P ops Q rest (a.put o.dst v') w') :
  wpList P ops Q (o :: rest) a w:=by
 cases p with
 | some ad=>exact wpList_append_own_at w hgd s x t ho base e i z size bytes ht hi hz hsize hby hzs hsz v n xs hs hown ad m c news hx hl (hnews ad rfl) h1 h63 hbytes hbase (fun v' w' h1 h2 _ _=>h v' w' h1 h2)
 | none =>
  obtain ⟨rfl,rfl⟩:=hp rfl
  have hr:=run_append_owned_none (P:=P) (w:=w) base t o.type e i size ht hi v n xs hown
  have hn:news=[]:=List.eq_nil_of_length_eq_zero (by omega)
  subst hn
  refine wpList_plain hgd fun K hK=>?_
  unfold Oper.wp execOp
  simp only [ho,resolve,invoke,builtin,Sem.run_bind,Sem.run_pure,Result.andThen_ok,List.map_toArray,List.map_cons,List.map_nil,hs,hx,hr]
  exact hK _ _ (h v w (by simpa using hown) ⟨rfl,rfl,rfl,Nat.le_refl _,fun _ _ _=>rfl⟩)
theorem zaj {w:World} {base:Nat} {e:TypeId} {size:Nat} {v:Value} {n:Nat} {xs:List Value} (h:w.ownsRow base e size v n xs):∃ p c,v=.slice p n c∧n≤c∧(p=none→n=0∧c=0)∧(∀ ad,p=some ad→∃ g,ad=⟨g,0,none⟩∧base≤g∧g<w.heap.size∧∀ j,j<n*size→w.cell? ⟨g,j,none⟩=xs[j]?):=by
 have h0:=h
 rcases h.2 with ⟨rfl,rfl⟩|⟨g,c,cur,rfl,hb,hg,hc,_⟩
 ·exact ⟨none,0,rfl,Nat.le_refl _,fun _=>⟨rfl,rfl⟩,fun ad e=>by cases e⟩
 ·exact ⟨_,c,rfl,hc,(fun e=>by cases e),fun ad e=>by cases e;exact ⟨g,rfl,hb,(Array.getElem?_eq_some_iff.1 hg).1,fun j hj=>by rw [h0.cellAt j hj]⟩⟩
end Go.Proofs.YtoifcnidhfnapaaGreatDoor
namespace Go.Proofs.YtoifcnidhfnapaaGreatDoor
open Go.RowKit Go.Maps Go.Sort Go.Shelf
theorem Tryz.info141:(Tryz.prog.info? 141).map (fun i=>(i.zero,i.size,i.bytes))=some (some (.slice none 0 0),1,24):=by kernel_rfl
theorem zzx {w:World} {base B n:Nat} {sv:Value} {xs:List Value} {cs:Array Value} (h:w.ownsRow base 141 1 sv n xs) (hB:w.heap[B]? = some (.cells cs 190 (0,0))):sv.ownBlock≠some B:=by
 rcases h.2 with ⟨h,_⟩|⟨g,cap,cur,h,_,hgh,_⟩
 ·rw [h];simp [Value.ownBlock]
 ·rw [h]
  simp only [Value.ownBlock]
  intro e
  injection e with e
  rw [e,hB] at hgh
  simp at hgh
theorem zgo {w:World} {base n g:Nat} {sv:Value} {xs:List Value} (h:w.ownsRow base 141 1 sv n xs) (hg:sv.ownBlock=some g):base≤g:=by
 rcases h.2 with ⟨h,_⟩|⟨g',cap,cur,h,hb,_⟩
 ·rw [h] at hg;simp [Value.ownBlock] at hg
 ·rw [h] at hg
  simp only [Value.ownBlock] at hg
  injection hg with e
  omega
theorem zd0 {w:World} {base n:Nat} {sv:Value} {xs:List Value} (h:w.ownsRow base 141 1 sv n xs):∃ a cap,sv=.slice a n cap:=by
 rcases h.2 with ⟨h,h0⟩|⟨g',cap,cur,h,_⟩
 ·rw [h,h0];exact ⟨none,0,rfl⟩
 ·exact ⟨_,cap,h⟩
theorem zpf {w:World} {B:Nat} {x y v:Value} {t:TypeId} (h:w.heap[B]? = some (.cells #[x,y] t (0,0))):(w.setCell ⟨B,0,none⟩ v).heap[B]? = some (.cells #[v,y] t (0,0)):=by
 simp only [World.setCell]
 rw [Array.getElem?_modify,if_pos rfl,h]
 rfl
def addV (vals:List Value) (n:Nat) (v:Value):List Value:=if n=0 then vals else vals ++ [v]
set_option maxRecDepth 100000 in
set_option maxHeartbeats 2000000 in
theorem zpj (B:Nat) (sv:Value) (vals:List Value) (c:Int) (b o n cp base:Nat) (W:World) (hB:W.heap[B]? = some (.cells #[sv,.int .i64 c] 190 (0,0))) (ho:W.ownsRow base 141 1 sv vals.length vals) (hb:base≤B+1) (hl:vals.length≤1000000000) (hn:n≤1000000000000) :
  Calls Tryz.prog 199 #[.pointer (some ⟨B,0,none⟩),.slice (some ⟨b,o,none⟩) n cp] W fun e w'=>e=.returned (.tuple #[])∧∃ sv',w'.heap[B]? = some (.cells #[sv',.int .i64 c] 190 (0,0)) ∧
   w'.ownsRow base 141 1 sv' (addV vals n (.slice (some ⟨b,o,none⟩) n cp)).length (addV vals n (.slice (some ⟨b,o,none⟩) n cp))∧W.heap.size≤w'.heap.size∧(∀ k,k<W.heap.size→k≠B→sv.ownBlock≠some k→w'.heap[k]? = W.heap[k]?)∧w'.os=W.os∧w'.tape=W.tape∧w'.output=W.output:=by
 obtain ⟨i,hi,hz0,hz1,hz2⟩:=info_parts Tryz.info141
 have hBl:B<W.heap.size:=(Array.getElem?_eq_some_iff.1 hB).1
 have c0:W.cell? ⟨B,0,none⟩=some sv:=zab hB 0
 by_cases hz:n=0
 ·subst hz
  have HB:=hide hB
  have Ho:=hide ho
  clear hB ho
  go_enter Tryz.func199,Tryz.ntmps199
  go_wp2
  go_end0
  exact ⟨rfl,sv,zaa HB,by simpa [addV] using zaa Ho,Nat.le_refl _,fun _ _ _ _=>rfl,rfl,rfl,rfl⟩
 ·have hn0:(0:Int)<(n:Int):=by omega
  have hBA:(W.alloc (.cells #[.slice (some ⟨b,o,none⟩) n cp] 141)).heap[B]? = some (.cells #[sv,.int .i64 c] 190 (0,0)):=(Below.heap_alloc _ _ _ hBl).trans hB
  have cA:(W.alloc (.cells #[.slice (some ⟨b,o,none⟩) n cp] 141)).cell? ⟨B,0,none⟩=some sv:=zab hBA 0
  have hoA:=ho.alloc (.cells #[.slice (some ⟨b,o,none⟩) n cp] 141)
  have hne:=zzx hoA hBA
  have hbs:base≤W.heap.size:=by omega
  have hnew:∀ j u,[Value.slice (some ⟨b,o,none⟩) n cp][j]? = some u→(W.alloc (.cells #[.slice (some ⟨b,o,none⟩) n cp] 141)).cell? ((⟨W.heap.size,0,none⟩:Addr).add j)=some u:=by
   intro j u hj
   match j,hj with
   | 0,hj=>cases hj;exact zab (zad _ _ _ rfl) 0
  have HBA:=hide hBA
  have HoA:=hide hoA
  have Hnew:=hide hnew
  have Hne:=hide hne
  clear hB ho hoA hBA hnew hne
  go_enter Tryz.func199,Tryz.ntmps199
  go_wp2_with (first
   | (refine zkj _ rfl (.tmp 11) (.tmp 13) 142 rfl base 141 i _ 1 24 Tryz.underlying142 hi hz0 hz1 hz2 rfl (by decide) sv vals.length vals rfl (zaa HoA) (some ⟨W.heap.size,0,none⟩) 1 1 [.slice (some ⟨b,o,none⟩) n cp] rfl (fun e=>by cases e) rfl (fun ad e=>by cases e;exact zaa Hnew) (by simp [Value.oneCell']) (by unfold maxLen;omega) (by omega) (by simp;omega) ?_;intro sv' w3 hrow3 hg3;have hB3:=(hg3.block B (by simp;omega) (fun e=>(zaa Hne) e.symm)).trans (zaa HBA);have c3:w3.cell? ⟨B,0,none⟩=some sv:=zab hB3 0;have f3:w3.frozen? ⟨B,0,none⟩=false:=zac hB3 0;have Hrow3:=hide hrow3;have Hg3:=hide hg3;have HB3:=hide hB3;obtain ⟨a',cap',rfl⟩:=zd0 hrow3;clear hrow3 hg3 hB3))
  go_end0
  have hC:=grownBy_setCell' w3 B (.slice a' (vals.length+1) cap')
  have hne3:=zzx (zaa Hrow3) (zaa HB3)
  have e:addV vals n (.slice (some ⟨b,o,none⟩) n cp)=vals ++ [.slice (some ⟨b,o,none⟩) n cp]:=by unfold addV;rw [if_neg hz]
  refine ⟨rfl,_,zpf (zaa HB3),?_,?_,fun k hk h1 h2=>?_,hC.os.trans (zaa Hg3).os,hC.tape.trans (zaa Hg3).tape,hC.output.trans (zaa Hg3).output⟩
  ·rw [e]
   have:=(zaa Hrow3).kept hC (.inr hne3)
   simpa using this
  ·have h1:=(zaa Hg3).size
   have h2:=hC.size
   simp at h1
   omega
  ·exact (hC.block k (by have:=(zaa Hg3).size;simp at this;omega) (by simp;exact h1)).trans (((zaa Hg3).block k (by simp;omega) (fun e=>h2 e.symm)).trans (Below.heap_alloc _ _ _ hk))
end Go.Proofs.YtoifcnidhfnapaaGreatDoor
