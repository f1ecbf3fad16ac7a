import Derived.Test.YtgddkjhknlgbbaaGreatDoorR14
set_option linter.unusedVariables false
set_option linter.unusedSimpArgs false

namespace Go.Proofs.YtgddkjhknlgbbaaGreatDoor
set_option linter.unusedVariables false
set_option linter.unusedSimpArgs false
open Go.RowKit Go.Maps Go.Sort Go.Shelf

def atomRZ (rs:List RRel) (nm:ByteArray) (n:Nat):Int:=if 8<nm.size then 1 else if placeZ rs nm 0=-1 then 6 else if (rs[(placeZ rs nm 0).toNat]?.getD zeroRR).ar≠(n:Int) then 2 else 0
def bodyJR (rs:List RRel) (B:List AtomQ):List (Nat×Int):=B.map fun a=>(a.pl,atomRZ rs a.nm a.ts.length)

theorem find_snoc {α:Type} {P:α→Bool} {L:List α} {k:Nat} (hk:k<L.length) (h:(L.take k).find? P=none) (h0:P (L[k]'hk)=false):(L.take (k+1)).find? P=none:=by
 rw [List.take_succ_eq_append_getElem hk,List.find?_append,h]
 simp [h0]
theorem find_hit {α:Type} {P:α→Bool} {L:List α} {k:Nat} (hk:k<L.length) (h:(L.take k).find? P=none) (h0:P (L[k]'hk)=true):L.find? P=some (L[k]'hk):=by
 have h1:L.find? P=(L.take k ++ L.drop k).find? P:=by rw [List.take_append_drop]
 rw [h1,List.drop_eq_getElem_cons hk,List.find?_append,h,Option.none_or,List.find?_cons_of_pos (p:=P) h0]

/-- No fault at the place so far. -/
def CleanAt (L:List (Nat×Int)) (at_ k:Nat):Prop:=(L.take k).find? (fun x=>decide (x.1=at_) && decide (x.2≠0))=none
theorem CleanAt.next {L:List (Nat×Int)} {at_ k:Nat} (h:CleanAt L at_ k) (hk:k<L.length) (h0:(L[k]?.getD (0,0)).1≠at_∨(L[k]?.getD (0,0)).2=0):CleanAt L at_ (k+1):=by
 refine find_snoc hk h ?_
 have e:L[k]?.getD (0,0)=L[k]:=by simp [hk]
 rw [e] at h0
 rcases h0 with h0|h0
 ·simp [h0]
 ·simp [h0]
theorem CleanAt.hit {L:List (Nat×Int)} {at_ k:Nat} (h:CleanAt L at_ k) (hk:k<L.length) (h1:(L[k]?.getD (0,0)).1=at_) (h2:(L[k]?.getD (0,0)).2≠0):judgedAt L at_=(L[k]?.getD (0,0)).2:=by
 have e:L[k]?.getD (0,0)=L[k]:=by simp [hk]
 rw [e] at h1 h2 ⊢
 unfold judgedAt
 rw [find_hit hk h (by simp [h1,h2])]
theorem CleanAt.all {L:List (Nat×Int)} {at_ k:Nat} (h:CleanAt L at_ k) (hk:L.length≤k):judgedAt L at_=0:=by
 unfold CleanAt at h
 rw [List.take_of_length_le hk] at h
 unfold judgedAt
 rw [h]

set_option maxRecDepth 100000 in
set_option maxHeartbeats 8000000 in
theorem judged_any (fb:Nat) (v:Value) (rs:List RRel) (ha:Option Addr) (hn hc:Nat) (pa:Option Addr) (pn pc:Nat) (bv:Value) (H:List (Nat×Nat)) (B:List AtomQ) (at_:Nat) (W:World) (c0:W.cell? ⟨fb,0,none⟩=some v) (hR:RelsAt W v rs) (hrl:rs.length≤1000) (hH:BytesAt W (.slice ha hn hc) (H.map (·.1))) (hP:IntsAt W (.slice pa pn pc) (H.map fun x=>((x.2:Nat):Int))) (hB:BodyAt W bv B) (h4:H.length≤4) (hb4:B.length≤4) (ht3:∀ a∈B,a.ts.length≤3) (hnm:∀ a∈B,a.nm.size≤1000) :
  Calls Tryz.prog 49 #[.pointer (some ⟨fb,0,none⟩),.agg #[.slice ha hn hc,.slice pa pn pc,bv],.int .i64 at_] W fun e w'=>e=.returned (.int .i64 (judgedAt (headJ (varsR B) H ++ bodyJR rs B) at_))∧Below W.heap.size W w':=by
 obtain ⟨L,hL⟩:∃ L,L=headJ (varsR B) H ++ bodyJR rs B:=⟨_,rfl⟩
 rw [← hL]
 have hLl:L.length=H.length+B.length:=by rw [hL];simp [headJ,bodyJR]
 have hL1:∀ k,k<H.length→L[k]?.getD (0,0)=((H[k]?.getD (0,0)).2,if (H[k]?.getD (0,0)).1∈varsR B then 0 else 7):=fun k hk=>by rw [hL,List.getElem?_append_left (by simpa [headJ] using hk)];simp [headJ,hk]
 have hL2:∀ k,k<B.length→L[H.length+k]?.getD (0,0)=((B[k]?.getD noAtom).pl,atomRZ rs (B[k]?.getD noAtom).nm (B[k]?.getD noAtom).ts.length):=fun k hk=>by
  rw [hL,List.getElem?_append_right (by simp [headJ])]
  simp [headJ,bodyJR,hk]
 have HL1:=hide hL1
 have HL2:=hide hL2
 have HLl:=hide hLl
 obtain ⟨ba,bcap,rfl,hx⟩:=id hB
 have hfb:fb<W.heap.size:=World.block_lt_of_cell? W _ c0
 obtain ⟨W1,hW1⟩:∃ W1,W1=W.alloc (.cells #[.slice ha hn hc,.slice pa pn pc,.slice ba B.length bcap] 105):=⟨_,rfl⟩
 have hb1:Below W.heap.size W W1:=by rw [hW1];exact (Below.refl _ _).alloc (Nat.le_refl _) _
 have hB1:W1.heap[W.heap.size]? = some (.cells #[.slice ha hn hc,.slice pa pn pc,.slice ba B.length bcap] 105 (0,0)):=by rw [hW1];exact heap_last _ _ _ rfl
 have hq0:W.heap.size<W1.heap.size:=(Array.getElem?_eq_some_iff.1 hB1).1
 have b0:W1.cell? ⟨W.heap.size,0,none⟩=some (.slice ha hn hc):=cell_of_heap hB1 0
 have b1:W1.cell? ⟨W.heap.size,1,none⟩=some (.slice pa pn pc):=cell_of_heap hB1 1
 have b2:W1.cell? ⟨W.heap.size,2,none⟩=some (.slice ba B.length bcap):=cell_of_heap hB1 2
 have Hvars:=hide (vars_any ha hn hc pa pn pc (.slice ba B.length bcap) B W1 (hB.below hb1) hb4 ht3)
 have hvl:(varsR B).length≤12:=by
  have h1:=dedF_len (B.flatMap fun a=>lets1 a.ts) []
  have h2:=flat_len ht3
  unfold varsR
  rw [List.length_nil] at h1
  omega
 generalize varsR B=vs at *
 have HH:=hide (hH.below hb1)
 have HP:=hide (show IntsAt W1 (.slice pa pn pc) (H.map fun x=>((x.2:Nat):Int)) from by
  obtain ⟨a,cap,e,h⟩:=hP
  exact ⟨a,cap,e,fun i hi=>by obtain ⟨b,o,e1,h1⟩:=h i hi;exact ⟨b,o,e1,(hb1.cell (World.block_lt_of_cell? W _ h1)).trans h1⟩⟩)
 have HB:=hide (hB.below hb1)
 have HR:=hide (hR.below hb1)
 have Hc0:Hid (W1.cell? ⟨fb,0,none⟩=some v):=(hb1.cell (p:=⟨fb,0,none⟩) hfb).trans c0
 have hfb1:fb<W1.heap.size:=by omega
 have Hb1:=hide hb1
 have HW1:=hide hW1
 have Hnm:=hide hnm
 have Ht3:=hide ht3
 have hHn:H.length=hn:=by obtain ⟨a,cap,e,_⟩:=hH;cases e;simp
 have hPn:H.length=pn:=by obtain ⟨a,cap,e,_⟩:=hP;cases e;simp
 subst hHn
 subst hPn
 clear hL hL1 hL2 hLl hB hx hH hP hR hb1 hB1 hW1 hnm ht3 c0
 go_enter Tryz.func49,Tryz.ntmps49
 go_upto_region 1 with fail
 rw [← unhide HW1]
 go_wp2_with fail
 refine (unhide Hvars).mono ?_
 rintro e w2 ⟨vv,rfl,hvo,hb2⟩
 obtain ⟨va,vcap,rfl,_⟩:=own_form hvo
 have Hv2:=hide (bytes_of_own hvo)
 have Hb2:=hide hb2
 have Hbx:=hide (And.intro b0 (And.intro b1 b2))
 clear hvo hb2 Hvars b0 b1 b2
 have HT:Hid (∀ w',Below w2.heap.size w2 w'→Below W1.heap.size W1 w'):=fun w' h=>(unhide Hb2).trans (h.mono (unhide Hb2).size)
 go_wp2
 go_loopw [8] (fun i wr=>∃ k:Nat,k≤H.length∧i=.int .i64 k∧CleanAt L at_ k∧Below w2.heap.size w2 wr) (fun i _=>H.length - (intOf i).toNat)
 case atStart=>exact ⟨0,Nat.zero_le _,rfl,rfl,Below.refl _ _⟩
 case round =>
  obtain ⟨k,hk,rfl,hcl,hbk⟩:=hrel
  have hbk1:=(unhide HT) wr hbk
  have q0:=(hbk1.cell (p:=⟨W.heap.size,0,none⟩) hq0).trans (unhide Hbx).1
  by_cases hlt:k<H.length
  ·have hkz:(k:Int)<(H.length:Int):=by omega
   have q1:=(hbk1.cell (p:=⟨W.heap.size,1,none⟩) hq0).trans (unhide Hbx).2.1
   obtain ⟨_,_,e1,hh⟩:=unhide HH
   simp only [Value.slice.injEq] at e1
   obtain ⟨rfl,h91,rfl⟩:=e1
   clear h91
   obtain ⟨bh,oh,rfl,h0⟩:=hh k (by simpa using hlt)
   obtain ⟨_,_,e2,hp⟩:=unhide HP
   simp only [Value.slice.injEq] at e2
   obtain ⟨rfl,h92,rfl⟩:=e2
   clear h92
   obtain ⟨bp,op,rfl,p0⟩:=hp k (by simpa using hlt)
   replace h0:=(hbk1.cell (p:=⟨bh,_,none⟩) (World.block_lt_of_cell? W1 _ h0)).trans h0
   replace p0:=(hbk1.cell (p:=⟨bp,_,none⟩) (World.block_lt_of_cell? W1 _ p0)).trans p0
   have hLk:=(unhide HL1) k hlt
   have eh:(H.map (·.1))[k]?.getD 0=(H[k]?.getD (0,0)).1:=by simp [hlt]
   have ep:(H.map fun x=>((x.2:Nat):Int))[k]?.getD 0=(((H[k]?.getD (0,0)).2:Nat):Int):=by simp [hlt]
   rw [eh] at h0
   rw [ep] at p0
   obtain ⟨⟨c,pl⟩,hcp⟩:∃ q,q=H[k]?.getD (0,0):=⟨_,rfl⟩
   rw [← hcp] at h0 p0 hLk
   dsimp only at h0 p0 hLk
   have hkL:k<L.length:=by rw [unhide HLl];omega
   have hnext:=hcl.next hkL
   have hhit:=hcl.hit hkL
   rw [hLk] at hnext hhit
   dsimp only at hnext hhit
   have Hhas:=hide (has_any (.slice va vs.length vcap) vs c wr ((unhide Hv2).below hbk) (by omega))
   have Hbk:=hide hbk
   clear hcl hbk hbk1 hh hp eh ep hcp hLk
   by_cases hcv:c∈vs
   ·rw [decide_eq_true hcv] at Hhas
    have Hn:=hide (hnext (.inr (if_pos hcv)))
    clear hnext hhit hcv
    by_cases hpa:pl=at_
    ·have hpb:((pl:Int) == (at_:Int))=true:=by simpa using (show (pl:Int)=(at_:Int) by omega)
     clear hpa
     go_wp2_with fail
     refine (unhide Hhas).mono ?_
     rintro e w3 ⟨rfl,hw3⟩
     replace hw3:=hw3.symm
     subst hw3
     go_wp2
     go_roundw
     case rel=>exact ⟨k+1,by omega,by go_num,unhide Hn,unhide Hbk⟩
     case measure=>simp [intOf];omega
    ·have hpb:((pl:Int) == (at_:Int))=false:=by simpa using (show ¬ (pl:Int)=(at_:Int) by omega)
     clear hpa
     go_wp2_with fail
     refine (unhide Hhas).mono ?_
     rintro e w3 ⟨rfl,hw3⟩
     replace hw3:=hw3.symm
     subst hw3
     go_wp2
     go_roundw
     case rel=>exact ⟨k+1,by omega,by go_num,unhide Hn,unhide Hbk⟩
     case measure=>simp [intOf];omega
   ·rw [decide_eq_false hcv] at Hhas
    rw [if_neg hcv] at hnext hhit
    by_cases hpa:pl=at_
    ·have hpb:((pl:Int) == (at_:Int))=true:=by simpa using (show (pl:Int)=(at_:Int) by omega)
     have Hj:=hide (hhit hpa (by decide))
     clear hnext hhit hcv hpa
     go_wp2_with fail
     refine (unhide Hhas).mono ?_
     rintro e w3 ⟨rfl,hw3⟩
     replace hw3:=hw3.symm
     subst hw3
     go_wp2
     go_ret
     exact ⟨ret_int (unhide Hj).symm,(unhide Hb1).trans (((unhide HT) _ (unhide Hbk)).mono (unhide Hb1).size)⟩
    ·have hpb:((pl:Int) == (at_:Int))=false:=by simpa using (show ¬ (pl:Int)=(at_:Int) by omega)
     have Hn:=hide (hnext (.inl hpa))
     clear hnext hhit hcv hpa
     go_wp2_with fail
     refine (unhide Hhas).mono ?_
     rintro e w3 ⟨rfl,hw3⟩
     replace hw3:=hw3.symm
     subst hw3
     go_wp2
     go_roundw
     case rel=>exact ⟨k+1,by omega,by go_num,unhide Hn,unhide Hbk⟩
     case measure=>simp [intOf];omega
  ·have hkz:¬ (k:Int)<(H.length:Int):=by omega
   have Hcl0:Hid (CleanAt L at_ (H.length+0)):=by
    have e:k=H.length:=by omega
    rw [e] at hcl
    exact hcl
   have Hbk:=hide hbk
   clear hcl hbk hbk1
   go_wp2
   clear q0
   go_loopw [10] (fun i wr=>∃ k:Nat,k≤B.length∧i=.int .i64 k∧CleanAt L at_ (H.length+k)∧Below w2.heap.size w2 wr) (fun i _=>B.length - (intOf i).toNat)
   case atStart=>exact ⟨0,Nat.zero_le _,rfl,unhide Hcl0,unhide Hbk⟩
   case round =>
    obtain ⟨j,hj,rfl,hcl,hbj⟩:=hrel
    have hbj1:=(unhide HT) wr hbj
    have q2:=(hbj1.cell (p:=⟨W.heap.size,2,none⟩) hq0).trans (unhide Hbx).2.2
    by_cases hjl:j<B.length
    ·have hjz:(j:Int)<(B.length:Int):=by omega
     obtain ⟨_,_,e1,hbx⟩:=unhide HB
     cases e1
     obtain ⟨b,o,tv,rfl,e0,e1,e2,ht⟩:=hbx j hjl
     have hbl:b<W1.heap.size:=World.block_lt_of_cell? W1 _ e0
     have hmem:(B[j]?.getD noAtom)∈B:=by simp [hjl]
     have hLj:=(unhide HL2) j hjl
     obtain ⟨at9,hat⟩:∃ at9,at9=B[j]?.getD noAtom:=⟨_,rfl⟩
     rw [← hat] at e0 e1 ht hmem hLj
     have hn1:=(unhide Hnm) _ hmem
     have ht3:=(unhide Ht3) _ hmem
     replace e0:=(hbj1.cell (p:=⟨b,_,none⟩) hbl).trans e0
     replace e1:=(hbj1.cell (p:=⟨b,_,none⟩) hbl).trans e1
     replace e2:=(hbj1.cell (p:=⟨b,_,none⟩) hbl).trans e2
     obtain ⟨nm,pl,ts⟩:=at9
     dsimp only at e0 e1 ht hLj hn1 ht3
     obtain ⟨ta,tcap,rfl,_⟩:=ht
     have hkL:H.length+j<L.length:=by rw [unhide HLl];omega
     have hnext:=hcl.next hkL
     have hhit:=hcl.hit hkL
     rw [hLj] at hnext hhit
     dsimp only at hnext hhit
     obtain ⟨wx,hwx⟩:∃ wx,wx=wr.alloc (.cells #[.string nm,.int .i64 pl,.slice ta ts.length tcap] 150):=⟨_,rfl⟩
     have hbx2:Below w2.heap.size w2 wx:=by rw [hwx];exact hbj.alloc hbj.size _
     have gx:wx.heap[wr.heap.size]? = some (.cells #[.string nm,.int .i64 pl,.slice ta ts.length tcap] 150 (0,0)):=by rw [hwx];exact heap_last _ _ _ rfl
     have g0:wx.cell? ⟨wr.heap.size,0,none⟩=some (.string nm):=cell_of_heap gx 0
     have g1:wx.cell? ⟨wr.heap.size,1,none⟩=some (.int .i64 pl):=cell_of_heap gx 1
     have g2:wx.cell? ⟨wr.heap.size,2,none⟩=some (.slice ta ts.length tcap):=cell_of_heap gx 2
     have hbx1:=(unhide HT) wx hbx2
     have cf:=(hbx1.cell (p:=⟨fb,0,none⟩) hfb1).trans (unhide Hc0)
     have Hrel:=hide (relation_any fb v v rs nm wx cf ((unhide HR).below hbx1) (by omega))
     have Hfin:Hid (Below W.heap.size W wx):=(unhide Hb1).trans (hbx1.mono (unhide Hb1).size)
     have Hbx2:=hide hbx2
     have hRx:=(unhide HR).below hbx1
     clear hcl hbj hbj1 hbx hat hmem hLj gx hbx2 hbx1
     by_cases hpa:pl=at_
     ·have hpb:((pl:Int) != (at_:Int))=false:=by simpa using (show (pl:Int)=(at_:Int) by omega)
      by_cases h8:8<nm.size
      ·have h8':(8:Int)<(nm.size:Int):=by omega
       have Hj:=hide (hhit hpa (by unfold atomRZ;rw [if_pos h8];decide))
       rw [show atomRZ rs nm ts.length=1 from by unfold atomRZ;rw [if_pos h8]] at Hj
       clear hnext hhit hpa h8 hRx
       go_upto_region 12 with fail
       rw [← hwx]
       clear hwx e0 e1 e2
       go_wp2_with fail
       refine (unhide Hrel).mono ?_
       rintro e w3 ⟨rfl,hw3⟩
       replace hw3:=hw3.symm
       subst hw3
       go_wp2
       go_ret
       exact ⟨ret_int (unhide Hj).symm,unhide Hfin⟩
      ·have h8':¬ (8:Int)<(nm.size:Int):=by omega
       rcases placeZ_cases nm rs 0 with hp|⟨r,hr,hp,hrn⟩
       ·have hz:atomRZ rs nm ts.length=6:=by unfold atomRZ;rw [if_neg h8,if_pos hp]
        rw [hz] at hhit
        have Hj:=hide (hhit hpa (by decide))
        rw [hp] at Hrel
        clear hnext hhit hpa h8 hp hz hRx
        go_upto_region 12 with fail
        rw [← hwx]
        clear hwx e0 e1 e2
        go_wp2_with fail
        refine (unhide Hrel).mono ?_
        rintro e w3 ⟨rfl,hw3⟩
        replace hw3:=hw3.symm
        subst hw3
        go_wp2
        go_ret
        exact ⟨ret_int (unhide Hj).symm,unhide Hfin⟩
       ·rw [Int.zero_add] at hp
        rw [hp] at Hrel
        obtain ⟨ap,cp,rfl,hc9⟩:=hRx
        obtain ⟨br,rfl,d0,d1,d2⟩:=hc9 r hr
        obtain ⟨ra,hra⟩:∃ ra,ra=(rs[r]?.getD zeroRR).ar:=⟨_,rfl⟩
        rw [← hra] at d1
        have hz:atomRZ rs nm ts.length=if ra≠(ts.length:Int) then 2 else 0:=by
         unfold atomRZ
         rw [if_neg h8,if_neg (by omega),hp,Int.toNat_natCast,← hra]
        rw [hz] at hhit hnext
        have hrz:(r:Int)<(rs.length:Int):=by omega
        have hr0:¬ (r:Int)<0:=by omega
        by_cases har:ra=(ts.length:Int)
        ·have hab:(ra != (ts.length:Int))=false:=by simpa using har
         have Hn:=hide (hnext (.inr (if_neg (by simpa using har))))
         clear hnext hhit hpa h8 hp hz har hc9 d0 d2 hra hrn
         go_upto_region 12 with fail
         rw [← hwx]
         clear hwx e0 e1 e2
         go_wp2_with fail
         refine (unhide Hrel).mono ?_
         rintro e w3 ⟨rfl,hw3⟩
         replace hw3:=hw3.symm
         subst hw3
         go_wp2
         go_quiet (fail)
         go_wp2
         go_roundw
         case rel=>exact ⟨j+1,by omega,by go_num,unhide Hn,(unhide Hbx2).trans ((Drawn.ofN _ _).below _)⟩
         case measure=>simp [intOf];omega
        ·have hab:(ra != (ts.length:Int))=true:=by simpa using har
         rw [if_pos har] at hhit
         have Hj:=hide (hhit hpa (by decide))
         clear hnext hhit hpa h8 hp hz har hc9 d0 d2 hra hrn
         go_upto_region 12 with fail
         rw [← hwx]
         clear hwx e0 e1 e2
         go_wp2_with fail
         refine (unhide Hrel).mono ?_
         rintro e w3 ⟨rfl,hw3⟩
         replace hw3:=hw3.symm
         subst hw3
         go_wp2
         go_quiet (fail)
         go_wp2
         go_ret
         exact ⟨ret_int (unhide Hj).symm,(unhide Hfin).trans ((Drawn.ofN _ _).below _)⟩
     ·have hpb:((pl:Int) != (at_:Int))=true:=by simpa using (show ¬ (pl:Int)=(at_:Int) by omega)
      have Hn:=hide (hnext (.inl hpa))
      clear hnext hhit hpa hRx
      go_upto_region 12 with fail
      rw [← hwx]
      clear hwx e0 e1 e2
      go_wp2
      go_roundw
      case rel=>exact ⟨j+1,by omega,by go_num,unhide Hn,unhide Hbx2⟩
      case measure=>simp [intOf];omega
    ·have hjz:¬ (j:Int)<(B.length:Int):=by omega
     have Hj:=hide (hcl.all (by rw [unhide HLl];omega))
     have Hfin:Hid (Below W.heap.size W wr):=(unhide Hb1).trans (hbj1.mono (unhide Hb1).size)
     clear hcl hbj hbj1
     go_wp2
     go_ret
     exact ⟨ret_int (unhide Hj).symm,unhide Hfin⟩

end Go.Proofs.YtgddkjhknlgbbaaGreatDoor
