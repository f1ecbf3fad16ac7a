import Derived.Test.YtgddkjhknlgbbaaGreatDoorR20
set_option linter.unusedVariables false
set_option linter.unusedSimpArgs false

namespace Go.Proofs.YtgddkjhknlgbbaaGreatDoor
set_option linter.unusedVariables false
set_option linter.unusedSimpArgs false
open Go.RowKit Go.Maps Go.Sort Go.Shelf

theorem ans_hit {L:List (Nat×Int)} (hs:L.Pairwise fun a b=>a.1<b.1) {k:Nat} (h0:∀ j,j<k→judgedAt L j=0) (hk:judgedAt L k≠0):firstBad L=some (k,judgedAt L k):=by
 cases e:firstBad L with
 | none=>exact absurd (first_bad_none e k) hk
 | some x =>
  obtain ⟨p,c⟩:=x
  obtain ⟨h1,h2,h3⟩:=first_bad_some hs e
  have hp:p=k:=by
   rcases Nat.lt_trichotomy p k with h|h|h
   ·exact absurd (h2.symm.trans (h0 p h)) h1
   ·exact h
   ·exact absurd (h3 k h) hk
  subst hp
  rw [h2]
theorem ans_none {L:List (Nat×Int)} (hs:L.Pairwise fun a b=>a.1<b.1) {n:Nat} (hl:∀ x∈L,x.1<n) (h0:∀ j,j<n→judgedAt L j=0):firstBad L=none:=by
 cases e:firstBad L with
 | none=>rfl
 | some x =>
  obtain ⟨p,c⟩:=x
  obtain ⟨h1,h2,h3⟩:=first_bad_some hs e
  exact absurd (h2.symm.trans (h0 p (hl _ (List.mem_of_find?_eq_some e)))) h1

attribute [local go_sem ↓] inv_ap

/-- What Register of the reference does to its box. -/
def RefRegSaid (W:World) (fb base:Nat) (vw:Value) (ws:List VRow) (nm:ByteArray) (A:Int×Int) (e:Ending) (w':World):Prop:=
 e=.returned (.tuple #[.int .i64 A.1,.int .i64 A.2])∧((A.1≠0∧Below W.heap.size W w')∨(A.1=0∧∃ (row:VRow) (w1:World) (g' cap':Nat),row.nm=nm∧(∀ u∈cellsVR [row],u.oneCell'=true)∧w1.ownsRow base 112 4 (.slice (some ⟨g',0,none⟩) (ws.length+1) cap') (ws.length+1) (cellsVR (ws ++ [row]))∧W.grownBy w1 vw.ownBlock∧(vw.ownBlock=some g'∨W.heap.size≤g')∧w'=w1.setCell ⟨fb,1,none⟩ (.slice (some ⟨g',0,none⟩) (ws.length+1) cap')))

set_option maxRecDepth 100000 in
set_option maxHeartbeats 8000000 in
theorem refReg_good (fb base:Nat) (v vw:Value) (rs:List RRel) (ws:List VRow) (st:St) (nm s o:ByteArray) (W:World) (hbox:W.heap[fb]? = some (.cells #[v,vw] 41 (0,0))) (hR:RelsAt W v rs) (hrl:rs.length≤1000) (hown:W.ownsRow base 112 4 vw ws.length (cellsVR ws)) (hbase:base≤W.heap.size) (hst:∀ nm n,atomRZ rs nm n=atomE st nm n) (ho:o.size≤10000000) (hz:newViewC (ws.map (·.nm)) nm s=0) (hq:qAcc (bytesL s)=true) :
  Calls Tryz.prog 20 #[.pointer (some ⟨fb,0,none⟩),.string nm,.string s,.string o] W (RefRegSaid W fb base vw ws nm (regA (judgeL st) (ws.map (·.nm)) nm s o)):=by
 obtain ⟨A,hA⟩:∃ A,A=regA (judgeL st) (ws.map (·.nm)) nm s o:=⟨_,rfl⟩
 rw [← hA]
 obtain ⟨h1,hx,h6,h3⟩:=newView_zero hz
 rw [List.length_map] at h6
 have h8:=nameB_size h1
 have hV:=views_of_own hown
 have c0:W.cell? ⟨fb,0,none⟩=some v:=cell_of_heap hbox 0
 have c1:W.cell? ⟨fb,1,none⟩=some vw:=cell_of_heap hbox 1
 have hfl:fb<W.heap.size:=(Array.getElem?_eq_some_iff.1 hbox).1
 have H1:=hide (refName_any nm W (by omega))
 have H2:=hide (view_any fb vw ws nm W c1 hV (by omega))
 rw [placeV_none hx] at H2
 rw [h1] at H1
 obtain ⟨va,vcap,rfl,_⟩:=hV
 have H3:=hide (whole_any s (by omega) W)
 have Hq:=hide hq
 have h6':¬ (6:Int)≤(ws.length:Int):=by omega
 have h3':¬ (300:Int)<(s.size:Int):=by omega
 have Hown:=hide hown
 have HR:=hide hR
 have Hst:=hide hst
 have Hz:=hide hz
 have HA:=hide hA
 have Hbox:=hide hbox
 have Hc0:=hide c0
 clear hz hx h1 hq hA hown hR hst hbox c0
 go_enter Tryz.func20,Tryz.ntmps20
 go_wp2_with fail
 refine (unhide H1).mono ?_
 rintro e w1 ⟨rfl,hw1⟩
 replace hw1:=hw1.symm
 subst hw1
 go_wp2_with fail
 refine (unhide H2).mono ?_
 rintro e w1 ⟨rfl,hw1⟩
 replace hw1:=hw1.symm
 subst hw1
 go_wp2_with fail
 refine (unhide H3).mono ?_
 rintro e w2 ⟨ha,hn,hc,pa,pn,pc,ba,bn,bc,rfl,hb2,hgood⟩
 rw [unhide Hq]
 obtain ⟨l,hl,pl,Bp,ht,eh,ep,eB,hH,hP,hB⟩:=hgood (unhide Hq)
 obtain ⟨H,hQ⟩:=refQ_of (o:=o) (by omega) (unhide Hz) (unhide Hst) (unhide Hq) ht eh ep eB
 generalize Bp.map AtomP.q=B at hB hQ
 rw [hQ.eh] at hH
 rw [hQ.ep,List.map_map] at hP
 obtain ⟨ba',bcap',eb',_⟩:=id hB
 have ebn:bn=B.length:=by cases eb';rfl
 subst ebn
 clear eb'
 obtain ⟨w3,hw3⟩:∃ w3,w3=w2.alloc (.cells #[.slice ha hn hc,.slice pa pn pc,.slice ba B.length bc] 105):=⟨_,rfl⟩
 have hb23:Below w2.heap.size w2 w3:=by rw [hw3];exact (Below.refl _ _).alloc (Nat.le_refl _) _
 have hbx:w3.heap[w2.heap.size]? = some (.cells #[.slice ha hn hc,.slice pa pn pc,.slice ba B.length bc] 105 (0,0)):=by rw [hw3];exact heap_last _ _ _ rfl
 have hb3:Below W.heap.size W w3:=hb2.trans (hb23.mono hb2.size)
 have hq0:w2.heap.size<w3.heap.size:=(Array.getElem?_eq_some_iff.1 hbx).1
 have hf3:fb<w3.heap.size:=Nat.lt_of_lt_of_le hfl hb3.size
 have HH:=hide (hH.below hb23)
 have HP:=hide (show IntsAt w3 (.slice pa pn pc) (H.map fun x=>((x.2:Nat):Int)) from by
  obtain ⟨a,cap,e,h⟩:=hP
  exact ⟨a,cap,e,fun i hi=>by obtain ⟨b,o,e1,h1⟩:=h i hi;exact ⟨b,o,e1,(hb23.cell (World.block_lt_of_cell? w2 _ h1)).trans h1⟩⟩)
 have HB:=hide (hB.below hb23)
 have HR3:=hide ((unhide HR).below hb3)
 have Hown3:=hide (own_below (unhide Hown) hb3)
 have Hf0:Hid (w3.cell? ⟨fb,0,none⟩=some v):=(hb3.cell (p:=⟨fb,0,none⟩) hfl).trans (unhide Hc0)
 have Hf1:Hid (w3.heap[fb]? = some (.cells #[v,.slice va ws.length vcap] 41 (0,0))):=(hb3.block fb hfl).trans (unhide Hbox)
 have Hb3:=hide hb3
 have HQ:=hide hQ
 have Hbx:=hide hbx
 have Hw3:=hide hw3
 clear hb2 hgood ht eh ep eB hH hP hB hQ hb23 hbx hb3 hw3 H1 H2 H3 c1
 go_upto_region 10 with fail
 rw [← unhide Hw3]
 obtain ⟨L,hL⟩:∃ L,L=headJ (varsR B) H ++ bodyJR rs B:=⟨_,rfl⟩
 have HL:=hide hL
 clear hL
 go_wp2
 go_loopw [15] (fun i wr=>∃ k:Nat,k≤s.size∧i=.int .i64 k∧(∀ j,j<k→judgedAt L j=0)∧Below w3.heap.size w3 wr) (fun i _=>s.size - (intOf i).toNat)
 case atStart=>exact ⟨0,Nat.zero_le _,rfl,fun j hj=>absurd hj (Nat.not_lt_zero _),Below.refl _ _⟩
 case round =>
  obtain ⟨k,hk,rfl,hall,hbk⟩:=hrel
  have hbx:=(hbk.block _ hq0).trans (unhide Hbx)
  have b0:wr.cell? ⟨w2.heap.size,0,none⟩=some (.slice ha hn hc):=cell_of_heap hbx 0
  have b1:wr.cell? ⟨w2.heap.size,1,none⟩=some (.slice pa pn pc):=cell_of_heap hbx 1
  have b2:wr.cell? ⟨w2.heap.size,2,none⟩=some (.slice ba B.length bc):=cell_of_heap hbx 2
  by_cases hlt:k<s.size
  ·have hkz:(k:Int)<(s.size:Int):=by omega
   have hQ:=unhide HQ
   have hj:=judged_any fb v rs ha hn hc pa pn pc (.slice ba B.length bc) H B k wr ((hbk.cell (p:=⟨fb,0,none⟩) hf3).trans (unhide Hf0)) ((unhide HR3).below hbk) hrl ((unhide HH).below hbk) (by
    obtain ⟨a,cap,e,h⟩:=unhide HP
    exact ⟨a,cap,e,fun i hi=>by obtain ⟨b,o,e1,h1⟩:=h i hi;exact ⟨b,o,e1,(hbk.cell (World.block_lt_of_cell? w3 _ h1)).trans h1⟩⟩) ((unhide HB).below hbk) hQ.h4 hQ.b4 hQ.t3 hQ.nms
   rw [← unhide HL] at hj
   obtain ⟨c,hc9⟩:∃ c,c=judgedAt L k:=⟨_,rfl⟩
   rw [← hc9] at hj
   have Hj:=hide hj
   have Hbk:=hide hbk
   by_cases hcz:c=0
   ·have hcb:(c != 0)=false:=by simpa using hcz
    have Hall:Hid (∀ j,j<k+1→judgedAt L j=0):=fun j hj=>by
     by_cases e:j=k
     ·rw [e,← hc9];exact hcz
     ·exact hall j (by omega)
    clear hQ hj hbk hall hc9 hcz hbx
    go_wp2_with fail
    refine (unhide Hj).mono ?_
    rintro e w4 ⟨rfl,hb4⟩
    have Hb4:=hide ((unhide Hbk).trans (hb4.mono (unhide Hbk).size))
    clear hb4 Hj
    go_wp2
    go_roundw
    case rel=>exact ⟨k+1,by omega,by go_num,unhide Hall,unhide Hb4⟩
    case measure=>simp [intOf];omega
   ·have hcb:(c != 0)=true:=by simpa using hcz
    have Hans:Hid (A=(c,(k:Int))∧c≠0):=by
     have hr:=hQ.rise
     rw [← unhide HL] at hr
     have h9:=ans_hit hr hall (by rw [← hc9];exact hcz)
     refine ⟨?_,hcz⟩
     rw [unhide HA,hQ.ans,← unhide HL,h9,← hc9]
    clear hQ hj hbk hall hc9 hcz hbx
    go_wp2_with fail
    refine (unhide Hj).mono ?_
    rintro e w4 ⟨rfl,hb4⟩
    have Hb4:=hide ((unhide Hbk).trans (hb4.mono (unhide Hbk).size))
    clear hb4 Hj
    go_wp2
    go_ret2
    exact ⟨by rw [(unhide Hans).1];rfl,.inl ⟨by rw [(unhide Hans).1];exact (unhide Hans).2,(unhide Hb3).trans ((unhide Hb4).mono (unhide Hb3).size)⟩⟩
  ·have hkz:¬ (k:Int)<(s.size:Int):=by omega
   have ek:k=s.size:=by omega
   have hQ:=unhide HQ
   have hA9:A=if o.size=0∨isoB (varsR B) (bytesO o)=true then (0,0) else (8,0):=by
    have hr:=hQ.rise
    have hlo:=hQ.low
    rw [← unhide HL] at hr hlo
    have h9:=ans_none hr hlo (fun j hj=>hall j (by omega))
    rw [unhide HA,hQ.ans,← unhide HL,h9]
   have Hvars:=hide (vars_any ha hn hc pa pn pc (.slice ba B.length bc) B wr ((unhide HB).below hbk) hQ.b4 hQ.t3)
   have hvl:(varsR B).length≤1000:=by
    have h1:=dedF_len (B.flatMap fun a=>lets1 a.ts) []
    have h2:=flat_len hQ.t3
    have h3:=hQ.b4
    unfold varsR
    rw [List.length_nil] at h1
    omega
   have HA9:=hide hA9
   have Hbk:=hide hbk
   clear hA9 hQ hbk hall hbx
   generalize varsR B=vars at *
   go_wp2_with fail
   refine (unhide Hvars).mono ?_
   rintro e w5 ⟨vv,rfl,hvo,hb5⟩
   have Hio:=hide (isOrder_any o vv vars w5 (bytes_of_own hvo) hvl (by omega))
   obtain ⟨va2,vc2,rfl,_⟩:=own_form hvo
   have hB5:Below w3.heap.size w3 w5:=(unhide Hbk).trans (hb5.mono (unhide Hbk).size)
   have HB5:=hide hB5
   clear hb5 hB5 hvo Hvars b0 b1 b2
   go_wp2_with fail
   refine (unhide Hio).mono ?_
   rintro e w6 ⟨rfl,hb6⟩
   have hB6:Below w3.heap.size w3 w6:=(unhide HB5).trans (hb6.mono (unhide HB5).size)
   have hbx:=(hB6.block _ hq0).trans (unhide Hbx)
   have hf6:=(hB6.block _ hf3).trans (unhide Hf1)
   have hWB6:Below W.heap.size W w6:=(unhide Hb3).trans (hB6.mono (unhide Hb3).size)
   by_cases hyes:o.size=0∨isoB vars (bytesO o)=true
   ·have HA0:Hid (A=(0,0)):=by show A=(0,0);rw [unhide HA9,if_pos hyes]
    obtain ⟨g',cap',w7,hA7,hown7,hg7,hat7⟩:=apAnyAt (w2:=w6.drew) #[.string nm,.slice ha hn hc,.slice pa pn pc,.slice ba B.length bc] 39 112 Tryz.underlying39 Tryz.info112 rfl (by decide) rfl (by simp [Value.oneCell']) (own_below (unhide Hown) (hWB6.trans (belowD W.heap.size w6))) (by show base≤w6.heap.size;exact Nat.le_trans hbase hWB6.size) (by omega) (by omega)
    replace hA7:(apSem #[39,39] 39 #[.slice va ws.length vcap,.slice (some ⟨w6.heap.size,0,none⟩) 1 1]).run Tryz.prog (w6.alloc (.cells #[.string nm,.slice ha hn hc,.slice pa pn pc,.slice ba B.length bc] 112)).drew=.ok (.slice (some ⟨g',0,none⟩) (ws.length+1) cap') w7:=hA7
    have hbA:Below w6.heap.size w6 (w6.alloc (.cells #[.string nm,.slice ha hn hc,.slice pa pn pc,.slice ba B.length bc] 112)).drew:=((Below.refl _ _).alloc (Nat.le_refl _) _).trans (belowD _ _)
    have hbxl:w2.heap.size<w6.heap.size:=Nat.lt_of_lt_of_le hq0 hB6.size
    have hfl6:fb<w6.heap.size:=Nat.lt_of_lt_of_le hf3 hB6.size
    have b0D:w6.drew.cell? ⟨w2.heap.size,0,none⟩=some (.slice ha hn hc):=cell_of_heap hbx 0
    have b1D:w6.drew.cell? ⟨w2.heap.size,1,none⟩=some (.slice pa pn pc):=cell_of_heap hbx 1
    have b2D:w6.drew.cell? ⟨w2.heap.size,2,none⟩=some (.slice ba B.length bc):=cell_of_heap hbx 2
    have c1D:w6.drew.cell? ⟨fb,1,none⟩=some (.slice va ws.length vcap):=cell_of_heap hf6 1
    have c1A:=(hbA.cell (p:=⟨fb,1,none⟩) hfl6).trans c1D
    have hne:some fb≠(Value.slice va ws.length vcap).ownBlock:=fun e=>by
     obtain ⟨_,cur,hc⟩:=own_block (unhide Hown) fb e.symm
     rw [unhide Hbox] at hc
     simp at hc
    have hf7:w7.heap[fb]? = some (.cells #[v,.slice va ws.length vcap] 41 (0,0)):=(hg7.block fb (by show fb<(w6.drew.alloc _).heap.size;simp;omega) hne).trans ((hbA.block fb hfl6).trans hf6)
    have c7:w7.cell? ⟨fb,1,none⟩=some (.slice va ws.length vcap):=cell_of_heap hf7 1
    have f7:w7.frozen? ⟨fb,1,none⟩=false:=frozen_of_heap hf7 1
    have hgW:W.grownBy w7 (Value.slice va ws.length vcap).ownBlock:=by
     have hWA:Below W.heap.size W (w6.drew.alloc (.cells #[.string nm,.slice ha hn hc,.slice pa pn pc,.slice ba B.length bc] 112)):=hWB6.trans (hbA.mono hWB6.size)
     exact ⟨hg7.os.trans hWA.os,hg7.tape.trans hWA.tape,hg7.output.trans hWA.output,Nat.le_trans hWA.size hg7.size,fun k hk hne=>(hg7.block k (Nat.lt_of_lt_of_le hk hWA.size) hne).trans (hWA.block k hk)⟩
    have Hap:Hid (w7.ownsRow base 112 4 (.slice (some ⟨g',0,none⟩) (ws.length+1) cap') (ws.length+1) (cellsVR ws ++ cellsVR [⟨nm,.slice ha hn hc,.slice pa pn pc,.slice ba B.length bc⟩])∧W.grownBy w7 (Value.slice va ws.length vcap).ownBlock∧((Value.slice va ws.length vcap).ownBlock=some g'∨W.heap.size≤g')):=⟨hown7,hgW,hat7.imp id (fun h=>Nat.le_trans hWB6.size h)⟩
    clear hbA hf7 hgW hg7 hown7 hat7 hbx hf6 hB6 hWB6 hne
    by_cases he:o=⟨#[]⟩
    ·subst he
     clear hyes
     clear hb6 Hio
     go_upto_region 22 with fail
     go_region_with fail
     all_goals
      go_wp2
      go_ret2
      refine ⟨by rw [unhide HA0];rfl,.inr ⟨by rw [unhide HA0],⟨nm,.slice ha hn hc,.slice pa pn pc,.slice ba B.length bc⟩,w7,g',cap',rfl,by simp [cellsVR,Value.oneCell'],?_,?_,?_,rfl⟩⟩
      ·rw [cellsVR_append];exact (unhide Hap).1
      ·exact (unhide Hap).2.1
      ·exact (unhide Hap).2.2
    ·have hem:=some_bytes he
     have hiso:isoB vars (bytesO o)=true:=by
      rcases hyes with h|h
      ·exact absurd ((empty_iff o).2 h) he
      ·exact h
     rw [hiso]
     clear hyes he hiso
     clear hb6 Hio
     go_upto_region 22 with fail
     go_region_with fail
     all_goals
      go_wp2
      go_ret2
      refine ⟨by rw [unhide HA0];rfl,.inr ⟨by rw [unhide HA0],⟨nm,.slice ha hn hc,.slice pa pn pc,.slice ba B.length bc⟩,w7,g',cap',rfl,by simp [cellsVR,Value.oneCell'],?_,?_,?_,rfl⟩⟩
      ·rw [cellsVR_append];exact (unhide Hap).1
      ·exact (unhide Hap).2.1
      ·exact (unhide Hap).2.2
   ·have hyes':isoB vars (bytesO o)=false:=by
     cases e:isoB vars (bytesO o) with
     | false=>rfl
     | true=>exact absurd (.inr e) hyes
    have he:o≠⟨#[]⟩:=fun e=>hyes (.inl ((empty_iff o).1 e))
    have hem:=some_bytes he
    rw [hyes']
    have HA8:Hid (A=(8,0)):=by show A=(8,0);rw [unhide HA9,if_neg hyes]
    have HWB:=hide hWB6
    clear hyes hyes' he hb6 Hio hbx hf6 hB6 hWB6
    go_wp2
    go_ret2
    exact ⟨by rw [unhide HA8];rfl,.inl ⟨by rw [unhide HA8];decide,unhide HWB⟩⟩

end Go.Proofs.YtgddkjhknlgbbaaGreatDoor
