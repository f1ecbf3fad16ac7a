import Derived.Test.YtgddkjhknlgbbaaGreatDoorR12
set_option linter.unusedVariables false
set_option linter.unusedSimpArgs false

namespace Go.Proofs.YtgddkjhknlgbbaaGreatDoor
set_option linter.unusedVariables false
set_option linter.unusedSimpArgs false
open Go.RowKit Go.Maps Go.Sort Go.Shelf

/-- A piece's cells,by its number. -/
theorem pcs_cells {w:World} {a:Option Addr} {cap:Nat} {ps:List Pc} (h:PcsAt w (.slice a ps.length cap) ps) {i:Nat} (hi:i<ps.length):∃ b o,a=some ⟨b,o,none⟩∧b<w.heap.size∧w.cell? ⟨b,o+i*3,none⟩=some (.int .u8 ((ps[i]?.getD zeroPc).m:Nat))∧w.cell? ⟨b,o+i*3+1,none⟩=some (.string (ps[i]?.getD zeroPc).s)∧w.cell? ⟨b,o+i*3+2,none⟩=some (.int .i64 ((ps[i]?.getD zeroPc).i:Nat)):=by
 obtain ⟨a',cap',e,hx⟩:=h
 cases e
 exact hx i hi

theorem wf118 {x:Pc} (h:WfPc x) (hm:x.m=118):x.s.size=1:=by
 rcases h with h|h|h|h|⟨_,h⟩|⟨h,_⟩|⟨h,_⟩
 ·omega
 ·omega
 ·omega
 ·omega
 ·exact h
 ·omega
 ·omega
theorem wf100 {x:Pc} (h:WfPc x) (hm:x.m=100):NumS x.s:=by
 rcases h with h|h|h|h|⟨h,_⟩|⟨h,_⟩|⟨_,h⟩
 ·omega
 ·omega
 ·omega
 ·omega
 ·omega
 ·omega
 ·exact h
theorem itemsT_items:∀ (n:Nat) (b:Bool) (r its rest:List Tok),r.length≤n→itemsT b r=some (its,rest)→∀ t∈its,isItem t=true:=by
 intro n
 induction n with
 | zero =>
  intro b r its rest hr h
  obtain rfl:r=[]:=List.length_eq_zero_iff.1 (by omega)
  simp [itemsT] at h
 | succ n ih =>
  intro b r its rest hr h
  unfold itemsT at h
  split at h
  ·cases h
  ·cases h;simp
  all_goals first
   | (simp only [Option.map_eq_some_iff] at h
      obtain ⟨x,hx,e⟩:=h
      cases e
      have:=ih _ _ x.1 x.2 (by simp at hr;omega) hx
      intro t ht
      rcases List.mem_cons.1 ht with rfl|ht
      ·rfl
      ·exact this t ht)
   | cases h
theorem item_marks {x:Pc} (h:WfPc x) (hi:isItem (tokP x)=true):x.m=118∨x.m=100:=by
 rcases h.cases with ⟨m,e⟩|⟨m,e⟩|⟨m,e⟩|⟨m,e⟩|⟨m,e⟩|⟨m,e⟩|⟨m,e⟩
 all_goals first
  | exact .inl m
  | exact .inr m
  | (rw [e] at hi;cases hi)
/-- The letters of a list of terms. -/
def letT (x:Pc):Nat:=(termZ (tokP x)).1.toNat
theorem letT118 {x:Pc} (h:WfPc x) (hm:x.m=118):letT x=byteAt x.s 0:=by
 have hs:=wf118 h hm
 have h0:(bytesL x.s)[0]? = some ((bytesL x.s)[0]'(by rw [bytesL_len];omega)):=List.getElem?_eq_getElem _
 unfold letT
 rw [tok118 hm,byte_at h0,h0];rfl
theorem letT100 {x:Pc} (hm:x.m=100):letT x=0:=by unfold letT;rw [tok100 hm];rfl
def BLike (xs:List (AtomP×Value)) (zs:List AtomZ):Prop:=xs.map (fun x=>(x.1.nm,x.1.pl,x.1.ts.map (·.1)))=zs.map (fun z=>((⟨z.nm.toArray⟩:ByteArray),z.i,z.terms.map fun t=>t.1.toNat))

/-- Behind the head's list. -/
structure HeadRd (W:World) (s:ByteArray) (ps out:List Pc) (k:Nat):Prop where
 acc:qAcc (bytesL s)=((out.map tokP).all isVT && decide (out.length≤4) && atomsT (((ps.map tokP).drop (k+2)).length+1) 0 ((ps.map tokP).drop (k+2)))
 qz:queryZ (ps.map tokP)=⟨headZ (out.map tokP),atomsZ (((ps.map tokP).drop (k+2)).length+1) ((ps.map tokP).drop (k+2))⟩
 toks:qToks 0 (bytesL s)=some (ps.map tokP)
 wfp:∀ x∈ps,WfPc x
 wfo:∀ x∈out,WfPc x
 o4:out.length≤4
 kl:k+1<ps.length
 m58:(ps[k+1]?.getD zeroPc).m=58

section
attribute [local go_sem ↓] inv_ap
set_option maxRecDepth 100000 in
set_option maxHeartbeats 16000000 in
theorem whole_any (s:ByteArray) (hs:s.size≤1000) (W:World):Calls Tryz.prog 47 #[.string s] W (WholeSaid W s):=by
 obtain ⟨W2,hW2⟩:∃ W2,W2=(W.alloc (.cells #[.slice none 0 0,.slice none 0 0,.slice none 0 0] 105)).alloc (.cells #[.slice none 0 0,.slice none 0 0,.slice none 0 0] 105):=⟨_,rfl⟩
 have hs2:W2.heap.size=W.heap.size+2:=by rw [hW2];simp
 have hQ2:=QW.start W
 rw [← hW2] at hQ2
 have HQ2:=hide hQ2
 have HW2:=hide hW2
 have Hp:=hide (pieces_any s hs W2)
 have Hs2:=hide hs2
 clear hQ2 hW2 hs2
 go_enter Tryz.func47,Tryz.ntmps47
 go_wp2_with fail
 rw [← unhide HW2]
 refine (unhide Hp).mono ?_
 rintro e w3 (⟨hnone,rfl,hb3⟩|⟨v,ps,htk,rfl,hown,hwf,hlen,hb3⟩)
 ·have Hq:Hid (qAcc (bytesL s)=false):=by show qAcc (bytesL s)=false;rw [qAcc_whole (bytesL s) 0,hnone]
  have HQ3:=hide ((unhide HQ2).below hb3)
  obtain ⟨q0,q1,q2,r0,r1,r2,f0,f1,f2,_,_,_⟩:=(unhide HQ3).cells
  clear hb3 hnone Hp
  go_wp2
  exact whole_ret _ rfl rfl (unhide HQ3) (unhide Hq)
 ·have hacc:qAcc (bytesL s)=wholeT (ps.map tokP):=by rw [qAcc_whole (bytesL s) 0,htk]
  rw [unhide Hs2] at hown
  have hQ3:=(unhide HQ2).below hb3
  obtain ⟨pa,pcap,rfl⟩:=own_sl hown
  have Hl:Hid (Calls Tryz.prog 79 #[.slice pa ps.length pcap,.int .i64 0,.int .i64 0,.int .i64 4] w3 (ListedSaid w3 ps 0 0 4)):=listed_any _ ps 0 0 4 w3 (pcs_of_own hown) hwf (by omega) (by omega) (by omega) (by omega)
  have Hown:=hide hown
  have Hwf:=hide hwf
  have HQ3:=hide hQ3
  have Hacc:=hide hacc
  have Htk:=hide htk
  clear hb3 hown hwf hQ3 hacc htk Hp HQ2
  go_wp2_with fail
  refine (unhide Hl).mono ?_
  rintro e w4 (⟨v1,out,k,hal,hm40,hkl,hak,hit,hmem,hol,rfl,hown1,hb4⟩|⟨sa,sn,sc,n,hbad,rfl,hb4⟩)
  ·obtain ⟨oa,ocap,rfl⟩:=own_sl hown1
   have hw:=whole_list hal hm40 hit
   have hP4:PW W w4 (.slice pa ps.length pcap) (.slice oa out.length ocap) ps out [] [] [] (.slice none 0 0) (.slice none 0 0) (.slice none 0 0):=⟨(unhide HQ3).below hb4,own_below (unhide Hown) hb4,own_baseG hown1 (Nat.lt_iff_add_one_le.1 (Array.getElem?_eq_some_iff.1 (unhide HQ3).q).1)⟩
   have HP4:=hide hP4
   obtain ⟨q0,q1,q2,r0,r1,r2,f0,f1,f2,_,_,_⟩:=hP4.qw.cells
   have hwo:∀ x∈out,WfPc x:=fun x hx=>(unhide Hwf) x (hmem x hx)
   by_cases h4:out.length≤4
   ·rw [show (decide (0≤out.length) && decide (out.length≤4))=true from by simp [h4]]
    by_cases hk1:k+1<ps.length
    ·have hkz:¬ (ps.length:Int)≤(k:Int)+1:=by omega
     obtain ⟨b0,o0,rfl,hb0,c0,_,_⟩:=pcs_cells (pcs_of_own hP4.ps) hk1
     have hwk:=(unhide Hwf) (ps[k+1]?.getD zeroPc) (by simp [hk1])
     have hd:=drop_pc hk1
     obtain ⟨mk,hmk⟩:∃ mk,mk=(ps[k+1]?.getD zeroPc).m:=⟨_,rfl⟩
     rw [← hmk] at c0
     by_cases h58:mk=58
     ·rw [h58] at hmk c0
      rw [tok58 hmk.symm] at hd
      rw [hd] at hw hit
      have Hrd:Hid (HeadRd W s ps out k):=⟨by rw [unhide Hacc,hw],query_list (k:=k) hal hm40 hit,unhide Htk,unhide Hwf,hwo,h4,hk1,hmk.symm⟩
      replace c0:w4.cell? ⟨b0,o0+(k+1)*3,none⟩=some (.int .u8 58):=c0
      clear hw hit hd hmk hwk hwo hmem hown1 hb4 hP4 Hl HQ3 Hown Hacc Htk
      go_wp2
      clear c0 q0 q1 q2 r0 r1 r2 f0 f1 f2
      have Hak:=hide hak
      clear hm40 hal hak
      go_loopw [10] (fun i wr=>∃ (j:Nat) (hv pv:Value),j≤out.length∧i=.int .i64 j∧(∀ x∈out.take j,x.m=118)∧PW W wr (.slice (some ⟨b0,o0,none⟩) ps.length pcap) (.slice oa out.length ocap) ps out (lettersO (out.take j)) (placesO (out.take j)) [] hv pv (.slice none 0 0)) (fun i _=>out.length - (intOf i).toNat)
      case atStart=>exact ⟨0,_,_,Nat.zero_le _,rfl,by simp,unhide HP4⟩
      case round =>
       obtain ⟨j,hv,pv,hj,rfl,hm,hP⟩:=hrel
       obtain ⟨ha,hca,rfl⟩:=own_sl hP.qw.head
       obtain ⟨pa',pca,rfl⟩:=own_sl hP.qw.pla
       by_cases hjl:j<out.length
       ·have hjz:(j:Int)<(out.length:Int):=by omega
        obtain ⟨b1,o1,rfl,hb1,d0,d1,d2⟩:=pcs_cells (pcs_of_own hP.out) hjl
        have hwx:=(unhide Hrd).wfo (out[j]?.getD zeroPc) (by simp [hjl])
        have hnv:=not_vt hjl hwx
        have htk:out.take (j+1)=out.take j ++ [out[j]?.getD zeroPc]:=by rw [List.take_succ_eq_append_getElem hjl];simp [hjl]
        obtain ⟨x,hx⟩:∃ x,x=out[j]?.getD zeroPc:=⟨_,rfl⟩
        rw [← hx] at d0 d1 d2 hwx hnv htk
        have Hx:=hide hx
        clear hx
        obtain ⟨xm,xs,xi⟩:=x
        dsimp only at d0 d1 d2 hnv
        obtain ⟨q0,q1,q2,r0,r1,r2,f0,f1,f2,f3,f4,_⟩:=hP.qw.cells
        by_cases h118:xm=118
        ·subst h118
         replace d0:wr.cell? ⟨b1,o1+j*3,none⟩=some (.int .u8 118):=d0
         have hsz:xs.size=1:=wf118 hwx rfl
         obtain ⟨c,hc⟩:∃ c,c=byteAt xs 0:=⟨_,rfl⟩
         have hz:(0:Int)<(xs.size:Int):=by omega
         have hix:((xs[0].toNat:Nat):Int)=(c:Int):=by have:=byteAt_in (s:=xs) (p:=0) (by omega);omega
         have Hm:Hid (∀ y∈out.take (j+1),y.m=118):=fun y hy=>by
          rw [htk] at hy
          rcases List.mem_append.1 hy with hy|hy
          ·exact hm y hy
          ·rw [List.mem_singleton.1 hy]
         have Hle:Hid (lettersO (out.take (j+1))=lettersO (out.take j) ++ [c]∧placesO (out.take (j+1))=placesO (out.take j) ++ [xi]):=⟨by rw [htk,hc];simp [lettersO],by rw [htk];simp [placesO]⟩
         have hl4:(lettersO (out.take j)).length=j:=by simp [lettersO];omega
         have hp4:(placesO (out.take j)).length=j:=by simp [placesO];omega
         obtain ⟨g',cap',w6,hA6,hP6,q6,f6⟩:=hP.head c (by rw [hl4];omega)
         have Hp4:=hide hp4
         clear hl4 hp4
         have hql:W.heap.size+1<wr.heap.size:=(Array.getElem?_eq_some_iff.1 hP.qw.q).1
         have hbA:Below wr.heap.size wr (wr.alloc (.cells #[.int .u8 c] 5)).drew:=((Below.refl _ _).alloc (Nat.le_refl _) _).trans (belowD _ _)
         have q0A:=(hbA.cell (p:=⟨W.heap.size+1,0,none⟩) hql).trans q0
         have q0D:wr.drew.cell? ⟨W.heap.size+1,0,none⟩=some (.slice ha (lettersO (out.take j)).length hca):=q0
         have d1D:wr.drew.cell? ⟨b1,o1+j*3+1,none⟩=some (.string xs):=d1
         have HP6:=hide hP6
         clear hP hP6 hm htk hwx hnv hbA hc r0 r1 r2 f0 f1 f2 q1 q2 d2 f3 f4
         go_upto_region 13 with fail
         go_cut [] from 63 to 73 (fun wx=>∃ hv',PW W wx (.slice (some ⟨b0,o0,none⟩) ps.length pcap) (.slice (some ⟨b1,o1,none⟩) out.length ocap) ps out (lettersO (out.take j) ++ [c]) (placesO (out.take j)) [] hv' (.slice pa' (placesO (out.take j)).length pca) (.slice none 0 0))
         case first =>
          go_region_with fail
          all_goals
           go_wp2_with fail
           go_meet
           case rel=>exact ⟨_,unhide HP6⟩
         case rest =>
          obtain ⟨hv',hPc⟩:=hcut
          obtain ⟨ha',hca',rfl⟩:=own_sl hPc.qw.head
          obtain ⟨_,_,e1,_,_,_,k2⟩:=pcs_cells (pcs_of_own hPc.out) hjl
          cases e1
          rw [← unhide Hx] at k2
          obtain ⟨_,p1,_,_,_,_,_,_,_,_,p4,_⟩:=hPc.qw.cells
          obtain ⟨g2,cap2,w7,hA7,hP7,q7,f7⟩:=hPc.place xi (by rw [unhide Hp4];omega)
          have hqc:W.heap.size+1<wc.heap.size:=(Array.getElem?_eq_some_iff.1 hPc.qw.q).1
          have hbB:Below wc.heap.size wc (wc.alloc (.cells #[.int .i64 xi] 3)).drew:=((Below.refl _ _).alloc (Nat.le_refl _) _).trans (belowD _ _)
          have p1A:=(hbB.cell (p:=⟨W.heap.size+1,1,none⟩) hqc).trans p1
          have p1D:wc.drew.cell? ⟨W.heap.size+1,1,none⟩=some (.slice pa' (placesO (out.take j)).length pca):=p1
          have k2D:wc.drew.cell? ⟨b1,o1+j*3+2,none⟩=some (.int .i64 xi):=k2
          have HP7:=hide hP7
          clear hPc hP7 hbB
          go_upto_region 14 with fail
          go_region_with fail
          all_goals
           go_wp2
           go_roundw
           case rel=>exact ⟨j+1,_,_,by omega,by go_num,unhide Hm,by rw [(unhide Hle).1,(unhide Hle).2];exact unhide HP7⟩
           case measure=>simp [intOf];omega
        ·have e118:((xm:Int) != 118)=true:=by simpa using (show ¬ (xm:Int)=118 by omega)
         have Hq:Hid (qAcc (bytesL s)=false):=by
          show qAcc (bytesL s)=false
          rw [(unhide Hrd).acc,hnv h118]
          rfl
         have HP:=hide hP.qw
         clear hP hm htk hwx hnv h118 f3 f4 d1 d2
         go_wp2
         exact whole_ret _ rfl rfl (unhide HP) (unhide Hq)
       ·have ej:j=out.length:=by omega
        rw [ej,List.take_length] at hm hP
        have hz1:¬ (j:Int)<(out.length:Int):=by omega
        have hrd:=unhide Hrd
        have hA:qAcc (bytesL s)=atomsT (((ps.map tokP).drop (k+2)).length+1) 0 ((ps.map tokP).drop (k+2)):=by rw [hrd.acc,all_vt hm,decide_eq_true hrd.o4];simp
        obtain ⟨hZ1,hZ2⟩:=headZ_out hm hrd.wfo
        have HP0:=hide hP
        have hk1':k+1<ps.length:=hrd.kl
        have hd1:(ps.map tokP).drop (k+1)=Sum.inl (true,true) :: (ps.map tokP).drop (k+2):=by rw [drop_pc hk1',tok58 hrd.m58]
        have HA0:Hid (qAcc (bytesL s)=contT (((ps.map tokP).drop (k+2)).length+1) 0 ((ps.map tokP).drop (k+1))):=by show _=_;rw [hA,hd1];rfl
        have HZ0:Hid ((queryZ (ps.map tokP)).body=contZ (((ps.map tokP).drop (k+2)).length+1) 0 ((ps.map tokP).drop (k+1))):=by show _=_;rw [hrd.qz,hd1];rfl
        have HF0:Hid (((ps.map tokP).drop (k+1)).length≤((ps.map tokP).drop (k+2)).length+1):=by show _≤_;rw [hd1];exact Nat.le_refl _
        have HZh:Hid (lettersO out=(queryZ (ps.map tokP)).head.map (fun x=>x.1.toNat)∧placesO out=(queryZ (ps.map tokP)).head.map (·.2)):=by rw [hrd.qz];exact ⟨hZ1,hZ2⟩
        have Htoks:=hide hrd.toks
        clear hm hP hA hZ1 hZ2 ej hrd hd1 Hrd
        generalize lettersO out=hl at *
        generalize placesO out=pl at *
        obtain ⟨i150,hai,haz0,haz1,haz2⟩:=info_parts Tryz.info150
        obtain ⟨i152,hti,htz0,htz1,htz2⟩:=info_parts Tryz.info152
        go_wp2
        go_loopw [8] (fun i w9=>∃ (p f:Nat) (zs:List AtomZ) (xs:List (AtomP×Value)) (bv:Value),k+1≤p∧p≤ps.length∧i=.int .i64 p∧zs.length=xs.length∧xs.length≤4∧BLike xs zs∧qAcc (bytesL s)=contT f xs.length ((ps.map tokP).drop p)∧(queryZ (ps.map tokP)).body=zs ++ contZ f xs.length ((ps.map tokP).drop p)∧((ps.map tokP).drop p).length≤f∧PW W w9 (.slice (some ⟨b0,o0,none⟩) ps.length pcap) (.slice oa out.length ocap) ps out hl pl xs (.slice ha hl.length hca) (.slice pa' pl.length pca) bv) (fun i _=>ps.length - (intOf i).toNat)
        case atStart=>exact ⟨k+1,_,[],[],_,Nat.le_refl _,by omega,by go_num,rfl,by simp,rfl,unhide HA0,by simpa using unhide HZ0,unhide HF0,unhide HP0⟩
        case round =>
         obtain ⟨p,f,zs,xs,bv,hkp,hpl,rfl,hzl,hx4,hBL,hAp,hZp,hFp,hP⟩:=hrel
         obtain ⟨wo,rfl⟩:∃ wo,wo=wr:=⟨_,rfl⟩
         obtain ⟨ba,bca,rfl⟩:=own_sl hP.qw.body
         have HP:=hide hP
         have HAp:=hide hAp
         have HZp:=hide hZp
         have HBL:=hide hBL
         obtain ⟨q0,q1,q2,r0,r1,r2,f0,f1,f2,_,_,_⟩:=hP.qw.cells
         by_cases hlt:p<ps.length
         ·have hpz:(p:Int)<(ps.length:Int):=by omega
          obtain ⟨_,_,e9,hb0,cm0,_,_⟩:=pcs_cells (pcs_of_own hP.ps) hlt
          cases e9
          have hwp:=(unhide Hwf) (ps[p]?.getD zeroPc) (by simp [hlt])
          have hdp:=drop_pc hlt
          obtain ⟨mp,hmp⟩:∃ mp,mp=(ps[p]?.getD zeroPc).m:=⟨_,rfl⟩
          rw [← hmp] at cm0
          by_cases hA1:mp≠44∧0<xs.length
          ·have e44:((mp:Int) != 44)=true:=by simpa using (show ¬ (mp:Int)=44 by omega)
           have hn0:(0:Int)<(xs.length:Int):=by omega
           have hbadA:contT f xs.length ((ps.map tokP).drop p)=false:=by
            rw [hdp]
            refine contT_sep (by omega) (fun e=>?_)
            rcases hwp.cases with ⟨m,e'⟩|⟨m,e'⟩|⟨m,e'⟩|⟨m,e'⟩|⟨m,e'⟩|⟨m,e'⟩|⟨m,e'⟩
            all_goals first
             | exact hA1.1 (hmp.trans m)
             | (rw [e'] at e;cases e)
           have Hq:Hid (qAcc (bytesL s)=false):=by
            show qAcc (bytesL s)=false
            rw [unhide HAp]
            exact hbadA
           clear hP hAp hZp hBL hFp hwp hdp hmp
           go_wp2
           exact whole_ret _ rfl rfl (unhide HP).qw (unhide Hq)
          ·have hsepT:xs.length≠0→(ps[p]?.getD zeroPc).m=44:=fun h=>by
            rw [← hmp]
            exact Classical.byContradiction fun h4=>hA1 ⟨h4,by omega⟩
           have hsplit:(((mp:Int) != 44)=false)∨(((mp:Int) != 44)=true∧¬ (0:Int)<(xs.length:Int)):=by
            by_cases h4:mp=44
            ·left;subst h4;rfl
            ·right;exact ⟨by simpa using (show ¬ (mp:Int)=44 by omega),by omega⟩
           by_cases hp1:p+1<ps.length
           ·have hpz1:¬ (ps.length:Int)≤(p:Int)+1:=by omega
            obtain ⟨_,_,e9,_,cn0,cn1,cn2⟩:=pcs_cells (pcs_of_own hP.ps) hp1
            cases e9
            have hwp1:=(unhide Hwf) (ps[p+1]?.getD zeroPc) (by simp [hp1])
            have hdp1:=drop_pc hp1
            have hbs:=fun hm hn=>bstep (n:=xs.length) (f:=f) (unhide Hwf) hp1 hm hsepT hn hFp
            obtain ⟨y,hy⟩:∃ y,y=ps[p+1]?.getD zeroPc:=⟨_,rfl⟩
            rw [← hy] at cn0 cn1 cn2 hwp1 hdp1 hbs
            obtain ⟨my,ys,yi⟩:=y
            dsimp only at cn0 cn1 cn2 hbs
            by_cases h110:my=110
            ·subst h110
             replace cn0:wo.cell? ⟨b0,o0+(p+1)*3,none⟩=some (.int .u8 110):=cn0
             by_cases hn4:xs.length=4
             ·have hn4':(xs.length:Int)=4:=by omega
              have hbadA:contT f xs.length ((ps.map tokP).drop p)=false:=by rw [hn4,hdp,hdp1];exact contT_four
              have HP4:=hide (unhide HP).qw
              rw [hn4] at HP4
              rcases hsplit with t1|⟨t1,t2⟩
              ·have Hq:Hid (qAcc (bytesL s)=false):=by
                show qAcc (bytesL s)=false
                rw [unhide HAp]
                exact hbadA
               clear hP hAp hZp hBL hFp hwp hdp hmp hwp1 hdp1 hbs hy hsepT hA1
               go_wp2
               exact whole_ret _ rfl rfl (unhide HP4) (unhide Hq)
              ·omega
             ·have hn4':¬ (xs.length:Int)=4:=by omega
              have k4:((xs.length:Int) == 4)=false:=by simpa using hn4'
              have HTE:=hide (hbs rfl (by omega))
              obtain ⟨wA,hwA⟩:∃ wA,wA=(wo.alloc (.cells #[.string ys,.int .i64 yi,.slice none 0 0] 150)).drew:=⟨_,rfl⟩
              have hbA:Below wo.heap.size wo wA:=by rw [hwA];exact ((Below.refl _ _).alloc (Nat.le_refl _) _).trans (belowD _ _)
              have HgA:Hid (wA.heap[wo.heap.size]? = some (.cells #[.string ys,.int .i64 yi,.slice none 0 0] 150 (0,0))):=by
               rw [hwA]
               have h0:(wo.alloc (.cells #[.string ys,.int .i64 yi,.slice none 0 0] 150)).heap[wo.heap.size]? = some (.cells #[.string ys,.int .i64 yi,.slice none 0 0] 150 (0,0)):=heap_last _ _ _ rfl
               exact h0
              have hPA:=hP.below hbA
              have hl2:=listed_any (.slice (some ⟨b0,o0,none⟩) ps.length pcap) ps (p+2) 1 3 wA (pcs_of_own hPA.ps) (unhide Hwf) (by omega) (by omega) (by omega) (by omega)
              rw [show (((p+2:Nat)):Int)=(p:Int)+2 from by omega] at hl2
              have Hl2:Hid (Calls Tryz.prog 79 #[.slice (some ⟨b0,o0,none⟩) ps.length pcap,.int .i64 ((p:Int)+2),.int .i64 1,.int .i64 3] wA (ListedSaid wA ps (p+2) 1 3)):=hl2
              have HbA:=hide hbA
              have HwA:=hide hwA
              clear hP hAp hZp hBL hFp hwp hdp hmp hwp1 hdp1 hbs hy hsepT hA1 hbA hwA hPA hl2 r0 r1 r2 f0 f1 f2 q0 q1 hn4
              rcases hsplit with t1|⟨t1,t2⟩
              ·go_upto_region 19 with fail
               go_region
               rw [← unhide HwA]
               clear cm0 cn0 cn1 cn2 q2
               go_wp2_with fail
               refine (unhide Hl2).mono ?_
               rintro e w5 (⟨v2,out2,k2,hal2,hm2,hk2l,hak2,hit2,hmem2,hol2,rfl,hown2,hb5⟩|⟨sa,sn,sc,nn,hbad2,rfl,hb5⟩)
               ·have hBw5:Below wo.heap.size wo w5:=(unhide HbA).trans (hb5.mono (unhide HbA).size)
                obtain ⟨oa2,ocap2,rfl⟩:=own_sl hown2
                have hAl:wo.heap.size<wA.heap.size:=(Array.getElem?_eq_some_iff.1 (unhide HgA)).1
                have hAB5:=(hb5.block wo.heap.size hAl).trans (unhide HgA)
                have hwo2:∀ x∈out2,WfPc x∧(x.m=118∨x.m=100):=fun x hx=>⟨(unhide Hwf) x (hmem2 x hx),item_marks ((unhide Hwf) x (hmem2 x hx)) (itemsT_items _ true _ _ _ (Nat.le_refl _) hit2 _ (List.mem_map_of_mem hx))⟩
                by_cases hbd:1≤out2.length∧out2.length≤3
                ·rw [show (decide (1≤out2.length) && decide (out2.length≤3))=true from by simp [hbd]]
                 obtain ⟨f',hT1,hT2,hT3⟩:=(unhide HTE).2.2 (out2.map tokP) k2 hal2 hm2 hit2 (by simpa using hbd) (by omega)
                 have HTT:=hide (And.intro hT1 (And.intro hT2 hT3))
                 have HTw0:Hid (TW wo w5 ys yi (.slice none 0 0) [] out2 (.slice oa2 out2.length ocap2)):=⟨hAB5,World.ownsRow_nil _ _ _ _,own_baseG hown2 hAl,hBw5⟩
                 have Hwo2:=hide hwo2
                 obtain ⟨hbd1,hbd3⟩:=hbd
                 have Hk2:=hide (And.intro hk2l hak2)
                 have hk2b:k2≤1000:=by omega
                 clear hal2 hm2 hit2 hmem2 hol2 hown2 hb5 hBw5 hAB5 hwo2 hT1 hT2 hT3 Hl2 hk2l hak2 HTE
                 go_wp2
                 go_loopw [15] (fun i wl=>∃ (j:Nat) (tv:Value) (ts:List Trm),j≤out2.length∧i=.int .i64 j∧ts.length=j∧ts.map (·.1)=(out2.take j).map letT∧TW wo wl ys yi tv ts out2 (.slice oa2 out2.length ocap2)) (fun i _=>out2.length - (intOf i).toNat)
                 case atStart=>exact ⟨0,.slice none 0 0,[],Nat.zero_le _,rfl,rfl,by simp,unhide HTw0⟩
                 case round =>
                  obtain ⟨j,tv,ts,hj,rfl,htl,hlet,hTW⟩:=hrel
                  obtain ⟨tva,tvc,rfl⟩:=own_sl hTW.tr
                  by_cases hjl:j<out2.length
                  ·have hjz:(j:Int)<(out2.length:Int):=by omega
                   obtain ⟨b2,o2,rfl,hb2,d0,d1,d2⟩:=pcs_cells (pcs_of_own hTW.pr) hjl
                   obtain ⟨hwx,hmk⟩:=(unhide Hwo2) (out2[j]?.getD zeroPc) (by simp [hjl])
                   have htk:out2.take (j+1)=out2.take j ++ [out2[j]?.getD zeroPc]:=by rw [List.take_succ_eq_append_getElem hjl];simp [hjl]
                   obtain ⟨x,hx⟩:∃ x,x=out2[j]?.getD zeroPc:=⟨_,rfl⟩
                   rw [← hx] at d0 d1 d2 hwx hmk htk
                   clear hx
                   have hlt118:=letT118 hwx
                   have hlt100:=letT100 (x:=x)
                   have hsz118:=wf118 hwx
                   have hnum:=wf100 hwx
                   have hlet1:∀ z:Int,(ts ++ [(letT x,z)]).map (·.1)=(out2.take (j+1)).map letT:=fun z=>by rw [htk,List.map_append,List.map_append,hlet];rfl
                   obtain ⟨xm,xs',xi⟩:=x
                   dsimp only at d0 d1 d2 hmk hlt118 hlt100 hsz118 hnum
                   obtain ⟨w6,hw6⟩:∃ w6,w6=wr.alloc (.cells #[.int .u8 0,.int .i64 0] 152):=⟨_,rfl⟩
                   have hb6:Below wr.heap.size wr w6:=by rw [hw6];exact (Below.refl _ _).alloc (Nat.le_refl _) _
                   have g6:w6.heap[wr.heap.size]? = some (.cells #[.int .u8 0,.int .i64 0] 152 (0,0)):=by rw [hw6];exact heap_last _ _ _ rfl
                   have t0:w6.cell? ⟨wr.heap.size,0,none⟩=some (.int .u8 0):=cell_of_heap g6 0
                   have t1:w6.cell? ⟨wr.heap.size,1,none⟩=some (.int .i64 0):=cell_of_heap g6 1
                   have tf0:w6.frozen? ⟨wr.heap.size,0,none⟩=false:=frozen_of_heap g6 0
                   have tf1:w6.frozen? ⟨wr.heap.size,1,none⟩=false:=frozen_of_heap g6 1
                   have e0:=(hb6.cell (p:=⟨b2,_,none⟩) hb2).trans d0
                   have e1:=(hb6.cell (p:=⟨b2,_,none⟩) hb2).trans d1
                   have hT6:=hTW.below hb6
                   have hwl0:=hTW.lt
                   by_cases h118:xm=118
                   ·subst h118
                    replace e0:w6.cell? ⟨b2,o2+j*3,none⟩=some (.int .u8 118):=e0
                    have hs1:=hsz118 rfl
                    obtain ⟨c,hc⟩:∃ c,c=byteAt xs' 0:=⟨_,rfl⟩
                    have hz:(0:Int)<(xs'.size:Int):=by omega
                    have hix:((xs'[0].toNat:Nat):Int)=(c:Int):=by have:=byteAt_in (s:=xs') (p:=0) (by omega);omega
                    have Hlet2:Hid ((ts ++ [(c,(0:Int))]).map (·.1)=(out2.take (j+1)).map letT):=by have:=hlet1 0;rw [hlt118 rfl,← hc] at this;exact this
                    obtain ⟨wt,hwt⟩:∃ wt,wt=w6.setCell ⟨wr.heap.size,0,none⟩ (.int .u8 c):=⟨_,rfl⟩
                    have gt:wt.heap[wr.heap.size]? = some (.cells #[.int .u8 c,.int .i64 0] 152 (0,0)):=by rw [hwt,set_row g6];rfl
                    have hkt:KeepX (fun k=>k=wr.heap.size) w6 wt:=by rw [hwt];exact keepX_set1 _ _ _ _
                    have hbt:Below wr.heap.size wr wt:=hb6.trans (hkt.below hb6.size (fun k e=>by omega))
                    have HT3:=hide (hTW.below hbt)
                    have y0:wt.cell? ⟨wr.heap.size,0,none⟩=some (.int .u8 c):=cell_of_heap gt 0
                    have y1:wt.cell? ⟨wr.heap.size,1,none⟩=some (.int .i64 0):=cell_of_heap gt 1
                    have y2:wt.cell? ⟨wo.heap.size,2,none⟩=some (.slice tva ts.length tvc):=cell_of_heap (unhide HT3).ab 2
                    have hwl:wo.heap.size<wt.heap.size:=(unhide HT3).lt
                    have hnew:=cells2_new wt (.int .u8 c) (.int .i64 0) 152
                    have Htl:=hide htl
                    have htl5:ts.length≤5:=by omega
                    clear hTW hT6 hb6 g6 gt hkt hbt hlet hlet1 hlt118 hlt100 hsz118 hnum hwx hmk htk d0 d1 d2 hc htl
                    go_upto_region 27 with fail
                    rw [← hw6]
                    clear hw6
                    go_upto_region 30 with fail
                    rw [← hwt]
                    clear hwt t0 t1 tf0 tf1 e0 e1
                    go_wp2_with (first
                     | (at_builtin;refine wpList_append_own_at _ rfl _ _ 148 rfl (wo.heap.size+1) 152 i152 _ 2 16 Tryz.underlying148 hti htz0 htz1 htz2 rfl (by decide) _ _ _ rfl ((unhide HT3).tr.alloc _) ⟨wt.heap.size,0,none⟩ 1 1 [.int .u8 c,.int .i64 0] rfl rfl hnew (by simp [Value.oneCell']) (by unfold maxLen;omega) (by omega) (by simp;omega) ?_;intro v' w7 ho7 hg7 _ _;obtain ⟨g',cap',rfl⟩:=own_succ ho7;have HT7:=hide ((unhide HT3).put (x:=(c,(0:Int))) ((Below.refl _ _).alloc (Nat.le_refl _) _) hg7 ho7);have a7:w7.heap[wo.heap.size]? = some (.cells #[.string ys,.int .i64 yi,.slice tva ts.length tvc] 150 (0,0)):=(hg7.block wo.heap.size (by simp;omega) (fun e=>by have:=(own_block (unhide HT3).tr _ e.symm).1;omega)).trans ((Below.heap_alloc _ _ wo.heap.size hwl).trans (unhide HT3).ab);have a72:w7.cell? ⟨wo.heap.size,2,none⟩=some (.slice tva ts.length tvc):=cell_of_heap a7 2;have f72:w7.frozen? ⟨wo.heap.size,2,none⟩=false:=frozen_of_heap a7 2;clear ho7 hg7 hnew a7))
                    go_roundw
                    case rel=>exact ⟨j+1,_,ts ++ [(c,(0:Int))],by omega,by go_num,by have:=unhide Htl;simp;omega,unhide Hlet2,unhide HT7⟩
                    case measure=>simp [intOf];omega
                   ·have h100:xm=100:=by rcases hmk with h|h <;> omega
                    subst h100
                    replace e0:w6.cell? ⟨b2,o2+j*3,none⟩=some (.int .u8 100):=e0
                    have Hnum:=hide (number_any xs' (hnum rfl) w6)
                    have hl0:=hlt100 rfl
                    have Hlet1:Hid (∀ z:Int,(ts ++ [((0:Nat),z)]).map (·.1)=(out2.take (j+1)).map letT):=fun z=>by have:=hlet1 z;rw [hl0] at this;exact this
                    have HTW:=hide hTW
                    have Hb6:=hide hb6
                    have Hg6:=hide g6
                    have Htl:=hide htl
                    have htl5:ts.length≤5:=by omega
                    clear hTW hT6 hb6 g6 hlet hlet1 hlt118 hlt100 hsz118 hnum hwx hmk htk d0 d1 d2 h118 hl0 htl
                    go_upto_region 27 with fail
                    rw [← hw6]
                    clear hw6
                    go_wp2_with fail
                    refine (unhide Hnum).mono ?_
                    rintro e w9 ⟨z,rfl,hw9⟩
                    replace hw9:=hw9.symm
                    subst hw9
                    obtain ⟨wt,hwt⟩:∃ wt,wt=w6.setCell ⟨wr.heap.size,1,none⟩ (.int .i64 z):=⟨_,rfl⟩
                    have gt:wt.heap[wr.heap.size]? = some (.cells #[.int .u8 0,.int .i64 z] 152 (0,0)):=by rw [hwt,set_row (unhide Hg6)];rfl
                    have hkt:KeepX (fun k=>k=wr.heap.size) w6 wt:=by rw [hwt];exact keepX_set1 _ _ _ _
                    have hbt:Below wr.heap.size wr wt:=(unhide Hb6).trans (hkt.below (unhide Hb6).size (fun k e=>by omega))
                    have HT3:=hide ((unhide HTW).below hbt)
                    have y0:wt.cell? ⟨wr.heap.size,0,none⟩=some (.int .u8 0):=cell_of_heap gt 0
                    have y1:wt.cell? ⟨wr.heap.size,1,none⟩=some (.int .i64 z):=cell_of_heap gt 1
                    have y2:wt.cell? ⟨wo.heap.size,2,none⟩=some (.slice tva ts.length tvc):=cell_of_heap (unhide HT3).ab 2
                    have hwl:wo.heap.size<wt.heap.size:=(unhide HT3).lt
                    have hnew:=cells2_new wt (.int .u8 0) (.int .i64 z) 152
                    have Hlet2:=hide ((unhide Hlet1) z)
                    clear gt hkt hbt Hnum HTW
                    go_upto_region 30 with fail
                    rw [← hwt]
                    clear hwt t0 t1 tf0 tf1 e0 e1
                    go_wp2_with (first
                     | (at_builtin;refine wpList_append_own_at _ rfl _ _ 148 rfl (wo.heap.size+1) 152 i152 _ 2 16 Tryz.underlying148 hti htz0 htz1 htz2 rfl (by decide) _ _ _ rfl ((unhide HT3).tr.alloc _) ⟨wt.heap.size,0,none⟩ 1 1 [.int .u8 0,.int .i64 z] rfl rfl hnew (by simp [Value.oneCell']) (by unfold maxLen;omega) (by omega) (by simp;omega) ?_;intro v' w7 ho7 hg7 _ _;obtain ⟨g',cap',rfl⟩:=own_succ ho7;have HT7:=hide ((unhide HT3).put (x:=((0:Nat),z)) ((Below.refl _ _).alloc (Nat.le_refl _) _) hg7 ho7);have a7:w7.heap[wo.heap.size]? = some (.cells #[.string ys,.int .i64 yi,.slice tva ts.length tvc] 150 (0,0)):=(hg7.block wo.heap.size (by simp;omega) (fun e=>by have:=(own_block (unhide HT3).tr _ e.symm).1;omega)).trans ((Below.heap_alloc _ _ wo.heap.size hwl).trans (unhide HT3).ab);have a72:w7.cell? ⟨wo.heap.size,2,none⟩=some (.slice tva ts.length tvc):=cell_of_heap a7 2;have f72:w7.frozen? ⟨wo.heap.size,2,none⟩=false:=frozen_of_heap a7 2;clear ho7 hg7 hnew a7))
                    go_roundw
                    case rel=>exact ⟨j+1,_,ts ++ [((0:Nat),z)],by omega,by go_num,by have:=unhide Htl;simp;omega,unhide Hlet2,unhide HT7⟩
                    case measure=>simp [intOf];omega
                  ·have hjz:¬ (j:Int)<(out2.length:Int):=by omega
                   have ej:j=out2.length:=by omega
                   rw [ej,List.take_length] at hlet
                   have hP9:=(unhide HP).below hTW.bel
                   obtain ⟨_,_,q2,_,_,_,_,_,_,_,_,_⟩:=hP9.qw.cells
                   have u0:wr.cell? ⟨wo.heap.size,0,none⟩=some (.string ys):=cell_of_heap hTW.ab 0
                   have u1:wr.cell? ⟨wo.heap.size,1,none⟩=some (.int .i64 yi):=cell_of_heap hTW.ab 1
                   have u2:wr.cell? ⟨wo.heap.size,2,none⟩=some (.slice tva ts.length tvc):=cell_of_heap hTW.ab 2
                   have hnew:=cells3_new wr (.string ys) (.int .i64 yi) (.slice tva ts.length tvc) 150
                   have hqw:W.heap.size+1<wr.heap.size:=(Array.getElem?_eq_some_iff.1 hP9.qw.q).1
                   have hqo:W.heap.size+2≤wo.heap.size:=(Array.getElem?_eq_some_iff.1 (unhide HP).qw.q).1
                   have Htr:=hide (own_baseG hTW.tr (show W.heap.size+2≤wo.heap.size+1 by omega))
                   have HP9:=hide hP9
                   have Hlet:=hide hlet
                   clear hTW hP9 hlet ej htl
                   go_wp2_with (first
                    | (at_builtin;refine wpList_append_own_at _ rfl _ _ 103 rfl (W.heap.size+2) 150 i150 _ 3 48 Tryz.underlying103 hai haz0 haz1 haz2 rfl (by decide) _ _ _ rfl ((unhide HP9).qw.body.alloc _) ⟨wr.heap.size,0,none⟩ 1 1 [.string ys,.int .i64 yi,.slice tva ts.length tvc] rfl rfl hnew (by simp [Value.oneCell']) (by unfold maxLen;omega) (by omega) (by simp;omega) ?_;intro v' w7 ho7 hg7 _ _;obtain ⟨g',cap',rfl⟩:=own_succ ho7;have HP7:=hide ((unhide HP9).body (a:=⟨ys,yi,ts⟩) (unhide Htr) ((Below.refl _ _).alloc (Nat.le_refl _) _) hg7 ho7);have a7:=((unhide HP9).qw.frame (j:=2) (rv':=.slice none 0 0) (unhide HP9).qw.body ((Below.refl _ _).alloc (Nat.le_refl _) _) hg7).2.2.1;have a72:=cell_of_heap a7 2;have f72:w7.frozen? ⟨W.heap.size+1,2,none⟩=false:=frozen_of_heap a7 2;clear ho7 hg7 hnew a7))
                   go_roundw
                   case rel =>
                    obtain ⟨hT1,hT2,hT3⟩:=unhide HTT
                    obtain ⟨g1,g2⟩:=unhide Hk2
                    refine ⟨k2+1,f',zs ++ [⟨bytesL ys,yi,(out2.map tokP).map termZ⟩],_,_,by omega,by omega,by go_num,by first|(simp;omega)|(rw [List.length_append,List.length_append,hzl];rfl),by first|(simp;done)|(simp;omega),?_,?_,?_,hT3,unhide HP7⟩
                    ·have hBL:=unhide HBL
                     unfold BLike at hBL ⊢
                     rw [List.map_append,List.map_append,hBL]
                     congr 1
                     simp only [List.map_cons,List.map_nil]
                     rw [unhide Hlet,List.map_map,List.map_map]
                     rfl
                    ·rw [unhide HAp,hT1];simp
                    ·rw [unhide HZp,hT2];simp
                   case measure=>obtain ⟨g1,g2⟩:=unhide Hk2;simp [intOf];omega
                ·rw [show (decide (1≤out2.length) && decide (out2.length≤3))=false from by simpa using fun h=>by omega]
                 have Hq:Hid (qAcc (bytesL s)=false):=by
                  show qAcc (bytesL s)=false
                  rw [unhide HAp]
                  exact (unhide HTE).2.1 (out2.map tokP) k2 hal2 hm2 hit2 (by simpa using hbd)
                 have hP5:=(unhide HP).below hBw5
                 have HP5:=hide hP5
                 obtain ⟨q0,q1,q2,r0,r1,r2,f0,f1,f2,_,_,_⟩:=hP5.qw.cells
                 clear hal2 hm2 hit2 hmem2 hol2 hown2 hb5 hBw5 hAB5 hwo2 hP5 Hl2 hbd
                 go_wp2
                 exact whole_ret _ rfl rfl (unhide HP5).qw (unhide Hq)
               ·have hBw5:Below wo.heap.size wo w5:=(unhide HbA).trans (hb5.mono (unhide HbA).size)
                have Hq:Hid (qAcc (bytesL s)=false):=by
                 show qAcc (bytesL s)=false
                 rw [unhide HAp]
                 exact (unhide HTE).1 hbad2
                have hP5:=(unhide HP).below hBw5
                have HP5:=hide hP5
                obtain ⟨q0,q1,q2,r0,r1,r2,f0,f1,f2,_,_,_⟩:=hP5.qw.cells
                clear hbad2 hb5 hBw5 hP5 Hl2
                go_wp2
                exact whole_ret _ rfl rfl (unhide HP5).qw (unhide Hq)
              ·obtain rfl:xs=[]:=List.length_eq_zero_iff.1 (by omega)
               clear t2
               go_upto_region 19 with fail
               go_region
               rw [← unhide HwA]
               clear cm0 cn0 cn1 cn2 q2
               go_wp2_with fail
               refine (unhide Hl2).mono ?_
               rintro e w5 (⟨v2,out2,k2,hal2,hm2,hk2l,hak2,hit2,hmem2,hol2,rfl,hown2,hb5⟩|⟨sa,sn,sc,nn,hbad2,rfl,hb5⟩)
               ·have hBw5:Below wo.heap.size wo w5:=(unhide HbA).trans (hb5.mono (unhide HbA).size)
                obtain ⟨oa2,ocap2,rfl⟩:=own_sl hown2
                have hAl:wo.heap.size<wA.heap.size:=(Array.getElem?_eq_some_iff.1 (unhide HgA)).1
                have hAB5:=(hb5.block wo.heap.size hAl).trans (unhide HgA)
                have hwo2:∀ x∈out2,WfPc x∧(x.m=118∨x.m=100):=fun x hx=>⟨(unhide Hwf) x (hmem2 x hx),item_marks ((unhide Hwf) x (hmem2 x hx)) (itemsT_items _ true _ _ _ (Nat.le_refl _) hit2 _ (List.mem_map_of_mem hx))⟩
                by_cases hbd:1≤out2.length∧out2.length≤3
                ·rw [show (decide (1≤out2.length) && decide (out2.length≤3))=true from by simp [hbd]]
                 obtain ⟨f',hT1,hT2,hT3⟩:=(unhide HTE).2.2 (out2.map tokP) k2 hal2 hm2 hit2 (by simpa using hbd) (by omega)
                 have HTT:=hide (And.intro hT1 (And.intro hT2 hT3))
                 have HTw0:Hid (TW wo w5 ys yi (.slice none 0 0) [] out2 (.slice oa2 out2.length ocap2)):=⟨hAB5,World.ownsRow_nil _ _ _ _,own_baseG hown2 hAl,hBw5⟩
                 have Hwo2:=hide hwo2
                 obtain ⟨hbd1,hbd3⟩:=hbd
                 have Hk2:=hide (And.intro hk2l hak2)
                 have hk2b:k2≤1000:=by omega
                 clear hal2 hm2 hit2 hmem2 hol2 hown2 hb5 hBw5 hAB5 hwo2 hT1 hT2 hT3 Hl2 hk2l hak2 HTE
                 go_wp2
                 go_loopw [15] (fun i wl=>∃ (j:Nat) (tv:Value) (ts:List Trm),j≤out2.length∧i=.int .i64 j∧ts.length=j∧ts.map (·.1)=(out2.take j).map letT∧TW wo wl ys yi tv ts out2 (.slice oa2 out2.length ocap2)) (fun i _=>out2.length - (intOf i).toNat)
                 case atStart=>exact ⟨0,.slice none 0 0,[],Nat.zero_le _,rfl,rfl,by simp,unhide HTw0⟩
                 case round =>
                  obtain ⟨j,tv,ts,hj,rfl,htl,hlet,hTW⟩:=hrel
                  obtain ⟨tva,tvc,rfl⟩:=own_sl hTW.tr
                  by_cases hjl:j<out2.length
                  ·have hjz:(j:Int)<(out2.length:Int):=by omega
                   obtain ⟨b2,o2,rfl,hb2,d0,d1,d2⟩:=pcs_cells (pcs_of_own hTW.pr) hjl
                   obtain ⟨hwx,hmk⟩:=(unhide Hwo2) (out2[j]?.getD zeroPc) (by simp [hjl])
                   have htk:out2.take (j+1)=out2.take j ++ [out2[j]?.getD zeroPc]:=by rw [List.take_succ_eq_append_getElem hjl];simp [hjl]
                   obtain ⟨x,hx⟩:∃ x,x=out2[j]?.getD zeroPc:=⟨_,rfl⟩
                   rw [← hx] at d0 d1 d2 hwx hmk htk
                   clear hx
                   have hlt118:=letT118 hwx
                   have hlt100:=letT100 (x:=x)
                   have hsz118:=wf118 hwx
                   have hnum:=wf100 hwx
                   have hlet1:∀ z:Int,(ts ++ [(letT x,z)]).map (·.1)=(out2.take (j+1)).map letT:=fun z=>by rw [htk,List.map_append,List.map_append,hlet];rfl
                   obtain ⟨xm,xs',xi⟩:=x
                   dsimp only at d0 d1 d2 hmk hlt118 hlt100 hsz118 hnum
                   obtain ⟨w6,hw6⟩:∃ w6,w6=wr.alloc (.cells #[.int .u8 0,.int .i64 0] 152):=⟨_,rfl⟩
                   have hb6:Below wr.heap.size wr w6:=by rw [hw6];exact (Below.refl _ _).alloc (Nat.le_refl _) _
                   have g6:w6.heap[wr.heap.size]? = some (.cells #[.int .u8 0,.int .i64 0] 152 (0,0)):=by rw [hw6];exact heap_last _ _ _ rfl
                   have t0:w6.cell? ⟨wr.heap.size,0,none⟩=some (.int .u8 0):=cell_of_heap g6 0
                   have t1:w6.cell? ⟨wr.heap.size,1,none⟩=some (.int .i64 0):=cell_of_heap g6 1
                   have tf0:w6.frozen? ⟨wr.heap.size,0,none⟩=false:=frozen_of_heap g6 0
                   have tf1:w6.frozen? ⟨wr.heap.size,1,none⟩=false:=frozen_of_heap g6 1
                   have e0:=(hb6.cell (p:=⟨b2,_,none⟩) hb2).trans d0
                   have e1:=(hb6.cell (p:=⟨b2,_,none⟩) hb2).trans d1
                   have hT6:=hTW.below hb6
                   have hwl0:=hTW.lt
                   by_cases h118:xm=118
                   ·subst h118
                    replace e0:w6.cell? ⟨b2,o2+j*3,none⟩=some (.int .u8 118):=e0
                    have hs1:=hsz118 rfl
                    obtain ⟨c,hc⟩:∃ c,c=byteAt xs' 0:=⟨_,rfl⟩
                    have hz:(0:Int)<(xs'.size:Int):=by omega
                    have hix:((xs'[0].toNat:Nat):Int)=(c:Int):=by have:=byteAt_in (s:=xs') (p:=0) (by omega);omega
                    have Hlet2:Hid ((ts ++ [(c,(0:Int))]).map (·.1)=(out2.take (j+1)).map letT):=by have:=hlet1 0;rw [hlt118 rfl,← hc] at this;exact this
                    obtain ⟨wt,hwt⟩:∃ wt,wt=w6.setCell ⟨wr.heap.size,0,none⟩ (.int .u8 c):=⟨_,rfl⟩
                    have gt:wt.heap[wr.heap.size]? = some (.cells #[.int .u8 c,.int .i64 0] 152 (0,0)):=by rw [hwt,set_row g6];rfl
                    have hkt:KeepX (fun k=>k=wr.heap.size) w6 wt:=by rw [hwt];exact keepX_set1 _ _ _ _
                    have hbt:Below wr.heap.size wr wt:=hb6.trans (hkt.below hb6.size (fun k e=>by omega))
                    have HT3:=hide (hTW.below hbt)
                    have y0:wt.cell? ⟨wr.heap.size,0,none⟩=some (.int .u8 c):=cell_of_heap gt 0
                    have y1:wt.cell? ⟨wr.heap.size,1,none⟩=some (.int .i64 0):=cell_of_heap gt 1
                    have y2:wt.cell? ⟨wo.heap.size,2,none⟩=some (.slice tva ts.length tvc):=cell_of_heap (unhide HT3).ab 2
                    have hwl:wo.heap.size<wt.heap.size:=(unhide HT3).lt
                    have hnew:=cells2_new wt (.int .u8 c) (.int .i64 0) 152
                    have Htl:=hide htl
                    have htl5:ts.length≤5:=by omega
                    clear hTW hT6 hb6 g6 gt hkt hbt hlet hlet1 hlt118 hlt100 hsz118 hnum hwx hmk htk d0 d1 d2 hc htl
                    go_upto_region 27 with fail
                    rw [← hw6]
                    clear hw6
                    go_upto_region 30 with fail
                    rw [← hwt]
                    clear hwt t0 t1 tf0 tf1 e0 e1
                    go_wp2_with (first
                     | (at_builtin;refine wpList_append_own_at _ rfl _ _ 148 rfl (wo.heap.size+1) 152 i152 _ 2 16 Tryz.underlying148 hti htz0 htz1 htz2 rfl (by decide) _ _ _ rfl ((unhide HT3).tr.alloc _) ⟨wt.heap.size,0,none⟩ 1 1 [.int .u8 c,.int .i64 0] rfl rfl hnew (by simp [Value.oneCell']) (by unfold maxLen;omega) (by omega) (by simp;omega) ?_;intro v' w7 ho7 hg7 _ _;obtain ⟨g',cap',rfl⟩:=own_succ ho7;have HT7:=hide ((unhide HT3).put (x:=(c,(0:Int))) ((Below.refl _ _).alloc (Nat.le_refl _) _) hg7 ho7);have a7:w7.heap[wo.heap.size]? = some (.cells #[.string ys,.int .i64 yi,.slice tva ts.length tvc] 150 (0,0)):=(hg7.block wo.heap.size (by simp;omega) (fun e=>by have:=(own_block (unhide HT3).tr _ e.symm).1;omega)).trans ((Below.heap_alloc _ _ wo.heap.size hwl).trans (unhide HT3).ab);have a72:w7.cell? ⟨wo.heap.size,2,none⟩=some (.slice tva ts.length tvc):=cell_of_heap a7 2;have f72:w7.frozen? ⟨wo.heap.size,2,none⟩=false:=frozen_of_heap a7 2;clear ho7 hg7 hnew a7))
                    go_roundw
                    case rel=>exact ⟨j+1,_,ts ++ [(c,(0:Int))],by omega,by go_num,by have:=unhide Htl;simp;omega,unhide Hlet2,unhide HT7⟩
                    case measure=>simp [intOf];omega
                   ·have h100:xm=100:=by rcases hmk with h|h <;> omega
                    subst h100
                    replace e0:w6.cell? ⟨b2,o2+j*3,none⟩=some (.int .u8 100):=e0
                    have Hnum:=hide (number_any xs' (hnum rfl) w6)
                    have hl0:=hlt100 rfl
                    have Hlet1:Hid (∀ z:Int,(ts ++ [((0:Nat),z)]).map (·.1)=(out2.take (j+1)).map letT):=fun z=>by have:=hlet1 z;rw [hl0] at this;exact this
                    have HTW:=hide hTW
                    have Hb6:=hide hb6
                    have Hg6:=hide g6
                    have Htl:=hide htl
                    have htl5:ts.length≤5:=by omega
                    clear hTW hT6 hb6 g6 hlet hlet1 hlt118 hlt100 hsz118 hnum hwx hmk htk d0 d1 d2 h118 hl0 htl
                    go_upto_region 27 with fail
                    rw [← hw6]
                    clear hw6
                    go_wp2_with fail
                    refine (unhide Hnum).mono ?_
                    rintro e w9 ⟨z,rfl,hw9⟩
                    replace hw9:=hw9.symm
                    subst hw9
                    obtain ⟨wt,hwt⟩:∃ wt,wt=w6.setCell ⟨wr.heap.size,1,none⟩ (.int .i64 z):=⟨_,rfl⟩
                    have gt:wt.heap[wr.heap.size]? = some (.cells #[.int .u8 0,.int .i64 z] 152 (0,0)):=by rw [hwt,set_row (unhide Hg6)];rfl
                    have hkt:KeepX (fun k=>k=wr.heap.size) w6 wt:=by rw [hwt];exact keepX_set1 _ _ _ _
                    have hbt:Below wr.heap.size wr wt:=(unhide Hb6).trans (hkt.below (unhide Hb6).size (fun k e=>by omega))
                    have HT3:=hide ((unhide HTW).below hbt)
                    have y0:wt.cell? ⟨wr.heap.size,0,none⟩=some (.int .u8 0):=cell_of_heap gt 0
                    have y1:wt.cell? ⟨wr.heap.size,1,none⟩=some (.int .i64 z):=cell_of_heap gt 1
                    have y2:wt.cell? ⟨wo.heap.size,2,none⟩=some (.slice tva ts.length tvc):=cell_of_heap (unhide HT3).ab 2
                    have hwl:wo.heap.size<wt.heap.size:=(unhide HT3).lt
                    have hnew:=cells2_new wt (.int .u8 0) (.int .i64 z) 152
                    have Hlet2:=hide ((unhide Hlet1) z)
                    clear gt hkt hbt Hnum HTW
                    go_upto_region 30 with fail
                    rw [← hwt]
                    clear hwt t0 t1 tf0 tf1 e0 e1
                    go_wp2_with (first
                     | (at_builtin;refine wpList_append_own_at _ rfl _ _ 148 rfl (wo.heap.size+1) 152 i152 _ 2 16 Tryz.underlying148 hti htz0 htz1 htz2 rfl (by decide) _ _ _ rfl ((unhide HT3).tr.alloc _) ⟨wt.heap.size,0,none⟩ 1 1 [.int .u8 0,.int .i64 z] rfl rfl hnew (by simp [Value.oneCell']) (by unfold maxLen;omega) (by omega) (by simp;omega) ?_;intro v' w7 ho7 hg7 _ _;obtain ⟨g',cap',rfl⟩:=own_succ ho7;have HT7:=hide ((unhide HT3).put (x:=((0:Nat),z)) ((Below.refl _ _).alloc (Nat.le_refl _) _) hg7 ho7);have a7:w7.heap[wo.heap.size]? = some (.cells #[.string ys,.int .i64 yi,.slice tva ts.length tvc] 150 (0,0)):=(hg7.block wo.heap.size (by simp;omega) (fun e=>by have:=(own_block (unhide HT3).tr _ e.symm).1;omega)).trans ((Below.heap_alloc _ _ wo.heap.size hwl).trans (unhide HT3).ab);have a72:w7.cell? ⟨wo.heap.size,2,none⟩=some (.slice tva ts.length tvc):=cell_of_heap a7 2;have f72:w7.frozen? ⟨wo.heap.size,2,none⟩=false:=frozen_of_heap a7 2;clear ho7 hg7 hnew a7))
                    go_roundw
                    case rel=>exact ⟨j+1,_,ts ++ [((0:Nat),z)],by omega,by go_num,by have:=unhide Htl;simp;omega,unhide Hlet2,unhide HT7⟩
                    case measure=>simp [intOf];omega
                  ·have hjz:¬ (j:Int)<(out2.length:Int):=by omega
                   have ej:j=out2.length:=by omega
                   rw [ej,List.take_length] at hlet
                   have hP9:=(unhide HP).below hTW.bel
                   obtain ⟨_,_,q2,_,_,_,_,_,_,_,_,_⟩:=hP9.qw.cells
                   have u0:wr.cell? ⟨wo.heap.size,0,none⟩=some (.string ys):=cell_of_heap hTW.ab 0
                   have u1:wr.cell? ⟨wo.heap.size,1,none⟩=some (.int .i64 yi):=cell_of_heap hTW.ab 1
                   have u2:wr.cell? ⟨wo.heap.size,2,none⟩=some (.slice tva ts.length tvc):=cell_of_heap hTW.ab 2
                   have hnew:=cells3_new wr (.string ys) (.int .i64 yi) (.slice tva ts.length tvc) 150
                   have hqw:W.heap.size+1<wr.heap.size:=(Array.getElem?_eq_some_iff.1 hP9.qw.q).1
                   have hqo:W.heap.size+2≤wo.heap.size:=(Array.getElem?_eq_some_iff.1 (unhide HP).qw.q).1
                   have Htr:=hide (own_baseG hTW.tr (show W.heap.size+2≤wo.heap.size+1 by omega))
                   have HP9:=hide hP9
                   have Hlet:=hide hlet
                   clear hTW hP9 hlet ej htl
                   go_wp2_with (first
                    | (at_builtin;refine wpList_append_own_at _ rfl _ _ 103 rfl (W.heap.size+2) 150 i150 _ 3 48 Tryz.underlying103 hai haz0 haz1 haz2 rfl (by decide) _ _ _ rfl ((unhide HP9).qw.body.alloc _) ⟨wr.heap.size,0,none⟩ 1 1 [.string ys,.int .i64 yi,.slice tva ts.length tvc] rfl rfl hnew (by simp [Value.oneCell']) (by unfold maxLen;omega) (by omega) (by simp;omega) ?_;intro v' w7 ho7 hg7 _ _;obtain ⟨g',cap',rfl⟩:=own_succ ho7;have HP7:=hide ((unhide HP9).body (a:=⟨ys,yi,ts⟩) (unhide Htr) ((Below.refl _ _).alloc (Nat.le_refl _) _) hg7 ho7);have a7:=((unhide HP9).qw.frame (j:=2) (rv':=.slice none 0 0) (unhide HP9).qw.body ((Below.refl _ _).alloc (Nat.le_refl _) _) hg7).2.2.1;have a72:=cell_of_heap a7 2;have f72:w7.frozen? ⟨W.heap.size+1,2,none⟩=false:=frozen_of_heap a7 2;clear ho7 hg7 hnew a7))
                   go_roundw
                   case rel =>
                    obtain ⟨hT1,hT2,hT3⟩:=unhide HTT
                    obtain ⟨g1,g2⟩:=unhide Hk2
                    refine ⟨k2+1,f',zs ++ [⟨bytesL ys,yi,(out2.map tokP).map termZ⟩],_,_,by omega,by omega,by go_num,by first|(simp;omega)|(rw [List.length_append,List.length_append,hzl];rfl),by first|(simp;done)|(simp;omega),?_,?_,?_,hT3,unhide HP7⟩
                    ·have hBL:=unhide HBL
                     unfold BLike at hBL ⊢
                     rw [List.map_append,List.map_append,hBL]
                     congr 1
                     simp only [List.map_cons,List.map_nil]
                     rw [unhide Hlet,List.map_map,List.map_map]
                     rfl
                    ·rw [unhide HAp,hT1];simp
                    ·rw [unhide HZp,hT2];simp
                   case measure=>obtain ⟨g1,g2⟩:=unhide Hk2;simp [intOf];omega
                ·rw [show (decide (1≤out2.length) && decide (out2.length≤3))=false from by simpa using fun h=>by omega]
                 have Hq:Hid (qAcc (bytesL s)=false):=by
                  show qAcc (bytesL s)=false
                  rw [unhide HAp]
                  exact (unhide HTE).2.1 (out2.map tokP) k2 hal2 hm2 hit2 (by simpa using hbd)
                 have hP5:=(unhide HP).below hBw5
                 have HP5:=hide hP5
                 obtain ⟨q0,q1,q2,r0,r1,r2,f0,f1,f2,_,_,_⟩:=hP5.qw.cells
                 clear hal2 hm2 hit2 hmem2 hol2 hown2 hb5 hBw5 hAB5 hwo2 hP5 Hl2 hbd
                 go_wp2
                 exact whole_ret _ rfl rfl (unhide HP5).qw (unhide Hq)
               ·have hBw5:Below wo.heap.size wo w5:=(unhide HbA).trans (hb5.mono (unhide HbA).size)
                have Hq:Hid (qAcc (bytesL s)=false):=by
                 show qAcc (bytesL s)=false
                 rw [unhide HAp]
                 exact (unhide HTE).1 hbad2
                have hP5:=(unhide HP).below hBw5
                have HP5:=hide hP5
                obtain ⟨q0,q1,q2,r0,r1,r2,f0,f1,f2,_,_,_⟩:=hP5.qw.cells
                clear hbad2 hb5 hBw5 hP5 Hl2
                go_wp2
                exact whole_ret _ rfl rfl (unhide HP5).qw (unhide Hq)
            ·have e110:((my:Int) != 110)=true:=by simpa using (show ¬ (my:Int)=110 by omega)
             have hbadA:contT f xs.length ((ps.map tokP).drop p)=false:=by
              rw [hdp,hdp1]
              refine contT_notn (fun s' i' e=>?_)
              rcases hwp1.cases with ⟨m,e'⟩|⟨m,e'⟩|⟨m,e'⟩|⟨m,e'⟩|⟨m,e'⟩|⟨m,e'⟩|⟨m,e'⟩
              all_goals first
               | exact h110 m
               | (rw [e'] at e;cases e)
             rcases hsplit with t1|⟨t1,t2⟩
             ·have Hq:Hid (qAcc (bytesL s)=false):=by
               show qAcc (bytesL s)=false
               rw [unhide HAp]
               exact hbadA
              clear hP hAp hZp hBL hFp hwp hdp hmp hwp1 hdp1 hbs hy hsepT hA1 h110
              go_wp2
              exact whole_ret _ rfl rfl (unhide HP).qw (unhide Hq)
             ·obtain rfl:xs=[]:=List.length_eq_zero_iff.1 (by omega)
              clear t2
              have Hq:Hid (qAcc (bytesL s)=false):=by
               show qAcc (bytesL s)=false
               rw [unhide HAp]
               exact hbadA
              clear hP hAp hZp hBL hFp hwp hdp hmp hwp1 hdp1 hbs hy hsepT hA1 h110
              go_wp2
              exact whole_ret _ rfl rfl (unhide HP).qw (unhide Hq)
           ·have hpz1:(ps.length:Int)≤(p:Int)+1:=by omega
            have hbadA:contT f xs.length ((ps.map tokP).drop p)=false:=by
             rw [hdp,List.drop_of_length_le (by simp;omega)]
             exact contT_one
            rcases hsplit with t1|⟨t1,t2⟩
            ·have Hq:Hid (qAcc (bytesL s)=false):=by
              show qAcc (bytesL s)=false
              rw [unhide HAp]
              exact hbadA
             clear hP hAp hZp hBL hFp hwp hdp hmp hsepT hA1
             go_wp2
             exact whole_ret _ rfl rfl (unhide HP).qw (unhide Hq)
            ·obtain rfl:xs=[]:=List.length_eq_zero_iff.1 (by omega)
             clear t2
             have Hq:Hid (qAcc (bytesL s)=false):=by
              show qAcc (bytesL s)=false
              rw [unhide HAp]
              exact hbadA
             clear hP hAp hZp hBL hFp hwp hdp hmp hsepT hA1
             go_wp2
             exact whole_ret _ rfl rfl (unhide HP).qw (unhide Hq)
         ·have hpz:¬ (p:Int)<(ps.length:Int):=by omega
          have hnil:(ps.map tokP).drop p=[]:=List.drop_of_length_le (by simp;omega)
          rw [hnil] at hAp hZp
          have hql:W.heap.size+1<wo.heap.size:=(Array.getElem?_eq_some_iff.1 hP.qw.q).1
          have q0D:wo.drew.cell? ⟨W.heap.size+1,0,none⟩=some (.slice ha hl.length hca):=q0
          have q1D:wo.drew.cell? ⟨W.heap.size+1,1,none⟩=some (.slice pa' pl.length pca):=q1
          have q2D:wo.drew.cell? ⟨W.heap.size+1,2,none⟩=some (.slice ba xs.length bca):=q2
          have r0D:wo.drew.cell? ⟨W.heap.size,0,none⟩=some (.slice none 0 0):=r0
          have r1D:wo.drew.cell? ⟨W.heap.size,1,none⟩=some (.slice none 0 0):=r1
          have r2D:wo.drew.cell? ⟨W.heap.size,2,none⟩=some (.slice none 0 0):=r2
          have f0D:wo.drew.frozen? ⟨W.heap.size,0,none⟩=false:=f0
          have f1D:wo.drew.frozen? ⟨W.heap.size,1,none⟩=false:=f1
          have f2D:wo.drew.frozen? ⟨W.heap.size,2,none⟩=false:=f2
          have HPD:=hide (hP.below (belowD wo.heap.size wo)).qw
          have hcz:contZ f xs.length []=[]:=by
           unfold contZ
           by_cases h:xs.length=0
           ·rw [if_pos h];cases f <;> rfl
           ·rw [if_neg h]
          rw [hcz,List.append_nil] at hZp
          have Hlk:Hid (∃ l,qToks 0 (bytesL s)=some l∧hl=(queryZ l).head.map (fun x=>x.1.toNat)∧pl=(queryZ l).head.map (·.2)∧xs.map (fun x=>(x.1.nm,x.1.pl,x.1.ts.map (·.1)))=(queryZ l).body.map (fun z=>((⟨z.nm.toArray⟩:ByteArray),z.i,z.terms.map fun t=>t.1.toNat))):=⟨ps.map tokP,unhide Htoks,(unhide HZh).1,(unhide HZh).2,by rw [hZp];exact hBL⟩
          have Hq:Hid (qAcc (bytesL s)=decide (0<xs.length)):=by
           show qAcc (bytesL s)=_
           rw [hAp]
           unfold contT
           by_cases hn:xs.length=0
           ·rw [if_pos hn,decide_eq_false (by omega)]
            cases f <;> rfl
           ·rw [if_neg hn,decide_eq_true (by omega)]
          clear hP hAp hZp hBL hFp hnil hcz
          go_wp2
          go_region_with fail
          all_goals
           go_wp2
           exact whole_good _ rfl rfl (unhide HPD) (unhide Hq) (fun _=>unhide Hlk)
     ·have e58:((mk:Int) != 58)=true:=by simpa using (show ¬ (mk:Int)=58 by omega)
      have Hq:Hid (qAcc (bytesL s)=false):=by
       show qAcc (bytesL s)=false
       rw [unhide Hacc,hw,hd]
       rcases hwk.cases with ⟨m,e⟩|⟨m,e⟩|⟨m,e⟩|⟨m,e⟩|⟨m,e⟩|⟨m,e⟩|⟨m,e⟩
       all_goals first
        | exact absurd (hmk.trans m) h58
        | rw [e]
      clear hw hit hd hmk hwk hwo hmem hown1 hb4 hP4 Hl HQ3 Hown Hacc Htk h58
      go_wp2
      exact whole_ret _ rfl rfl (unhide HP4).qw (unhide Hq)
    ·have hkz:(ps.length:Int)≤(k:Int)+1:=by omega
     have Hq:Hid (qAcc (bytesL s)=false):=by
      show qAcc (bytesL s)=false
      rw [unhide Hacc,hw,List.drop_of_length_le (by simp;omega)]
     clear hw hit hwo hmem hown1 hb4 hP4 Hl HQ3 Hown Hacc Htk
     go_wp2
     exact whole_ret _ rfl rfl (unhide HP4).qw (unhide Hq)
   ·rw [show (decide (0≤out.length) && decide (out.length≤4))=false from by simp [h4]]
    have Hq:Hid (qAcc (bytesL s)=false):=by
     show qAcc (bytesL s)=false
     rw [unhide Hacc,hw]
     cases (ps.map tokP).drop (k+1) with
     | nil=>rfl
     | cons t D=>cases t using Tok.el <;> simp [h4]
    clear hw hit hwo hmem hown1 hb4 hP4 Hl HQ3 Hown Hacc Htk
    go_wp2
    exact whole_ret _ rfl rfl (unhide HP4).qw (unhide Hq)
  ·have Hq:Hid (qAcc (bytesL s)=false):=by show qAcc (bytesL s)=false;rw [unhide Hacc];exact whole_nolist (unhide Hwf) hbad
   have HQ4:=hide ((unhide HQ3).below hb4)
   obtain ⟨q0,q1,q2,r0,r1,r2,f0,f1,f2,_,_,_⟩:=(unhide HQ4).cells
   clear hbad hb4 Hl HQ3 Hown Hacc Htk
   go_wp2
   exact whole_ret _ rfl rfl (unhide HQ4) (unhide Hq)
end

end Go.Proofs.YtgddkjhknlgbbaaGreatDoor
