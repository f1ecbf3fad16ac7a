import Derived.Test.YtoifcnidhfnapaaGreatDoorB12
set_option linter.unusedVariables false
set_option linter.unusedSimpArgs false
set_option maxRecDepth 100000
set_option maxHeartbeats 16000000
namespace Go.Proofs.YtoifcnidhfnapaaGreatDoor
open Go.RowKit Go.Maps Go.Sort Go.Shelf
def yhy (w:World) (a:Option Addr) (zs:List Int):Prop:=∀ j,j<zs.length→∃ b o,a=some ⟨b,o,none⟩∧w.cell? ⟨b,o+j,none⟩=some (.int .i64 (zs[j]?.getD 0))
def znx (w:World) (v:Value) (nss:List (List Int)):Prop:=
  ∃ a cap,v=.slice a nss.length cap∧∀ j,j<nss.length→∃ b o ia ic,a=some ⟨b,o,none⟩∧w.cell? ⟨b,o+j,none⟩=some (.slice ia (nss[j]?.getD []).length ic)∧yhy w ia (nss[j]?.getD [])
def zgj (zs:List Int) (s:Src):Src:=zs.foldl (fun s z=>nar1 z s) s
theorem yav (zs:List Int) (s:Src) (k:Nat) (hk:k<zs.length):zgj (zs.take (k+1)) s=nar1 (zs[k]?.getD 0) (zgj (zs.take k) s):=by
  unfold zgj
  rw [List.take_add_one,List.foldl_append]
  simp [hk]
theorem zcm.zgj {n:Nat}:∀ (zs:List Int) {s:Src},zcm (n+zs.length) s→zcm n (zgj zs s)
  | [],s,h=>h
  | z :: zs,s,h=>by
    have h':zcm (n+zs.length+1) s:=h
    exact zcm.zgj zs (h'.nar1 z)
def zjq (nss:List (List Int)) (S:Nat→Src):Nat→(Nat→Src)
  | 0=>S
  | k+1=>zfl (zjq nss S k) k (zgj (nss[k]?.getD []) (zjq nss S k k))
def zis (nss:List (List Int)) (S:Nat→Src) (k:Nat):List (List zaj):=(zjq nss S (k+1) k).rs
def zng (nss:List (List Int)) (S:Nat→Src):Bool:=(List.range nss.length).all fun k=>!(zis nss S k).isEmpty
theorem ya7 {nss:List (List Int)} {S:Nat→Src} (h:∀ k,k<nss.length→zis nss S k≠[]):zng nss S=true:=by
  unfold zng
  rw [List.all_eq_true]
  intro k hk
  have:=h k (List.mem_range.1 hk)
  simp [this]
theorem zxs {nss:List (List Int)} {S:Nat→Src} {k:Nat} (hk:k<nss.length) (h:zis nss S k=[]):zng nss S=false:=by
  unfold zng
  rw [List.all_eq_false]
  exact ⟨k,List.mem_range.2 hk,by simp [h]⟩
theorem yec (nss:List (List Int)) (S:Nat→Src):∀ k i,k≤i→zjq nss S k i=S i
  | 0,i,_=>rfl
  | k+1,i,h=>by
    show zfl _ k _ i=_
    rw [zd7 _ _ (by omega)]
    exact yec nss S k i (by omega)
theorem zxt (PB:Nat) (nss:List (List Int)) (nv x0 x2:Value) (sv:Nat→SV) (S:Nat→Src) (W:World) (hP:W.heap[PB]? = some (.cells #[x0,nv,x2] 265 (0,0))) (hN:znx W nv nss) (hn:nss.length≤4) (hr:∀ i,i<4→zay W (sv i).val (S i).rs) (hf:∀ i,i<4→∀ r∈(S i).rs,r≠[])
    (hu:∀ k,k<nss.length→zcm (nss[k]?.getD []).length (S k)) :
    Calls Tryz.prog 158 #[.pointer (some ⟨PB,0,none⟩),.agg (zag sv (fun i=>((S i).c:Int)))] W fun e w'=>∃ sv' cs',e=.returned (.tuple #[.agg (zag sv' cs'),.bool (zng nss S)])∧Below W.heap.size W w' ∧
      (zng nss S=true→cs'=(fun i=>((zjq nss S nss.length i).c:Int))∧∀ i,i<4→zay w' (sv' i).val (zjq nss S nss.length i).rs):=by
  obtain ⟨a,cap,rfl,hx⟩:=hN
  obtain ⟨W3,hW3⟩:∃ W3,W3=(W.alloc (.cells (zag sv (fun i=>((S i).c:Int))) 192)).alloc (.cells (zag (fun _=>⟨none,0,0⟩) (fun _=>0)) 192):=⟨_,rfl⟩
  have hb3:Below W.heap.size W W3:=by rw [hW3];exact ((Below.refl _ _).alloc (Nat.le_refl _) _).alloc (by simp) _
  have hsz:W3.heap.size=W.heap.size+2:=by rw [hW3];simp
  have hB1:W3.heap[W.heap.size]? = some (.cells (zag sv (fun i=>((S i).c:Int))) 192 (0,0)):=by
    rw [hW3]
    exact (Below.heap_alloc _ _ _ (by simp)).trans (zae _ _ _ rfl)
  have hB2:W3.heap[W.heap.size+1]? = some (.cells (zag (fun _=>⟨none,0,0⟩) (fun _=>0)) 192 (0,0)):=by
    rw [hW3]
    exact zae _ _ _ (by simp)
  have hS3:zd1 W3 W.heap.size sv S:=⟨hB1,fun i hi=>(hr i hi).below hb3,fun i hi hne=>⟨zk7 (hr i hi) hne (by omega),zk7 (hr i hi) hne (by omega)⟩,hf⟩
  have hPl:PB<W.heap.size:=(Array.getElem?_eq_some_iff.1 hP).1
  have c0:W3.cell? ⟨PB,1,none⟩=some (.slice a nss.length cap):=zab ((hb3.block PB hPl).trans hP) 1
  have cW:W.cell? ⟨PB,1,none⟩=some (.slice a nss.length cap):=zab hP 1
  have Hb3:=zac hb3
  have Hsz:=zac hsz
  have HS3:=zac hS3
  have HB2:=zac hB2
  have Hx:=zac hx
  have Hu:=zac hu
  clear hb3 hsz hB1 hB2 hx hr hf hu hS3 hP
  go_enter Tryz.func158,Tryz.ntmps158
  unfold zag at hW3 ⊢
  go_wp2
  rw [← hW3]
  clear hW3 cW
  try go_wp2
  go_loopw [15] (fun i wr=>∃ (k:Nat) (svk:Nat→SV),k≤nss.length∧i=.int .i64 k∧zd1 wr W.heap.size svk (zjq nss S k)∧(∀ j,j<k→zis nss S j≠[])∧zrl W.heap.size W3 wr) (fun i _=>nss.length - (intOf i).toNat)
  case atStart=>exact ⟨0,sv,Nat.zero_le _,rfl,zaa HS3,fun j hj=>by omega,zrl.refl _ _⟩
  case round =>
    obtain ⟨k,svk,hk,rfl,hS,hL,hK⟩:=hrel
    by_cases hlt:k<nss.length
    · have hkx:(k:Int)<(nss.length:Int):=by omega
      obtain ⟨b,o,ia,ic,rfl,d0,hnum⟩:=(zaa Hx) k hlt
      have hok:=(zaa Hu) k hlt
      have hleft:zis nss S k=(zfl (zjq nss S k) k (zgj (nss[k]?.getD []) (zjq nss S k k)) k).rs:=rfl
      rw [zcw] at hleft
      have hsucc:zjq nss S (k+1)=zfl (zjq nss S k) k (zgj (nss[k]?.getD []) (zjq nss S k k)):=rfl
      rw [← yec nss S k k (Nat.le_refl _)] at hok
      obtain ⟨zs,hzs⟩:∃ zs,zs=nss[k]?.getD []:=⟨_,rfl⟩
      rw [← hzs] at d0 hnum hok hsucc hleft
      obtain ⟨T,hT⟩:∃ T,T=zjq nss S k:=⟨_,rfl⟩
      rw [← hT] at hok hsucc hleft hS
      have hbl:=World.block_lt_of_cell? W _ d0
      have hwr:Below W.heap.size W wr:=hK.toBelow (zaa Hb3) (by omega)
      have d0':=(hwr.cell (p:=⟨b,o+k,none⟩) hbl).trans d0
      have hco:zs.length≤3:=by have:=hok.cols;omega
      have ha4:k<4:=by omega
      have hat:(k:Int)<4:=by omega
      have hS4:zd1 wr W.heap.size svk (zfl T k (zgj (zs.take 0) (T k))):=by
        show zd1 wr W.heap.size svk (zfl T k (T k))
        rw [zvs]
        exact hS
      have HS4:=zac hS4
      have HL:=zac hL
      have HK:=zac hK
      have Hok:=zac hok
      have Hsucc:=zac hsucc
      have Hleft:=zac hleft
      have Hnum:=zac hnum
      clear d0 hS hL hK hok hsucc hleft hwr hzs hT hS4 hnum
      go_wp2_with fail
      go_loopw [22] (fun i wi=>∃ (m:Nat) (svm:Nat→SV),m≤zs.length∧i=.int .i64 m∧zd1 wi W.heap.size svm (zfl T k (zgj (zs.take m) (T k)))∧zrl W.heap.size W3 wi) (fun i _=>zs.length - (intOf i).toNat)
      case atStart=>exact ⟨0,svk,Nat.zero_le _,rfl,zaa HS4,zaa HK⟩
      case round =>
        obtain ⟨m,svm,hm,rfl,hSm,hKm⟩:=hrel
        obtain ⟨t,ht⟩:∃ t,t=zgj (zs.take m) (T k):=⟨_,rfl⟩
        rw [← ht] at hSm
        have hrm:=hSm.runs k ha4
        rw [zcw] at hrm
        obtain ⟨e0,e1⟩:=zaf hSm.blk k ha4
        rw [zcw] at e1
        have hlw:W.heap.size+2≤wr.heap.size:=by have h1:=zaa Hsz;have h2:=hKm.size;omega
        obtain ⟨x,hx⟩:∃ x,x=svm k:=⟨_,rfl⟩
        rw [← hx] at e0 hrm
        obtain ⟨xa,xn,xc⟩:=x
        dsimp only at e0
        by_cases hmc:m<zs.length
        · have hmx:(m:Int)<(zs.length:Int):=by omega
          have hts:nar1 (zs[m]?.getD 0) t=zgj (zs.take (m+1)) (T k):=by rw [ht];exact (yav zs (T k) m hmc).symm
          have hok1:zcm (zs.length - m - 1+1) t:=by
            rw [ht]
            refine zcm.zgj (zs.take m) ?_
            rw [List.length_take,show zs.length - m - 1+1+min m zs.length=zs.length by omega]
            exact zaa Hok
          obtain ⟨ib,io,rfl,n0⟩:=(zaa Hnum) m hmc
          have n0':=((hKm.toBelow (zaa Hb3) (Nat.le_refl _)).cell (p:=⟨ib,io+m,none⟩) (World.block_lt_of_cell? W _ n0)).trans n0
          obtain ⟨z,hz⟩:∃ z,z=zs[m]?.getD 0:=⟨_,rfl⟩
          rw [← hz] at hts n0'
          have hso:∀ r∈t.rs,zbo t.c r:=fun r hr=>(hok1.lex r hr).1
          have hc3:t.c<3:=by have:=hok1.cols;omega
          have hok2:=hok1.nar1 z
          have Hso:=zac hso
          have Hlen:=zac hok1.len
          have Hcnt:=zac hok1.cnt
          have Hfull:=zac hok2.full
          have Hrm:Hid (zay wr (.slice xa xn xc) t.rs):=zac hrm
          have HSm:=zac hSm
          have HKm:=zac hKm
          have Hts:=zac hts
          clear hso hok1 hok2 hrm hSm hKm hts ht hx n0 hz
          go_wp2_with (first
            | (go_at_call 200;refine (zq1 t.rs t.c z (.slice xa xn xc) wr (zaa Hrm) (zaa Hso) hc3 (zaa Hlen) (zaa Hcnt)).mono ?_;rintro e w5 ⟨sv5,rfl,hr5,hb5,hown⟩
               have hS5:=(zaa HSm).below hb5
               have hK5:=(zaa HKm).below hb5
               obtain ⟨g0,g1⟩:=zaf hS5.blk k ha4
               have f0:w5.frozen? ⟨W.heap.size,k*2,none⟩=false:=zad hS5.blk _
               have f1:w5.frozen? ⟨W.heap.size,k*2+1,none⟩=false:=zad hS5.blk _
               have hr6:=hr5
               obtain ⟨a5,cap5,rfl,_⟩:=hr5
               have Hr6:=zac hr6
               have Hown:=zac hown
               have HS5:=zac hS5
               have HK5:=zac hK5
               clear hr6 hown hS5 hK5 hb5))
          have hcast:((nar1 z t).c:Int)=(t.c:Int)+1:=by simp [nar1]
          have hput:=(zaa HS5).put ha4 ⟨a5,(zc5 t.c z t.rs).length,cap5⟩ (nar1 z t) (zaa Hr6) (fun _=>⟨fun e=>by have:=(zaa Hown) _ e;omega,fun e=>by have:=(zaa Hown) _ e;omega⟩) (zaa Hfull)
          rw [zvt,zaa Hts,← zaa Hts,hcast,zaa Hts] at hput
          exact ⟨⟨m+1,_,by omega,by simp,hput,((zaa HK5).set _ _).set _ _⟩,by simp [intOf];omega⟩
        · have hke:m=zs.length:=by omega
          have hxn:xn=t.rs.length:=by
            obtain ⟨_,_,e,_⟩:=hrm
            exact (Value.slice.inj e).2.1
          rw [hke,List.take_length] at ht
          have Hrm:=zac hrm
          have HSm:=zac hSm
          have HKm:=zac hKm
          have Ht:=zac ht
          have Hxn:=zac hxn
          have hmx:¬ (m:Int)<(zs.length:Int):=by omega
          clear hrm hSm hKm ht hx hxn hke
          go_wp2_with fail
          refine (zt9 xa xn xc t.c wr).mono ?_
          rintro e w6 ⟨rfl,hb6⟩
          dsimp only
          have hS6:=(zaa HSm).below hb6
          have hK6:=(zaa HKm).below hb6
          have hleft:zis nss S k=t.rs:=by
            rw [zaa Hleft,zaa Ht]
          clear hb6
          by_cases hz:xn=0
          · rw [show decide (xn=0)=true by simp [hz]]
            have hte:t.rs=[]:=List.length_eq_zero_iff.1 ((zaa Hxn).symm.trans hz)
            have hfl:zng nss S=false:=zxs hlt (hleft.trans hte)
            have hB2r:w6.heap[W.heap.size+1]? = _:=(hK6.blk (W.heap.size+1) (by have:=zaa Hsz;omega) (by omega)).trans (zaa HB2)
            have p0:w6.cell? ⟨W.heap.size,0,none⟩=some _:=(zaf hS6.blk 0 (by omega)).1
            have p1:w6.cell? ⟨W.heap.size,1,none⟩=some _:=(zaf hS6.blk 0 (by omega)).2
            have p2:w6.cell? ⟨W.heap.size,2,none⟩=some _:=(zaf hS6.blk 1 (by omega)).1
            have p3:w6.cell? ⟨W.heap.size,3,none⟩=some _:=(zaf hS6.blk 1 (by omega)).2
            have p4:w6.cell? ⟨W.heap.size,4,none⟩=some _:=(zaf hS6.blk 2 (by omega)).1
            have p5:w6.cell? ⟨W.heap.size,5,none⟩=some _:=(zaf hS6.blk 2 (by omega)).2
            have p6:w6.cell? ⟨W.heap.size,6,none⟩=some _:=(zaf hS6.blk 3 (by omega)).1
            have p7:w6.cell? ⟨W.heap.size,7,none⟩=some _:=(zaf hS6.blk 3 (by omega)).2
            have q0:w6.cell? ⟨W.heap.size+1,0,none⟩=some _:=zab hB2r 0
            have r0:w6.frozen? ⟨W.heap.size+1,0,none⟩=false:=zad hB2r 0
            have q1:w6.cell? ⟨W.heap.size+1,1,none⟩=some _:=zab hB2r 1
            have r1:w6.frozen? ⟨W.heap.size+1,1,none⟩=false:=zad hB2r 1
            have q2:w6.cell? ⟨W.heap.size+1,2,none⟩=some _:=zab hB2r 2
            have r2:w6.frozen? ⟨W.heap.size+1,2,none⟩=false:=zad hB2r 2
            have q3:w6.cell? ⟨W.heap.size+1,3,none⟩=some _:=zab hB2r 3
            have r3:w6.frozen? ⟨W.heap.size+1,3,none⟩=false:=zad hB2r 3
            have q4:w6.cell? ⟨W.heap.size+1,4,none⟩=some _:=zab hB2r 4
            have r4:w6.frozen? ⟨W.heap.size+1,4,none⟩=false:=zad hB2r 4
            have q5:w6.cell? ⟨W.heap.size+1,5,none⟩=some _:=zab hB2r 5
            have r5:w6.frozen? ⟨W.heap.size+1,5,none⟩=false:=zad hB2r 5
            have q6:w6.cell? ⟨W.heap.size+1,6,none⟩=some _:=zab hB2r 6
            have r6:w6.frozen? ⟨W.heap.size+1,6,none⟩=false:=zad hB2r 6
            have q7:w6.cell? ⟨W.heap.size+1,7,none⟩=some _:=zab hB2r 7
            have r7:w6.frozen? ⟨W.heap.size+1,7,none⟩=false:=zad hB2r 7
            have hbw:=hK6.toBelow (zaa Hb3) (by omega)
            have Hbw:=zac hbw
            have Hfl:=zac hfl
            clear hS6 hK6 hB2r hbw hfl hleft hte
            go_wp2
            refine bodyPost_ret (v:=.tuple #[.agg (zag svm (fun i=>((zfl T k t i).c:Int))),.bool false]) (by simp [results,Tryz.results158,go_sem,zag,p0,q0,r0,p1,q1,r1,p2,q2,r2,p3,q3,r3,p4,q4,r4,p5,q5,r5,p6,q6,r6,p7,q7,r7]) rfl ⟨svm,(fun i=>((zfl T k t i).c:Int)),by rw [zaa Hfl];rfl,?_,fun e=>?_⟩
            · iterate 8 refine zbu ?_ (by omega) _ _
              exact zaa Hbw
            rw [zaa Hfl] at e
            cases e
          · rw [show decide (xn=0)=false by simp [hz]]
            have hne:t.rs≠[]:=fun e=>hz ((zaa Hxn).trans (by rw [e];rfl))
            have HS6:=zac hS6
            have HK6:=zac hK6
            have Hle:=zac hleft
            have Hne:=zac hne
            clear hS6 hK6 hleft hne
            go_wp2
            refine ⟨⟨k+1,svm,by omega,by simp,?_,?_,zaa HK6⟩,by simp [intOf];omega⟩
            · rw [zaa Hsucc,← zaa Ht]
              exact zaa HS6
            · intro j hj
              by_cases hjk:j<k
              · exact (zaa HL) j hjk
              · have:j=k:=by omega
                subst this
                rw [zaa Hle]
                exact zaa Hne
    · have hke:k=nss.length:=by omega
      subst hke
      have htr:=ya7 hL
      have hB2r:wr.heap[W.heap.size+1]? = _:=(hK.blk (W.heap.size+1) (by have:=zaa Hsz;omega) (by omega)).trans (zaa HB2)
      have p0:wr.cell? ⟨W.heap.size,0,none⟩=some _:=(zaf hS.blk 0 (by omega)).1
      have p1:wr.cell? ⟨W.heap.size,1,none⟩=some _:=(zaf hS.blk 0 (by omega)).2
      have p2:wr.cell? ⟨W.heap.size,2,none⟩=some _:=(zaf hS.blk 1 (by omega)).1
      have p3:wr.cell? ⟨W.heap.size,3,none⟩=some _:=(zaf hS.blk 1 (by omega)).2
      have p4:wr.cell? ⟨W.heap.size,4,none⟩=some _:=(zaf hS.blk 2 (by omega)).1
      have p5:wr.cell? ⟨W.heap.size,5,none⟩=some _:=(zaf hS.blk 2 (by omega)).2
      have p6:wr.cell? ⟨W.heap.size,6,none⟩=some _:=(zaf hS.blk 3 (by omega)).1
      have p7:wr.cell? ⟨W.heap.size,7,none⟩=some _:=(zaf hS.blk 3 (by omega)).2
      have q0:wr.cell? ⟨W.heap.size+1,0,none⟩=some _:=zab hB2r 0
      have r0:wr.frozen? ⟨W.heap.size+1,0,none⟩=false:=zad hB2r 0
      have q1:wr.cell? ⟨W.heap.size+1,1,none⟩=some _:=zab hB2r 1
      have r1:wr.frozen? ⟨W.heap.size+1,1,none⟩=false:=zad hB2r 1
      have q2:wr.cell? ⟨W.heap.size+1,2,none⟩=some _:=zab hB2r 2
      have r2:wr.frozen? ⟨W.heap.size+1,2,none⟩=false:=zad hB2r 2
      have q3:wr.cell? ⟨W.heap.size+1,3,none⟩=some _:=zab hB2r 3
      have r3:wr.frozen? ⟨W.heap.size+1,3,none⟩=false:=zad hB2r 3
      have q4:wr.cell? ⟨W.heap.size+1,4,none⟩=some _:=zab hB2r 4
      have r4:wr.frozen? ⟨W.heap.size+1,4,none⟩=false:=zad hB2r 4
      have q5:wr.cell? ⟨W.heap.size+1,5,none⟩=some _:=zab hB2r 5
      have r5:wr.frozen? ⟨W.heap.size+1,5,none⟩=false:=zad hB2r 5
      have q6:wr.cell? ⟨W.heap.size+1,6,none⟩=some _:=zab hB2r 6
      have r6:wr.frozen? ⟨W.heap.size+1,6,none⟩=false:=zad hB2r 6
      have q7:wr.cell? ⟨W.heap.size+1,7,none⟩=some _:=zab hB2r 7
      have r7:wr.frozen? ⟨W.heap.size+1,7,none⟩=false:=zad hB2r 7
      have hbw:=hK.toBelow (zaa Hb3) (by omega)
      have Hbw:=zac hbw
      have Htr:=zac htr
      have HS:=zac hS
      have HB2r:=zac hB2r
      clear hS hK hB2r hbw htr hL
      go_wp2
      refine bodyPost_ret (v:=.tuple #[.agg (zag svk (fun i=>((zjq nss S nss.length i).c:Int))),.bool true]) (by simp [results,Tryz.results158,go_sem,zag,p0,q0,r0,p1,q1,r1,p2,q2,r2,p3,q3,r3,p4,q4,r4,p5,q5,r5,p6,q6,r6,p7,q7,r7]) rfl ⟨svk,(fun i=>((zjq nss S nss.length i).c:Int)),by rw [zaa Htr];rfl,?_,fun _=>⟨rfl,fun i hi=>?_⟩⟩
      · iterate 8 refine zbu ?_ (by omega) _ _
        exact zaa Hbw
      refine ((zaa HS).runs i hi).aside (zaa HB2r) ((zaa HS).full i hi) (fun e=>((zaa HS).off i hi e).2) (fun q hq=>?_)
      iterate 8 refine (Below.heap_setCell _ _ _ q (fun e=>hq e)).trans ?_
      rfl
def zkn (us:List (Nat×Nat)) (S:Nat→Src) (y:Int):Prop:=∀ u∈us,znc (S u.1).c (S u.1).rs y
def above (s:Src) (z:Int):Nat:=(s.rs.flatten).countP fun e=>decide (z<zal e.1 s.c)
def zdh (us:List (Nat×Nat)) (S:Nat→Src) (z:Int):Nat:=(us.map fun u=>above (S u.1) z).sum
theorem zqd (s:Src) {z y:Int} (h:z≤y):above s y≤above s z:=by
 unfold above
 refine List.countP_mono_left fun e _ he=>?_
 simp at he ⊢
 omega
theorem yfu (s:Src) {z y:Int} (h:z<y) (hi:znc s.c s.rs y):above s y<above s z:=by
 obtain ⟨r,hr,e,he,hy⟩:=hi
 have hm:e∈s.rs.flatten:=List.mem_flatten.2 ⟨r,hr,he⟩
 unfold above
 generalize s.rs.flatten=l at hm
 induction l with
 | nil=>cases hm
 | cons x l ih =>
  have hmono:l.countP (fun e=>decide (y<zal e.1 s.c))≤l.countP (fun e=>decide (z<zal e.1 s.c)):=List.countP_mono_left fun e _ he=>by simp at he ⊢;omega
  rw [List.countP_cons,List.countP_cons]
  rcases List.mem_cons.1 hm with rfl|hm
  ·have h1:decide (y<zal e.1 s.c)=false:=by simp;omega
   have h2:decide (z<zal e.1 s.c)=true:=by simp;omega
   rw [h1,h2]
   simp
   omega
  ·have:=ih hm
   have h3:(if decide (y<zal x.1 s.c)=true then 1 else 0)≤(if decide (z<zal x.1 s.c)=true then 1 else 0):=by
    split
    ·rename_i h;simp at h;rw [if_pos (by simp;omega)];omega
    ·omega
   omega
theorem zwe (us:List (Nat×Nat)) (S:Nat→Src) {z y:Int} (h:z≤y):zdh us S y≤zdh us S z:=by
 unfold zdh
 induction us with
 | nil=>simp
 | cons u us ih =>
  simp only [List.map_cons,List.sum_cons]
  have:=zqd (S u.1) h
  omega
theorem zto (us:List (Nat×Nat)) (S:Nat→Src) {z y:Int} (h:z<y) {u:Nat×Nat} (hu:u∈us) (hi:znc (S u.1).c (S u.1).rs y):zdh us S y<zdh us S z:=by
 unfold zdh
 induction us with
 | nil=>cases hu
 | cons v us ih =>
  simp only [List.map_cons,List.sum_cons]
  have hm:(us.map fun u=>above (S u.1) y).sum≤(us.map fun u=>above (S u.1) z).sum:=zwe us S (by omega)
  rcases List.mem_cons.1 hu with rfl|hu
  ·have:=yfu _ h hi
   omega
  ·have:=ih hu
   have:=zqd (S v.1) (z:=z) (y:=y) (by omega)
   omega
structure znz (us:List (Nat×Nat)) (S:Nat→Src) (z:Int) (l:Int) (i same:Nat):Prop where
 low:z≤l
 least:∀ y,zkn us S y→z≤y→l≤y
 le:same≤i
 leN:same≤us.length
 has:∀ j,i - same≤j→j<i→znc (S (us[j % us.length]?.getD (0,0)).1).c (S (us[j % us.length]?.getD (0,0)).1).rs l
theorem znz.done {us:List (Nat×Nat)} {S:Nat→Src} {z l:Int} {i same:Nat} (h:znz us S z l i same) (hs:us.length≤same):zkn us S l:=by
 intro u hu
 obtain ⟨k,hk,rfl⟩:=List.getElem_of_mem hu
 have hn:0<us.length:=by omega
 have hle:=h.le
 have hsn:same=us.length:=by have:=h.leN;omega
 -- some j of the last ones has remainder k
 obtain ⟨j,hj1,hj2,hj3⟩:∃ j,i - same≤j∧j<i∧j % us.length=k:=by
  obtain ⟨q,hq⟩:∃ q,q=i - same:=⟨_,rfl⟩
  have hq2:i=q+us.length:=by omega
  by_cases hc:q % us.length≤k
  ·refine ⟨q - q % us.length+k,by have:=Nat.mod_le q us.length;omega,by have:=Nat.mod_lt q hn;have:=Nat.mod_le q us.length;omega,?_⟩
   have:=Nat.div_add_mod q us.length
   rw [show q - q % us.length+k=us.length*(q / us.length)+k by omega,Nat.mul_add_mod,Nat.mod_eq_of_lt hk]
  ·refine ⟨q - q % us.length+us.length+k,by have:=Nat.mod_lt q hn;have:=Nat.mod_le q us.length;omega,by have:=Nat.mod_le q us.length;omega,?_⟩
   have:=Nat.div_add_mod q us.length
   rw [show q - q % us.length+us.length+k=us.length*(q / us.length)+(us.length+k) by omega,Nat.mul_add_mod,Nat.add_mod_left,Nat.mod_eq_of_lt hk]
 have:=h.has j hj1 hj2
 rw [hj3] at this
 simpa [hk] using this
theorem znz.next {us:List (Nat×Nat)} {S:Nat→Src} {z l:Int} {i same:Nat} (h:znz us S z l i same) (hs:same<us.length) (y:Int) (b:Bool)
  (hy:zih (S (us[i % us.length]?.getD (0,0)).1).c l (S (us[i % us.length]?.getD (0,0)).1).rs (y,b)) :
  (b=false→∀ x,zkn us S x→¬ z≤x)∧(b=true→(l<y→znz us S z y (i+1) 1∧zdh us S y<zdh us S l)∧(¬ l<y→y=l∧znz us S z l (i+1) (same+1))):=by
 have hn:0<us.length:=by omega
 have hmod:=Nat.mod_lt i hn
 have hmem:us[i % us.length]?.getD (0,0)∈us:=by simp [hmod]
 refine ⟨fun hb x hx hz=>hy.2 hb x (hx _ hmem) (h.least x hx hz),fun hb=>?_⟩
 obtain ⟨h1,h2,h3⟩:=hy.1 hb
 have h1':znc _ _ y:=h1
 have h2':l≤y:=h2
 refine ⟨fun hly=>⟨⟨by have:=h.low;omega,fun x hx hz=>h3 x (hx _ hmem) (h.least x hx hz),by omega,by omega,fun j hj1 hj2=>?_⟩,zto us S hly hmem h1'⟩,fun hly=>?_⟩
 ·have:j=i:=by omega
  subst this
  exact h1'
 ·have hyl:y=l:=by omega
  subst hyl
  refine ⟨rfl,h.low,h.least,by have:=h.le;omega,by omega,fun j hj1 hj2=>?_⟩
  by_cases hji:j=i
  ·subst hji;exact h1'
  ·exact h.has j (by omega) (by omega)
def ydq (us:List (Nat×Nat)) (S:Nat→Src) (l:Int) (s:Nat):Nat:=zdh us S l*(us.length+1)+(us.length - s)
theorem yiz {us:List (Nat×Nat)} {S:Nat→Src} {l y:Int} {s:Nat} (h:zdh us S y<zdh us S l) (hs:0<us.length):ydq us S y 1+1≤ydq us S l s:=by
 unfold ydq
 have:(zdh us S y+1)*(us.length+1)≤zdh us S l*(us.length+1):=Nat.mul_le_mul_right _ h
 rw [Nat.add_mul] at this
 omega
theorem ydr {us:List (Nat×Nat)} {S:Nat→Src} {l:Int} {s:Nat} (hs:s<us.length):ydq us S l (s+1)+1≤ydq us S l s:=by
 unfold ydq
 omega
def zrm (us:List (Nat×Nat)) (S:Nat→Src) (z:Int) (r:Int×Bool):Prop:=
 (r.2=true→zkn us S r.1∧z≤r.1∧∀ x,zkn us S x→z≤x→r.1≤x)∧(r.2=false→∀ x,zkn us S x→¬ z≤x)
def LAns (us:List (Nat×Nat)) (S:Nat→Src) (z:Int) (W:World) (e:Ending) (w':World):Prop:=∃ r:Int×Bool,e=.returned (.tuple #[.int .i64 r.1,.bool r.2])∧zrm us S z r∧Below W.heap.size W w'
theorem ybh (us:List (Nat×Nat)) (uv:Value) (pa:Option Addr) (pn pc:Nat) (sv:Nat→SV) (S:Nat→Src) (z:Int) (W:World) (hU:zmu W uv us) (hn0:0<us.length) (hn:us.length≤4) (hr:∀ i,i<4→zay W (sv i).val (S i).rs)
  (hu:∀ k,k<us.length→(us[k]?.getD (0,0)).1<4∧zcm 1 (S (us[k]?.getD (0,0)).1)) (hM:zdh us S z≤1000000000000) :
  Calls Tryz.prog 229 #[.agg #[uv,.slice pa pn pc],.agg (zag sv (fun i=>((S i).c:Int))),.int .i64 z] W (LAns us S z W):=by
 obtain ⟨a,cap,rfl,hx⟩:=hU
 obtain ⟨W3,hW3⟩:∃ W3,W3=(W.alloc (.cells #[.slice a us.length cap,.slice pa pn pc] 273)).alloc (.cells (zag sv (fun i=>((S i).c:Int))) 192):=⟨_,rfl⟩
 have hb3:Below W.heap.size W W3:=by rw [hW3];exact ((Below.refl _ _).alloc (Nat.le_refl _) _).alloc (by simp) _
 have hsz:W3.heap.size=W.heap.size+2:=by rw [hW3];simp
 have hB0:W3.heap[W.heap.size]? = some (.cells #[.slice a us.length cap,.slice pa pn pc] 273 (0,0)):=by
  rw [hW3]
  exact (Below.heap_alloc _ _ _ (by simp)).trans (zae _ _ _ rfl)
 have hB1:W3.heap[W.heap.size+1]? = some (.cells (zag sv (fun i=>((S i).c:Int))) 192 (0,0)):=by
  rw [hW3]
  exact zae _ _ _ (by simp)
 have hm0:ydq us S z 0≤10000000000000:=by
  unfold ydq
  have:zdh us S z*(us.length+1)≤1000000000000*5:=Nat.mul_le_mul hM (by omega)
  omega
 have Hb3:=zac hb3
 have Hsz:=zac hsz
 have HB0:=zac hB0
 have HB1:=zac hB1
 have Hx:=zac hx
 have Hu:=zac hu
 have Hr:=zac hr
 have Hm0:=zac hm0
 clear hb3 hsz hB0 hB1 hx hr hu hm0 hM
 go_enter Tryz.func229,Tryz.ntmps229
 unfold zag at hW3 ⊢
 go_wp2
 rw [← hW3]
 clear hW3
 try go_wp2
 go_loopw [6,8,9] (fun l i s wr=>∃ (lv:Int) (iv sn:Nat),l=.int .i64 lv∧i=.int .i64 iv∧s=.int .i64 sn∧znz us S z lv iv sn∧iv+ydq us S lv sn≤ydq us S z 0∧Below W3.heap.size W3 wr) (fun l i s _=>ydq us S (intOf l) (intOf s).toNat)
 case atStart=>exact ⟨z,0,0,rfl,rfl,rfl,⟨Int.le_refl _,fun y _ h=>h,Nat.le_refl _,Nat.zero_le _,fun j h1 h2=>by omega⟩,by simp,Below.refl _ _⟩
 case round =>
  obtain ⟨lv,iv,sn,rfl,rfl,rfl,hS,hm,hK⟩:=hrel
  have c0:wr.cell? ⟨W.heap.size,0,none⟩=some (.slice a us.length cap):=zab ((hK.block _ (by rw [zaa Hsz];omega)).trans (zaa HB0)) 0
  by_cases hlt:sn<us.length
  ·have hkx:(sn:Int)<(us.length:Int):=by omega
   have hmod:=Nat.mod_lt iv hn0
   have hiv:iv<100000000000000:=by have:=zaa Hm0;omega
   obtain ⟨b,o,rfl,d0,d1⟩:=(zaa Hx) _ hmod
   obtain ⟨ha4,hok⟩:=(zaa Hu) _ hmod
   have hnext:=hS.next hlt
   obtain ⟨⟨at',co⟩,hue⟩:∃ u,u=us[iv % us.length]?.getD (0,0):=⟨_,rfl⟩
   rw [← hue] at d0 d1 ha4 hok hnext
   dsimp only at d0 d1 ha4 hok hnext
   have hbl:=World.block_lt_of_cell? W _ d0
   have hwr:Below W.heap.size W wr:=(zaa Hb3).trans (hK.mono (zaa Hb3).size)
   have d0':=(hwr.cell (p:=⟨b,o+iv % us.length*2,none⟩) hbl).trans d0
   have d1':=(hwr.cell (p:=⟨b,o+iv % us.length*2+1,none⟩) hbl).trans d1
   have hat:(at':Int)<4:=by omega
   have hBr:=(hK.block (W.heap.size+1) (by rw [zaa Hsz];omega)).trans (zaa HB1)
   obtain ⟨e0,e1⟩:=zaf hBr at' ha4
   have hra:=((zaa Hr) at' ha4).below hwr
   obtain ⟨x,hx⟩:∃ x,x=sv at':=⟨_,rfl⟩
   obtain ⟨t,ht⟩:∃ t,t=S at':=⟨_,rfl⟩
   rw [← hx] at e0 hra
   rw [← ht] at e1 hra hok hnext
   obtain ⟨xa,xn,xc⟩:=x
   dsimp only at e0
   have hrem:Int.tmod (iv:Int) (us.length:Int)=((iv % us.length:Nat):Int):=by rw [Int.ofNat_tmod]
   have hnz:¬ (us.length:Int)=0:=by omega
   have hmx:((iv % us.length:Nat):Int)<(us.length:Int):=by omega
   have hc3:t.c<3:=by have:=hok.cols;omega
   have hso:∀ r∈t.rs,zbo t.c r:=fun r hr=>(hok.lex r hr).1
   have Hso:=zac hso
   have Hlen:=zac hok.len
   have Hcnt:=zac (Nat.le_trans hok.cnt (by decide:100000000≤1000000000000))
   have Hra:Hid (zay wr (.slice xa xn xc) t.rs):=zac hra
   have HS:=zac hS
   have Hm:=zac hm
   have HK:=zac hK
   have Hnext:=zac hnext
   have Hwr:=zac hwr
   clear d0 d1 hS hm hK hok hnext hwr hue hBr hra hso ht hx
   go_wp2_with fail
   have hne:us≠[]:=by rintro rfl;simp at hn0
   have c0b:(wr.alloc (Obj.cells #[Value.int IntKind.i64 0,Value.int IntKind.i64 0] 357)).cell? ⟨W.heap.size,0,none⟩=some (.slice (some ⟨b,o,none⟩) us.length cap):=(World.cell?_alloc_past _ _ _ (World.block_lt_of_cell? _ _ c0)).trans c0
   have d0b:(wr.alloc (Obj.cells #[Value.int IntKind.i64 0,Value.int IntKind.i64 0] 357)).cell? ⟨b,o+iv % us.length*2,none⟩=some (.int .i64 (at':Nat)):=(World.cell?_alloc_past _ _ _ (World.block_lt_of_cell? _ _ d0')).trans d0'
   have d1b:(wr.alloc (Obj.cells #[Value.int IntKind.i64 0,Value.int IntKind.i64 0] 357)).cell? ⟨b,o+iv % us.length*2+1,none⟩=some (.int .i64 (co:Nat)):=(World.cell?_alloc_past _ _ _ (World.block_lt_of_cell? _ _ d0')).trans d1'
   go_region
   obtain ⟨w4,hw4⟩:∃ w4,w4=(wr.alloc (Obj.cells #[Value.int IntKind.i64 (at':Nat),Value.int IntKind.i64 (co:Nat)] 357)).drew:=⟨_,rfl⟩
   rw [← hw4]
   have hb4:Below wr.heap.size wr w4:=by rw [hw4];exact ((Below.refl _ _).alloc (Nat.le_refl _) _).trans (zav _ _)
   have h4:w4.heap[wr.heap.size]? = some (.cells #[.int .i64 (at':Nat),.int .i64 (co:Nat)] 357 (0,0)):=by rw [hw4];exact zae _ _ _ rfl
   have g0:w4.cell? ⟨wr.heap.size,0,none⟩=some (.int .i64 (at':Nat)):=zab h4 0
   have e0':=(hb4.cell (p:=⟨W.heap.size+1,at'*2,none⟩) (World.block_lt_of_cell? _ _ e0)).trans e0
   have e1':=(hb4.cell (p:=⟨W.heap.size+1,at'*2+1,none⟩) (World.block_lt_of_cell? _ _ e1)).trans e1
   have Hra4:=zac ((zaa Hra).below hb4)
   have HK4:=zac ((zaa HK).trans (hb4.mono (zaa HK).size))
   have hsp:=zxa (z:=lv) (zaa Hso)
   obtain ⟨⟨y,bb⟩,hy⟩:∃ q,q=zgp t.c lv t.rs:=⟨_,rfl⟩
   rw [← hy] at hsp
   obtain ⟨hno,hyes⟩:=(zaa Hnext) y bb hsp
   have Hno:=zac hno
   have Hyes:=zac hyes
   have Hy:=zac hy
   clear hw4 hb4 h4 c0b d0b d1b d0' d1' e0 e1 c0 hsp hno hyes hy
   go_wp2_with fail
   refine (zsb t.rs t.c lv (.slice xa xn xc) w4 (zaa Hra4) (zaa Hso) hc3 (zaa Hlen) (zaa Hcnt)).mono ?_
   rintro e w5 ⟨rfl,hb5⟩
   rw [← zaa Hy]
   have HK5:=zac ((zaa HK4).trans (hb5.mono (zaa HK4).size))
   clear hb5
   dsimp only
   cases bb with
   | false =>
    have Hno2:=zac ((zaa Hno) (by simp))
    clear Hno Hyes
    go_wp2
    refine bodyPost_ret (v:=.tuple #[.int .i64 0,.bool false]) (by simp [results,Tryz.results229,go_sem]) rfl ⟨(0,false),rfl,⟨(fun e=>by cases e),fun _ x hx hz=>by have:=(zaa Hno2) x hx;omega⟩,(zaa Hb3).trans ((zaa HK5).mono (zaa Hb3).size)⟩
   | true =>
    by_cases hly:lv<y
    ·obtain ⟨hs2,hab⟩:=((zaa Hyes) rfl).1 hly
     have hms:=yiz (s:=sn) hab hn0
     have Hs2:=zac hs2
     have Hms:=zac hms
     clear hs2 hab hms
     go_wp2
     have hm1:=zaa Hm
     have hm2:=zaa Hms
     exact ⟨⟨y,iv+1,1,rfl,by simp,rfl,zaa Hs2,by omega,zaa HK5⟩,by simp only [intOf,Int.toNat_natCast];exact hm2⟩
    ·obtain ⟨rfl,hs2⟩:=((zaa Hyes) rfl).2 (by omega)
     have hms:=ydr (us:=us) (S:=S) (l:=y) hlt
     have Hs2:=zac hs2
     have Hms:=zac hms
     clear hs2 hms
     go_wp2
     have hm1:=zaa Hm
     have hm2:=zaa Hms
     exact ⟨⟨y,iv+1,sn+1,rfl,by simp,by simp,zaa Hs2,by omega,zaa HK5⟩,by rw [show (intOf (.int .i64 ((sn:Int)+1))).toNat=sn+1 by simp [intOf],show (intOf (.int .i64 (sn:Int))).toNat=sn by simp [intOf]];exact hm2⟩
  ·have HS:=zac hS
   have HK:=zac hK
   have hkx:¬ (sn:Int)<(us.length:Int):=by omega
   have hdone:=hS.done (by omega)
   have Hdone:=zac hdone
   clear hS hK hdone
   go_wp2
   refine bodyPost_ret (v:=.tuple #[.int .i64 lv,.bool true]) (by simp [results,Tryz.results229,go_sem]) rfl ⟨(lv,true),rfl,⟨fun _=>⟨zaa Hdone,(zaa HS).low,(zaa HS).least⟩,fun e=>by cases e⟩,(zaa Hb3).trans ((zaa HK).mono (zaa Hb3).size)⟩
end Go.Proofs.YtoifcnidhfnapaaGreatDoor
