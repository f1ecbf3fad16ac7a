import Derived.Test.YtoifcnidhfnapaaGreatDoorP14
set_option linter.unusedVariables false
set_option linter.unusedSimpArgs false
namespace Go.Proofs.YtoifcnidhfnapaaGreatDoor
open Go.RowKit Go.Maps Go.Sort Go.Shelf
structure ButB (B:Nat) (W w:World):Prop where
  os:w.os=W.os
  tape:w.tape=W.tape
  output:w.output=W.output
  size:W.heap.size≤w.heap.size
  blk:∀ q,q<W.heap.size→q≠B→w.heap[q]? = W.heap[q]?
theorem ButB.refl (B:Nat) (W:World):ButB B W W:=⟨rfl,rfl,rfl,Nat.le_refl _,fun _ _ _=>rfl⟩
theorem ButB.below {B:Nat} {W w w':World} (h:ButB B W w) (hb:Below w.heap.size w w'):ButB B W w':=
  ⟨hb.os.trans h.os,hb.tape.trans h.tape,hb.output.trans h.output,Nat.le_trans h.size hb.size,fun q hq hne=>(hb.block q (Nat.lt_of_lt_of_le hq h.size)).trans (h.blk q hq hne)⟩
theorem ButB.set {B:Nat} {W w:World} (h:ButB B W w) (o:Nat) (v:Value):ButB B W (w.setCell ⟨B,o,none⟩ v):=
  ⟨h.os,h.tape,h.output,by simp [World.setCell];exact h.size,fun q hq hne=>(Below.heap_setCell _ _ _ q (fun e=>hne e)).trans (h.blk q hq hne)⟩
theorem ButB.toBelow {B:Nat} {V W w:World} (h:ButB B W w) (hV:Below V.heap.size V W) (hB:V.heap.size≤B):Below V.heap.size V w:=
  ⟨h.os.trans hV.os,h.tape.trans hV.tape,h.output.trans hV.output,Nat.le_trans hV.size h.size,fun q hq=>(h.blk q (Nat.lt_of_lt_of_le hq hV.size) (by omega)).trans (hV.block q hq)⟩
def zk1 (w:World) (v:Value) (us:List (Nat×Nat)):Prop:=
  ∃ a cap,v=.slice a us.length cap∧∀ j,j<us.length→∃ b o,a=some ⟨b,o,none⟩∧w.cell? ⟨b,o+j*2,none⟩=some (.int .i64 ((us[j]?.getD (0,0)).1:Nat))∧w.cell? ⟨b,o+j*2+1,none⟩=some (.int .i64 ((us[j]?.getD (0,0)).2:Nat))
def zo7 (z:Int) (S:Nat→Src) (u:Nat×Nat):Nat→Src:=updN S u.1 (narK z u.2 (S u.1))
def narU (z:Int) (us:List (Nat×Nat)) (S:Nat→Src):Nat→Src:=us.foldl (zo7 z) S
theorem yam (z:Int) (us:List (Nat×Nat)) (S:Nat→Src) (k:Nat) (hk:k<us.length):narU z (us.take (k+1)) S=zo7 z (narU z (us.take k) S) (us[k]?.getD (0,0)):=by
  unfold narU
  rw [List.take_add_one,List.foldl_append]
  simp [hk]
def zkl (z:Int) (us:List (Nat×Nat)) (S:Nat→Src) (k:Nat):List (List REnt):=(narU z (us.take (k+1)) S (us[k]?.getD (0,0)).1).rs
def zff (z:Int) (us:List (Nat×Nat)) (S:Nat→Src):Bool:=(List.range us.length).all fun k=>!(zkl z us S k).isEmpty
theorem zwh {z:Int} {us:List (Nat×Nat)} {S:Nat→Src} (h:∀ k,k<us.length→zkl z us S k≠[]):zff z us S=true:=by
  unfold zff
  rw [List.all_eq_true]
  intro k hk
  have:=h k (List.mem_range.1 hk)
  simp [this]
theorem zu0 {z:Int} {us:List (Nat×Nat)} {S:Nat→Src} {k:Nat} (hk:k<us.length) (h:zkl z us S k=[]):zff z us S=false:=by
  unfold zff
  rw [List.all_eq_false]
  exact ⟨k,List.mem_range.2 hk,by simp [h]⟩
theorem zjp {w:World} {s:SV} {rs:List (List REnt)} (h:zau w s.val rs) (hne:rs≠[]) {B:Nat} (hB:w.heap.size≤B):s.val.ownBlock≠some B:=by
  obtain ⟨a,cap,e,hx⟩:=h
  obtain ⟨g,q,b,o,cp,rfl,d0,_⟩:=hx 0 (List.length_pos_iff.2 hne)
  have hl:g<w.heap.size:=World.block_lt_of_cell? w _ d0
  rw [e]
  intro e2
  injection e2 with e2
  have e3:g=B:=e2
  omega
set_option maxRecDepth 100000 in
set_option maxHeartbeats 4000000 in
theorem zuu (us:List (Nat×Nat)) (uv:Value) (pa:Option Addr) (pn pc:Nat) (sv:Nat→SV) (S:Nat→Src) (z:Int) (W:World) (hU:zk1 W uv us) (hn:us.length≤1000) (hr:∀ i,i<4→zau W (sv i).val (S i).rs) (hf:∀ i,i<4→∀ r∈(S i).rs,r≠[])
    (hu:∀ k,k<us.length→(us[k]?.getD (0,0)).1<4∧zb7 (us[k]?.getD (0,0)).2 (narU z (us.take k) S (us[k]?.getD (0,0)).1)) :
    Calls Tryz.prog 204 #[.agg #[uv,.slice pa pn pc],.agg (zaf sv (fun i=>((S i).c:Int))),.int .i64 z] W fun e w'=>∃ sv' cs',e=.returned (.tuple #[.agg (zaf sv' cs'),.bool (zff z us S)])∧Below W.heap.size W w' ∧
      (zff z us S=true→cs'=(fun i=>((narU z us S i).c:Int))∧∀ i,i<4→zau w' (sv' i).val (narU z us S i).rs):=by
  obtain ⟨a,cap,rfl,hx⟩:=hU
  obtain ⟨W3,hW3⟩:∃ W3,W3=((W.alloc (.cells #[.slice a us.length cap,.slice pa pn pc] 273)).alloc (.cells (zaf sv (fun i=>((S i).c:Int))) 192)).alloc (.cells (zaf (fun _=>⟨none,0,0⟩) (fun _=>0)) 192):=⟨_,rfl⟩
  have hb3:Below W.heap.size W W3:=by rw [hW3];exact (((Below.refl _ _).alloc (Nat.le_refl _) _).alloc (by simp) _).alloc (by simp;omega) _
  have hsz:W3.heap.size=W.heap.size+3:=by rw [hW3];simp
  have hB0:W3.heap[W.heap.size]? = some (.cells #[.slice a us.length cap,.slice pa pn pc] 273 (0,0)):=by
    rw [hW3]
    exact (Below.heap_alloc _ _ _ (by simp;omega)).trans ((Below.heap_alloc _ _ _ (by simp)).trans (zad _ _ _ rfl))
  have hB1:W3.heap[W.heap.size+1]? = some (.cells (zaf sv (fun i=>((S i).c:Int))) 192 (0,0)):=by
    rw [hW3]
    exact (Below.heap_alloc _ _ _ (by simp)).trans (zad _ _ _ (by simp))
  have hB2:W3.heap[W.heap.size+2]? = some (.cells (zaf (fun _=>⟨none,0,0⟩) (fun _=>0)) 192 (0,0)):=by
    rw [hW3]
    exact zad _ _ _ (by simp)
  have hS3:zdr W3 (W.heap.size+1) sv S:=⟨hB1,fun i hi=>(hr i hi).below hb3,fun i hi hne=>⟨zjp (hr i hi) hne (by omega),zjp (hr i hi) hne (by omega)⟩,hf⟩
  have c0:W3.cell? ⟨W.heap.size,0,none⟩=some (.slice a us.length cap):=zab hB0 0
  have Hb3:=hide hb3
  have Hsz:=hide hsz
  have HB0:=hide hB0
  have HS3:=hide hS3
  have HB2:=hide hB2
  have Hx:=hide hx
  have Hu:=hide hu
  clear hb3 hsz hB0 hB1 hB2 hx hr hf hu hS3
  go_enter Tryz.func204,Tryz.ntmps204
  unfold zaf at hW3 ⊢
  go_wp2
  rw [← hW3]
  clear hW3
  try go_wp2
  go_loopw [14] (fun i wr=>∃ (k:Nat) (svk:Nat→SV),k≤us.length∧i=.int .i64 k∧zdr wr (W.heap.size+1) svk (narU z (us.take k) S)∧(∀ j,j<k→zkl z us S j≠[])∧ButB (W.heap.size+1) W3 wr) (fun i _=>us.length - (intOf i).toNat)
  case atStart=>exact ⟨0,sv,Nat.zero_le _,rfl,zaa HS3,fun j hj=>by omega,ButB.refl _ _⟩
  case round =>
    obtain ⟨k,svk,hk,rfl,hS,hL,hK⟩:=hrel
    by_cases hlt:k<us.length
    · have hkx:(k:Int)<(us.length:Int):=by omega
      obtain ⟨b,o,rfl,d0,d1⟩:=(zaa Hx) k hlt
      obtain ⟨ha4,hok⟩:=(zaa Hu) k hlt
      have hsucc:=yam z us S k hlt
      have hleft:zkl z us S k=(narU z (us.take (k+1)) S (us[k]?.getD (0,0)).1).rs:=rfl
      rw [hsucc] at hleft
      obtain ⟨⟨at',co⟩,hue⟩:∃ u,u=us[k]?.getD (0,0):=⟨_,rfl⟩
      rw [← hue] at d0 d1 ha4 hok hsucc hleft
      obtain ⟨T,hT⟩:∃ T,T=narU z (us.take k) S:=⟨_,rfl⟩
      rw [← hT] at hok hsucc hleft hS
      dsimp only at d0 d1 ha4 hok
      have hbl:=World.block_lt_of_cell? W _ d0
      have hwr:Below W.heap.size W wr:=hK.toBelow (zaa Hb3) (by omega)
      have d0':=(hwr.cell (p:=⟨b,o+k*2,none⟩) hbl).trans d0
      have d1':=(hwr.cell (p:=⟨b,o+k*2+1,none⟩) hbl).trans d1
      have hco:co≤3:=by have:=hok.cols;omega
      have hat:(at':Int)<4:=by omega
      have HS:=hide hS
      have HL:=hide hL
      have HK:=hide hK
      have Hok:=hide hok
      have Hsucc:=hide hsucc
      have Hleft:=hide hleft
      have Hwr:=hide hwr
      clear d0 d1 hS hL hK hok hsucc hleft hwr hue hT
      go_wp2_with fail
      obtain ⟨w4,hw4⟩:∃ w4,w4=wr.alloc (.cells #[.int .i64 (at':Nat),.int .i64 (co:Nat)] 357):=⟨_,rfl⟩
      rw [← hw4]
      have hb4:Below wr.heap.size wr w4:=by rw [hw4];exact (Below.refl _ _).alloc (Nat.le_refl _) _
      have hS4:zdr w4 (W.heap.size+1) svk (updN T at' (narK z 0 (T at'))):=by
        have:=(zaa HS).below hb4
        show zdr w4 (W.heap.size+1) svk (updN T at' (T at'))
        rw [zs1]
        exact this
      have hK4:=(zaa HK).below hb4
      have HS4:=hide hS4
      have HK4:=hide hK4
      clear hw4 hb4 hS4 hK4
      go_loopw [23] (fun i wi=>∃ (m:Nat) (svm:Nat→SV),m≤co∧i=.int .i64 m∧zdr wi (W.heap.size+1) svm (updN T at' (narK z m (T at')))∧ButB (W.heap.size+1) W3 wi) (fun i _=>co - (intOf i).toNat)
      case atStart=>exact ⟨0,svk,Nat.zero_le _,rfl,zaa HS4,zaa HK4⟩
      case round =>
        obtain ⟨m,svm,hm,rfl,hSm,hKm⟩:=hrel
        obtain ⟨t,ht⟩:∃ t,t=narK z m (T at'):=⟨_,rfl⟩
        have hts:nar1 z t=narK z (m+1) (T at'):=by rw [ht];rfl
        rw [← ht] at hSm
        have hrm:=hSm.runs at' ha4
        rw [zcf] at hrm
        obtain ⟨e0,e1⟩:=zae hSm.blk at' ha4
        rw [zcf] at e1
        have hlw:W.heap.size+3≤wr.heap.size:=by have h1:=zaa Hsz;have h2:=hKm.size;omega
        obtain ⟨x,hx⟩:∃ x,x=svm at':=⟨_,rfl⟩
        rw [← hx] at e0 hrm
        obtain ⟨xa,xn,xc⟩:=x
        dsimp only at e0
        by_cases hmc:m<co
        · have hmx:(m:Int)<(co:Int):=by omega
          have hok1:zb7 (co - m - 1+1) t:=by
            rw [ht]
            exact zb7.narK z m (by rw [show co - m - 1+1+m=co by omega];exact zaa Hok)
          have hso:∀ r∈t.rs,zbc t.c r:=fun r hr=>(hok1.lex r hr).1
          have hc3:t.c<3:=by have:=hok1.cols;omega
          have hok2:=hok1.nar1 z
          have Hso:=hide hso
          have Hlen:=hide hok1.len
          have Hcnt:=hide hok1.cnt
          have Hfull:=hide hok2.full
          have Hrm:Hid (zau wr (.slice xa xn xc) t.rs):=hide hrm
          have HSm:=hide hSm
          have HKm:=hide hKm
          have Hts:=hide hts
          clear hso hok1 hok2 hrm hSm hKm hts ht hx
          go_wp2_with (first
            | (go_at_call 200;refine (zoh t.rs t.c z (.slice xa xn xc) wr (zaa Hrm) (zaa Hso) hc3 (zaa Hlen) (zaa Hcnt)).mono ?_;rintro e w5 ⟨sv5,rfl,hr5,hb5,hown⟩
               have hS5:=(zaa HSm).below hb5
               have hK5:=(zaa HKm).below hb5
               obtain ⟨g0,g1⟩:=zae hS5.blk at' ha4
               have f0:w5.frozen? ⟨W.heap.size+1,at'*2,none⟩=false:=zac hS5.blk _
               have f1:w5.frozen? ⟨W.heap.size+1,at'*2+1,none⟩=false:=zac hS5.blk _
               have hr6:=hr5
               obtain ⟨a5,cap5,rfl,_⟩:=hr5
               have Hr6:=hide hr6
               have Hown:=hide hown
               have HS5:=hide hS5
               have HK5:=hide hK5
               clear hr6 hown hS5 hK5 hb5))
          have hcast:((nar1 z t).c:Int)=(t.c:Int)+1:=by simp [nar1]
          have hput:=(zaa HS5).put ha4 ⟨a5,(zcp t.c z t.rs).length,cap5⟩ (nar1 z t) (zaa Hr6) (fun _=>⟨fun e=>by have:=(zaa Hown) _ e;omega,fun e=>by have:=(zaa Hown) _ e;omega⟩) (zaa Hfull)
          rw [zrd,zaa Hts,← zaa Hts,hcast,zaa Hts] at hput
          exact ⟨⟨m+1,_,by omega,by simp,hput,((zaa HK5).set _ _).set _ _⟩,by simp [intOf];omega⟩
        · have hke:m=co:=by omega
          have hxn:xn=t.rs.length:=by
            obtain ⟨_,_,e,_⟩:=hrm
            exact (Value.slice.inj e).2.1
          have Hrm:=hide hrm
          have HSm:=hide hSm
          have HKm:=hide hKm
          have Ht:=hide ht
          have Hxn:=hide hxn
          have Hke:=hide hke
          have hmx:¬ (m:Int)<(co:Int):=by omega
          clear hrm hSm hKm hts ht hx hxn hke
          go_wp2_with fail
          refine (zrf xa xn xc t.c wr).mono ?_
          rintro e w6 ⟨rfl,hb6⟩
          dsimp only
          have hS6:=(zaa HSm).below hb6
          have hK6:=(zaa HKm).below hb6
          have hleft:zkl z us S k=t.rs:=by
            rw [zaa Hleft,zaa Ht,zaa Hke]
            show (updN T at' (narK z co (T at')) at').rs=_
            rw [zcf]
          clear hb6
          by_cases hz:xn=0
          · rw [show decide (xn=0)=true by simp [hz]]
            have hte:t.rs=[]:=List.length_eq_zero_iff.1 ((zaa Hxn).symm.trans hz)
            have hfl:zff z us S=false:=zu0 hlt (hleft.trans hte)
            have hB2r:w6.heap[W.heap.size+2]? = _:=(hK6.blk (W.heap.size+2) (by have:=zaa Hsz;omega) (by omega)).trans (zaa HB2)
            have p0:w6.cell? ⟨W.heap.size+1,0,none⟩=some _:=(zae hS6.blk 0 (by omega)).1
            have p1:w6.cell? ⟨W.heap.size+1,1,none⟩=some _:=(zae hS6.blk 0 (by omega)).2
            have p2:w6.cell? ⟨W.heap.size+1,2,none⟩=some _:=(zae hS6.blk 1 (by omega)).1
            have p3:w6.cell? ⟨W.heap.size+1,3,none⟩=some _:=(zae hS6.blk 1 (by omega)).2
            have p4:w6.cell? ⟨W.heap.size+1,4,none⟩=some _:=(zae hS6.blk 2 (by omega)).1
            have p5:w6.cell? ⟨W.heap.size+1,5,none⟩=some _:=(zae hS6.blk 2 (by omega)).2
            have p6:w6.cell? ⟨W.heap.size+1,6,none⟩=some _:=(zae hS6.blk 3 (by omega)).1
            have p7:w6.cell? ⟨W.heap.size+1,7,none⟩=some _:=(zae hS6.blk 3 (by omega)).2
            have q0:w6.cell? ⟨W.heap.size+2,0,none⟩=some _:=zab hB2r 0
            have r0:w6.frozen? ⟨W.heap.size+2,0,none⟩=false:=zac hB2r 0
            have q1:w6.cell? ⟨W.heap.size+2,1,none⟩=some _:=zab hB2r 1
            have r1:w6.frozen? ⟨W.heap.size+2,1,none⟩=false:=zac hB2r 1
            have q2:w6.cell? ⟨W.heap.size+2,2,none⟩=some _:=zab hB2r 2
            have r2:w6.frozen? ⟨W.heap.size+2,2,none⟩=false:=zac hB2r 2
            have q3:w6.cell? ⟨W.heap.size+2,3,none⟩=some _:=zab hB2r 3
            have r3:w6.frozen? ⟨W.heap.size+2,3,none⟩=false:=zac hB2r 3
            have q4:w6.cell? ⟨W.heap.size+2,4,none⟩=some _:=zab hB2r 4
            have r4:w6.frozen? ⟨W.heap.size+2,4,none⟩=false:=zac hB2r 4
            have q5:w6.cell? ⟨W.heap.size+2,5,none⟩=some _:=zab hB2r 5
            have r5:w6.frozen? ⟨W.heap.size+2,5,none⟩=false:=zac hB2r 5
            have q6:w6.cell? ⟨W.heap.size+2,6,none⟩=some _:=zab hB2r 6
            have r6:w6.frozen? ⟨W.heap.size+2,6,none⟩=false:=zac hB2r 6
            have q7:w6.cell? ⟨W.heap.size+2,7,none⟩=some _:=zab hB2r 7
            have r7:w6.frozen? ⟨W.heap.size+2,7,none⟩=false:=zac hB2r 7
            have hbw:=hK6.toBelow (zaa Hb3) (by omega)
            have Hbw:=hide hbw
            have Hfl:=hide hfl
            clear hS6 hK6 hB2r hbw hfl hleft hte
            go_wp2
            refine bodyPost_ret (v:=.tuple #[.agg (zaf svm (fun i=>((updN T at' t i).c:Int))),.bool false]) (by simp [results,Tryz.results204,go_sem,zaf,p0,q0,r0,p1,q1,r1,p2,q2,r2,p3,q3,r3,p4,q4,r4,p5,q5,r5,p6,q6,r6,p7,q7,r7]) rfl ⟨svm,(fun i=>((updN T at' t i).c:Int)),by rw [zaa Hfl];rfl,?_,fun e=>?_⟩
            · iterate 8 refine zbk ?_ (by omega) _ _
              exact zaa Hbw
            rw [zaa Hfl] at e
            cases e
          · rw [show decide (xn=0)=false by simp [hz]]
            have hne:t.rs≠[]:=fun e=>hz ((zaa Hxn).trans (by rw [e];rfl))
            have HS6:=hide hS6
            have HK6:=hide hK6
            have Hle:=hide hleft
            have Hne:=hide hne
            clear hS6 hK6 hleft hne
            go_wp2
            refine ⟨⟨k+1,svm,by omega,by simp,?_,?_,zaa HK6⟩,by simp [intOf];omega⟩
            · rw [zaa Hsucc]
              show zdr w6 _ svm (updN T at' (narK z co (T at')))
              rw [← zaa Hke,← zaa Ht]
              exact zaa HS6
            · intro j hj
              by_cases hjk:j<k
              · exact (zaa HL) j hjk
              · have:j=k:=by omega
                subst this
                rw [zaa Hle]
                exact zaa Hne
    · have hke:k=us.length:=by omega
      subst hke
      rw [List.take_length] at hS
      have htr:=zwh hL
      have hB2r:wr.heap[W.heap.size+2]? = _:=(hK.blk (W.heap.size+2) (by have:=zaa Hsz;omega) (by omega)).trans (zaa HB2)
      have p0:wr.cell? ⟨W.heap.size+1,0,none⟩=some _:=(zae hS.blk 0 (by omega)).1
      have p1:wr.cell? ⟨W.heap.size+1,1,none⟩=some _:=(zae hS.blk 0 (by omega)).2
      have p2:wr.cell? ⟨W.heap.size+1,2,none⟩=some _:=(zae hS.blk 1 (by omega)).1
      have p3:wr.cell? ⟨W.heap.size+1,3,none⟩=some _:=(zae hS.blk 1 (by omega)).2
      have p4:wr.cell? ⟨W.heap.size+1,4,none⟩=some _:=(zae hS.blk 2 (by omega)).1
      have p5:wr.cell? ⟨W.heap.size+1,5,none⟩=some _:=(zae hS.blk 2 (by omega)).2
      have p6:wr.cell? ⟨W.heap.size+1,6,none⟩=some _:=(zae hS.blk 3 (by omega)).1
      have p7:wr.cell? ⟨W.heap.size+1,7,none⟩=some _:=(zae hS.blk 3 (by omega)).2
      have q0:wr.cell? ⟨W.heap.size+2,0,none⟩=some _:=zab hB2r 0
      have r0:wr.frozen? ⟨W.heap.size+2,0,none⟩=false:=zac hB2r 0
      have q1:wr.cell? ⟨W.heap.size+2,1,none⟩=some _:=zab hB2r 1
      have r1:wr.frozen? ⟨W.heap.size+2,1,none⟩=false:=zac hB2r 1
      have q2:wr.cell? ⟨W.heap.size+2,2,none⟩=some _:=zab hB2r 2
      have r2:wr.frozen? ⟨W.heap.size+2,2,none⟩=false:=zac hB2r 2
      have q3:wr.cell? ⟨W.heap.size+2,3,none⟩=some _:=zab hB2r 3
      have r3:wr.frozen? ⟨W.heap.size+2,3,none⟩=false:=zac hB2r 3
      have q4:wr.cell? ⟨W.heap.size+2,4,none⟩=some _:=zab hB2r 4
      have r4:wr.frozen? ⟨W.heap.size+2,4,none⟩=false:=zac hB2r 4
      have q5:wr.cell? ⟨W.heap.size+2,5,none⟩=some _:=zab hB2r 5
      have r5:wr.frozen? ⟨W.heap.size+2,5,none⟩=false:=zac hB2r 5
      have q6:wr.cell? ⟨W.heap.size+2,6,none⟩=some _:=zab hB2r 6
      have r6:wr.frozen? ⟨W.heap.size+2,6,none⟩=false:=zac hB2r 6
      have q7:wr.cell? ⟨W.heap.size+2,7,none⟩=some _:=zab hB2r 7
      have r7:wr.frozen? ⟨W.heap.size+2,7,none⟩=false:=zac hB2r 7
      have hbw:=hK.toBelow (zaa Hb3) (by omega)
      have Hbw:=hide hbw
      have Htr:=hide htr
      have HS:=hide hS
      have HB2r:=hide hB2r
      clear hS hK hB2r hbw htr hL
      go_wp2
      refine bodyPost_ret (v:=.tuple #[.agg (zaf svk (fun i=>((narU z us S i).c:Int))),.bool true]) (by simp [results,Tryz.results204,go_sem,zaf,p0,q0,r0,p1,q1,r1,p2,q2,r2,p3,q3,r3,p4,q4,r4,p5,q5,r5,p6,q6,r6,p7,q7,r7]) rfl ⟨svk,(fun i=>((narU z us S i).c:Int)),by rw [zaa Htr];rfl,?_,fun _=>⟨rfl,fun i hi=>?_⟩⟩
      · iterate 8 refine zbk ?_ (by omega) _ _
        exact zaa Hbw
      refine ((zaa HS).runs i hi).aside (zaa HB2r) ((zaa HS).full i hi) (fun e=>((zaa HS).off i hi e).2) (fun q hq=>?_)
      iterate 8 refine (Below.heap_setCell _ _ _ q (fun e=>hq e)).trans ?_
      rfl
end Go.Proofs.YtoifcnidhfnapaaGreatDoor
