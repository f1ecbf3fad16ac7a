import Derived.Test.YtoifcnidhfnapaaGreatDoorB30
set_option linter.unusedVariables false
set_option linter.unusedSimpArgs false
set_option maxRecDepth 100000
set_option maxHeartbeats 16000000
namespace Go.Proofs.YtoifcnidhfnapaaGreatDoor
open Go.RowKit Go.Maps Go.Sort Go.Shelf
theorem zo0 {w:World} {base PB:Nat} (H:List Nat) (A:List (List Trm)) (vs:List Nat) (hb:base≤PB) (h:w.heap[PB]? = some (.cells #[.slice none 0 0,.slice none 0 0,.slice none 0 0] 265 (0,0))):zd8 w base PB H A [] [] vs []:=
  ⟨hb,.slice none 0 0,.slice none 0 0,.slice none 0 0,[],[],h,World.ownsRow_nil _ _ _ _,World.ownsRow_nil _ _ _ _,⟨rfl,fun i hi=>by simp at hi⟩,World.ownsRow_nil _ _ _ _,⟨rfl,fun i hi=>by simp at hi⟩⟩
theorem ztx {s:ByteArray} {k:Nat} (h:k<s.size):(zaz s)[k]?.getD 0=s[k].toNat:=by
  have h':k<s.data.size:=h
  unfold zaz
  rw [List.getElem?_map,Array.getElem?_toList,Array.getElem?_eq_getElem h']
  rfl
theorem ylx (a b:ByteArray):(a.toList == b.toList)=decide (a=b):=by
  rw [ByteArray.toList_eq,ByteArray.toList_eq]
  by_cases h:a=b
  · simp [h]
  · have:a.data.toList≠b.data.toList:=fun e=>h (by cases a;cases b;simp at e;rw [e])
    simp only [h,decide_false]
    exact beq_false_of_ne this
section
attribute [local go_sem ↓] zhb
theorem zxi (QB:Nat) (H:List (Nat×Nat)) (B:List zbb) (o0:ByteArray) (W:World) (hQ:zii W QB H B) (hO:zpt H B) (hnm:∀ a∈B,a.nm.size≤1000) (hord:o0=⟨#[]⟩∨(zaz o0).Perm (zbl (B.map (·.ts)))) :
    Calls Tryz.prog 105 #[.pointer (some ⟨QB,0,none⟩),.string o0] W fun e w'=>∃ PB vs,e=.returned (.pointer (some ⟨PB,0,none⟩))∧vs.Perm (zbl (B.map (·.ts)))∧zd8 w' W.heap.size PB (H.map (·.1)) (B.map (·.ts)) B B vs vs∧Below W.heap.size W w':=by
  obtain ⟨hdv,bv,hblk,_,hbody⟩:=hQ.blk
  obtain ⟨ba,bcap,rfl,hb⟩:=hbody
  have hB4:=hO.b4
  have hvl:(zbl (B.map (·.ts))).length≤12:=by
    have h1:=zlm (B.map (·.ts)) (fun ts hts=>by obtain ⟨a,ha,rfl⟩:=List.mem_map.1 hts;exact hO.t3 a ha)
    simp at h1
    omega
  have hltv:∀ v∈zbl (B.map (·.ts)),v<256:=zzq fun ts hts t ht=>by
    obtain ⟨a,ha,rfl⟩:=List.mem_map.1 hts
    exact hO.tl a ha t ht
  have Hb:=zac hb
  have HO:=zac hO
  have HQ:=zac hQ
  have Hblk:=zac hblk
  have Hnm:=zac hnm
  clear hb hO hblk hnm
  by_cases ho:o0=⟨#[]⟩
  · subst ho
    have hcho:=zn9 QB H B W hQ (zaa HO)
    have Hcho:=zac hcho
    clear hcho hQ hord
    obtain ⟨o,hoe⟩:∃ o,o=zzm (zt0 (B.map (·.ts))):=⟨_,rfl⟩
    have hvo:zaz o=zt0 (B.map (·.ts)):=by rw [hoe];exact zwm fun x hx=>hltv x ((zoa _).mem_iff.1 hx)
    have hpm:(zaz o).Perm (zbl (B.map (·.ts))):=by rw [hvo];exact zoa _
    rw [← hoe] at Hcho
    clear hoe hvo
    have hol:o.size≤12:=by rw [← zbx,hpm.length_eq];exact hvl
    have Hpm:=zac hpm
    clear hpm
    go_enter Tryz.func105,Tryz.ntmps105
    go_wp2_with (first|(go_at_call 150;fail))
    refine (zaa Hcho).mono ?_
    rintro e w0 ⟨rfl,hb0⟩
    have hblk0:=zan hb0 (zaa Hblk)
    have c1:w0.cell? ⟨QB,1,none⟩=some (.slice ba B.length bcap):=zab hblk0 1
    clear hblk0
    obtain ⟨vs,hvs⟩:∃ vs,vs=zaz o:=⟨_,rfl⟩
    obtain ⟨w1,hw1⟩:∃ w1,w1=w0.alloc (.cells #[.slice none 0 0,.slice none 0 0,.slice none 0 0] 265):=⟨_,rfl⟩
    have hb1:Below W.heap.size W w1:=by rw [hw1];exact hb0.alloc hb0.size _
    obtain ⟨PB,hPBe⟩:∃ PB,PB=w0.heap.size:=⟨_,rfl⟩
    have hP1:zd8 w1 W.heap.size PB (H.map (·.1)) (B.map (·.ts)) (B.take 0) (B.take 0) vs []:=zo0 _ _ _ (by rw [hPBe];exact hb0.size) (by rw [hw1,hPBe];exact zae _ _ _ rfl)
    have HP1:=zac hP1
    have Hb1:=zac hb1
    have Hvs:=zac hvs
    have Hbe:=zac hPBe
    clear hP1 hb1 hvs hb0
    have c1':w1.cell? ⟨QB,1,none⟩=some (.slice ba B.length bcap):=by rw [hw1];exact (Below.cell ((Below.refl _ w0).alloc (Nat.le_refl _) _) (World.block_lt_of_cell? w0 _ c1)).trans c1
    rw [hw1] at c1'
    go_wp2
    rw [← hw1,← hPBe]
    clear hw1 hPBe c1 c1'
    try go_wp2
    go_loopw [20] (fun i wr=>∃ k:Nat,k≤B.length∧i=.int .i64 k∧zd8 wr W.heap.size PB (H.map (·.1)) (B.map (·.ts)) (B.take k) (B.take k) vs []∧Below W.heap.size W wr) (fun i _=>B.length - (intOf i).toNat)
    case atStart=>exact ⟨0,Nat.zero_le _,rfl,zaa HP1,zaa Hb1⟩
    case round =>
      obtain ⟨k,hk,rfl,hP,hlow⟩:=hrel
      by_cases hlt:k<B.length
      · have hkx:(k:Int)<(B.length:Int):=by omega
        obtain ⟨b,o_,tv,rfl,d0,d1,d2,dt⟩:=(zaa Hb) k hlt
        have hbl:b<W.heap.size:=World.block_lt_of_cell? W _ d0
        have e0:=(hlow.cell (p:=⟨b,o_+k*3,none⟩) hbl).trans d0
        have e1:=(hlow.cell (p:=⟨b,o_+k*3+1,none⟩) hbl).trans d1
        have e2:=(hlow.cell (p:=⟨b,o_+k*3+2,none⟩) hbl).trans d2
        have hmem:B[k]?.getD zat∈B:=by simp [hlt]
        obtain ⟨at_,hat⟩:∃ at_,at_=B[k]?.getD zat:=⟨_,rfl⟩
        have htk:B.take (k+1)=B.take k ++ [at_]:=by rw [List.take_succ_eq_append_getElem hlt,hat];simp [hlt]
        have hkl:(B.take k).length=k:=by simp;omega
        rw [← hat] at e0 e1 dt hmem
        have ht3:=(zaa HO).t3 _ hmem
        have htl:=(zaa HO).tl _ hmem
        have hnm:=(zaa Hnm) _ hmem
        have hall:∀ j,j<at_.ts.length→zb4 at_.ts j≠0→zb4 at_.ts j∈zaz o:=fun j hj h0=>(zaa Hpm).mem_iff.2 (zdm.2 ⟨h0,ze1.2 ⟨at_.ts,List.mem_map.2 ⟨at_,hmem,rfl⟩,at_.ts[j]?.getD (0,0),by simp [hj],rfl⟩⟩)
        have hord:=zv7.of_perm (zaa Hpm)
        obtain ⟨nm,pl,ts⟩:=at_
        dsimp only at *
        obtain ⟨ta,tcap,rfl,_⟩:=id dt
        have hkey:=fun W' (h:Below W.heap.size W W')=>zup nm o pl (.slice ta ts.length tcap) ts W' (dt.below h) ht3 htl hnm hord.nd hord.nz hall
        have hnum:=fun W' (h:Below W.heap.size W W')=>zk6 nm pl (.slice ta ts.length tcap) ts W' (dt.below h) ht3 htl
        obtain ⟨wA,hwA⟩:∃ wA,wA=wr.alloc (.cells #[.string nm,.int .i64 pl,.slice ta ts.length tcap] 268):=⟨_,rfl⟩
        have hbA:Below wr.heap.size wr wA:=by rw [hwA];exact (Below.refl _ _).alloc (Nat.le_refl _) _
        have hbl:=hlow.trans (hbA.mono hlow.size)
        have hPA:=hP.below hbA
        have gA:wA.heap[wr.heap.size]? = some (.cells #[.string nm,.int .i64 pl,.slice ta ts.length tcap] 268 (0,0)):=by rw [hwA];exact zae _ _ _ rfl
        have a0:wA.cell? ⟨wr.heap.size,0,none⟩=some (.string nm):=zab gA 0
        have a1:wA.cell? ⟨wr.heap.size,1,none⟩=some (.int .i64 pl):=zab gA 1
        have a2:wA.cell? ⟨wr.heap.size,2,none⟩=some (.slice ta ts.length tcap):=zab gA 2
        obtain ⟨kv,nv,sv,nvals,svals,hPBA,hkr,_⟩:=hPA.ex
        obtain ⟨ka,kc,rfl,_⟩:=zak hkr
        rw [hkl] at hPBA
        have p0:wA.cell? ⟨PB,0,none⟩=some (.slice ka k kc):=zab hPBA 0
        have hsA:=hlow.size
        have Hkey:=zac hkey
        have Hnum:=zac hnum
        have Hbl:=zac hbl
        have HPA:=zac hPA
        have GA:=zac gA
        have HPB:=zac hPBA
        have Htk:=zac htk
        have Hkl:=zac hkl
        have Hord:=zac hord
        clear hkey hnum hbl hPA gA hPBA htk hkl hP hlow hall htl d0 d1 d2 dt hat hmem hord hkr hbA
        rw [hwA] at a0 a1 a2 p0
        go_wp2_with fail
        rw [← hwA]
        rw [← hwA] at a0 a1 a2 p0
        clear hwA e0 e1 e2
        go_region_with (first
          | (go_at_call 151
             refine ((zaa Hkey) _ ?_).mono ?_
             · exact (zaa Hbl).trans (zav _ _)
             rintro e wB ⟨c0,c1,c2,rfl,hcols,hbB⟩
             rw [← zaa Hvs] at hcols
             have hbAB:Below wA.heap.size wA wB:=(zav _ _).trans hbB
             have hPBB:=zan hbAB (zaa HPB)
             have hPl:=(zaa HPA).below hbAB
             obtain ⟨g',cap',wC,hap,hPC,hkC,hbC,hPl2⟩:=hPl.key hPBB (Nat.le_trans (zaa Hbl).size hbAB.size) (a:=⟨nm,pl,ts⟩) hcols (by rw [zaa Hkl];omega)
             rw [zaa Hkl] at hap hPl2
             have q0:wB.cell? ⟨PB,0,none⟩=some (.slice ka k kc):=zab hPBB 0
             have q1:(wB.alloc (.cells #[.string nm,.int .i64 c0,.int .i64 c1,.int .i64 c2] 96)).cell? ⟨PB,0,none⟩=some (.slice ka k kc):=zab ((Below.heap_alloc _ _ _ (Array.getElem?_eq_some_iff.1 hPBB).1).trans hPBB) 0
             have q2:wC.cell? ⟨PB,0,none⟩=some (.slice ka k kc):=zab hPC 0
             have q3:wC.frozen? ⟨PB,0,none⟩=false:=zad hPC 0
             have Hfin:=zac (And.intro hPl2 (And.intro hPC (And.intro hkC (And.intro hbC hbAB))))
             clear hPl2 hPC hkC hbC hbAB hbB hPl hPBB hcols))
        all_goals
          obtain ⟨hPl2,hPC,hkC,hbC,hbAB⟩:=zaa Hfin
          have gC:=hkC _ _ _ (zan hbAB (zaa GA)) (by decide)
          have hne:wr.heap.size≠PB:=fun e=>by rw [e] at gC;rw [hPC] at gC;simp at gC
          obtain ⟨wD,hwD⟩:∃ wD,wD=wC.setCell ⟨PB,0,none⟩ (.slice (some ⟨g',0,none⟩) (k+1) cap'):=⟨_,rfl⟩
          have hCD:=zai wC PB 0 (.slice (some ⟨g',0,none⟩) (k+1) cap')
          rw [← hwD] at hPl2 hCD ⊢
          have gD:wD.heap[wr.heap.size]? = some (.cells #[.string nm,.int .i64 pl,.slice ta ts.length tcap] 268 (0,0)):=(hCD.block _ (Array.getElem?_eq_some_iff.1 gC).1 (fun e=>hne (Option.some.inj e))).trans gC
          have hszC:=hbC.size
          have hszB:=hbAB.size
          have hbD:Below W.heap.size W wD:=((zaa Hbl).trans ((hbAB.mono (zaa Hbl).size).trans (hbC.mono (Nat.le_refl _)))).grown hCD (by have:=(zaa Hbl).size;omega) (fun q hq=>by injection hq with hq;rw [← hq];exact hPl2.at_)
          have b0:wD.cell? ⟨wr.heap.size,0,none⟩=some (.string nm):=zab gD 0
          have b1:wD.cell? ⟨wr.heap.size,1,none⟩=some (.int .i64 pl):=zab gD 1
          have b2:wD.cell? ⟨wr.heap.size,2,none⟩=some (.slice ta ts.length tcap):=zab gD 2
          obtain ⟨kv2,nv2,sv2,nvals2,svals2,hPBD,_,hnr,_⟩:=hPl2.ex
          obtain ⟨na,nc,rfl,_⟩:=zak hnr
          rw [zaa Hkl] at hPBD
          have r0:wD.cell? ⟨PB,1,none⟩=some (.slice na k nc):=zab hPBD 1
          have HbD:=zac hbD
          have HPl2:=zac hPl2
          have HPBD:=zac hPBD
          clear hPl2 hPC hkC hbC hbAB gC gD hbD hPBD hwD hnr Hfin a0 a1 a2 p0 q0 q1 q2 q3 hap hszC hszB hCD
          go_wp2_with fail
          go_region_with (first
            | (go_at_call 152
               refine ((zaa Hnum) _ ?_).mono ?_
               · exact (zaa HbD).trans (zav _ _)
               rintro e wE ⟨vv,rfl,hvo,hbE⟩
               have hbDE:Below wD.heap.size wD wE:=(zav _ _).trans hbE
               have hPBE:=zan hbDE (zaa HPBD)
               have hPl3:=(zaa HPl2).below hbDE
               have hvo':=zfd hvo (zaa HbD).size
               obtain ⟨va,vc,rfl,_⟩:=zak hvo
               obtain ⟨g2,cap2,wF,hap2,hPF,hkF,hbF,hPl4⟩:=hPl3.num hPBE (Nat.le_trans (zaa HbD).size hbDE.size) (a:=⟨nm,pl,ts⟩) hvo' (by rw [zaa Hkl];omega)
               rw [zaa Hkl] at hap2 hPl4
               have s0:wE.cell? ⟨PB,1,none⟩=some (.slice na k nc):=zab hPBE 1
               have s1:(wE.alloc (.cells #[.slice va (zcr ts).length vc] 41)).cell? ⟨PB,1,none⟩=some (.slice na k nc):=zab ((Below.heap_alloc _ _ _ (Array.getElem?_eq_some_iff.1 hPBE).1).trans hPBE) 1
               have s2:wF.cell? ⟨PB,1,none⟩=some (.slice na k nc):=zab hPF 1
               have s3:wF.frozen? ⟨PB,1,none⟩=false:=zad hPF 1
               have Hfin:=zac (And.intro hPl4 (And.intro hbF hbDE))
               clear hPl4 hPF hkF hbF hbDE hbE hPl3 hPBE hvo hvo'))
          all_goals
            obtain ⟨hPl4,hbF,hbDE⟩:=zaa Hfin
            have hCF:=zai wF PB 1 (.slice (some ⟨g2,0,none⟩) (k+1) cap2)
            have hszF:=hbF.size
            have hszE:=hbDE.size
            have hbG:Below W.heap.size W (wF.setCell ⟨PB,1,none⟩ (.slice (some ⟨g2,0,none⟩) (k+1) cap2)):=((zaa HbD).trans ((hbDE.mono (zaa HbD).size).trans (hbF.mono (Nat.le_refl _)))).grown hCF (by have:=(zaa HbD).size;omega) (fun q hq=>by injection hq with hq;rw [← hq];exact hPl4.at_)
            have Hrel:=zac (And.intro hPl4 hbG)
            clear hPl4 hbF hbDE hCF hbG Hfin s0 s1 s2 s3 hap2 r0 b0 b1 b2
            go_wp2
            go_roundw
            case rel=>exact ⟨k+1,by omega,by go_num,by rw [zaa Htk];exact (zaa Hrel).1,(zaa Hrel).2⟩
            case measure=>simp [intOf];omega
      · have hke:k=B.length:=by omega
        subst hke
        have hkx:¬ (B.length:Int)<(B.length:Int):=by omega
        rw [List.take_length] at hP
        have HP:=zac hP
        have Hlow:=zac hlow
        clear hP hlow
        go_wp2
        go_loopw [50] (fun i wr=>∃ k:Nat,k≤o.size∧i=.int .i64 k∧zd8 wr W.heap.size PB (H.map (·.1)) (B.map (·.ts)) B B vs (vs.take k)∧Below W.heap.size W wr) (fun i _=>o.size - (intOf i).toNat)
        case atStart=>exact ⟨0,Nat.zero_le _,rfl,zaa HP,zaa Hlow⟩
        case round =>
          obtain ⟨k,hk2,rfl,hP,hlow⟩:=hrel
          have hvsl:vs.length=o.size:=by rw [zaa Hvs];exact zbx o
          by_cases hlt2:k<o.size
          · have hkz:(k:Int)<(o.size:Int):=by omega
            obtain ⟨x,hx⟩:∃ x,x=o[k].toNat:=⟨_,rfl⟩
            have hxv:vs[k]?.getD 0=x:=by rw [zaa Hvs,ztx hlt2,hx]
            have htk:vs.take (k+1)=vs.take k ++ [x]:=by rw [List.take_succ_eq_append_getElem (by omega),← hxv];simp [hvsl,hlt2]
            have hkl:(vs.take k).length=k:=by simp;omega
            have hx256:x<256:=by rw [hx];exact UInt8.toNat_lt _
            have hstp:=fun W' (h:Below W.heap.size W W')=>zra QB x H B W' ((zaa HQ).below h) (zaa HO) hx256
            obtain ⟨kv,nv,sv,nvals,svals,hPBA,_,_,_,hsr,_⟩:=hP.ex
            obtain ⟨sa,sc,rfl,_⟩:=zak hsr
            rw [hkl] at hPBA
            have p0:wr.cell? ⟨PB,2,none⟩=some (.slice sa k sc):=zab hPBA 2
            have Hstp:=zac hstp
            have Hlow2:=zac hlow
            have HP2:=zac hP
            have HPB:=zac hPBA
            have Htk:=zac htk
            have Hkl:=zac hkl
            clear hstp hlow hP hPBA htk hkl hsr hxv hvsl
            have hxo:(o[k].toNat:Int)=(x:Int):=by rw [hx]
            clear hx
            go_wp2_with fail
            go_region_with (first
              | (go_at_call 153
                 refine ((zaa Hstp) _ ?_).mono ?_
                 · exact (zaa Hlow2).trans (zav _ _)
                 rintro e wE ⟨uv,pv,rfl,huo,hpo,hbE⟩
                 have hbDE:Below wr.heap.size wr wE:=(zav _ _).trans hbE
                 have hPBE:=zan hbDE (zaa HPB)
                 have hPl3:=(zaa HP2).below hbDE
                 have huo':=zfd huo (zaa Hlow2).size
                 have hpo':=zfd hpo (zaa Hlow2).size
                 obtain ⟨ua,uc,rfl,_⟩:=zak huo
                 obtain ⟨va,vc,rfl,_⟩:=zak hpo
                 obtain ⟨g2,cap2,wF,hap2,hPF,hkF,hbF,hPl4⟩:=hPl3.stp hPBE (Nat.le_trans (zaa Hlow2).size hbDE.size) (x:=x) huo' hpo' (by rw [zaa Hkl];omega)
                 rw [zaa Hkl] at hap2 hPl4
                 have s0:wE.cell? ⟨PB,2,none⟩=some (.slice sa k sc):=zab hPBE 2
                 have s1:(wE.alloc (.cells #[.slice ua (zci (B.map (·.ts)) x).length uc,.slice va (zbq (H.map (·.1)) x).length vc] 273)).cell? ⟨PB,2,none⟩=some (.slice sa k sc):=zab ((Below.heap_alloc _ _ _ (Array.getElem?_eq_some_iff.1 hPBE).1).trans hPBE) 2
                 have s2:wF.cell? ⟨PB,2,none⟩=some (.slice sa k sc):=zab hPF 2
                 have s3:wF.frozen? ⟨PB,2,none⟩=false:=zad hPF 2
                 have Hfin:=zac (And.intro hPl4 (And.intro hbF hbDE))
                 clear hPl4 hPF hkF hbF hbDE hbE hPl3 hPBE huo huo' hpo hpo'))
            all_goals
              obtain ⟨hPl4,hbF,hbDE⟩:=zaa Hfin
              have hCF:=zai wF PB 2 (.slice (some ⟨g2,0,none⟩) (k+1) cap2)
              have hszF:=hbF.size
              have hszE:=hbDE.size
              have hbG:Below W.heap.size W (wF.setCell ⟨PB,2,none⟩ (.slice (some ⟨g2,0,none⟩) (k+1) cap2)):=((zaa Hlow2).trans ((hbDE.mono (zaa Hlow2).size).trans (hbF.mono (Nat.le_refl _)))).grown hCF (by have:=(zaa Hlow2).size;omega) (fun q hq=>by injection hq with hq;rw [← hq];exact hPl4.at_)
              have Hrel:=zac (And.intro hPl4 hbG)
              clear hPl4 hbF hbDE hCF hbG Hfin s0 s1 s2 s3 hap2 p0
              go_wp2
              go_roundw
              case rel=>exact ⟨k+1,by omega,by go_num,by rw [zaa Htk];exact (zaa Hrel).1,(zaa Hrel).2⟩
              case measure=>simp [intOf];omega
          · have hke:k=o.size:=by omega
            subst hke
            rw [List.take_of_length_le (by omega)] at hP
            have HP2:=zac hP
            have Hlow2:=zac hlow
            have hpv:vs.Perm (zbl (B.map (·.ts))):=by rw [zaa Hvs];exact zaa Hpm
            have Hpv:=zac hpv
            clear hP hlow hvsl hpv
            go_wp2
            go_ret
            exact ⟨PB,vs,rfl,zaa Hpv,zaa HP2,zaa Hlow2⟩
  · have hpm:=hord.resolve_left ho
    have hoz:(o0.toList == ([]:List UInt8))=false:=by
      have h1:=ylx o0 ⟨#[]⟩
      rw [decide_eq_false ho,show (⟨#[]⟩:ByteArray).toList=[] by simp [ByteArray.toList_eq]] at h1
      exact h1
    obtain ⟨o,hoe⟩:∃ o,o=o0:=⟨_,rfl⟩
    subst hoe
    have hb0:Below W.heap.size W W:=Below.refl _ _
    have c1:W.cell? ⟨QB,1,none⟩=some (.slice ba B.length bcap):=zab (zaa Hblk) 1
    have hol:o.size≤12:=by rw [← zbx,hpm.length_eq];exact hvl
    have Hpm:=zac hpm
    clear hpm hord hQ ho
    go_enter Tryz.func105,Tryz.ntmps105
    obtain ⟨vs,hvs⟩:∃ vs,vs=zaz o:=⟨_,rfl⟩
    obtain ⟨w1,hw1⟩:∃ w1,w1=W.alloc (.cells #[.slice none 0 0,.slice none 0 0,.slice none 0 0] 265):=⟨_,rfl⟩
    have hb1:Below W.heap.size W w1:=by rw [hw1];exact hb0.alloc hb0.size _
    obtain ⟨PB,hPBe⟩:∃ PB,PB=W.heap.size:=⟨_,rfl⟩
    have hP1:zd8 w1 W.heap.size PB (H.map (·.1)) (B.map (·.ts)) (B.take 0) (B.take 0) vs []:=zo0 _ _ _ (by rw [hPBe];exact hb0.size) (by rw [hw1,hPBe];exact zae _ _ _ rfl)
    have HP1:=zac hP1
    have Hb1:=zac hb1
    have Hvs:=zac hvs
    have Hbe:=zac hPBe
    clear hP1 hb1 hvs hb0
    have c1':w1.cell? ⟨QB,1,none⟩=some (.slice ba B.length bcap):=by rw [hw1];exact (Below.cell ((Below.refl _ W).alloc (Nat.le_refl _) _) (World.block_lt_of_cell? W _ c1)).trans c1
    rw [hw1] at c1'
    go_wp2
    rw [← hw1,← hPBe]
    clear hw1 hPBe c1 c1'
    try go_wp2
    go_loopw [20] (fun i wr=>∃ k:Nat,k≤B.length∧i=.int .i64 k∧zd8 wr W.heap.size PB (H.map (·.1)) (B.map (·.ts)) (B.take k) (B.take k) vs []∧Below W.heap.size W wr) (fun i _=>B.length - (intOf i).toNat)
    case atStart=>exact ⟨0,Nat.zero_le _,rfl,zaa HP1,zaa Hb1⟩
    case round =>
      obtain ⟨k,hk,rfl,hP,hlow⟩:=hrel
      by_cases hlt:k<B.length
      · have hkx:(k:Int)<(B.length:Int):=by omega
        obtain ⟨b,o_,tv,rfl,d0,d1,d2,dt⟩:=(zaa Hb) k hlt
        have hbl:b<W.heap.size:=World.block_lt_of_cell? W _ d0
        have e0:=(hlow.cell (p:=⟨b,o_+k*3,none⟩) hbl).trans d0
        have e1:=(hlow.cell (p:=⟨b,o_+k*3+1,none⟩) hbl).trans d1
        have e2:=(hlow.cell (p:=⟨b,o_+k*3+2,none⟩) hbl).trans d2
        have hmem:B[k]?.getD zat∈B:=by simp [hlt]
        obtain ⟨at_,hat⟩:∃ at_,at_=B[k]?.getD zat:=⟨_,rfl⟩
        have htk:B.take (k+1)=B.take k ++ [at_]:=by rw [List.take_succ_eq_append_getElem hlt,hat];simp [hlt]
        have hkl:(B.take k).length=k:=by simp;omega
        rw [← hat] at e0 e1 dt hmem
        have ht3:=(zaa HO).t3 _ hmem
        have htl:=(zaa HO).tl _ hmem
        have hnm:=(zaa Hnm) _ hmem
        have hall:∀ j,j<at_.ts.length→zb4 at_.ts j≠0→zb4 at_.ts j∈zaz o:=fun j hj h0=>(zaa Hpm).mem_iff.2 (zdm.2 ⟨h0,ze1.2 ⟨at_.ts,List.mem_map.2 ⟨at_,hmem,rfl⟩,at_.ts[j]?.getD (0,0),by simp [hj],rfl⟩⟩)
        have hord:=zv7.of_perm (zaa Hpm)
        obtain ⟨nm,pl,ts⟩:=at_
        dsimp only at *
        obtain ⟨ta,tcap,rfl,_⟩:=id dt
        have hkey:=fun W' (h:Below W.heap.size W W')=>zup nm o pl (.slice ta ts.length tcap) ts W' (dt.below h) ht3 htl hnm hord.nd hord.nz hall
        have hnum:=fun W' (h:Below W.heap.size W W')=>zk6 nm pl (.slice ta ts.length tcap) ts W' (dt.below h) ht3 htl
        obtain ⟨wA,hwA⟩:∃ wA,wA=wr.alloc (.cells #[.string nm,.int .i64 pl,.slice ta ts.length tcap] 268):=⟨_,rfl⟩
        have hbA:Below wr.heap.size wr wA:=by rw [hwA];exact (Below.refl _ _).alloc (Nat.le_refl _) _
        have hbl:=hlow.trans (hbA.mono hlow.size)
        have hPA:=hP.below hbA
        have gA:wA.heap[wr.heap.size]? = some (.cells #[.string nm,.int .i64 pl,.slice ta ts.length tcap] 268 (0,0)):=by rw [hwA];exact zae _ _ _ rfl
        have a0:wA.cell? ⟨wr.heap.size,0,none⟩=some (.string nm):=zab gA 0
        have a1:wA.cell? ⟨wr.heap.size,1,none⟩=some (.int .i64 pl):=zab gA 1
        have a2:wA.cell? ⟨wr.heap.size,2,none⟩=some (.slice ta ts.length tcap):=zab gA 2
        obtain ⟨kv,nv,sv,nvals,svals,hPBA,hkr,_⟩:=hPA.ex
        obtain ⟨ka,kc,rfl,_⟩:=zak hkr
        rw [hkl] at hPBA
        have p0:wA.cell? ⟨PB,0,none⟩=some (.slice ka k kc):=zab hPBA 0
        have hsA:=hlow.size
        have Hkey:=zac hkey
        have Hnum:=zac hnum
        have Hbl:=zac hbl
        have HPA:=zac hPA
        have GA:=zac gA
        have HPB:=zac hPBA
        have Htk:=zac htk
        have Hkl:=zac hkl
        have Hord:=zac hord
        clear hkey hnum hbl hPA gA hPBA htk hkl hP hlow hall htl d0 d1 d2 dt hat hmem hord hkr hbA
        rw [hwA] at a0 a1 a2 p0
        go_wp2_with fail
        rw [← hwA]
        rw [← hwA] at a0 a1 a2 p0
        clear hwA e0 e1 e2
        go_region_with (first
          | (go_at_call 151
             refine ((zaa Hkey) _ ?_).mono ?_
             · exact (zaa Hbl).trans (zav _ _)
             rintro e wB ⟨c0,c1,c2,rfl,hcols,hbB⟩
             rw [← zaa Hvs] at hcols
             have hbAB:Below wA.heap.size wA wB:=(zav _ _).trans hbB
             have hPBB:=zan hbAB (zaa HPB)
             have hPl:=(zaa HPA).below hbAB
             obtain ⟨g',cap',wC,hap,hPC,hkC,hbC,hPl2⟩:=hPl.key hPBB (Nat.le_trans (zaa Hbl).size hbAB.size) (a:=⟨nm,pl,ts⟩) hcols (by rw [zaa Hkl];omega)
             rw [zaa Hkl] at hap hPl2
             have q0:wB.cell? ⟨PB,0,none⟩=some (.slice ka k kc):=zab hPBB 0
             have q1:(wB.alloc (.cells #[.string nm,.int .i64 c0,.int .i64 c1,.int .i64 c2] 96)).cell? ⟨PB,0,none⟩=some (.slice ka k kc):=zab ((Below.heap_alloc _ _ _ (Array.getElem?_eq_some_iff.1 hPBB).1).trans hPBB) 0
             have q2:wC.cell? ⟨PB,0,none⟩=some (.slice ka k kc):=zab hPC 0
             have q3:wC.frozen? ⟨PB,0,none⟩=false:=zad hPC 0
             have Hfin:=zac (And.intro hPl2 (And.intro hPC (And.intro hkC (And.intro hbC hbAB))))
             clear hPl2 hPC hkC hbC hbAB hbB hPl hPBB hcols))
        all_goals
          obtain ⟨hPl2,hPC,hkC,hbC,hbAB⟩:=zaa Hfin
          have gC:=hkC _ _ _ (zan hbAB (zaa GA)) (by decide)
          have hne:wr.heap.size≠PB:=fun e=>by rw [e] at gC;rw [hPC] at gC;simp at gC
          obtain ⟨wD,hwD⟩:∃ wD,wD=wC.setCell ⟨PB,0,none⟩ (.slice (some ⟨g',0,none⟩) (k+1) cap'):=⟨_,rfl⟩
          have hCD:=zai wC PB 0 (.slice (some ⟨g',0,none⟩) (k+1) cap')
          rw [← hwD] at hPl2 hCD ⊢
          have gD:wD.heap[wr.heap.size]? = some (.cells #[.string nm,.int .i64 pl,.slice ta ts.length tcap] 268 (0,0)):=(hCD.block _ (Array.getElem?_eq_some_iff.1 gC).1 (fun e=>hne (Option.some.inj e))).trans gC
          have hszC:=hbC.size
          have hszB:=hbAB.size
          have hbD:Below W.heap.size W wD:=((zaa Hbl).trans ((hbAB.mono (zaa Hbl).size).trans (hbC.mono (Nat.le_refl _)))).grown hCD (by have:=(zaa Hbl).size;omega) (fun q hq=>by injection hq with hq;rw [← hq];exact hPl2.at_)
          have b0:wD.cell? ⟨wr.heap.size,0,none⟩=some (.string nm):=zab gD 0
          have b1:wD.cell? ⟨wr.heap.size,1,none⟩=some (.int .i64 pl):=zab gD 1
          have b2:wD.cell? ⟨wr.heap.size,2,none⟩=some (.slice ta ts.length tcap):=zab gD 2
          obtain ⟨kv2,nv2,sv2,nvals2,svals2,hPBD,_,hnr,_⟩:=hPl2.ex
          obtain ⟨na,nc,rfl,_⟩:=zak hnr
          rw [zaa Hkl] at hPBD
          have r0:wD.cell? ⟨PB,1,none⟩=some (.slice na k nc):=zab hPBD 1
          have HbD:=zac hbD
          have HPl2:=zac hPl2
          have HPBD:=zac hPBD
          clear hPl2 hPC hkC hbC hbAB gC gD hbD hPBD hwD hnr Hfin a0 a1 a2 p0 q0 q1 q2 q3 hap hszC hszB hCD
          go_wp2_with fail
          go_region_with (first
            | (go_at_call 152
               refine ((zaa Hnum) _ ?_).mono ?_
               · exact (zaa HbD).trans (zav _ _)
               rintro e wE ⟨vv,rfl,hvo,hbE⟩
               have hbDE:Below wD.heap.size wD wE:=(zav _ _).trans hbE
               have hPBE:=zan hbDE (zaa HPBD)
               have hPl3:=(zaa HPl2).below hbDE
               have hvo':=zfd hvo (zaa HbD).size
               obtain ⟨va,vc,rfl,_⟩:=zak hvo
               obtain ⟨g2,cap2,wF,hap2,hPF,hkF,hbF,hPl4⟩:=hPl3.num hPBE (Nat.le_trans (zaa HbD).size hbDE.size) (a:=⟨nm,pl,ts⟩) hvo' (by rw [zaa Hkl];omega)
               rw [zaa Hkl] at hap2 hPl4
               have s0:wE.cell? ⟨PB,1,none⟩=some (.slice na k nc):=zab hPBE 1
               have s1:(wE.alloc (.cells #[.slice va (zcr ts).length vc] 41)).cell? ⟨PB,1,none⟩=some (.slice na k nc):=zab ((Below.heap_alloc _ _ _ (Array.getElem?_eq_some_iff.1 hPBE).1).trans hPBE) 1
               have s2:wF.cell? ⟨PB,1,none⟩=some (.slice na k nc):=zab hPF 1
               have s3:wF.frozen? ⟨PB,1,none⟩=false:=zad hPF 1
               have Hfin:=zac (And.intro hPl4 (And.intro hbF hbDE))
               clear hPl4 hPF hkF hbF hbDE hbE hPl3 hPBE hvo hvo'))
          all_goals
            obtain ⟨hPl4,hbF,hbDE⟩:=zaa Hfin
            have hCF:=zai wF PB 1 (.slice (some ⟨g2,0,none⟩) (k+1) cap2)
            have hszF:=hbF.size
            have hszE:=hbDE.size
            have hbG:Below W.heap.size W (wF.setCell ⟨PB,1,none⟩ (.slice (some ⟨g2,0,none⟩) (k+1) cap2)):=((zaa HbD).trans ((hbDE.mono (zaa HbD).size).trans (hbF.mono (Nat.le_refl _)))).grown hCF (by have:=(zaa HbD).size;omega) (fun q hq=>by injection hq with hq;rw [← hq];exact hPl4.at_)
            have Hrel:=zac (And.intro hPl4 hbG)
            clear hPl4 hbF hbDE hCF hbG Hfin s0 s1 s2 s3 hap2 r0 b0 b1 b2
            go_wp2
            go_roundw
            case rel=>exact ⟨k+1,by omega,by go_num,by rw [zaa Htk];exact (zaa Hrel).1,(zaa Hrel).2⟩
            case measure=>simp [intOf];omega
      · have hke:k=B.length:=by omega
        subst hke
        have hkx:¬ (B.length:Int)<(B.length:Int):=by omega
        rw [List.take_length] at hP
        have HP:=zac hP
        have Hlow:=zac hlow
        clear hP hlow
        go_wp2
        go_loopw [50] (fun i wr=>∃ k:Nat,k≤o.size∧i=.int .i64 k∧zd8 wr W.heap.size PB (H.map (·.1)) (B.map (·.ts)) B B vs (vs.take k)∧Below W.heap.size W wr) (fun i _=>o.size - (intOf i).toNat)
        case atStart=>exact ⟨0,Nat.zero_le _,rfl,zaa HP,zaa Hlow⟩
        case round =>
          obtain ⟨k,hk2,rfl,hP,hlow⟩:=hrel
          have hvsl:vs.length=o.size:=by rw [zaa Hvs];exact zbx o
          by_cases hlt2:k<o.size
          · have hkz:(k:Int)<(o.size:Int):=by omega
            obtain ⟨x,hx⟩:∃ x,x=o[k].toNat:=⟨_,rfl⟩
            have hxv:vs[k]?.getD 0=x:=by rw [zaa Hvs,ztx hlt2,hx]
            have htk:vs.take (k+1)=vs.take k ++ [x]:=by rw [List.take_succ_eq_append_getElem (by omega),← hxv];simp [hvsl,hlt2]
            have hkl:(vs.take k).length=k:=by simp;omega
            have hx256:x<256:=by rw [hx];exact UInt8.toNat_lt _
            have hstp:=fun W' (h:Below W.heap.size W W')=>zra QB x H B W' ((zaa HQ).below h) (zaa HO) hx256
            obtain ⟨kv,nv,sv,nvals,svals,hPBA,_,_,_,hsr,_⟩:=hP.ex
            obtain ⟨sa,sc,rfl,_⟩:=zak hsr
            rw [hkl] at hPBA
            have p0:wr.cell? ⟨PB,2,none⟩=some (.slice sa k sc):=zab hPBA 2
            have Hstp:=zac hstp
            have Hlow2:=zac hlow
            have HP2:=zac hP
            have HPB:=zac hPBA
            have Htk:=zac htk
            have Hkl:=zac hkl
            clear hstp hlow hP hPBA htk hkl hsr hxv hvsl
            have hxo:(o[k].toNat:Int)=(x:Int):=by rw [hx]
            clear hx
            go_wp2_with fail
            go_region_with (first
              | (go_at_call 153
                 refine ((zaa Hstp) _ ?_).mono ?_
                 · exact (zaa Hlow2).trans (zav _ _)
                 rintro e wE ⟨uv,pv,rfl,huo,hpo,hbE⟩
                 have hbDE:Below wr.heap.size wr wE:=(zav _ _).trans hbE
                 have hPBE:=zan hbDE (zaa HPB)
                 have hPl3:=(zaa HP2).below hbDE
                 have huo':=zfd huo (zaa Hlow2).size
                 have hpo':=zfd hpo (zaa Hlow2).size
                 obtain ⟨ua,uc,rfl,_⟩:=zak huo
                 obtain ⟨va,vc,rfl,_⟩:=zak hpo
                 obtain ⟨g2,cap2,wF,hap2,hPF,hkF,hbF,hPl4⟩:=hPl3.stp hPBE (Nat.le_trans (zaa Hlow2).size hbDE.size) (x:=x) huo' hpo' (by rw [zaa Hkl];omega)
                 rw [zaa Hkl] at hap2 hPl4
                 have s0:wE.cell? ⟨PB,2,none⟩=some (.slice sa k sc):=zab hPBE 2
                 have s1:(wE.alloc (.cells #[.slice ua (zci (B.map (·.ts)) x).length uc,.slice va (zbq (H.map (·.1)) x).length vc] 273)).cell? ⟨PB,2,none⟩=some (.slice sa k sc):=zab ((Below.heap_alloc _ _ _ (Array.getElem?_eq_some_iff.1 hPBE).1).trans hPBE) 2
                 have s2:wF.cell? ⟨PB,2,none⟩=some (.slice sa k sc):=zab hPF 2
                 have s3:wF.frozen? ⟨PB,2,none⟩=false:=zad hPF 2
                 have Hfin:=zac (And.intro hPl4 (And.intro hbF hbDE))
                 clear hPl4 hPF hkF hbF hbDE hbE hPl3 hPBE huo huo' hpo hpo'))
            all_goals
              obtain ⟨hPl4,hbF,hbDE⟩:=zaa Hfin
              have hCF:=zai wF PB 2 (.slice (some ⟨g2,0,none⟩) (k+1) cap2)
              have hszF:=hbF.size
              have hszE:=hbDE.size
              have hbG:Below W.heap.size W (wF.setCell ⟨PB,2,none⟩ (.slice (some ⟨g2,0,none⟩) (k+1) cap2)):=((zaa Hlow2).trans ((hbDE.mono (zaa Hlow2).size).trans (hbF.mono (Nat.le_refl _)))).grown hCF (by have:=(zaa Hlow2).size;omega) (fun q hq=>by injection hq with hq;rw [← hq];exact hPl4.at_)
              have Hrel:=zac (And.intro hPl4 hbG)
              clear hPl4 hbF hbDE hCF hbG Hfin s0 s1 s2 s3 hap2 p0
              go_wp2
              go_roundw
              case rel=>exact ⟨k+1,by omega,by go_num,by rw [zaa Htk];exact (zaa Hrel).1,(zaa Hrel).2⟩
              case measure=>simp [intOf];omega
          · have hke:k=o.size:=by omega
            subst hke
            rw [List.take_of_length_le (by omega)] at hP
            have HP2:=zac hP
            have Hlow2:=zac hlow
            have hpv:vs.Perm (zbl (B.map (·.ts))):=by rw [zaa Hvs];exact zaa Hpm
            have Hpv:=zac hpv
            clear hP hlow hvsl hpv
            go_wp2
            go_ret
            exact ⟨PB,vs,rfl,zaa Hpv,zaa HP2,zaa Hlow2⟩
end
end Go.Proofs.YtoifcnidhfnapaaGreatDoor
