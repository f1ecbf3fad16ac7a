import Derived.Test.YtoifcnidhfnapaaGreatDoorB36
set_option linter.unusedVariables false
set_option linter.unusedSimpArgs false
set_option maxRecDepth 100000
set_option maxHeartbeats 16000000
namespace Go.Proofs.YtoifcnidhfnapaaGreatDoor
open Go.RowKit Go.Maps Go.Sort Go.Shelf
attribute [local go_sem ↓] Go.wp_at_zero Go.wp_at_succ
theorem yhe {st:St} {ch:Ch} {n:Nat} {p q:ByteArray→Bool} (h:∀ nm,ch nm≠none→p nm=q nm):ze3 st ch n p=ze3 st ch n q:=by
 funext nm
 unfold ze3
 cases h1:st nm with
 | none=>rfl
 | some R =>
  cases h2:ch nm with
  | none=>rfl
  | some c=>rw [h nm (by rw [h2];simp)]
theorem zid.all {st:St} {ch:Ch} {N n:Nat} {ixs:IxS} {ik:IkS} {left:Lit→Bool} (h:zid st ch N n ixs ik (fun k=>left (za9 k)=false)) (hl:∀ l,left l=false):zid st ch N n ixs ik (fun _=>True):=fun k x hx=>by
 obtain ⟨a,b,c,d⟩:=h k x hx
 exact ⟨a,b,fun hp=>absurd trivial hp,fun _=>d (hl _)⟩
theorem zjn.all {st:St} {ch:Ch} {N n:Nat} {vws vws':VwS} {left:Lit→Bool} (h:zjn st ch N n vws vws' (fun nm=>left (zas nm)=false)) (hl:∀ l,left l=false):zjn st ch N n vws vws' (fun _=>True):=
 ⟨h.1,fun nm v hv=>by
  obtain ⟨n',f',a,b,c⟩:=h.2 nm v hv
  exact ⟨n',f',a,fun hp=>absurd trivial hp,fun _=>c (hl _)⟩⟩
theorem zgl.all {W:World} {st:St} {ch:Ch} {N n:Nat} {ixs ixs':IxS} {ik ik':IkS} {left:Lit→Bool} (h:zgl W st ch N n ixs ixs' ik ik' (fun k=>left (za9 k)=false)) (hl:∀ l,left l=false):zgl W st ch N n ixs ixs' ik ik' (fun _=>True):=
 ⟨h.1,fun k x hx=>by
  obtain ⟨x',a,b,c,d,e⟩:=h.2 k x hx
  exact ⟨x',a,b,fun hp=>absurd trivial hp,fun _=>d (hl _),e⟩⟩
theorem zgk.c1 {W:World} {fix:Nat→Prop} {eb db nD nI nV:Nat} {DI DV:DataW Unit} {st:St} {ixs:IxS} {vws:VwS} {ik:IkS} (h:zgk W fix eb db nD nI nV DI DV st ixs vws ik):W.cell? ⟨eb,1,none⟩=some (.map (some (db+1))):=by
 obtain ⟨xs,h1,h2,nv⟩:=h.rep.eng
 exact (zab h1 1).trans nv.1
theorem zgk.c2 {W:World} {fix:Nat→Prop} {eb db nD nI nV:Nat} {DI DV:DataW Unit} {st:St} {ixs:IxS} {vws:VwS} {ik:IkS} (h:zgk W fix eb db nD nI nV DI DV st ixs vws ik):W.cell? ⟨eb,2,none⟩=some (.map (some (db+2))):=by
 obtain ⟨xs,h1,h2,nv⟩:=h.rep.eng
 exact (zab h1 2).trans nv.2.1
theorem yc0 (W:World) {fix:Nat→Prop} {eb db nD nI nV N cb B n:Nat} {st:St} {ixs:IxS} {vws:VwS} {ch:Ch} (hE:EngV W fix eb db nD nI nV N st ixs vws) (hC:zce W cb B n ch) (hfit:yby st ch n) (hlo:∀ q,zcs st ixs vws q→q<B)
  (hN:N+n≤100000000) (h1:1≤N+n) (hv:∀ nm v,vws nm=some v→v.n+4*(N+n) ^ 4≤9000000000000000000) :
  Calls Tryz.prog 70 #[.pointer (some ⟨eb,0,none⟩),.map (some cb)] W fun e w'=>e=.returned (.tuple #[])∧KeepX (zcs st ixs vws) W w'∧∃ ixs' vws',EngV w' fix eb db nD nI nV (N+n) (ze3 st ch n (fun _=>true)) ixs' vws' ∧
   zjn st ch N n vws vws' (fun _=>True)∧(∀ k,(ixs' k).isSome=(ixs k).isSome)∧∀ q,zcs (ze3 st ch n (fun _=>true)) ixs' vws' q→zcs st ixs vws q∨W.heap.size≤q:=by
 obtain ⟨DI,DV,hI,hV,hP,hk0,hv0⟩:=hE.begin (X:=zcs st ixs vws)
 have hHold:∀ nm v,vws nm=some v→yb0 st v:=fun nm v h=>(hE.vw nm v h).2
 have hnm:∀ k x,ixs k=some x→k.nm.size≤maxLen:=fun k x hx=>Nat.le_trans (hI.at' k x hx).1.1 (by unfold maxLen;omega)
 have hch:∀ w,KeepX (zcs st ixs vws) W w→zce w cb B n ch:=fun w hk=>hC.kept (fun k h2 h3=>hk.blk k h3 (fun e=>by have:=hlo k e;omega))
 have hnn:n≤1000000000:=by omega
 have hXi:∀ k x,ixs k=some x→∀ q,zlr x.XB x.rv q→zcs st ixs vws q:=fun k x hx q hq=>.inr (.inl ⟨k,x,hx,hq⟩)
 have hXv:∀ nm v,vws nm=some v→zcs st ixs vws v.mb:=fun nm v h=>.inr (.inr ⟨nm,v,h,rfl⟩)
 have hbase:=hC.base
 have hcl:=hC.lt
 have hlt:∀ q,zcs st ixs vws q→q<W.heap.size:=fun q hq=>by have:=hlo q hq;omega
 have c1:=hP.eng.c1
 have hoI:=hP.eng.imap
 have HE:=zac hE
 have HC:=zac hC
 have Hfit:=zac hfit
 have HI:=zac hI
 have HV:=zac hV
 have HP:=zac hP
 have Hk0:=zac hk0
 have Hv0:=zac hv0
 have HHold:=zac hHold
 have Hnm:=zac hnm
 have Hch:=zac hch
 have HXi:=zac hXi
 have HXv:=zac hXv
 have Hlo:=zac hlo
 have Hlt:=zac hlt
 have HN:=zac hN
 have H1:=zac h1
 have Hv:=zac hv
 clear hE hC hfit hI hV hP hk0 hv0 hHold hnm hch hXi hXv hlo hlt hN h1 hv
 go_enter Tryz.func70,Tryz.ntmps70
 go_wp2_with (first
  | (at_range;refine wpList_range_own _ rfl _ 69 rfl 96 97 ydn Tryz.underlying69 _ (db+1) nI DI rfl hoI ?_;intro w1 hrg1 hg1 hs1;clear hs1)
  | go_in)
 clear c1 hoI
 have Hrg1:=zac hrg1
 have HP1:=zac ((zaa HP).grown hg1)
 clear hrg1 hg1
 (try go_frame)
 go_loopw [17] (fun _ wr=>∃ left cnt ik,wr.ranges Tryz.prog 96 zap (db+1) W.heap.size nI DI left cnt∧Ph W wr fix eb db nD nI nV DI DV (zcs st ixs vws) st ixs vws ik∧zid st ch N n ixs ik (fun k=>left (za9 k)=false)) (fun _ wr=>wr.rangeLeft (db+1) W.heap.size)
 case atStart=>exact ⟨_,_,_,zaa Hrg1,zaa HP1,(zaa Hk0) ch n⟩
 case round =>
  obtain ⟨left,cnt,ik,hrg,hPr,hD⟩:=hrel
  have HPr:=zac hPr
  have HD:=zac hD
  clear hPr hD
  go_wp2_with (first
   | (at_next;refine wpList_next_ranges _ rfl _ rfl 96 ydn zap mkK Value.pointer yls zuk (db+1) W.heap.size nI DI left cnt rfl hrg ?_ ?_)
   | go_in)
  ·intro _ hl1
   obtain ⟨wA,hwA⟩:∃ wA,wA=wr:=⟨_,rfl⟩
   subst hwA
   have hD1:=(zaa HD).all hl1
   have hPq:=zaa HPr
   have c2:=hPq.eng.c2
   have hoV:=hPq.eng.vmap
   have hszr:W.heap.size≤wA.heap.size:=hPq.keep.size
   have HD1:=zac hD1
   clear hD1 hPq hrg
   go_wp2_with (first
    | (at_range;refine wpList_range_own _ rfl _ 70 rfl 9 81 zoo Tryz.underlying70 _ (db+2) nV DV rfl hoV ?_;intro w2 hrg2 hg2 hs2;clear hs2)
    | go_in)
   clear c2 hoV
   have Hrg2:=zac hrg2
   have HP2:=zac ((zaa HPr).grown hg2)
   clear hrg2 hg2
   (try go_frame)
   go_loopw [33] (fun _ wq=>∃ left cnt vws',wq.ranges Tryz.prog 9 zap (db+2) wA.heap.size nV DV left cnt∧Ph W wq fix eb db nD nI nV DI DV (zcs st ixs vws) st ixs vws' ik∧zjn st ch N n vws vws' (fun nm=>left (zas nm)=false)) (fun _ wq=>wq.rangeLeft (db+2) wA.heap.size)
   case atStart=>exact ⟨_,_,_,zaa Hrg2,zaa HP2,(zaa Hv0) ch n⟩
   case round =>
    obtain ⟨left2,cnt2,vws',hrg,hPs,hD2⟩:=hrel
    have HPs:=zac hPs
    have HD2:=zac hD2
    clear hPs hD2
    go_wp2_with (first
     | (at_next;refine wpList_next_ranges _ rfl _ rfl 9 zoo zap Value.string Value.pointer zum zuk (db+2) wA.heap.size nV DV left2 cnt2 rfl hrg ?_ ?_)
     | go_in)
    ·intro _ hl2
     obtain ⟨wB,hwB⟩:∃ wB,wB=wr:=⟨_,rfl⟩
     subst hwB
     have hDv:=(zaa HD2).all hl2
     have hPq:=zaa HPs
     have c1:=hPq.eng.c1
     have hoI:=hPq.eng.imap
     have hszq:W.heap.size≤wB.heap.size:=hPq.keep.size
     have HDv:=zac hDv
     clear hDv hPq hrg
     go_wp2_with (first
      | (at_range;refine wpList_range_own _ rfl _ 69 rfl 96 97 ydn Tryz.underlying69 _ (db+1) nI DI rfl hoI ?_;intro w3 hrg3 hg3 hs3;clear hs3)
      | go_in)
     clear c1 hoI
     have Hrg3:=zac hrg3
     have HP3:=zac ((zaa HPs).grown hg3)
     clear hrg3 hg3
     (try go_frame)
     go_loopw [44] (fun _ wq=>∃ left cnt ixs' ik',wq.ranges Tryz.prog 96 zap (db+1) wB.heap.size nI DI left cnt∧Ph W wq fix eb db nD nI nV DI DV (zcs st ixs vws) st ixs' vws' ik'∧zgl W st ch N n ixs ixs' ik ik' (fun k=>left (za9 k)=false)) (fun _ wq=>wq.rangeLeft (db+1) wB.heap.size)
     case atStart=>exact ⟨_,_,_,_,zaa Hrg3,zaa HP3,zgl.start (zaa HI)⟩
     case round =>
      obtain ⟨left3,cnt3,ixs',ik',hrg,hPt,hD3⟩:=hrel
      have HPt:=zac hPt
      have HD3:=zac hD3
      clear hPt hD3
      go_wp2_with (first
       | (at_next;refine wpList_next_ranges _ rfl _ rfl 96 ydn zap mkK Value.pointer yls zuk (db+1) wB.heap.size nI DI left3 cnt3 rfl hrg ?_ ?_)
       | go_in)
      ·intro _ hl3
       obtain ⟨wC,hwC⟩:∃ wC,wC=wr:=⟨_,rfl⟩
       subst hwC
       have HDi:=zac ((zaa HD3).all hl3)
       have hCp:=(zaa Hch) wC (zaa HPt).keep
       have hszc:W.heap.size≤wC.heap.size:=(zaa HPt).keep.size
       obtain ⟨D,hown,hhas,hat0⟩:=hCp.dir
       have Hhas:=zac hhas
       have Hat:=zac hat0
       clear hCp hhas hat0 hrg
       go_wp2_with (first
        | (at_range;refine wpList_range_own _ rfl _ 136 rfl 9 127 zoo Tryz.underlying136 _ cb n D rfl hown ?_;intro w4 hrg4 hg4 hs4;clear hs4)
        | go_in)
       clear hown
       have Hrg4:=zac hrg4
       have HP4:=zac ((zaa HPt).grown hg4)
       clear hrg4 hg4
       (try go_frame)
       go_loopw [52] (fun _ wq=>∃ left cnt,wq.ranges Tryz.prog 9 zc4 cb wC.heap.size n D left cnt∧Ph W wq fix eb db nD nI nV DI DV (zcs st ixs vws) (ze3 st ch n (fun nm=>Maps.has D (zas nm) && !left (zas nm))) ixs' vws' ik') (fun _ wq=>wq.rangeLeft cb wC.heap.size)
       case atStart =>
        refine ⟨_,_,zaa Hrg4,?_⟩
        rw [zx4]
        exact zaa HP4
       case round =>
        obtain ⟨left4,cnt4,hrg,hPu⟩:=hrel
        have HPu:=zac hPu
        clear hPu
        go_wp2_with (first
         | (at_next;refine wpList_next_ranges _ rfl _ rfl 9 zoo zc4 Value.string Value.map zum ydj cb wC.heap.size n D left4 cnt4 rfl hrg ?_ ?_)
         | go_in)
        ·intro _ hl4
         go_wp2
         go_end0
         have hst:ze3 st ch n (fun nm=>Maps.has D (zas nm) && !left4 (zas nm))=ze3 st ch n (fun _=>true):=yhe fun nm hc=>by
          cases hp:ch nm with
          | none=>exact absurd hp hc
          | some p =>
           have hh:=(zaa Hhas) nm ((zaa Hfit) nm p hp).1
           rw [hp] at hh
           simp [hh,hl4]
         have hPe:=zaa HPu
         rw [hst] at hPe
         have hfin:=hPe.done (zaa HI) (zaa HV) (zaa HDv) (zaa HDi)
         refine ⟨rfl,hPe.keep,ixs',vws',hfin.1,zaa HDv,fun k=>?_,hfin.2⟩
         cases hk:ixs k with
         | none=>rw [(zaa HDi).1 k hk]
         | some x=>obtain ⟨y,a,_⟩:=(zaa HDi).2 k x hk;rw [a];rfl
        ·intro s o kl y1 y2 w5 cnt1 hkey hlk hv hat hrg1 hlt hg1 hs1 hen
         have hhas':=has_true_of_atKey hat
         obtain ⟨hs,hkl,p,hp,ho⟩:=yco (w:=wC) (zaa Hhas) (zaa Hat) (y:=(y1,y2)) hkey hv hat
         subst ho
         subst hkl
         obtain ⟨_,R,hR,hn,hf2,hf3⟩:=(zaa Hfit) s p hp
         have hP5:=(zaa HPu).next hrg hszc hg1
         have hcur:ze3 st ch n (fun nm=>Maps.has D (zas nm) && !left4 (zas nm)) s=some R:=by
          unfold ze3;rw [hR,hp];simp [hlk]
         have hC5:=(zaa Hch) w5 hP5.keep
         have hpe:=hC5.each s p hp
         have hmX:zcs st ixs vws R.mb:=.inl ⟨s,R,hR,rfl⟩
         have hmB:=(zaa Hlo) _ hmX
         have hmW:=(zaa Hlt) _ hmX
         have hrun:=hP5.eng.rep.get hs hcur
         have c1:w5.cell? ⟨eb,0,none⟩=some (.map (some db)):=hP5.eng.rep.c0
         have Hrel:=zac (hP5.eng.rep.rel s R hcur)
         have Hpe:=zac hpe
         have hne1:p.1≠R.mb:=by have:=hpe.2.1;omega
         have hne2:cb≠R.mb:=by omega
         have hne3:wC.heap.size≠R.mb:=by omega
         have Hst:=zac (ybl (N:=n) (left:=left4) hR hp hhas')
         have Hrg:=zac hrg
         have Hrg1':=zac hrg1
         have Hlt':=zac hlt
         have HP5:=zac hP5
         have Hcur:=zac hcur
         have HmX:=zac hmX
         have Hf2:=zac hf2
         have Hf3:=zac hf3
         clear hrg hrg1 hlt hP5 hcur hC5 hpe hmX hf2 hf3 hp hR hhas' hkey hlk hv hat hg1
         go_wp2_with (first
          | (go_at_call 124;refine (ya9 R.rb R.mb R.ar R.n p.1 n R.f p.2 _ (zaa Hrel).1 (zaa Hrel).2 (zaa Hpe).1 hn hne1 (fun r hr=>by have:=(zaa Hf2) r hr;omega) (zaa Hf3)).mono ?_;rintro e w6 ⟨rfl,hW5,hg5⟩)
          | go_in)
         have hR5:=(zaa Hrg1').kept hg5 (by simpa using hne2) (by simpa using hne3)
         have hE5:=(zaa HP5).eng.related (zaa Hcur) hg5 hW5
         rw [zaa Hst] at hE5
         refine ⟨⟨_,cnt1,hR5,hE5,(zaa HP5).keep.trans ((KeepX.ofGrown hg5).mono fun q _ e=>e ▸ zaa HmX),(zaa HP5).fl⟩,?_⟩
         rw [hR5.left_eq,(zaa Hrg).left_eq]
         exact zaa Hlt'
      ·intro p1 p2 p3 p4 o kl y1 y2 w5 cnt1 hkey hlk hv hat hrg1 hlt hg1 hs1 hen
       obtain ⟨k,x,hx,hkl,hp,ho⟩:=yil (zaa HI) (p:=(p1,p2,p3,p4)) (y:=(y1,y2)) hkey hv hat
       simp only [Prod.mk.injEq] at hp
       obtain ⟨rfl,rfl,rfl,rfl⟩:=hp
       subst ho
       subst hkl
       have hP5:=(zaa HPt).next hrg hszq hg1
       have Hrg:=zac hrg
       have Hrg1':=zac hrg1
       have Hlt':=zac hlt
       have HP5:=zac hP5
       have Hlk:=zac hlk
       have Hx:=zac hx
       clear hrg hrg1 hlt hP5 hx hkey hlk hv hat hg1
       unfold mkK at hen ⊢
       dsimp only at hen ⊢
       go_wp2_with (first
        | (go_at_call 123;refine ((zaa HP5).settle (zaa HI) (zaa HD1) (zaa HD3) (zaa Hx) (zaa Hlk) ((zaa HXi) _ _ (zaa Hx)) (zaa HN) (zaa Hrg1')).mono ?_;rintro e w7 ⟨rfl,ixs'',ik'',hR7,hP7,hD7⟩)
        | go_in)
       refine ⟨⟨_,cnt1,_,_,hR7,hP7,hD7⟩,?_⟩
       rw [hR7.left_eq,(zaa Hrg).left_eq]
       exact zaa Hlt'
    ·intro s o kl y1 y2 w5 cnt1 hkey hlk hv hat hrg1 hlt hg1 hs1 hen
     obtain ⟨v,hvv,hkl,ho⟩:=yln (zaa HV) (y:=(y1,y2)) hkey hv hat
     subst ho
     subst hkl
     have hP5:=(zaa HPs).next hrg hszr hg1
     have Hrg:=zac hrg
     have Hrg1':=zac hrg1
     have Hlt':=zac hlt
     have HP5:=zac hP5
     have Hlk:=zac hlk
     have Hvv:=zac hvv
     clear hrg hrg1 hlt hP5 hvv hkey hlk hv hat hg1
     go_wp2_with (first
      | (go_at_call 122;refine ((zaa HP5).gain (zaa HD1) (zaa HD2) (zaa Hvv) (zaa Hlk) ((zaa HXv) _ _ (zaa Hvv)) (zaa HN) (zaa H1) ((zaa HHold) _ _ (zaa Hvv)) ((zaa Hv) _ _ (zaa Hvv)) (zaa Hrg1')).mono ?_;rintro e w6 ⟨rfl,vws'',hR6,hP6,hD6⟩)
      | go_in)
     refine ⟨⟨_,cnt1,_,hR6,hP6,hD6⟩,?_⟩
     rw [hR6.left_eq,(zaa Hrg).left_eq]
     exact zaa Hlt'
  ·intro p1 p2 p3 p4 o kl y1 y2 w5 cnt1 hkey hlk hv hat hrg1 hlt hg1 hs1 hen
   obtain ⟨k,x,hx,hkl,hp,ho⟩:=yil (zaa HI) (p:=(p1,p2,p3,p4)) (y:=(y1,y2)) hkey hv hat
   simp only [Prod.mk.injEq] at hp
   obtain ⟨rfl,rfl,rfl,rfl⟩:=hp
   subst ho
   subst hkl
   have hP5:=(zaa HPr).next hrg (Nat.le_refl _) hg1
   have hb6:Below w5.heap.size w5 (w5.alloc (.cells #[.string k.nm,.int .i64 k.c0,.int .i64 k.c1,.int .i64 k.c2] 96)):=(Below.refl _ _).alloc (Nat.le_refl _) _
   have hP6:=hP5.below hb6
   obtain ⟨om,hrun,hM6⟩:=((zaa Hch) _ hP6.keep).getN ((zaa Hnm) k x hx)
   have Hrg:=zac hrg
   have Hrg1':=zac (zfe (X:=fun _=>False) hrg1 (KeepX.ofBelow hb6) (fun h=>h) (fun h=>h))
   have Hlt':=zac hlt
   have HP6:=zac hP6
   have HM6:=zac hM6
   have Hx:=zac hx
   clear hrg hrg1 hlt hP5 hP6 hM6 hx hkey hlk hv hat hg1 hb6
   unfold mkK at hen ⊢
   dsimp only at hen ⊢
   go_wp2_with (first
    | (go_at_call 121;refine ((zaa HP6).bring (zaa HI) (zaa HD) (zaa Hx) ((zaa HXi) _ _ (zaa Hx) _ (.inl rfl)) (zaa HM6) hnn (zaa Hrg1')).mono ?_;rintro e w7 ⟨rfl,ik',hR7,hP7,hD7⟩)
    | go_in)
   refine ⟨⟨_,cnt1,_,hR7,hP7,hD7⟩,?_⟩
   rw [hR7.left_eq,(zaa Hrg).left_eq]
   exact zaa Hlt'
attribute [local go_sem ↓] Go.wp_at_zero Go.wp_at_succ
theorem EngV.moreN {W:World} {fix:Nat→Prop} {eb db nD nI nV N:Nat} {st st':St} {ixs:IxS} {vws:VwS} (h:EngV W fix eb db nD nI nV N st ixs vws)
  (he:∀ nm,(st nm=none∧st' nm=none)∨∃ R R',st nm=some R∧st' nm=some R'∧R'.rb=R.rb∧R'.mb=R.mb∧R'.ar=R.ar∧R.n≤R'.n∧R'.f=R.f):EngV W fix eb db nD nI nV N st' ixs vws:=by
 have back:∀ nm R',st' nm=some R'→∃ R,st nm=some R∧R'.rb=R.rb∧R'.mb=R.mb∧R'.ar=R.ar∧R'.f=R.f:=by
  intro nm R' hR'
  rcases he nm with ⟨_,h2⟩|⟨R,Q,h1,h2,h3,h4,h5,h6,h7⟩
  ·rw [h2] at hR';cases hR'
  ·rw [h2] at hR';cases hR';exact ⟨R,h1,h3,h4,h5,h7⟩
 have forth:∀ nm R,st nm=some R→∃ R',st' nm=some R'∧R'.rb=R.rb∧R'.mb=R.mb∧R'.ar=R.ar∧R'.f=R.f:=by
  intro nm R hR
  rcases he nm with ⟨h1,_⟩|⟨R0,Q,h1,h2,h3,h4,h5,h6,h7⟩
  ·rw [h1] at hR;cases hR
  ·rw [h1] at hR;cases hR;exact ⟨Q,h2,h3,h4,h5,h7⟩
 refine ⟨h.rep.congr fun nm=>?_,h.flt,h.feb,fun nm R' hR'=>?_,h.fdb,h.imap,fun k x hx=>?_,h.iap,h.vmap,fun nm v hv=>⟨?_,?_⟩,h.vap,fun nm v hv=>?_⟩
 ·rcases he nm with h1|⟨R,Q,h1,h2,h3,h4,h5,h6,h7⟩
  ·exact .inl h1
  ·exact .inr ⟨R,Q,h1,h2,h3,h4,h5,h6,fun r _=>by rw [h7]⟩
 ·obtain ⟨R,a,b,c,_⟩:=back nm R' hR'
  rw [b,c];exact h.frb nm R a
 ·obtain ⟨a,b,R,c,d⟩:=h.idx k x hx
  obtain ⟨R',c',_,_,_,e⟩:=forth _ R c
  exact ⟨a,b,R',c',by rw [e];exact d⟩
 ·obtain ⟨h1,h3,h4,h5,h6,h7,h8,h9,h10⟩:=(h.vw nm v hv).1
  refine ⟨h1,h3,h4,h5,⟨h6.ok,h6.ne,h6.nm,fun a ha=>?_,h6.head⟩,h7,h8,h9,h10⟩
  obtain ⟨R,c,d⟩:=h6.rel a ha
  obtain ⟨R',c',_,_,e,_⟩:=forth _ R c
  exact ⟨R',c',by rw [e];exact d⟩
 ·intro L hL
  refine (h.vw nm v hv).2 L fun i hi=>?_
  obtain ⟨R',c',d⟩:=hL i hi
  obtain ⟨R,c,_,_,_,e⟩:=back _ R' c'
  exact ⟨R,c,by rw [← e];exact d⟩
 ·have:=h.vrel nm v hv
  refine ⟨this.1,this.2.1,this.2.2.1,fun m R' hR'=>?_⟩
  obtain ⟨R,c,_,e,_⟩:=back _ R' hR'
  rw [e];exact this.2.2.2 m R c
theorem EngV.xlt {W:World} {fix:Nat→Prop} {eb db nD nI nV N:Nat} {st:St} {ixs:IxS} {vws:VwS} (h:EngV W fix eb db nD nI nV N st ixs vws):∀ q,zcs st ixs vws q→q<W.heap.size:=by
 rintro q (⟨nm,R,hR,rfl⟩|⟨k,x,hx,hq⟩|⟨nm,v,hv,rfl⟩)
 ·exact (h.rep.rel nm R hR).2.lt
 ·obtain ⟨_,_,R,_,d⟩:=h.idx k x hx
  exact (d.io.cellsX q hq).lt
 ·exact (h.vw nm v hv).1.map.lt
def yb8 (N n:Nat) (vws vws':VwS):Prop:=(∀ nm,vws nm=none→vws' nm=none)∧∀ nm v,vws nm=some v→∃ n' f',vws' nm=some { v with n:=n',f:=f' }∧n'≤v.n+4*(N+n) ^ 4
theorem zlt (v:Value) (es:List Ent) (w:World) {fix:Nat→Prop} {eb db nD nI nV N:Nat} {st:St} {ixs:IxS} {vws:VwS} (hE:EngV w fix eb db nD nI nV N st ixs vws) (hv:zf5 w v es) (hl:es.length≤64) (hg:∀ x∈es,znv x)
  (hok:∀ i,i<es.length→Chk st (es[i]?.getD zg1) 0) (hkn:∀ x∈es,st x.nm≠none)
  (hfit:∀ nm R,st nm=some R→R.n+2*es.length≤1000000000∧(∀ r,zaw r→-1000≤R.f r∧R.f r≤1000)) (hN:N+128≤100000000) (hN1:1≤N) (hvn:∀ nm v,vws nm=some v→v.n+4*(N+2*es.length) ^ 4≤9000000000000000000) :
  Calls Tryz.prog 44 #[.pointer (some ⟨eb,0,none⟩),v] w fun e w'=>∃ c:Int,e=.returned (.tuple #[.int .i64 c,.int .i64 0])∧KeepX (zcs st ixs vws) w w' ∧
   (c=9∧¬ (∀ nm R,st nm=some R→zkl R.f (zcx es nm))∧Below w.heap.size w w' ∨
    c=10∧(∀ nm R,st nm=some R→zkl R.f (zcx es nm))∧¬ (∀ nm R,st nm=some R→zqc es nm R.f)∧Below w.heap.size w w' ∨
    c=0∧(∀ nm R,st nm=some R→zkl R.f (zcx es nm))∧(∀ nm R,st nm=some R→zqc es nm R.f)∧∃ ixs' vws',EngV w' fix eb db nD nI nV (N+2*es.length) (zjk st es) ixs' vws'∧yb8 N (2*es.length) vws vws'∧(∀ k,(ixs' k).isSome=(ixs k).isSome) ∧
     ∀ q,zcs (zjk st es) ixs' vws' q→zcs st ixs vws q∨w.heap.size≤q):=by
 have Hvn:=zac hvn
 clear hvn
 have Hv:=zac hv
 have hv2:=hv
 obtain ⟨a,cap,rfl,hcs⟩:=hv
 have Hc:=zac hcs
 have HE:=zac hE.rep
 have HEV:=zac hE
 have Hok:=zac hok
 have Hg:=zac hg
 have Hkn:=zac hkn
 have Hfit:=zac hfit
 have hel:eb<w.heap.size:=by have:=hE.rep.inn;omega
 clear hcs hE hok hg hkn hfit hv2
 go_enter Tryz.func44,Tryz.ntmps44
 go_wp2
 go_loopw [16] (fun i wr=>∃ j:Nat,j≤es.length∧i=.int .i64 j∧Below w.heap.size w wr) (fun i _=>es.length - (intOf i).toNat)
 case atStart=>exact ⟨0,Nat.zero_le _,rfl,Below.refl _ _⟩
 case round =>
  obtain ⟨j,hj,rfl,hB⟩:=hrel
  by_cases hlt:j<es.length
  ·obtain ⟨b,o,sv,rfl,h1,h2,h3,h4⟩:=(zaa Hc) j hlt
   have hx:(j:Int)<(es.length:Int):=by omega
   have hbl:b<w.heap.size:=World.block_lt_of_cell? w _ h1
   have h3c:=h3
   obtain ⟨a2,cap2,rfl,_⟩:=h3c
   have hch:=(zaa Hok) j (by omega)
   obtain ⟨x,hxe⟩:∃ x,x=es[j]?.getD zg1:=⟨_,rfl⟩
   rw [← hxe] at h1 h2 h3 h4 hch
   rw [← hB.cell (p:=⟨b,_,none⟩) hbl] at h1 h2 h4
   obtain ⟨nm,row,wt⟩:=x
   dsimp only at h1 h2 h3 h4
   have hBW:Below w.heap.size w (wr.alloc (.cells #[.string nm,.slice a2 row.length cap2,.int .i64 wt] 64)):=hB.alloc hB.size _
   have H3:=zac (h3.below hBW)
   have HEW:=zac ((zaa HE).below hBW)
   have HBW:=zac hBW
   have Hch:=zac hch
   clear hxe hB hBW h3 hch
   go_wp2_with (first
    | (go_at_call 67;refine ((zaa Hch) _ _ eb db nD 0 w.heap.size (zaa HEW) (zaa H3)).mono ?_;rintro e w2 ⟨rfl,hb2⟩))
   have Hb2:=zac hb2
   clear hb2
   go_roundw
   case rel=>exact ⟨j+1,by omega,by go_num,(zaa HBW).trans ((zaa Hb2).mono (zaa HBW).size)⟩
   case measure=>simp [intOf];omega
  ·obtain ⟨wo,hwo⟩:∃ wo,wo=wr:=⟨_,rfl⟩
   subst hwo
   have HvW:=zac ((zaa Hv).below hB)
   have HEo:=zac ((zaa HE).below hB)
   have HB:=zac hB
   have hBs:=hB.size
   clear hB
   go_wp2_with fail
   refine (yjk _ es _ (zaa HvW) (zaa Hg) hl).mono ?_
   rintro e w1 ⟨ch,rfl,hC,hS,hb1⟩
   have hE1:=(zaa HEo).below hb1
   have hbase:yby st ch (2*es.length):=by
    intro nm p hp
    obtain ⟨⟨x,hx,hxn⟩,hpf⟩:=(hS nm).2 p hp
    have hst:=(zaa Hkn) x hx
    rw [hxn] at hst
    refine ⟨by rw [← hxn];exact Nat.le_trans ((zaa Hg) x hx).1 (by unfold maxLen;omega),?_⟩
    cases hR:st nm with
    | none=>exact absurd hR hst
    | some R =>
     obtain ⟨f1,f3⟩:=(zaa Hfit) nm R hR
     refine ⟨R,rfl,f1,f3,?_⟩
     intro r hr;rw [hpf]
     have:=yev es (zaa Hg) nm r
     omega
   have hWi:=sumW (st:=st) hS
   have hRi:=sumR (st:=st) hS
   go_wp2_with fail
   refine (yin w1 hE1 hC hbase).mono ?_
   rintro e w2 ⟨c,rfl,hcs2,hb2⟩
   rw [hWi,hRi] at hcs2
   have HBw:=zac (((zaa HB).trans (hb1.mono hBs)).trans (hb2.mono (Nat.le_trans hBs hb1.size)))
   rcases hcs2 with ⟨rfl,hw⟩|⟨rfl,hw,hr⟩|⟨rfl,hw,hr⟩
   ·have Hw:=zac hw
    clear hw hC hS hb1 hE1 hbase hb2 hWi hRi
    go_wp2
    go_ret2
    exact ⟨9,rfl,KeepX.ofBelow (zaa HBw),.inl ⟨rfl,zaa Hw,zaa HBw⟩⟩
   ·have Hw:=zac hw
    have Hr:=zac hr
    clear hw hr hC hS hb1 hE1 hbase hb2 hWi hRi
    go_wp2
    go_ret2
    exact ⟨10,rfl,KeepX.ofBelow (zaa HBw),.inr (.inl ⟨rfl,zaa Hw,zaa Hr,zaa HBw⟩)⟩
   have Hw:=zac hw
   have Hr:=zac hr
   clear hw hr hWi hRi
   have hC2:=hC.below hb2
   have hE2:=hE1.below hb2
   have hBB:Below w.heap.size w w2:=((zaa HB).trans (hb1.mono hBs)).trans (hb2.mono (Nat.le_trans hBs hb1.size))
   have hEB:w.heap.size≤wo.heap.size:=hBs
   have HC2:=zac hC2
   have HE2:=zac hE2
   have HBB:=zac hBB
   have HS:=zac hS
   have HfO:=zac hbase
   clear hC hS hb1 hE1 hbase hb2 hC2 hE2 hBB
   have hEw2:=(zaa HEV).below (zaa HBB)
   have hlo:∀ q,zcs st ixs vws q→q<wo.heap.size:=fun q hq=>Nat.lt_of_lt_of_le ((zaa HEV).xlt q hq) hEB
   have HEw2:=zac hEw2
   have Hlo:=zac hlo
   clear hEw2 hlo
   go_wp2_with fail
   refine (yc0 w2 (zaa HEw2) (zaa HC2) (zaa HfO) (zaa Hlo) (by omega) (by omega) (zaa Hvn)).mono ?_
   rintro e w3 ⟨rfl,hK3,ixs',vws',hE3,hV3,hI3,hX3⟩
   have HE3:=zac hE3
   have HK3:=zac hK3
   have HV3:=zac hV3
   have HI3:=zac hI3
   have HX3:=zac hX3
   clear hE3 hK3 hV3 hI3 hX3
   go_wp2
   go_ret2
   refine ⟨0,rfl,(KeepX.ofBelow (zaa HBB)).trans (zaa HK3),.inr (.inr ⟨rfl,zaa Hw,zaa Hr,ixs',vws',(zaa HE3).moreN (fun nm=>?_),⟨(zaa HV3).1,fun nm v hv=>?_⟩,zaa HI3,fun q hq=>?_⟩)⟩
   ·unfold ze3 zjk
    cases hR:st nm with
    | none=>exact Or.inl ⟨rfl,rfl⟩
    | some R =>
     refine Or.inr ?_
     cases hp:ch nm with
     | none =>
      refine ⟨R,_,rfl,rfl,rfl,rfl,rfl,Nat.le_add_right _ _,?_⟩
      dsimp only
      funext r
      rw [zvm ((zaa HS) nm |>.1 hp) r];omega
     | some p =>
      obtain ⟨⟨x,hx,hxn⟩,hpf⟩:=((zaa HS) nm).2 p hp
      refine ⟨{ R with n:=R.n+2*es.length,f:=fun r=>R.f r+p.2 r },_,by simp,rfl,rfl,rfl,rfl,Nat.le_refl _,?_⟩
      dsimp only;rw [hpf]
   ·obtain ⟨n',f',a,_,b⟩:=(zaa HV3).2 nm v hv
    exact ⟨n',f',a,(b trivial).1⟩
   ·have hsz:w.heap.size≤w2.heap.size:=(zaa HBB).size
    have:=(zaa HX3) q (by
     rcases hq with ⟨nm,R,hR,rfl⟩|h|h
     ·unfold zjk at hR
      cases hs:st nm with
      | none=>rw [hs] at hR;cases hR
      | some R0 =>
       rw [hs] at hR
       simp at hR
       obtain ⟨R',g1,_,_,g2,_⟩:=zwp (ch:=ch) hs (2*es.length)
       exact .inl ⟨nm,R',g1,by rw [g2,← hR]⟩
     ·exact .inr (.inl h)
     ·exact .inr (.inr h))
    rcases this with h|h
    ·exact .inl h
    ·exact .inr (by omega)
theorem zpw.fixup {W:World} {fix fix':Nat→Prop} {st:St} {ixs:IxS} {v:zec} (h:zpw W fix st ixs v) (hf:∀ k,fix k→fix' k) (hm:¬ fix' v.mb):zpw W fix' st ixs v:=by
 obtain ⟨⟨iv,h1,h2⟩,h3,⟨base,h4⟩,h5,h6,h7,h8,h9,h10⟩:=h
 exact ⟨⟨iv,h1,h2.imp hf⟩,hf _ h3,⟨base,h4.imp hf⟩,h5,h6,h7,h8,h9,hm⟩
section
variable {W:World} {fix:Nat→Prop} {eb db nD nI nV N:Nat} {st:St} {ixs:IxS} {vws:VwS}
theorem EngV.xtype (h:EngV W fix eb db nD nI nV N st ixs vws):∀ q,zcs st ixs vws q→∀ cs t p,W.heap[q]? = some (.cells cs t p)→t=144∨t=141:=by
 rintro q (⟨nm,R,hR,rfl⟩|⟨k,x,hx,hq⟩|⟨nm,v,hv,rfl⟩) cs t p hc
 ·obtain ⟨D,⟨es,cl,hm,_⟩,_⟩:=(h.rep.rel nm R hR).2
  rw [hm] at hc
  cases hc
 ·obtain ⟨_,_,R,_,d⟩:=h.idx k x hx
  obtain ⟨⟨bv,hb,_⟩,vals,hv,_⟩:=d.io
  rcases hq with rfl|hq
  ·rw [hb] at hc;cases hc;exact .inl rfl
  ·obtain ⟨cur,hc'⟩:=zde hv hq
   rw [hc'] at hc;cases hc;exact .inr rfl
 ·obtain ⟨D,⟨es,cl,hm,_⟩,_⟩:=(h.vw nm v hv).1.map
  rw [hm] at hc
  cases hc
theorem EngV.withView (hE:EngV W fix eb db nD nI nV N st ixs vws) {H:List (Nat×Nat)} {B:List zbb} {w' w4:World} {v:zec} (hd:zyp W fix eb db nD nI nV N st ixs vws H B w' v) {nm:ByteArray} (hn:nm.size≤8) (hx:vws nm=none) {D:DataW Unit}
  (hD:w'.ownsMap Tryz.prog 9 zap (db+2) nV D) (hsz:Maps.size D=nV) (hhas:∀ nm,nm.size≤maxLen→Maps.has D (zas nm)=(vws nm).isSome) (hat:∀ nm v,vws nm=some v→nm.size≤8∧∀ zd,D.atKey (zas nm) zd=.lit (.int .i64 v.VB))
  (hown:w4.ownsMap Tryz.prog 9 zap (db+2) (nV+1) (D.put (zas nm) (.lit (.int .i64 v.VB)))) (hg:w'.grownBy w4 (some (db+2))) :
  ∃ fix' ixk nIk,EngV w4 fix' eb db nD nIk (nV+1) N st ixk (zib vws nm v)∧nIk≤nI+4∧(∀ q,fix q→fix' q)∧(∀ q,fix' q→fix q∨W.heap.size≤q)∧KeepX (fun q=>q=db+1∨q=db+2) W w4∧∀ q,zcs st ixk (zib vws nm v) q→zcs st ixs vws q∨W.heap.size≤q:=by
 obtain ⟨ixk,nIk,fn,h,hnI,hfn,hvn,hxn,hinc,hnew⟩:=hd.ex
 have hkw:KeepX (fun q=>q=db+2) w' w4:=⟨hg.os,hg.tape,hg.output,hg.size,fun q hq hx=>hg.block q hq (fun e=>hx (Option.some.inj e))⟩
 have hk0:=hd.keep
 have hs0:=hk0.size
 have hdl:db+2<w'.heap.size:=hD.lt
 have he3:=hE.eb3
 have hinn:=hE.rep.inn
 have hel:eb<W.heap.size:=hE.flt _ hE.feb
 have notMap:∀ q cs t p,w'.heap[q]? = some (.cells cs t p)→q≠db+2:=by
  rintro q cs t p hc rfl
  obtain ⟨es,cl,hm,_⟩:=hD
  rw [hm] at hc
  cases hc
 have hnE:∀ q,q=db+2→¬ zct w' q:=by
  rintro q rfl ⟨cs,hcs⟩
  exact notMap _ _ _ _ hcs rfl
 have hff:∀ q,fix q∨fn q→q≠db+2∧q<w'.heap.size:=fun q hq=>by
  rcases hq with hq|hq
  ·exact ⟨fun e=>hE.fdb.2.2 (e ▸ hq),h.flt q hq⟩
  ·have:=hfn q hq
   exact ⟨by omega,this.2⟩
 have hf:∀ q,fix q∨fn q→w4.heap[q]? = w'.heap[q]?:=fun q hq=>hkw.blk q (hff q hq).2 (hff q hq).1
 have hrel:∀ nm R,st nm=some R→w4.heap[R.rb]? = w'.heap[R.rb]?∧w4.heap[R.mb]? = w'.heap[R.mb]?:=fun nm R hR=>by
  have h1:=h.rep.inr nm R hR
  obtain ⟨_,_,_,nv⟩:=h.rep.eng
  have h2:=nv.2.2.2.2.2 nm R hR
  exact ⟨hf _ (.inl (h.frb nm R hR).1),hkw.blk _ (by omega) (by omega)⟩
 have hmW:∀ m R,st m=some R→R.mb<W.heap.size:=fun m R hR=>by
  have:=hE.rep.inr m R hR
  omega
 have hvW:∀ m u,vws m=some u→u.mb<W.heap.size∧u.VB<W.heap.size:=fun m u hu=>⟨(hE.vw m u hu).1.map.lt,hE.flt _ (hE.vw m u hu).1.fixed⟩
 have hmb0:=hd.mb0
 have hvb0:=hd.vb0
 refine ⟨fun q=>fix q∨fn q,ixk,nIk,⟨(h.rep.keptW hkw.size (hf _ (.inl h.feb)) (hkw.blk db (by omega) (by omega)) hrel).topW,fun q hq=>Nat.lt_of_lt_of_le (hff q hq).2 hkw.size,.inl h.feb,fun m R hR=>⟨.inl (h.frb m R hR).1,fun hq=>?_⟩,⟨fun hq=>?_,fun hq=>?_,fun hq=>?_⟩,?_,fun k x hx'=>?_,h.iap,⟨_,hown,?_,fun m hm=>?_,fun m u hu=>?_⟩,fun m u hu=>?_,fun m m' u u' hu hu' hne=>?_,fun m u hu=>?_⟩,hnI,fun q hq=>.inl hq,fun q hq=>?_,(hk0.mono fun q _ e=>.inl e).trans (hkw.mono fun q _ e=>.inr e),fun q hq=>?_⟩
 ·rcases hq with hq|hq
  ·exact (h.frb m R hR).2 hq
  ·have:=hfn _ hq;have:=hmW m R hR;omega
 ·rcases hq with hq|hq
  ·exact h.fdb.1 hq
  ·have:=hfn _ hq;omega
 ·rcases hq with hq|hq
  ·exact h.fdb.2.1 hq
  ·have:=hfn _ hq;omega
 ·rcases hq with hq|hq
  ·exact h.fdb.2.2 hq
  ·have:=hfn _ hq;omega
 ·obtain ⟨D1,h1,h2⟩:=h.imap
  exact ⟨D1,zau h1 (hkw.blk _ (by omega) (by omega)),h2⟩
 ·obtain ⟨a,b,R',c,d⟩:=h.idx k x hx'
  obtain ⟨⟨bv,hb,_⟩,vals,hv,_⟩:=d.io
  obtain ⟨a',b'⟩:=hxn k x hx'
  refine ⟨fun hq=>hq.elim a a',fun g hg' hq=>hq.elim (b g hg') (b' g hg'),R',c,d.kept hkw hnE (notMap _ _ _ _ hb) (fun g hg'=>?_)⟩
  obtain ⟨cur,hc⟩:=zde hv hg'
  exact notMap _ _ _ _ hc
 ·rw [size_put (hD.tidy zoo),hhas nm (Nat.le_trans hn (by unfold maxLen;omega)),hx,hsz]
  rfl
 ·by_cases e:m=nm
  ·subst e;rw [has_put_same hD.isMap (zc2 _),za7];rfl
  ·rw [has_put_other (fun e'=>e (zdb e')),hhas m hm,zbh e]
 ·by_cases e:m=nm
  ·subst e
   rw [za7] at hu
   cases hu
   exact ⟨hn,fun zd=>atKey_put_same hD.isMap (zc2 _) _ _⟩
  ·rw [zbh e] at hu
   obtain ⟨h8,ha⟩:=hat m u hu
   exact ⟨h8,fun zd=>by rw [atKey_put_other (fun e'=>e (zdb e'))];exact ha zd⟩
 ·by_cases e:m=nm
  ·subst e
   rw [za7] at hu
   cases hu
   refine ⟨(hvn.fixup (fix':=fun q=>fix q∨fn q) (fun q hq=>.inr hq) (fun hq=>hq.elim (fun hq=>by have:=hE.flt _ hq;omega) hvn.mfix)).kept hf (hkw.blk _ hvn.map.lt (by omega)),hd.holds⟩
  ·rw [zbh e] at hu
   obtain ⟨a,b⟩:=h.vw m u hu
   have hu1:=hvW m u hu
   exact ⟨(a.fixup (fix':=fun q=>fix q∨fn q) (fun q hq=>.inl hq) (fun hq=>hq.elim a.mfix (fun hq=>by have:=hfn _ hq;omega))).kept hf (hkw.blk _ a.map.lt (h.vrel m u hu).2.2.1),b⟩
 ·by_cases e:m=nm
  ·subst e
   rw [za7] at hu
   cases hu
   rw [zbh (fun e=>hne e.symm)] at hu'
   have:=hvW m' u' hu'
   omega
  ·rw [zbh e] at hu
   by_cases e':m'=nm
   ·subst e'
    rw [za7] at hu'
    cases hu'
    have:=hvW m u hu
    omega
   ·rw [zbh e'] at hu'
    exact h.vap m m' u u' hu hu' hne
 ·by_cases e:m=nm
  ·subst e
   rw [za7] at hu
   cases hu
   exact ⟨by omega,by omega,by omega,fun m' R' hR'=>by have:=hmW m' R' hR';omega⟩
  ·rw [zbh e] at hu
   exact h.vrel m u hu
 ·rcases hq with hq|hq
  ·exact .inl hq
  ·exact .inr (hfn q hq).1
 ·rcases hq with hq|⟨k,x,hx',hq⟩|⟨m,u,hu,rfl⟩
  ·exact .inl (.inl hq)
  ·rcases hnew k x hx' with ho|⟨h1,h2⟩
   ·exact .inl (.inr (.inl ⟨k,x,ho,hq⟩))
   ·rcases hq with rfl|hq
    ·exact .inr h1
    ·exact .inr (h2 q hq)
  ·by_cases e:m=nm
   ·subst e
    rw [za7] at hu
    cases hu
    exact .inr hmb0
   ·rw [zbh e] at hu
    exact .inl (.inr (.inr ⟨m,u,hu,rfl⟩))
end
end Go.Proofs.YtoifcnidhfnapaaGreatDoor
