import Derived.Test.YtoifcnidhfnapaaGreatDoorB24
import Derived.Test.YtoifcnidhfnapaaGreatDoorB19
import Derived.Test.YtoifcnidhfnapaaGreatDoorB14
import Derived.Test.YtoifcnidhfnapaaGreatDoorB22
set_option linter.unusedVariables false
set_option linter.unusedSimpArgs false
set_option maxRecDepth 100000
set_option maxHeartbeats 16000000
namespace Go.Proofs.YtoifcnidhfnapaaGreatDoor
open Go.RowKit Go.Maps Go.Sort Go.Shelf
theorem yi5 {w5:World} {c0 c1 c2 n vcap:Nat} {va:Option Addr} {f:Row→Int} {es:List zaj} {ls:List (Row×Int)} (hc:zm9 c0 c1 c2) (hS:zwd f n ls) (hp:es.Perm (ls.map (zku c0 c1 c2))) (hri:(ls.map (zku c0 c1 c2)).Pairwise (fun a b=>a.1≠b.1)→zgh es) (hbt:zcg w5 (.slice va es.length vcap) es) :
  znb (w5.alloc (.cells #[.int .i64 c0,.int .i64 c1,.int .i64 c2,.slice none 0 0,.slice va es.length vcap] 144)) w5.heap.size (.int .i64 c0) (.int .i64 c1) (.int .i64 c2) (.slice none 0 0) [] es∧zrk c0 c1 c2 f es∧es.length≤n:=by
 obtain ⟨xs,hx,rfl,hl⟩:=hS
 refine ⟨⟨⟨_,zae _ _ _ rfl,hbt.below ((Below.refl _ _).alloc (Nat.le_refl _) _)⟩,[],⟨rfl,.inl ⟨rfl,rfl⟩⟩,⟨rfl,fun i hi=>by simp at hi⟩⟩,zqe hc hx hp hri,?_⟩
 have:=hp.length_eq
 simp [za6] at this
 omega
section
attribute [local go_sem] Oper.semAt_some
theorem yak (c0 c1 c2 gf n:Nat) (hc:zm9 c0 c1 c2) (lb:Array Value) (f:Row→Int) (W:World) (eg:∀ args w,(callFunc gf args).run Tryz.prog w=.ok (.enter gf args) w) (hn:n≤100000000)
  (hseq:∀ W0,Below W.heap.size W W0→SeqStopsK Fence.wide 8 Tryz.prog gf lb zwr zbw (zwd f n) (fun _=>True) n W0) :
  Calls Tryz.prog 154 #[.agg #[.int .i64 c0,.int .i64 c1,.int .i64 c2],.func (.func gf) #[] lb] W fun e w'=>∃ XB rv rs es,e=.returned (.pointer (some ⟨XB,0,none⟩))∧W.heap.size≤XB∧znb w' XB (.int .i64 c0) (.int .i64 c1) (.int .i64 c2) rv rs []∧zjw rs∧zrk c0 c1 c2 f es∧Eqv rs.flatten es∧ze6 rs≤n∧Below W.heap.size W w'∧(∀ g,rv.ownBlock=some g→W.heap.size≤g):=by
 obtain ⟨W1,hW1⟩:∃ W1,W1=(W.alloc (.cells #[.int .i64 c0,.int .i64 c1,.int .i64 c2] 94)).drew:=⟨_,rfl⟩
 have hb1:Below W.heap.size W W1:=by rw [hW1];exact ((Below.refl _ W).alloc (Nat.le_refl _) (.cells #[.int .i64 c0,.int .i64 c1,.int .i64 c2] 94)).trans (zav _ _)
 have hB1:W1.heap[W.heap.size]? = some (.cells #[.int .i64 c0,.int .i64 c1,.int .i64 c2] 94 (0,0)):=by rw [hW1];exact zae W _ _ rfl
 have j0:W1.cell? ⟨W.heap.size,0,none⟩=some (.int .i64 c0):=zab hB1 0
 have j1:W1.cell? ⟨W.heap.size,1,none⟩=some (.int .i64 c1):=zab hB1 1
 have j2:W1.cell? ⟨W.heap.size,2,none⟩=some (.int .i64 c2):=zab hB1 2
 have hrun:=zve c0 c1 c2 gf n hc.toybz lb (zwd f n) W1 eg (by omega) (fun W0 h0=>hseq W0 (hb1.trans (h0.mono hb1.size))) (fun ls ⟨xs,_,e,hl⟩=>by rw [e];simpa [za6] using hl)
 rw [hW1] at hrun hB1 j0 j1 j2
 have Hrun:=zac (zn5 (m':=8) hrun)
 have HB1:=zac hB1
 have Hb1:=zac hb1
 have HW1:=zac hW1
 clear hrun hB1 hb1 hseq
 refine (callsIn_wide (n:=9)).1 (callsIn_of_wp Tryz.func154 rfl trivial ?_ rfl)
 simp only [Tryz.ntmps154,List.size_toArray,List.length_cons,List.length_nil,Nat.reduceAdd,Nat.reduceSub,Array.replicate_succ,Array.replicate_zero,List.push_toArray,List.append_toArray,List.nil_append,List.cons_append]
 gi_wp2_with fail
 gi_region_with (first
  | (refine ⟨trivial,?_⟩;gi_at_call 166;refine (zaa Hrun).mono ?_;rintro e w5 ⟨v,ls,es,rfl,hS,hp,hri,hbt,hb5⟩;obtain ⟨va,vcap,rfl⟩:=hbt.form;have hB5:=zan hb5 (zaa HB1);have m0:w5.cell? ⟨W.heap.size,0,none⟩=some (.int .i64 c0):=zab hB5 0;have m1:w5.cell? ⟨W.heap.size,1,none⟩=some (.int .i64 c1):=zab hB5 1;have m2:w5.cell? ⟨W.heap.size,2,none⟩=some (.int .i64 c2):=zab hB5 2))
 all_goals
  obtain ⟨hI,hA,hl⟩:=yi5 hc hS hp hri hbt
  rw [← zaa HW1] at hb5
  have hb6:=((zaa Hb1).trans (hb5.mono (zaa Hb1).size)).alloc (Nat.le_trans (zaa Hb1).size hb5.size) (.cells #[.int .i64 c0,.int .i64 c1,.int .i64 c2,.slice none 0 0,.slice va es.length vcap] 144)
  have hszW:W.heap.size≤w5.heap.size:=Nat.le_trans (zaa Hb1).size hb5.size
  have hset:=zq8 _ _ _ _ _ [] es _ hI ⟨by simp,by simp,by simp⟩ hA.rise hA.wf (by simp [ze6];omega)
  obtain ⟨w6,hw6⟩:∃ w6,w6=w5.alloc (.cells #[.int .i64 c0,.int .i64 c1,.int .i64 c2,.slice none 0 0,.slice va es.length vcap] 144):=⟨_,rfl⟩
  rw [← hw6] at hset hb6
  have Hset:=zac hset
  have Hb6:=zac hb6
  have HA:=zac hA
  have Hl:=zac hl
  clear hset hb6 hA hl hI hS hp hri hbt hb5 hB5 m0 m1 m2 j0 j1 j2
  gi_wp2_with (first
   | (refine ⟨trivial,?_⟩;gi_at_call 123;rw [← hw6];refine (show CallsIn Fence.wide _ _ _ _ _ _ from (callsIn_wide.2 (zaa Hset))).mono ?_;rintro e w7 ⟨rfl,rv',rs',h1,h2,h3,h4,h5,h6⟩))
  go_ret
  refine ⟨_,rv',rs',es,rfl,hszW,h1,h2,zaa HA,by simpa using h3,by have:=zaa Hl;simp [ze6] at h4;unfold ze6;omega,?_,fun g hg=>?_⟩
  ·have h7:=zaa Hb6
   exact h7.trans (h5.below (Nat.le_trans hszW (by rw [hw6];simp)) (fun k hk=>by rcases hk with rfl|hk;exact hszW;cases hk))
  ·rcases h6 g hg with h|h
   ·cases h
   ·rw [hw6] at h
    simp at h
    omega
end
theorem yeq {w:World} {blk n:Nat} {d:Array Row} {os:Array Obj} {cur:Array Value} {t:TypeId} (h:w.heap[blk]? = some (.cells cur t (0,0))):∃ cur',(sortWorldK ze0 3 w blk 0 n d os).heap[blk]? = some (.cells cur' t (0,0)):=by
  have hl:=(Array.getElem?_eq_some_iff.1 h).1
  simp only [sortWorldK,grow,putRowK,putRow,mapBlock,Sort.ahead]
  rw [Array.getElem?_append_left (by simpa using hl),Array.getElem?_modify,if_pos rfl,h]
  exact ⟨_,rfl⟩
theorem zo9 (Bm b nn:Nat) (D:DataW Unit) (g:Row→Int) (hrep:Rep D g) (w:World) (hm:w.cell? ⟨Bm,0,none⟩=some (.map (some b))) (hown:w.ownsMap Tryz.prog 77 (plainElem Tryz.prog 2) b nn D) (hnn:nn≤1000000000) :
    Calls Tryz.prog 112 #[.func (.func 162) #[] #[.pointer (some ⟨Bm,0,none⟩)],zse] w fun e w'=>∃ v ys,e=.returned v∧zdg D ys∧zhs w' v ys∧RowKit.Below w.heap.size w w'∧ys.length≤nn∧∀ gb ln cap,v=.slice (some ⟨gb,0,none⟩) ln cap→w.heap.size≤gb∧∃ cur,w'.heap[gb]? = some (.cells cur 77 (0,0)):=by
  have H:=zac (zhv Bm b nn D g hrep w hm hown hnn)
  have hszD:=hown.size_le
  have hT:=hown.tidy zft
  have HT:=zac hT
  have HK:=zac (zmh hown)
  have Hrep:=zac hrep
  clear hrep hm hown hT
  go_enter Tryz.func112,Tryz.ntmps112
  go_wp2_with fail
  refine (zaa H).mono ?_
  rintro e w1 ⟨v,xs,rfl,hK,ho,hb⟩
  have hmem:∀ r,zaw r→(r∈xs↔Maps.has D (za2 r)=true):=fun r hr=>by rw [hK.mem r hr];simp
  have hxl:xs.length≤nn:=Nat.le_trans (zco (zaa HT) hK.wf hK.apart (fun x hx=>(hmem x (hK.wf x hx)).1 hx)) hszD
  rcases ho.2 with ⟨rfl,h0⟩|⟨gb,cap,cur,rfl,hbg,hgh,_⟩
  · have hx0:xs=[]:=List.eq_nil_of_length_eq_zero h0
    subst hx0
    have HR:Hid (zdg D []):=⟨List.Pairwise.nil,fun y hy=>by simp at hy,hmem⟩
    have Hb:=zac hb
    clear H hK hmem ho hb
    go_wp2_with (first|(go_at_call 161;refine (zld _ _ _ _).mono ?_;rintro e w' ⟨rfl,rfl⟩))
    go_ret
    exact ⟨_,[],rfl,zaa HR,⟨none,0,rfl,fun i hi=>by simp at hi⟩,zaa Hb,by simp,fun gb ln cap e=>by simp at e⟩
  · have hH:=zgo ho
    have hgl:gb<w1.heap.size:=(Array.getElem?_eq_some_iff.1 hgh).1
    have Hs:=zac (zle gb cap xs.toArray w1 hH hgl (by simp;omega))
    have HH:=zac hH
    have Hb:=zac hb
    have Hmem:=zac hmem
    have HKo:=zac hK
    have Hgh:=zac hgh
    clear H hK hmem ho hb hgh hH
    go_wp2_with fail
    refine (zaa Hs).mono ?_
    rintro e w2 ⟨rfl,d',n,os,hp,hsrt,rfl⟩
    have hsz:d'.size=xs.length:=by have:=hp.1;simpa using this
    have hperm:d'.toList.Perm xs:=by
      have h:=hp.2.2
      have e1:(d'.extract 0 xs.toArray.size)=d':=by rw [Array.extract_eq_self_of_le (by simp;omega)]
      have e2:(xs.toArray.extract 0 xs.toArray.size)=xs.toArray:=Array.extract_eq_self_of_le (by simp)
      rw [e1,e2] at h
      simpa using h
    have hHd:HoldsK ze0 3 (sortWorldK ze0 3 w1 gb 0 n d' os) gb 0 d':=holdsK_sortWorldK_c ze0 3 w1 gb 0 xs.toArray d' n os (zaa HH) hgl (by simpa using hsz)
    have hR:zdg D d'.toList:=by
      refine ⟨zdv ?_ ?_,fun y hy=>(zaa HKo).wf y (hperm.mem_iff.1 hy),fun r hr=>by rw [hperm.mem_iff];exact (zaa Hmem) r hr⟩
      · rw [hsz];simpa using hsrt
      · exact (hperm.pairwise_iff (fun {a b} (h:a≠b)=>h.symm)).2 (zaa HKo).apart
    have hTr:=ze7 (cap:=cap) hHd
    have hBe:RowKit.Below w.heap.size w (sortWorldK ze0 3 w1 gb 0 n d' os):=(zaa Hb).grown (zi7 w1 gb n d' os) (zaa Hb).size (fun k e=>by cases e;exact hbg)
    rw [hsz] at hTr
    have hty:=yeq (n:=n) (d:=d') (os:=os) (zaa Hgh)
    have HF:=zac (And.intro hR (And.intro hTr hBe))
    have Hty:=zac hty
    clear hty
    clear hR hTr hBe hHd hperm hp hsrt Hs
    generalize sortWorldK ze0 3 w1 gb 0 n d' os=w3 at *
    go_wp2
    go_ret
    exact ⟨_,_,rfl,(zaa HF).1,(zaa HF).2.1,(zaa HF).2.2,by simp [hsz];omega,fun g' ln cap' e=>by simp at e;obtain ⟨rfl,_⟩:=e;exact ⟨hbg,zaa Hty⟩⟩
theorem yig (n:Nat) (hn:1≤n) (l Bn mb nn:Nat) (g:Row→Int) (J Jx:List (Row×Int)→World→Prop) (N:Nat)
    (hY:∀ pre x W,J pre W→pre.length<N→YieldAt Fence.wide (n - 1) Tryz.prog l #[.agg #[.int .i64 x.1.1,.int .i64 x.1.2.1,.int .i64 x.1.2.2],.int .i64 x.2] W fun e W' =>
      (e=.returned (.bool true)∧J (pre ++ [x]) W'∧zbw W W')∨(e=.returned (.bool false)∧Jx (pre ++ [x]) W'))
    (W:World) (hJ:AbidesFrom W.heap.size J) (hBb:W.heap[Bn]? = some (.cells #[.map (some mb)] 127 (0,0)))
    (D:DataW Unit) (hown:W.ownsMap Tryz.prog 77 (plainElem Tryz.prog 2) mb nn D) (hrep:Rep D g) (hnn:nn≤1000000000) (hN:∀ ys,zdg D ys→ys.length≤N) (h0:J [] W) :
    CallsIn Fence.wide n Tryz.prog 111 #[.func (.yield l) #[] #[],.pointer (some ⟨Bn,0,none⟩)] W fun e W'=>(∃ v,e=.returned v) ∧
      ((∃ xs,(∃ ys,zdg D ys∧xs=za6 g ys)∧J xs W')∨(∃ pre,True∧Jx pre W')):=by
  have hBn:W.cell? ⟨Bn,0,none⟩=some (.map (some mb)):=zab hBb 0
  have hBl:=World.block_lt_of_cell? W _ hBn
  have hml:=hown.lt
  dsimp only at hBl
  have hkeys:(w:World)→(hw:w=W.alloc (.cells #[.map (some mb)] 127))→Calls Tryz.prog 112 #[.func (.func 162) #[] #[.pointer (some ⟨W.heap.size,0,none⟩)],zse] w fun e w'=>∃ v ys,e=.returned v∧zdg D ys∧zhs w' v ys∧RowKit.Below w.heap.size w w'∧ys.length≤nn∧∀ gb ln cap,v=.slice (some ⟨gb,0,none⟩) ln cap→w.heap.size≤gb∧∃ cur,w'.heap[gb]? = some (.cells cur 77 (0,0)):=
    fun w hw=>zo9 W.heap.size mb nn D g hrep w (by rw [hw];exact zab (zae _ _ _ rfl) 0) (by rw [hw];exact hown.alloc _) hnn
  have Hkeys:=zac (hkeys _ rfl)
  clear hkeys
  refine callsIn_of_wp Tryz.func111 rfl trivial ?_ rfl
  simp only [Tryz.ntmps111,List.size_toArray,List.length_cons,List.length_nil,Nat.reduceAdd,Nat.reduceSub,Array.replicate_succ,Array.replicate_zero,List.push_toArray,List.append_toArray,List.nil_append,List.cons_append]
  gi_wp2_with (first
    | (refine ⟨trivial,?_⟩;gi_at_call 113;refine (callsIn_wide.2 (zgq _ _)).mono ?_;rintro e w' ⟨rfl,rfl⟩)
    | (refine ⟨trivial,?_⟩;gi_at_call 112;refine (callsIn_wide.2 (zaa Hkeys)).mono ?_;rintro e w1 ⟨v,ys,rfl,hR,hT,hb,hyl,hgb⟩;obtain ⟨a,cap,rfl,hcs⟩:=hT))
  have hg1:W.grownBy w1 none:=(World.grownBy_alloc W (.cells #[.map (some mb)] 127) none).trans (zc3 hb none)
  have hJ1:J [] w1:=hJ [] W w1 none h0 hg1 (fun r e=>by cases e)
  have hk1:zbw W w1:=zbw.of_grown hg1 (fun j e=>by cases e)
  have hBb1:=hk1.cells Bn _ _ _ hBb (by decide) (by decide)
  have hB1:w1.cell? ⟨Bn,0,none⟩=some (.map (some mb)):=zab hBb1 0
  have hm1:zfk w1 mb nn g:=hk1.wmap ⟨D,hown,hrep⟩
  have hys:=hN ys hR
  have hwf:=hR.wf
  have hfr:∀ gb ln cap',Value.slice a ys.length cap=.slice (some ⟨gb,0,none⟩) ln cap'→∃ cur,w1.heap[gb]? = some (.cells cur 77 (0,0)):=fun gb ln cap' e=>(hgb gb ln cap' e).2
  have Hcs:=zac hcs
  have HR:=zac hR
  have HJ1:=zac hJ1
  clear hcs hR hJ1 Hkeys hN hgb hown hrep h0
  try go_frame
  gi_loopw [10] (fun i wr=>∃ k:Nat,k≤ys.length∧i=.int .i64 k∧J (za6 g (ys.take k)) wr∧zbw w1 wr∧W.heap.size≤wr.heap.size) (fun i _=>ys.length - (intOf i).toNat)
  case atStart=>exact ⟨0,Nat.zero_le _,rfl,zaa HJ1,zbw.refl _,hg1.size⟩
  case round =>
    obtain ⟨k,hk,rfl,hJk,hkk,hsk⟩:=hrel
    by_cases hlt:k<ys.length
    · obtain ⟨gb,rfl,d0,d1,d2⟩:=(zaa Hcs) k hlt
      have hx:(k:Int)<(ys.length:Int):=by omega
      obtain ⟨cur,hgX⟩:=hfr gb _ _ rfl
      replace d0:=hkk.cellOf hgX (by decide) (by decide) d0
      replace d1:=hkk.cellOf hgX (by decide) (by decide) d1
      replace d2:=hkk.cellOf hgX (by decide) (by decide) d2
      obtain ⟨y,hy⟩:∃ y,y=ys[k]?.getD (0,0,0):=⟨_,rfl⟩
      have hye:y=ys[k]:=by rw [hy];simp [hlt]
      have hwy:zaw y:=by rw [hye];exact hwf _ (List.getElem_mem hlt)
      have htk:ys.take (k+1)=ys.take k ++ [y]:=by rw [List.take_succ_eq_append_getElem hlt,hye]
      rw [← hy] at d0 d1 d2
      obtain ⟨y1,y2,y3⟩:=y
      dsimp only at d0 d1 d2
      have hBbr:=hkk.cells Bn _ _ _ hBb1 (by decide) (by decide)
      have hBr:wr.cell? ⟨Bn,0,none⟩=some (.map (some mb)):=zab hBbr 0
      have hmr:=hkk.wmap hm1
      have Htk:=zac htk
      have HJk:=zac hJk
      have Hkk:=zac hkk
      have Hmr:=zac hmr
      clear hy hye htk hJk hkk hmr
      gi_wp2_with fail
      have hJa:J (za6 g (ys.take k)) (wr.alloc (.cells #[.int .i64 y1,.int .i64 y2,.int .i64 y3] 77)).drew:=
        hJ _ wr _ none (zaa HJk) ((World.grownBy_alloc _ _ none).trans (zf3 _)) (fun r e=>by cases e)
      have hka:zbw wr (wr.alloc (.cells #[.int .i64 y1,.int .i64 y2,.int .i64 y3] 77)).drew:=zbw.of_grown ((World.grownBy_alloc _ _ none).trans (zf3 _)) (fun j e=>by cases e)
      have hsa:wr.heap.size<(wr.alloc (.cells #[.int .i64 y1,.int .i64 y2,.int .i64 y3] 77)).drew.heap.size:=by
        show wr.heap.size<(wr.alloc _).heap.size
        simp
      obtain ⟨fn,tmps,assign,body,hy,hR⟩:=hY _ ((y1,y2,y3),g (y1,y2,y3)) _ hJa (by simp [za6];omega)
      have hR':=hR.mono (R':=fun e W'=>∃ r:Bool,e=.returned (.bool r)∧((r=true∧J (za6 g (ys.take k) ++ [((y1,y2,y3),g (y1,y2,y3))]) W'∧zbw (wr.alloc (.cells #[.int .i64 y1,.int .i64 y2,.int .i64 y3] 77)).drew W')∨(r=false∧Jx (za6 g (ys.take k) ++ [((y1,y2,y3),g (y1,y2,y3))]) W'))) (by
        rintro e W3 (⟨rfl,h1,h2⟩|⟨rfl,h1⟩)
        · exact ⟨true,rfl,.inl ⟨rfl,h1,h2⟩⟩
        · exact ⟨false,rfl,.inr ⟨rfl,h1⟩⟩)
      have hlk:(Instr.lookup 127 (.map (some mb)) (.agg #[.int .i64 y1,.int .i64 y2,.int .i64 y3]) false).run Tryz.prog (wr.alloc (.cells #[.int .i64 y1,.int .i64 y2,.int .i64 y3] 77)).drew=.ok (.int .i64 (g (y1,y2,y3))) (wr.alloc (.cells #[.int .i64 y1,.int .i64 y2,.int .i64 y3] 77)).drew:=(hka.wmap (zaa Hmr)).look hwy
      have f0:(wr.alloc (.cells #[.int .i64 y1,.int .i64 y2,.int .i64 y3] 77)).drew.cell? ⟨wr.heap.size,0,none⟩=some (.int .i64 y1):=zab (zae _ _ _ rfl) 0
      have f1:(wr.alloc (.cells #[.int .i64 y1,.int .i64 y2,.int .i64 y3] 77)).drew.cell? ⟨wr.heap.size,1,none⟩=some (.int .i64 y2):=zab (zae _ _ _ rfl) 1
      have f2:(wr.alloc (.cells #[.int .i64 y1,.int .i64 y2,.int .i64 y3] 77)).drew.cell? ⟨wr.heap.size,2,none⟩=some (.int .i64 y3):=zab (zae _ _ _ rfl) 2
      have fB:(wr.alloc (.cells #[.int .i64 y1,.int .i64 y2,.int .i64 y3] 77)).drew.cell? ⟨Bn,0,none⟩=some (.map (some mb)):=zab (hka.cells Bn _ _ _ hBbr (by decide) (by decide)) 0
      dsimp only at hy
      have HR':=zac hR'
      have Hka:=zac hka
      have HJa:=zac hJa
      clear hR hR' hka hJa hBr hBbr d0 d1 d2 hB1 hBb1 hm1 hBn hBb hJ hY hgX
      gi_region_with (refine (zaa HR').mono ?_;rintro e W3 ⟨r,rfl,hor⟩)
      all_goals (rcases hor with ⟨rfl,hJ3,hk3⟩|⟨rfl,hx3⟩)
      all_goals first
        | (gi_wp2
           go_roundw
           case rel=>exact ⟨k+1,by omega,by simp,by rw [zaa Htk];simpa [za6] using hJ3,((zaa Hkk).trans (zaa Hka)).trans hk3,by have:=hk3.size;omega⟩
           case measure=>simp [intOf];omega)
        | (gi_wp2
           refine bodyPost_ret (results_none rfl _ _ _) rfl ?_
           exact ⟨⟨_,rfl⟩,.inr ⟨_,trivial,hx3⟩⟩)
    · have hke:k=ys.length:=by omega
      subst hke
      rw [List.take_length] at hJk
      gi_wp2
      go_end0
      exact ⟨⟨_,rfl⟩,.inl ⟨_,⟨ys,zaa HR,rfl⟩,hJk⟩⟩
theorem yg4 {w:World} {Bn mb n N:Nat} {f:Row→Int} (hm:w.heap[Bn]? = some (.cells #[.map (some mb)] 127 (0,0))) (h:zfk w mb n f) (hn:n≤N) (hN:N≤1000000000):∀ W0,Below w.heap.size w W0→SeqStopsK Fence.wide 8 Tryz.prog 111 #[.pointer (some ⟨Bn,0,none⟩)] zwr zbw (zwd f N) (fun _=>True) N W0:=by
  intro W0 hb0 l J Jx W hW hJ _ hY h0
  have hbW:Below w.heap.size w W:=hb0.trans (hW.mono hb0.size)
  have hmW:=(hbW.block Bn (Array.getElem?_eq_some_iff.1 hm).1).trans hm
  obtain ⟨D,hown,hrep⟩:=h
  have hownW:W.ownsMap Tryz.prog 77 (plainElem Tryz.prog 2) mb n D:=zau hown (hbW.block mb hown.lt)
  have hlen:∀ ys,zdg D ys→ys.length≤n:=fun ys hR=>Nat.le_trans (zco (hown.tidy zft) hR.wf (hR.rising.imp (fun {a b} h e=>by subst e;unfold ltR at h;omega)) (fun x hx=>(hR.mem x (hR.wf x hx)).1 hx)) hown.size_le
  refine (yig 8 (by omega) l Bn mb n f J Jx N hY W hJ hmW D hownW hrep (by omega) (fun ys hR=>by have:=hlen ys hR;omega) h0).mono ?_
  rintro e W' ⟨he,hor⟩
  refine ⟨he,?_⟩
  rcases hor with ⟨ls,⟨ys,hR,rfl⟩,hj⟩|h
  · refine .inl ⟨_,⟨ys,⟨hR.wf,hR.rising.imp (fun {a b} h e=>by subst e;unfold ltR at h;omega),fun r hr=>(hR.mem r hr).trans (hrep.has_ r hr)⟩,rfl,by have:=hlen ys hR;omega⟩,hj⟩
  · exact .inr h
end Go.Proofs.YtoifcnidhfnapaaGreatDoor
namespace Go.Proofs.YtoifcnidhfnapaaGreatDoor
abbrev Trm:=Nat×Int
def zb4 (ts:List Trm) (j:Nat):Nat:=(ts[j]?.getD (0,0)).1
def zam (ts:List Trm) (v:Nat):List Nat:=(List.range ts.length).filter fun j=>decide (zb4 ts j=v)
def zb0 (v:Nat):Nat→List (List Trm)→List (Nat×Nat)
 | _,[]=>[]
 | k,ts :: A=>if (zam ts v).length=0 then zb0 v (k+1) A else (k,(zam ts v).length) :: zb0 v (k+1) A
def zci (A:List (List Trm)) (v:Nat):List (Nat×Nat):=zb0 v 0 A
def zbq (H:List Nat) (v:Nat):List Nat:=(List.range H.length).filter fun p=>decide (H[p]?.getD 0=v)
def zfy (A:List (List Trm)) (H:List Nat) (v:Nat):Stp:=⟨zci A v,zbq H v⟩
theorem zgg {v:Nat}:∀ {k:Nat} {A:List (List Trm)} {u:Nat×Nat},u∈zb0 v k A→k≤u.1∧u.1<k+A.length∧u.2=(zam (A[u.1 - k]?.getD []) v).length∧1≤u.2
 | k,[],u,h=>by cases h
 | k,ts :: A,u,h=>by
  unfold zb0 at h
  have key:u∈zb0 v (k+1) A→k≤u.1∧u.1<k+(ts :: A).length∧u.2=(zam ((ts :: A)[u.1 - k]?.getD []) v).length∧1≤u.2:=by
   intro h
   obtain ⟨h1,h2,h3,h4⟩:=zgg h
   refine ⟨by omega,by simp;omega,?_,h4⟩
   rw [h3,show u.1 - k=(u.1 - (k+1))+1 by omega]
   simp
  split at h
  ·exact key h
  ·rcases List.mem_cons.1 h with rfl|h
   ·refine ⟨Nat.le_refl _,by simp,by simp,by dsimp only;omega⟩
   ·exact key h
theorem ze8 (v:Nat):∀ (k:Nat) (A:List (List Trm)),((zb0 v k A).map (·.1)).Nodup
 | k,[]=>List.nodup_nil
 | k,ts :: A=>by
  unfold zb0
  split
  ·exact ze8 v (k+1) A
  ·rw [List.map_cons,List.nodup_cons]
   refine ⟨fun h=>?_,ze8 v (k+1) A⟩
   obtain ⟨u,hu,e⟩:=List.mem_map.1 h
   have:=(zgg hu).1
   dsimp only at e
   omega
theorem zt2 (v:Nat):∀ (k:Nat) (A:List (List Trm)) (i:Nat),i<A.length→zmy (zb0 v k A) (k+i)=(zam (A[i]?.getD []) v).length
 | k,[],i,h=>by simp at h
 | k,ts :: A,i,h=>by
  unfold zb0
  cases i with
  | zero =>
   have h0:zmy (zb0 v (k+1) A) k=0:=zez fun hm=>by
    obtain ⟨u,hu,e⟩:=List.mem_map.1 hm
    have:=(zgg hu).1
    omega
   split
   ·rename_i hl
    simp only [Nat.add_zero,h0]
    simp [hl]
   ·simp only [Nat.add_zero,zmy,if_true,h0]
    simp
  | succ i =>
   have ih:=zt2 v (k+1) A i (by simpa using h)
   rw [show k+1+i=k+(i+1) by omega] at ih
   split
   ·rw [ih];simp
   ·simp only [zmy]
    rw [if_neg (by omega),ih]
    simp
theorem zt1 (A:List (List Trm)) (v i:Nat) (hi:i<A.length):zmy (zci A v) i=(zam (A[i]?.getD []) v).length:=by
 have:=zt2 v 0 A i hi
 rwa [Nat.zero_add] at this
def zie (A:List (List Trm)) (v:Nat):Prop:=∃ i,i<A.length∧zam (A[i]?.getD []) v≠[]
theorem zi1 (v:Nat):∀ (k:Nat) (A:List (List Trm)),(zb0 v k A).length≤A.length
 | k,[]=>Nat.le_refl _
 | k,ts :: A=>by
  have:=zi1 v (k+1) A
  unfold zb0
  split
  ·simp;omega
  ·simp;omega
theorem zns {A:List (List Trm)} {H:List Nat} {v:Nat} (hb:zie A v) (hH:H.length≤4):zjx A.length (zfy A H v) where
 ne:=fun e=>by
  obtain ⟨i,hi,hne⟩:=hb
  have:=zt1 A v i hi
  rw [show zci A v=[] from e] at this
  exact hne (List.eq_nil_of_length_eq_zero this.symm)
 nodup:=ze8 v 0 A
 at4:=fun u hu=>by
  obtain ⟨_,h2,_,h4⟩:=zgg hu
  exact ⟨by omega,h4⟩
 len:=zi1 v 0 A
 pl:=fun p hp=>by
  have hp':p∈zbq H v:=hp
  unfold zbq at hp'
  rw [List.mem_filter,List.mem_range] at hp'
  omega
 pln:=by
  show (zbq H v).length≤4
  unfold zbq
  exact Nat.le_trans (List.length_filter_le _ _) (by simpa using hH)
def zy9 (ts:List Trm) (vs:List Nat):Nat:=(vs.map fun v=>(zam ts v).length).sum
def zh8 (ts:List Trm) (vs:List Nat):List Nat:=zam ts 0 ++ vs.flatMap (zam ts)
theorem yfb {A:List (List Trm)} {v:Nat} (cs:Nat→Nat) (r r':Nat→Row) (z:Int)
  (hseg:∀ i,i<A.length→∀ k,k<(zam (A[i]?.getD []) v).length→zal (r' i) (cs i+k)=zal (r i) ((zam (A[i]?.getD []) v)[k]?.getD 0)) :
  zc7 (zci A v) cs (zg4 r') z=true↔∀ i,i<A.length→∀ j∈zam (A[i]?.getD []) v,zal (r i) j=z:=by
 rw [← zpf (na:=A.length) (us:=zci A v) (ze8 v 0 A) (fun u hu=>by have:=(zgg hu).2.1;omega),ze4]
 constructor
 ·intro h i hi j hj
  have h1:=h i hi
  rw [zt1 A v i hi] at h1
  unfold zeg at h1
  rw [ze4] at h1
  obtain ⟨k,hk,rfl⟩:=List.getElem_of_mem hj
  have h2:=h1 k hk
  simp only [decide_eq_true_eq] at h2
  have h3:=hseg i hi k hk
  rw [show (zg4 r' i).1=r' i from rfl,h3] at h2
  simpa [hk] using h2
 ·intro h i hi
  rw [zt1 A v i hi]
  unfold zeg
  rw [ze4]
  intro k hk
  simp only [decide_eq_true_eq]
  rw [show (zg4 r' i).1=r' i from rfl,hseg i hi k hk]
  refine h i hi _ ?_
  simp [hk]
theorem ylz {A:List (List Trm)} {v:Nat} {cs:Nat→Nat} {g:Nat→zaj} {z:Int} (hb:zie A v) (h:zc7 (zci A v) cs g z=true):zOf (zci A v) cs g=z:=
 (zvu (zns (H:=[]) hb (by simp)).ne (fun u hu=>((zns (H:=[]) hb (by simp)).at4 u hu).2) h).symm
def zug (H:List Nat) (vs:List Nat) (asg:Nat→Int) (row:H4):H4:=vs.foldl (fun row v=>zea (zbq H v) (asg v) row) row
theorem zor (A:List (List Trm)) (H:List Nat) (r r':Nat→Row):∀ (vs:List Nat) (cs:Nat→Nat) (row h:H4),vs.Nodup→(∀ v∈vs,zie A v) →
  (∀ pre v post,vs=pre ++ v :: post→∀ i,i<A.length→∀ k,k<(zam (A[i]?.getD []) v).length→zal (r' i) (cs i+zy9 (A[i]?.getD []) pre+k)=zal (r i) ((zam (A[i]?.getD []) v)[k]?.getD 0)) →
  (zeu (vs.map (zfy A H)) cs row (zg4 r')=some h↔∃ asg:Nat→Int,(∀ v∈vs,∀ i,i<A.length→∀ j∈zam (A[i]?.getD []) v,zal (r i) j=asg v)∧zug H vs asg row=h)
 | [],cs,row,h,_,_,_=>by
  simp only [List.map_nil,zeu]
  constructor
  ·intro e;exact ⟨fun _=>0,fun v hv=>absurd hv List.not_mem_nil,Option.some.inj e⟩
  ·rintro ⟨_,_,e⟩;exact congrArg some e
 | v :: vs,cs,row,h,hn,hb,hseg=>by
  rw [List.nodup_cons] at hn
  have hbv:=hb v (List.mem_cons_self ..)
  have hseg0:∀ i,i<A.length→∀ k,k<(zam (A[i]?.getD []) v).length→zal (r' i) (cs i+k)=zal (r i) ((zam (A[i]?.getD []) v)[k]?.getD 0):=by
   intro i hi k hk
   have:=hseg [] v vs rfl i hi k hk
   simpa [zy9] using this
  have hu:=fun z=>yfb (v:=v) cs r r' z hseg0
  have ih:=fun z=>zor A H r r' vs (fun i=>cs i+zmy (zci A v) i) (zea (zbq H v) z row) h hn.2 (fun u hu=>hb u (List.mem_cons_of_mem _ hu)) (fun pre u post e i hi k hk=>by
   have:=hseg (v :: pre) u post (by rw [e];rfl) i hi k hk
   rw [← this,zt1 A v i hi]
   congr 1
   simp only [zy9,List.map_cons,List.sum_cons]
   omega)
  simp only [List.map_cons,zeu]
  show (if zc7 (zci A v) cs (zg4 r') (zOf (zci A v) cs (zg4 r'))=true then zeu (vs.map (zfy A H)) (fun i=>cs i+zmy (zci A v) i) (zea (zbq H v) (zOf (zci A v) cs (zg4 r')) row) (zg4 r') else none)=some h↔_
  constructor
  ·intro e
   split at e
   ·rename_i hz
    obtain ⟨asg,h1,h2⟩:=(ih _).1 e
    refine ⟨fun u=>if u=v then zOf (zci A v) cs (zg4 r') else asg u,fun u hu' i hi j hj=>?_,?_⟩
    ·rcases List.mem_cons.1 hu' with rfl|hu'
     ·dsimp only;rw [if_pos rfl];exact (hu _).1 hz i hi j hj
     ·have hne:u≠v:=fun e=>hn.1 (e ▸ hu')
      dsimp only;rw [if_neg hne];exact h1 u hu' i hi j hj
    ·show zug H vs _ (zea (zbq H v) (if v=v then _ else _) row)=h
     rw [if_pos rfl,← h2]
     unfold zug
     have:∀ (l:List Nat) (row:H4),(∀ u∈l,u≠v)→l.foldl (fun row u=>zea (zbq H u) (if u=v then zOf (zci A v) cs (zg4 r') else asg u) row) row=l.foldl (fun row u=>zea (zbq H u) (asg u) row) row:=by
      intro l
      induction l with
      | nil=>intro _ _;rfl
      | cons a l ih=>intro row hl;simp only [List.foldl_cons];rw [if_neg (hl a (List.mem_cons_self ..)),ih _ fun u hu=>hl u (List.mem_cons_of_mem _ hu)]
     exact this vs _ fun u hu e=>hn.1 (e ▸ hu)
   ·cases e
  ·rintro ⟨asg,h1,h2⟩
   have hz:zc7 (zci A v) cs (zg4 r') (asg v)=true:=(hu _).2 fun i hi j hj=>h1 v (List.mem_cons_self ..) i hi j hj
   rw [ylz hbv hz,if_pos hz]
   exact (ih _).2 ⟨asg,fun u hu'=>h1 u (List.mem_cons_of_mem _ hu'),h2⟩
theorem zh0 {H:List Nat} {v p:Nat}:p∈zbq H v↔p<H.length∧H[p]?.getD 0=v:=by
 unfold zbq
 simp
theorem zqp {H:List Nat} (hH:H.length≤4) {q:Nat} (hq:q<4) (asg:Nat→Int):∀ (vs:List Nat) (row:H4),yad (zug H vs asg row) q=if q<H.length∧H[q]?.getD 0∈vs then asg (H[q]?.getD 0) else yad row q
 | [],row=>by simp [zug]
 | v :: vs,row=>by
  show yad (zug H vs asg (zea (zbq H v) (asg v) row)) q=_
  rw [zqp hH hq asg vs,zg9 hq _ _ fun p hp=>by have:=(zh0.1 hp).1;omega]
  by_cases h0:q<H.length
  ·by_cases h1:H[q]?.getD 0∈vs
   ·rw [if_pos ⟨h0,h1⟩,if_pos ⟨h0,List.mem_cons_of_mem _ h1⟩]
   ·rw [if_neg (fun h=>h1 h.2)]
    by_cases h2:H[q]?.getD 0=v
    ·rw [if_pos (zh0.2 ⟨h0,h2⟩),if_pos ⟨h0,h2 ▸ List.mem_cons_self ..⟩,h2]
    ·rw [if_neg (fun h=>h2 (zh0.1 h).2),if_neg]
     rintro ⟨_,h⟩
     rcases List.mem_cons.1 h with h|h
     ·exact h2 h
     ·exact h1 h
  ·rw [if_neg (fun h=>h0 h.1),if_neg (fun h=>h0 (zh0.1 h).1),if_neg (fun h=>h0 h.1)]
def zkx (H:List Nat) (asg:Nat→Int):H4:=
 let f:=fun q=>if q<H.length then asg (H[q]?.getD 0) else 0
 (f 0,f 1,f 2,f 3)
theorem zyy {H:List Nat} (hH:H.length≤4) {vs:List Nat} (hv:∀ v∈H,v∈vs) (asg:Nat→Int):zug H vs asg (0,0,0,0)=zkx H asg:=by
 refine yhx fun q hq=>?_
 rw [zqp hH hq]
 have e:yad (zkx H asg) q=if q<H.length then asg (H[q]?.getD 0) else 0:=by
  match q,hq with|0,_=>rfl|1,_=>rfl|2,_=>rfl|3,_=>rfl
 have e0:yad ((0,0,0,0):H4) q=0:=by match q,hq with|0,_=>rfl|1,_=>rfl|2,_=>rfl|3,_=>rfl
 rw [e,e0]
 by_cases h0:q<H.length
 ·rw [if_pos ⟨h0,hv _ (by simp [h0])⟩,if_pos h0]
 ·rw [if_neg (fun h=>h0 h.1),if_neg h0]
def zpq (A:List (List Trm)) (r:Nat→Row) (asg:Nat→Int):Prop:=
 ∀ i,i<A.length→∀ j,j<(A[i]?.getD []).length→zal (r i) j=if zb4 (A[i]?.getD []) j=0 then ((A[i]?.getD [])[j]?.getD (0,0)).2 else asg (zb4 (A[i]?.getD []) j)
end Go.Proofs.YtoifcnidhfnapaaGreatDoor
namespace Go.Proofs.YtoifcnidhfnapaaGreatDoor
open Go.RowKit Go.Maps Go.Sort Go.Shelf
def ygb (na:Nat) (nss:List (List Int)) (sts:List Stp) (h:H4) (r:Nat→Row):B64:=
 if ztc na (fun i=>zdd (nss[i]?.getD []) 0 (r i,0)) then zwu sts (fun i=>(nss[i]?.getD []).length) (0,0,0,0) h r else 0#64
theorem zxk (zs:List Int):∀ (c:Nat) (e e':zaj),e.1=e'.1→zdd zs c e=zdd zs c e':=by
 induction zs with
 | nil=>intro c e e' _;rfl
 | cons z zs ih=>intro c e e' h;simp only [zdd];rw [h,ih _ _ _ h]
theorem zk9 {na:Nat} {nss:List (List Int)} {sts:List Stp} {S:Nat→Src} (hS:POK na nss sts S) (hl:nss.length=na) (hc:∀ i,(S i).c=0) (h:H4):zte na nss sts S h=zhy (zcn S) na (ygb na nss sts h):=by
 have hents:∀ i,i<na→zcn (zjq nss S nss.length) i=(zcn S i).filter (zdd (nss[i]?.getD []) 0):=by
  intro i hi
  unfold zcn
  rw [zgx,if_pos (by omega),zhh _ (hS.ok i hi),hc i]
 have hcs:∀ i,(zjq nss S nss.length i).c=(nss[i]?.getD []).length:=by
  intro i
  rw [zgx]
  split
  ·rw [ydy,hc i,Nat.zero_add]
  ·rename_i hi
   rw [hc i]
   have:nss[i]? = none:=by rw [List.getElem?_eq_none_iff];omega
   rw [this]
   rfl
 unfold zte
 rw [ye6]
 simp only [hcs]
 unfold zhy
 rw [zmo zcy na _ hents,zkk]
 refine zdc _ _ _ _ _ fun g _=>?_
 unfold ygb
 have e:(ztc na fun i=>zdd (nss[i]?.getD []) 0 ((g i).1,0))=ztc na fun i=>zdd (nss[i]?.getD []) 0 (g i):=by
  congr 1
  funext i
  exact zxk _ _ _ _ rfl
 rw [e]
 split
 ·rfl
 ·simp
theorem zmd (rs:List (List zaj)) (es:List zaj):(zh9 rs es).flatten=rs.flatten ++ es:=by
 unfold zh9
 split
 ·rename_i h;subst h;simp
 ·simp
theorem zqo (es:List zaj):(zeh [es]).flatten=es:=by
 unfold zeh
 cases es with
 | nil=>rfl
 | cons x xs=>simp
def yaw (ix:Nat→List (List zaj)×List zaj) (n:Nat):Nat→Src:=fun i=>if i<n then ⟨zh9 (ix i).1 (ix i).2,0⟩ else ⟨[],0⟩
def ya1 (ix:Nat→List (List zaj)×List zaj) (n:Nat):Nat→Src:=fun i=>if i<n then ⟨(ix i).1,0⟩ else ⟨[],0⟩
theorem zwl {na:Nat} {nss:List (List Int)} {sts:List Stp} {ix:Nat→List (List zaj)×List zaj} (hl:nss.length=na) (hN:POK na nss sts (yaw ix na)) (hO:POK na nss sts (ya1 ix na)) (hA:∀ a,a<na→POK na nss sts (zbe ix na a)) (h:H4) :
  zte na nss sts (yaw ix na) h=zte na nss sts (ya1 ix na) h+zee na nss sts ix na h:=by
 rw [zk9 hN hl (fun i=>by unfold yaw;split <;> rfl),zk9 hO hl (fun i=>by unfold ya1;split <;> rfl)]
 unfold zee
 rw [zax (g:=fun a=>zhy (zlu (zcn (yaw ix na)) (fun i=>(ix i).2) (zcn (ya1 ix na)) a) na (ygb na nss sts h)) fun a ha=>?_]
 ·refine ydk _ _ _ na _ fun i hi=>?_
  have e1:zcn (yaw ix na) i=(ix i).1.flatten ++ (ix i).2:=by unfold zcn yaw;rw [if_pos hi];exact zmd _ _
  have e2:zcn (ya1 ix na) i=(ix i).1.flatten:=by unfold zcn ya1;rw [if_pos hi]
  rw [e1,e2]
  exact Eqv.refl _
 ·have ha':=List.mem_range.1 ha
  rw [zk9 (hA a ha') hl (fun i=>by unfold zbe;split <;> rfl)]
  refine zf4 na _ fun i hi=>?_
  unfold zcn zbe zlu yaw ya1
  simp only [if_pos hi]
  by_cases h1:i<a
  ·rw [if_pos h1,if_pos h1]
  ·rw [if_neg h1,if_neg h1]
   by_cases h2:i=a
   ·rw [if_pos h2,if_pos h2];exact zqo _
   ·rw [if_neg h2,if_neg h2]
end Go.Proofs.YtoifcnidhfnapaaGreatDoor
