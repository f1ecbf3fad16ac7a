import Derived.Test.YtoifcnidhfnapabGreatDoorB23
import Derived.Test.YtoifcnidhfnapabGreatDoorB18
import Derived.Test.YtoifcnidhfnapabGreatDoorB13
import Derived.Test.YtoifcnidhfnapabGreatDoorB21
set_option linter.unusedVariables false
set_option linter.unusedSimpArgs false
set_option maxRecDepth 100000
set_option maxHeartbeats 16000000
namespace Go.Proofs.YtoifcnidhfnapabGreatDoor
open Go.RowKit Go.Maps Go.Sort Go.Shelf
theorem yjx {w5:World} {c0 c1 c2 n vcap:Nat} {va:Option Addr} {f:Row→Int} {es:List zai} {ls:List (Row×Int)} (hc:zni c0 c1 c2) (hS:zwi f n ls) (hp:es.Perm (ls.map (zkw c0 c1 c2))) (hri:(ls.map (zkw c0 c1 c2)).Pairwise (fun a b=>a.1≠b.1)→zhe es) (hbt:zcl w5 (.slice va es.length vcap) es) :
  zp6 (w5.alloc (.cells #[.int .i64 c0,.int .i64 c1,.int .i64 c2,.slice none 0 0,.slice va es.length vcap] 199)) w5.heap.size (.int .i64 c0) (.int .i64 c1) (.int .i64 c2) (.slice none 0 0) [] es∧zrx c0 c1 c2 f es∧es.length≤n:=by
 obtain ⟨xs,hx,rfl,hl⟩:=hS
 refine ⟨⟨⟨_,zae _ _ _ rfl,hbt.below ((Below.refl _ _).alloc (Nat.le_refl _) _)⟩,[],⟨rfl,.inl ⟨rfl,rfl⟩⟩,⟨rfl,fun i hi=>by simp at hi⟩⟩,zqx hc hx hp hri,?_⟩
 have:=hp.length_eq
 simp [zbf] at this
 omega
section
attribute [local go_sem] Oper.semAt_some
theorem yaj (c0 c1 c2 gf n:Nat) (hc:zni c0 c1 c2) (lb:Array Value) (f:Row→Int) (W:World) (eg:∀ args w,(callFunc gf args).run Tryz.prog w=.ok (.enter gf args) w) (hn:n≤100000000)
  (hseq:∀ W0,Below W.heap.size W W0→SeqStopsK Fence.wide 8 Tryz.prog gf lb zwt zbv (zwi f n) (fun _=>True) n W0) :
  Calls Tryz.prog 90 #[.agg #[.int .i64 c0,.int .i64 c1,.int .i64 c2],.func (.func gf) #[] lb] W fun e w'=>∃ XB rv rs es,e=.returned (.pointer (some ⟨XB,0,none⟩))∧W.heap.size≤XB∧zp6 w' XB (.int .i64 c0) (.int .i64 c1) (.int .i64 c2) rv rs []∧znj rs∧zrx c0 c1 c2 f es∧Eqv rs.flatten es∧zg9 rs≤n∧Below W.heap.size W w'∧(∀ g,rv.ownBlock=some g→W.heap.size≤g):=by
 obtain ⟨W1,hW1⟩:∃ W1,W1=(W.alloc (.cells #[.int .i64 c0,.int .i64 c1,.int .i64 c2] 130)).drew:=⟨_,rfl⟩
 have hb1:Below W.heap.size W W1:=by rw [hW1];exact ((Below.refl _ W).alloc (Nat.le_refl _) (.cells #[.int .i64 c0,.int .i64 c1,.int .i64 c2] 130)).trans (zar _ _)
 have hB1:W1.heap[W.heap.size]? = some (.cells #[.int .i64 c0,.int .i64 c1,.int .i64 c2] 130 (0,0)):=by rw [hW1];exact zae W _ _ rfl
 have j0:W1.cell? ⟨W.heap.size,0,none⟩=some (.int .i64 c0):=zab hB1 0
 have j1:W1.cell? ⟨W.heap.size,1,none⟩=some (.int .i64 c1):=zab hB1 1
 have j2:W1.cell? ⟨W.heap.size,2,none⟩=some (.int .i64 c2):=zab hB1 2
 have hrun:=zvn c0 c1 c2 gf n hc.toyca lb (zwi f n) W1 eg (by omega) (fun W0 h0=>hseq W0 (hb1.trans (h0.mono hb1.size))) (fun ls ⟨xs,_,e,hl⟩=>by rw [e];simpa [zbf] using hl)
 rw [hW1] at hrun hB1 j0 j1 j2
 have Hrun:=zac (zok (m':=8) hrun)
 have HB1:=zac hB1
 have Hb1:=zac hb1
 have HW1:=zac hW1
 clear hrun hB1 hb1 hseq
 refine (callsIn_wide (n:=9)).1 (callsIn_of_wp Tryz.func90 rfl trivial ?_ rfl)
 simp only [Tryz.ntmps90,List.size_toArray,List.length_cons,List.length_nil,Nat.reduceAdd,Nat.reduceSub,Array.replicate_succ,Array.replicate_zero,List.push_toArray,List.append_toArray,List.nil_append,List.cons_append]
 gi_wp2_with fail
 gi_region_with (first
  | (refine ⟨trivial,?_⟩;gi_at_call 99;refine (zaa Hrun).mono ?_;rintro e w5 ⟨v,ls,es,rfl,hS,hp,hri,hbt,hb5⟩;obtain ⟨va,vcap,rfl⟩:=hbt.form;have hB5:=zao hb5 (zaa HB1);have m0:w5.cell? ⟨W.heap.size,0,none⟩=some (.int .i64 c0):=zab hB5 0;have m1:w5.cell? ⟨W.heap.size,1,none⟩=some (.int .i64 c1):=zab hB5 1;have m2:w5.cell? ⟨W.heap.size,2,none⟩=some (.int .i64 c2):=zab hB5 2))
 all_goals
  obtain ⟨hI,hA,hl⟩:=yjx hc hS hp hri hbt
  rw [← zaa HW1] at hb5
  have hb6:=((zaa Hb1).trans (hb5.mono (zaa Hb1).size)).alloc (Nat.le_trans (zaa Hb1).size hb5.size) (.cells #[.int .i64 c0,.int .i64 c1,.int .i64 c2,.slice none 0 0,.slice va es.length vcap] 199)
  have hszW:W.heap.size≤w5.heap.size:=Nat.le_trans (zaa Hb1).size hb5.size
  have hset:=zrq _ _ _ _ _ [] es _ hI ⟨by simp,by simp,by simp⟩ hA.rise hA.wf (by simp [zg9];omega)
  obtain ⟨w6,hw6⟩:∃ w6,w6=w5.alloc (.cells #[.int .i64 c0,.int .i64 c1,.int .i64 c2,.slice none 0 0,.slice va es.length vcap] 199):=⟨_,rfl⟩
  rw [← hw6] at hset hb6
  have Hset:=zac hset
  have Hb6:=zac hb6
  have HA:=zac hA
  have Hl:=zac hl
  clear hset hb6 hA hl hI hS hp hri hbt hb5 hB5 m0 m1 m2 j0 j1 j2
  gi_wp2_with (first
   | (refine ⟨trivial,?_⟩;gi_at_call 73;rw [← hw6];refine (show CallsIn Fence.wide _ _ _ _ _ _ from (callsIn_wide.2 (zaa Hset))).mono ?_;rintro e w7 ⟨rfl,rv',rs',h1,h2,h3,h4,h5,h6⟩))
  go_ret
  refine ⟨_,rv',rs',es,rfl,hszW,h1,h2,zaa HA,by simpa using h3,by have:=zaa Hl;simp [zg9] at h4;unfold zg9;omega,?_,fun g hg=>?_⟩
  ·have h7:=zaa Hb6
   exact h7.trans (h5.below (Nat.le_trans hszW (by rw [hw6];simp)) (fun k hk=>by rcases hk with rfl|hk;exact hszW;cases hk))
  ·rcases h6 g hg with h|h
   ·cases h
   ·rw [hw6] at h
    simp at h
    omega
end
theorem yfa {w:World} {blk n:Nat} {d:Array Row} {os:Array Obj} {cur:Array Value} {t:TypeId} (h:w.heap[blk]? = some (.cells cur t (0,0))):∃ cur',(sortWorldK zev 3 w blk 0 n d os).heap[blk]? = some (.cells cur' t (0,0)):=by
  have hl:=(Array.getElem?_eq_some_iff.1 h).1
  simp only [sortWorldK,grow,putRowK,putRow,mapBlock,Sort.ahead]
  rw [Array.getElem?_append_left (by simpa using hl),Array.getElem?_modify,if_pos rfl,h]
  exact ⟨_,rfl⟩
theorem zpm (Bm b nn:Nat) (D:DataW Unit) (g:Row→Int) (hrep:Rep D g) (w:World) (hm:w.cell? ⟨Bm,0,none⟩=some (.map (some b))) (hown:w.ownsMap Tryz.prog 150 (plainElem Tryz.prog 2) b nn D) (hnn:nn≤1000000000) :
    Calls Tryz.prog 154 #[.func (.func 182) #[] #[.pointer (some ⟨Bm,0,none⟩)],zsr] w fun e w'=>∃ v ys,e=.returned v∧zdr D ys∧zhh w' v ys∧RowKit.Below w.heap.size w w'∧ys.length≤nn∧∀ gb ln cap,v=.slice (some ⟨gb,0,none⟩) ln cap→w.heap.size≤gb∧∃ cur,w'.heap[gb]? = some (.cells cur 150 (0,0)):=by
  have H:=zac (zhk Bm b nn D g hrep w hm hown hnn)
  have hszD:=hown.size_le
  have hT:=hown.tidy zf8
  have HT:=zac hT
  have HK:=zac (zmn hown)
  have Hrep:=zac hrep
  clear hrep hm hown hT
  go_enter Tryz.func154,Tryz.ntmps154
  go_wp2_with fail
  refine (zaa H).mono ?_
  rintro e w1 ⟨v,xs,rfl,hK,ho,hb⟩
  have hmem:∀ r,zaw r→(r∈xs↔Maps.has D (za2 r)=true):=fun r hr=>by rw [hK.mem r hr];simp
  have hxl:xs.length≤nn:=Nat.le_trans (zdj (zaa HT) hK.wf hK.apart (fun x hx=>(hmem x (hK.wf x hx)).1 hx)) hszD
  rcases ho.2 with ⟨rfl,h0⟩|⟨gb,cap,cur,rfl,hbg,hgh,_⟩
  · have hx0:xs=[]:=List.eq_nil_of_length_eq_zero h0
    subst hx0
    have HR:Hid (zdr D []):=⟨List.Pairwise.nil,fun y hy=>by simp at hy,hmem⟩
    have Hb:=zac hb
    clear H hK hmem ho hb
    go_wp2_with (first|(go_at_call 181;refine (zlm _ _ _ _).mono ?_;rintro e w' ⟨rfl,rfl⟩))
    go_ret
    exact ⟨_,[],rfl,zaa HR,⟨none,0,rfl,fun i hi=>by simp at hi⟩,zaa Hb,by simp,fun gb ln cap e=>by simp at e⟩
  · have hH:=zgb ho
    have hgl:gb<w1.heap.size:=(Array.getElem?_eq_some_iff.1 hgh).1
    have Hs:=zac (zln gb cap xs.toArray w1 hH hgl (by simp;omega))
    have HH:=zac hH
    have Hb:=zac hb
    have Hmem:=zac hmem
    have HKo:=zac hK
    have Hgh:=zac hgh
    clear H hK hmem ho hb hgh hH
    go_wp2_with fail
    refine (zaa Hs).mono ?_
    rintro e w2 ⟨rfl,d',n,os,hp,hsrt,rfl⟩
    have hsz:d'.size=xs.length:=by have:=hp.1;simpa using this
    have hperm:d'.toList.Perm xs:=by
      have h:=hp.2.2
      have e1:(d'.extract 0 xs.toArray.size)=d':=by rw [Array.extract_eq_self_of_le (by simp;omega)]
      have e2:(xs.toArray.extract 0 xs.toArray.size)=xs.toArray:=Array.extract_eq_self_of_le (by simp)
      rw [e1,e2] at h
      simpa using h
    have hHd:HoldsK zev 3 (sortWorldK zev 3 w1 gb 0 n d' os) gb 0 d':=holdsK_sortWorldK_c zev 3 w1 gb 0 xs.toArray d' n os (zaa HH) hgl (by simpa using hsz)
    have hR:zdr D d'.toList:=by
      refine ⟨zdy ?_ ?_,fun y hy=>(zaa HKo).wf y (hperm.mem_iff.1 hy),fun r hr=>by rw [hperm.mem_iff];exact (zaa Hmem) r hr⟩
      · rw [hsz];simpa using hsrt
      · exact (hperm.pairwise_iff (fun {a b} (h:a≠b)=>h.symm)).2 (zaa HKo).apart
    have hTr:=ze2 (cap:=cap) hHd
    have hBe:RowKit.Below w.heap.size w (sortWorldK zev 3 w1 gb 0 n d' os):=(zaa Hb).grown (zi4 w1 gb n d' os) (zaa Hb).size (fun k e=>by cases e;exact hbg)
    rw [hsz] at hTr
    have hty:=yfa (n:=n) (d:=d') (os:=os) (zaa Hgh)
    have HF:=zac (And.intro hR (And.intro hTr hBe))
    have Hty:=zac hty
    clear hty
    clear hR hTr hBe hHd hperm hp hsrt Hs
    generalize sortWorldK zev 3 w1 gb 0 n d' os=w3 at *
    go_wp2
    go_ret
    exact ⟨_,_,rfl,(zaa HF).1,(zaa HF).2.1,(zaa HF).2.2,by simp [hsz];omega,fun g' ln cap' e=>by simp at e;obtain ⟨rfl,_⟩:=e;exact ⟨hbg,zaa Hty⟩⟩
theorem yi6 (n:Nat) (hn:1≤n) (l Bn mb nn:Nat) (g:Row→Int) (J Jx:List (Row×Int)→World→Prop) (N:Nat)
    (hY:∀ pre x W,J pre W→pre.length<N→YieldAt Fence.wide (n - 1) Tryz.prog l #[.agg #[.int .i64 x.1.1,.int .i64 x.1.2.1,.int .i64 x.1.2.2],.int .i64 x.2] W fun e W' =>
      (e=.returned (.bool true)∧J (pre ++ [x]) W'∧zbv W W')∨(e=.returned (.bool false)∧Jx (pre ++ [x]) W'))
    (W:World) (hJ:AbidesFrom W.heap.size J) (hBb:W.heap[Bn]? = some (.cells #[.map (some mb)] 102 (0,0)))
    (D:DataW Unit) (hown:W.ownsMap Tryz.prog 150 (plainElem Tryz.prog 2) mb nn D) (hrep:Rep D g) (hnn:nn≤1000000000) (hN:∀ ys,zdr D ys→ys.length≤N) (h0:J [] W) :
    CallsIn Fence.wide n Tryz.prog 153 #[.func (.yield l) #[] #[],.pointer (some ⟨Bn,0,none⟩)] W fun e W'=>(∃ v,e=.returned v) ∧
      ((∃ xs,(∃ ys,zdr D ys∧xs=zbf g ys)∧J xs W')∨(∃ pre,True∧Jx pre W')):=by
  have hBn:W.cell? ⟨Bn,0,none⟩=some (.map (some mb)):=zab hBb 0
  have hBl:=World.block_lt_of_cell? W _ hBn
  have hml:=hown.lt
  dsimp only at hBl
  have hkeys:(w:World)→(hw:w=W.alloc (.cells #[.map (some mb)] 102))→Calls Tryz.prog 154 #[.func (.func 182) #[] #[.pointer (some ⟨W.heap.size,0,none⟩)],zsr] w fun e w'=>∃ v ys,e=.returned v∧zdr D ys∧zhh w' v ys∧RowKit.Below w.heap.size w w'∧ys.length≤nn∧∀ gb ln cap,v=.slice (some ⟨gb,0,none⟩) ln cap→w.heap.size≤gb∧∃ cur,w'.heap[gb]? = some (.cells cur 150 (0,0)):=
    fun w hw=>zpm W.heap.size mb nn D g hrep w (by rw [hw];exact zab (zae _ _ _ rfl) 0) (by rw [hw];exact hown.alloc _) hnn
  have Hkeys:=zac (hkeys _ rfl)
  clear hkeys
  refine callsIn_of_wp Tryz.func153 rfl trivial ?_ rfl
  simp only [Tryz.ntmps153,List.size_toArray,List.length_cons,List.length_nil,Nat.reduceAdd,Nat.reduceSub,Array.replicate_succ,Array.replicate_zero,List.push_toArray,List.append_toArray,List.nil_append,List.cons_append]
  gi_wp2_with (first
    | (refine ⟨trivial,?_⟩;gi_at_call 155;refine (callsIn_wide.2 (zgd _ _)).mono ?_;rintro e w' ⟨rfl,rfl⟩)
    | (refine ⟨trivial,?_⟩;gi_at_call 154;refine (callsIn_wide.2 (zaa Hkeys)).mono ?_;rintro e w1 ⟨v,ys,rfl,hR,hT,hb,hyl,hgb⟩;obtain ⟨a,cap,rfl,hcs⟩:=hT))
  have hg1:W.grownBy w1 none:=(World.grownBy_alloc W (.cells #[.map (some mb)] 102) none).trans (za5 hb none)
  have hJ1:J [] w1:=hJ [] W w1 none h0 hg1 (fun r e=>by cases e)
  have hk1:zbv W w1:=zbv.of_grown hg1 (fun j e=>by cases e)
  have hBb1:=hk1.cells Bn _ _ _ hBb (by decide) (by decide)
  have hB1:w1.cell? ⟨Bn,0,none⟩=some (.map (some mb)):=zab hBb1 0
  have hm1:ze9 w1 mb nn g:=hk1.wmap ⟨D,hown,hrep⟩
  have hys:=hN ys hR
  have hwf:=hR.wf
  have hfr:∀ gb ln cap',Value.slice a ys.length cap=.slice (some ⟨gb,0,none⟩) ln cap'→∃ cur,w1.heap[gb]? = some (.cells cur 150 (0,0)):=fun gb ln cap' e=>(hgb gb ln cap' e).2
  have Hcs:=zac hcs
  have HR:=zac hR
  have HJ1:=zac hJ1
  clear hcs hR hJ1 Hkeys hN hgb hown hrep h0
  try go_frame
  gi_loopw [10] (fun i wr=>∃ k:Nat,k≤ys.length∧i=.int .i64 k∧J (zbf g (ys.take k)) wr∧zbv w1 wr∧W.heap.size≤wr.heap.size) (fun i _=>ys.length - (intOf i).toNat)
  case atStart=>exact ⟨0,Nat.zero_le _,rfl,zaa HJ1,zbv.refl _,hg1.size⟩
  case round =>
    obtain ⟨k,hk,rfl,hJk,hkk,hsk⟩:=hrel
    by_cases hlt:k<ys.length
    · obtain ⟨gb,rfl,d0,d1,d2⟩:=(zaa Hcs) k hlt
      have hx:(k:Int)<(ys.length:Int):=by omega
      obtain ⟨cur,hgX⟩:=hfr gb _ _ rfl
      replace d0:=hkk.cellOf hgX (by decide) (by decide) d0
      replace d1:=hkk.cellOf hgX (by decide) (by decide) d1
      replace d2:=hkk.cellOf hgX (by decide) (by decide) d2
      obtain ⟨y,hy⟩:∃ y,y=ys[k]?.getD (0,0,0):=⟨_,rfl⟩
      have hye:y=ys[k]:=by rw [hy];simp [hlt]
      have hwy:zaw y:=by rw [hye];exact hwf _ (List.getElem_mem hlt)
      have htk:ys.take (k+1)=ys.take k ++ [y]:=by rw [List.take_succ_eq_append_getElem hlt,hye]
      rw [← hy] at d0 d1 d2
      obtain ⟨y1,y2,y3⟩:=y
      dsimp only at d0 d1 d2
      have hBbr:=hkk.cells Bn _ _ _ hBb1 (by decide) (by decide)
      have hBr:wr.cell? ⟨Bn,0,none⟩=some (.map (some mb)):=zab hBbr 0
      have hmr:=hkk.wmap hm1
      have Htk:=zac htk
      have HJk:=zac hJk
      have Hkk:=zac hkk
      have Hmr:=zac hmr
      clear hy hye htk hJk hkk hmr
      gi_wp2_with fail
      have hJa:J (zbf g (ys.take k)) (wr.alloc (.cells #[.int .i64 y1,.int .i64 y2,.int .i64 y3] 150)).drew:=
        hJ _ wr _ none (zaa HJk) ((World.grownBy_alloc _ _ none).trans (zfs _)) (fun r e=>by cases e)
      have hka:zbv wr (wr.alloc (.cells #[.int .i64 y1,.int .i64 y2,.int .i64 y3] 150)).drew:=zbv.of_grown ((World.grownBy_alloc _ _ none).trans (zfs _)) (fun j e=>by cases e)
      have hsa:wr.heap.size<(wr.alloc (.cells #[.int .i64 y1,.int .i64 y2,.int .i64 y3] 150)).drew.heap.size:=by
        show wr.heap.size<(wr.alloc _).heap.size
        simp
      obtain ⟨fn,tmps,assign,body,hy,hR⟩:=hY _ ((y1,y2,y3),g (y1,y2,y3)) _ hJa (by simp [zbf];omega)
      have hR':=hR.mono (R':=fun e W'=>∃ r:Bool,e=.returned (.bool r)∧((r=true∧J (zbf g (ys.take k) ++ [((y1,y2,y3),g (y1,y2,y3))]) W'∧zbv (wr.alloc (.cells #[.int .i64 y1,.int .i64 y2,.int .i64 y3] 150)).drew W')∨(r=false∧Jx (zbf g (ys.take k) ++ [((y1,y2,y3),g (y1,y2,y3))]) W'))) (by
        rintro e W3 (⟨rfl,h1,h2⟩|⟨rfl,h1⟩)
        · exact ⟨true,rfl,.inl ⟨rfl,h1,h2⟩⟩
        · exact ⟨false,rfl,.inr ⟨rfl,h1⟩⟩)
      have hlk:(Instr.lookup 102 (.map (some mb)) (.agg #[.int .i64 y1,.int .i64 y2,.int .i64 y3]) false).run Tryz.prog (wr.alloc (.cells #[.int .i64 y1,.int .i64 y2,.int .i64 y3] 150)).drew=.ok (.int .i64 (g (y1,y2,y3))) (wr.alloc (.cells #[.int .i64 y1,.int .i64 y2,.int .i64 y3] 150)).drew:=(hka.wmap (zaa Hmr)).look hwy
      have f0:(wr.alloc (.cells #[.int .i64 y1,.int .i64 y2,.int .i64 y3] 150)).drew.cell? ⟨wr.heap.size,0,none⟩=some (.int .i64 y1):=zab (zae _ _ _ rfl) 0
      have f1:(wr.alloc (.cells #[.int .i64 y1,.int .i64 y2,.int .i64 y3] 150)).drew.cell? ⟨wr.heap.size,1,none⟩=some (.int .i64 y2):=zab (zae _ _ _ rfl) 1
      have f2:(wr.alloc (.cells #[.int .i64 y1,.int .i64 y2,.int .i64 y3] 150)).drew.cell? ⟨wr.heap.size,2,none⟩=some (.int .i64 y3):=zab (zae _ _ _ rfl) 2
      have fB:(wr.alloc (.cells #[.int .i64 y1,.int .i64 y2,.int .i64 y3] 150)).drew.cell? ⟨Bn,0,none⟩=some (.map (some mb)):=zab (hka.cells Bn _ _ _ hBbr (by decide) (by decide)) 0
      dsimp only at hy
      have HR':=zac hR'
      have Hka:=zac hka
      have HJa:=zac hJa
      clear hR hR' hka hJa hBr hBbr d0 d1 d2 hB1 hBb1 hm1 hBn hBb hJ hY hgX
      gi_region_with (refine (zaa HR').mono ?_;rintro e W3 ⟨r,rfl,hor⟩)
      all_goals (rcases hor with ⟨rfl,hJ3,hk3⟩|⟨rfl,hx3⟩)
      all_goals first
        | (gi_wp2
           go_roundw
           case rel=>exact ⟨k+1,by omega,by simp,by rw [zaa Htk];simpa [zbf] using hJ3,((zaa Hkk).trans (zaa Hka)).trans hk3,by have:=hk3.size;omega⟩
           case measure=>simp [intOf];omega)
        | (gi_wp2
           refine bodyPost_ret (results_none rfl _ _ _) rfl ?_
           exact ⟨⟨_,rfl⟩,.inr ⟨_,trivial,hx3⟩⟩)
    · have hke:k=ys.length:=by omega
      subst hke
      rw [List.take_length] at hJk
      gi_wp2
      go_end0
      exact ⟨⟨_,rfl⟩,.inl ⟨_,⟨ys,zaa HR,rfl⟩,hJk⟩⟩
theorem yhr {w:World} {Bn mb n N:Nat} {f:Row→Int} (hm:w.heap[Bn]? = some (.cells #[.map (some mb)] 102 (0,0))) (h:ze9 w mb n f) (hn:n≤N) (hN:N≤1000000000):∀ W0,Below w.heap.size w W0→SeqStopsK Fence.wide 8 Tryz.prog 153 #[.pointer (some ⟨Bn,0,none⟩)] zwt zbv (zwi f N) (fun _=>True) N W0:=by
  intro W0 hb0 l J Jx W hW hJ _ hY h0
  have hbW:Below w.heap.size w W:=hb0.trans (hW.mono hb0.size)
  have hmW:=(hbW.block Bn (Array.getElem?_eq_some_iff.1 hm).1).trans hm
  obtain ⟨D,hown,hrep⟩:=h
  have hownW:W.ownsMap Tryz.prog 150 (plainElem Tryz.prog 2) mb n D:=zax hown (hbW.block mb hown.lt)
  have hlen:∀ ys,zdr D ys→ys.length≤n:=fun ys hR=>Nat.le_trans (zdj (hown.tidy zf8) hR.wf (hR.rising.imp (fun {a b} h e=>by subst e;unfold ltR at h;omega)) (fun x hx=>(hR.mem x (hR.wf x hx)).1 hx)) hown.size_le
  refine (yi6 8 (by omega) l Bn mb n f J Jx N hY W hJ hmW D hownW hrep (by omega) (fun ys hR=>by have:=hlen ys hR;omega) h0).mono ?_
  rintro e W' ⟨he,hor⟩
  refine ⟨he,?_⟩
  rcases hor with ⟨ls,⟨ys,hR,rfl⟩,hj⟩|h
  · refine .inl ⟨_,⟨ys,⟨hR.wf,hR.rising.imp (fun {a b} h e=>by subst e;unfold ltR at h;omega),fun r hr=>(hR.mem r hr).trans (hrep.has_ r hr)⟩,rfl,by have:=hlen ys hR;omega⟩,hj⟩
  · exact .inr h
end Go.Proofs.YtoifcnidhfnapabGreatDoor
namespace Go.Proofs.YtoifcnidhfnapabGreatDoor
abbrev Trm:=Nat×Int
def zb4 (ts:List Trm) (j:Nat):Nat:=(ts[j]?.getD (0,0)).1
def zam (ts:List Trm) (v:Nat):List Nat:=(List.range ts.length).filter fun j=>decide (zb4 ts j=v)
def zb0 (v:Nat):Nat→List (List Trm)→List (Nat×Nat)
 | _,[]=>[]
 | k,ts :: A=>if (zam ts v).length=0 then zb0 v (k+1) A else (k,(zam ts v).length) :: zb0 v (k+1) A
def zcf (A:List (List Trm)) (v:Nat):List (Nat×Nat):=zb0 v 0 A
def zbn (H:List Nat) (v:Nat):List Nat:=(List.range H.length).filter fun p=>decide (H[p]?.getD 0=v)
def zfp (A:List (List Trm)) (H:List Nat) (v:Nat):Stp:=⟨zcf A v,zbn H v⟩
theorem zf5 {v:Nat}:∀ {k:Nat} {A:List (List Trm)} {u:Nat×Nat},u∈zb0 v k A→k≤u.1∧u.1<k+A.length∧u.2=(zam (A[u.1 - k]?.getD []) v).length∧1≤u.2
 | k,[],u,h=>by cases h
 | k,ts :: A,u,h=>by
  unfold zb0 at h
  have key:u∈zb0 v (k+1) A→k≤u.1∧u.1<k+(ts :: A).length∧u.2=(zam ((ts :: A)[u.1 - k]?.getD []) v).length∧1≤u.2:=by
   intro h
   obtain ⟨h1,h2,h3,h4⟩:=zf5 h
   refine ⟨by omega,by simp;omega,?_,h4⟩
   rw [h3,show u.1 - k=(u.1 - (k+1))+1 by omega]
   simp
  split at h
  ·exact key h
  ·rcases List.mem_cons.1 h with rfl|h
   ·refine ⟨Nat.le_refl _,by simp,by simp,by dsimp only;omega⟩
   ·exact key h
theorem ze3 (v:Nat):∀ (k:Nat) (A:List (List Trm)),((zb0 v k A).map (·.1)).Nodup
 | k,[]=>List.nodup_nil
 | k,ts :: A=>by
  unfold zb0
  split
  ·exact ze3 v (k+1) A
  ·rw [List.map_cons,List.nodup_cons]
   refine ⟨fun h=>?_,ze3 v (k+1) A⟩
   obtain ⟨u,hu,e⟩:=List.mem_map.1 h
   have:=(zf5 hu).1
   dsimp only at e
   omega
theorem zuf (v:Nat):∀ (k:Nat) (A:List (List Trm)) (i:Nat),i<A.length→zm3 (zb0 v k A) (k+i)=(zam (A[i]?.getD []) v).length
 | k,[],i,h=>by simp at h
 | k,ts :: A,i,h=>by
  unfold zb0
  cases i with
  | zero =>
   have h0:zm3 (zb0 v (k+1) A) k=0:=zeu fun hm=>by
    obtain ⟨u,hu,e⟩:=List.mem_map.1 hm
    have:=(zf5 hu).1
    omega
   split
   ·rename_i hl
    simp only [Nat.add_zero,h0]
    simp [hl]
   ·simp only [Nat.add_zero,zm3,if_true,h0]
    simp
  | succ i =>
   have ih:=zuf v (k+1) A i (by simpa using h)
   rw [show k+1+i=k+(i+1) by omega] at ih
   split
   ·rw [ih];simp
   ·simp only [zm3]
    rw [if_neg (by omega),ih]
    simp
theorem zue (A:List (List Trm)) (v i:Nat) (hi:i<A.length):zm3 (zcf A v) i=(zam (A[i]?.getD []) v).length:=by
 have:=zuf v 0 A i hi
 rwa [Nat.zero_add] at this
def zh3 (A:List (List Trm)) (v:Nat):Prop:=∃ i,i<A.length∧zam (A[i]?.getD []) v≠[]
theorem ziv (v:Nat):∀ (k:Nat) (A:List (List Trm)),(zb0 v k A).length≤A.length
 | k,[]=>Nat.le_refl _
 | k,ts :: A=>by
  have:=ziv v (k+1) A
  unfold zb0
  split
  ·simp;omega
  ·simp;omega
theorem zn2 {A:List (List Trm)} {H:List Nat} {v:Nat} (hb:zh3 A v) (hH:H.length≤4):zjy A.length (zfp A H v) where
 ne:=fun e=>by
  obtain ⟨i,hi,hne⟩:=hb
  have:=zue A v i hi
  rw [show zcf A v=[] from e] at this
  exact hne (List.eq_nil_of_length_eq_zero this.symm)
 nodup:=ze3 v 0 A
 at4:=fun u hu=>by
  obtain ⟨_,h2,_,h4⟩:=zf5 hu
  exact ⟨by omega,h4⟩
 len:=ziv v 0 A
 pl:=fun p hp=>by
  have hp':p∈zbn H v:=hp
  unfold zbn at hp'
  rw [List.mem_filter,List.mem_range] at hp'
  omega
 pln:=by
  show (zbn H v).length≤4
  unfold zbn
  exact Nat.le_trans (List.length_filter_le _ _) (by simpa using hH)
def zy2 (ts:List Trm) (vs:List Nat):Nat:=(vs.map fun v=>(zam ts v).length).sum
def zhz (ts:List Trm) (vs:List Nat):List Nat:=zam ts 0 ++ vs.flatMap (zam ts)
theorem yfs {A:List (List Trm)} {v:Nat} (cs:Nat→Nat) (r r':Nat→Row) (z:Int)
  (hseg:∀ i,i<A.length→∀ k,k<(zam (A[i]?.getD []) v).length→zal (r' i) (cs i+k)=zal (r i) ((zam (A[i]?.getD []) v)[k]?.getD 0)) :
  zc1 (zcf A v) cs (zgp r') z=true↔∀ i,i<A.length→∀ j∈zam (A[i]?.getD []) v,zal (r i) j=z:=by
 rw [← zpv (na:=A.length) (us:=zcf A v) (ze3 v 0 A) (fun u hu=>by have:=(zf5 hu).2.1;omega),ze0]
 constructor
 ·intro h i hi j hj
  have h1:=h i hi
  rw [zue A v i hi] at h1
  unfold zef at h1
  rw [ze0] at h1
  obtain ⟨k,hk,rfl⟩:=List.getElem_of_mem hj
  have h2:=h1 k hk
  simp only [decide_eq_true_eq] at h2
  have h3:=hseg i hi k hk
  rw [show (zgp r' i).1=r' i from rfl,h3] at h2
  simpa [hk] using h2
 ·intro h i hi
  rw [zue A v i hi]
  unfold zef
  rw [ze0]
  intro k hk
  simp only [decide_eq_true_eq]
  rw [show (zgp r' i).1=r' i from rfl,hseg i hi k hk]
  refine h i hi _ ?_
  simp [hk]
theorem ync {A:List (List Trm)} {v:Nat} {cs:Nat→Nat} {g:Nat→zai} {z:Int} (hb:zh3 A v) (h:zc1 (zcf A v) cs g z=true):zOf (zcf A v) cs g=z:=
 (zv2 (zn2 (H:=[]) hb (by simp)).ne (fun u hu=>((zn2 (H:=[]) hb (by simp)).at4 u hu).2) h).symm
def zur (H:List Nat) (vs:List Nat) (asg:Nat→Int) (row:H4):H4:=vs.foldl (fun row v=>zea (zbn H v) (asg v) row) row
theorem zo9 (A:List (List Trm)) (H:List Nat) (r r':Nat→Row):∀ (vs:List Nat) (cs:Nat→Nat) (row h:H4),vs.Nodup→(∀ v∈vs,zh3 A v) →
  (∀ pre v post,vs=pre ++ v :: post→∀ i,i<A.length→∀ k,k<(zam (A[i]?.getD []) v).length→zal (r' i) (cs i+zy2 (A[i]?.getD []) pre+k)=zal (r i) ((zam (A[i]?.getD []) v)[k]?.getD 0)) →
  (zeq (vs.map (zfp A H)) cs row (zgp r')=some h↔∃ asg:Nat→Int,(∀ v∈vs,∀ i,i<A.length→∀ j∈zam (A[i]?.getD []) v,zal (r i) j=asg v)∧zur H vs asg row=h)
 | [],cs,row,h,_,_,_=>by
  simp only [List.map_nil,zeq]
  constructor
  ·intro e;exact ⟨fun _=>0,fun v hv=>absurd hv List.not_mem_nil,Option.some.inj e⟩
  ·rintro ⟨_,_,e⟩;exact congrArg some e
 | v :: vs,cs,row,h,hn,hb,hseg=>by
  rw [List.nodup_cons] at hn
  have hbv:=hb v (List.mem_cons_self ..)
  have hseg0:∀ i,i<A.length→∀ k,k<(zam (A[i]?.getD []) v).length→zal (r' i) (cs i+k)=zal (r i) ((zam (A[i]?.getD []) v)[k]?.getD 0):=by
   intro i hi k hk
   have:=hseg [] v vs rfl i hi k hk
   simpa [zy2] using this
  have hu:=fun z=>yfs (v:=v) cs r r' z hseg0
  have ih:=fun z=>zo9 A H r r' vs (fun i=>cs i+zm3 (zcf A v) i) (zea (zbn H v) z row) h hn.2 (fun u hu=>hb u (List.mem_cons_of_mem _ hu)) (fun pre u post e i hi k hk=>by
   have:=hseg (v :: pre) u post (by rw [e];rfl) i hi k hk
   rw [← this,zue A v i hi]
   congr 1
   simp only [zy2,List.map_cons,List.sum_cons]
   omega)
  simp only [List.map_cons,zeq]
  show (if zc1 (zcf A v) cs (zgp r') (zOf (zcf A v) cs (zgp r'))=true then zeq (vs.map (zfp A H)) (fun i=>cs i+zm3 (zcf A v) i) (zea (zbn H v) (zOf (zcf A v) cs (zgp r')) row) (zgp r') else none)=some h↔_
  constructor
  ·intro e
   split at e
   ·rename_i hz
    obtain ⟨asg,h1,h2⟩:=(ih _).1 e
    refine ⟨fun u=>if u=v then zOf (zcf A v) cs (zgp r') else asg u,fun u hu' i hi j hj=>?_,?_⟩
    ·rcases List.mem_cons.1 hu' with rfl|hu'
     ·dsimp only;rw [if_pos rfl];exact (hu _).1 hz i hi j hj
     ·have hne:u≠v:=fun e=>hn.1 (e ▸ hu')
      dsimp only;rw [if_neg hne];exact h1 u hu' i hi j hj
    ·show zur H vs _ (zea (zbn H v) (if v=v then _ else _) row)=h
     rw [if_pos rfl,← h2]
     unfold zur
     have:∀ (l:List Nat) (row:H4),(∀ u∈l,u≠v)→l.foldl (fun row u=>zea (zbn H u) (if u=v then zOf (zcf A v) cs (zgp r') else asg u) row) row=l.foldl (fun row u=>zea (zbn H u) (asg u) row) row:=by
      intro l
      induction l with
      | nil=>intro _ _;rfl
      | cons a l ih=>intro row hl;simp only [List.foldl_cons];rw [if_neg (hl a (List.mem_cons_self ..)),ih _ fun u hu=>hl u (List.mem_cons_of_mem _ hu)]
     exact this vs _ fun u hu e=>hn.1 (e ▸ hu)
   ·cases e
  ·rintro ⟨asg,h1,h2⟩
   have hz:zc1 (zcf A v) cs (zgp r') (asg v)=true:=(hu _).2 fun i hi j hj=>h1 v (List.mem_cons_self ..) i hi j hj
   rw [ync hbv hz,if_pos hz]
   exact (ih _).2 ⟨asg,fun u hu'=>h1 u (List.mem_cons_of_mem _ hu'),h2⟩
theorem zhp {H:List Nat} {v p:Nat}:p∈zbn H v↔p<H.length∧H[p]?.getD 0=v:=by
 unfold zbn
 simp
theorem zq7 {H:List Nat} (hH:H.length≤4) {q:Nat} (hq:q<4) (asg:Nat→Int):∀ (vs:List Nat) (row:H4),yab (zur H vs asg row) q=if q<H.length∧H[q]?.getD 0∈vs then asg (H[q]?.getD 0) else yab row q
 | [],row=>by simp [zur]
 | v :: vs,row=>by
  show yab (zur H vs asg (zea (zbn H v) (asg v) row)) q=_
  rw [zq7 hH hq asg vs,zgu hq _ _ fun p hp=>by have:=(zhp.1 hp).1;omega]
  by_cases h0:q<H.length
  ·by_cases h1:H[q]?.getD 0∈vs
   ·rw [if_pos ⟨h0,h1⟩,if_pos ⟨h0,List.mem_cons_of_mem _ h1⟩]
   ·rw [if_neg (fun h=>h1 h.2)]
    by_cases h2:H[q]?.getD 0=v
    ·rw [if_pos (zhp.2 ⟨h0,h2⟩),if_pos ⟨h0,h2 ▸ List.mem_cons_self ..⟩,h2]
    ·rw [if_neg (fun h=>h2 (zhp.1 h).2),if_neg]
     rintro ⟨_,h⟩
     rcases List.mem_cons.1 h with h|h
     ·exact h2 h
     ·exact h1 h
  ·rw [if_neg (fun h=>h0 h.1),if_neg (fun h=>h0 (zhp.1 h).1),if_neg (fun h=>h0 h.1)]
def zmf (H:List Nat) (asg:Nat→Int):H4:=
 let f:=fun q=>if q<H.length then asg (H[q]?.getD 0) else 0
 (f 0,f 1,f 2,f 3)
theorem zys {H:List Nat} (hH:H.length≤4) {vs:List Nat} (hv:∀ v∈H,v∈vs) (asg:Nat→Int):zur H vs asg (0,0,0,0)=zmf H asg:=by
 refine yio fun q hq=>?_
 rw [zq7 hH hq]
 have e:yab (zmf H asg) q=if q<H.length then asg (H[q]?.getD 0) else 0:=by
  match q,hq with|0,_=>rfl|1,_=>rfl|2,_=>rfl|3,_=>rfl
 have e0:yab ((0,0,0,0):H4) q=0:=by match q,hq with|0,_=>rfl|1,_=>rfl|2,_=>rfl|3,_=>rfl
 rw [e,e0]
 by_cases h0:q<H.length
 ·rw [if_pos ⟨h0,hv _ (by simp [h0])⟩,if_pos h0]
 ·rw [if_neg (fun h=>h0 h.1),if_neg h0]
def zp9 (A:List (List Trm)) (r:Nat→Row) (asg:Nat→Int):Prop:=
 ∀ i,i<A.length→∀ j,j<(A[i]?.getD []).length→zal (r i) j=if zb4 (A[i]?.getD []) j=0 then ((A[i]?.getD [])[j]?.getD (0,0)).2 else asg (zb4 (A[i]?.getD []) j)
end Go.Proofs.YtoifcnidhfnapabGreatDoor
namespace Go.Proofs.YtoifcnidhfnapabGreatDoor
open Go.RowKit Go.Maps Go.Sort Go.Shelf
def ygr (na:Nat) (nss:List (List Int)) (sts:List Stp) (h:H4) (r:Nat→Row):B64:=
 if zto na (fun i=>zdb (nss[i]?.getD []) 0 (r i,0)) then zyo sts (fun i=>(nss[i]?.getD []).length) (0,0,0,0) h r else 0#64
theorem zxl (zs:List Int):∀ (c:Nat) (e e':zai),e.1=e'.1→zdb zs c e=zdb zs c e':=by
 induction zs with
 | nil=>intro c e e' _;rfl
 | cons z zs ih=>intro c e e' h;simp only [zdb];rw [h,ih _ _ _ h]
theorem zlf {na:Nat} {nss:List (List Int)} {sts:List Stp} {S:Nat→Src} (hS:POK na nss sts S) (hl:nss.length=na) (hc:∀ i,(S i).c=0) (h:H4):ztr na nss sts S h=zih (zcn S) na (ygr na nss sts h):=by
 have hents:∀ i,i<na→zcn (zjr nss S nss.length) i=(zcn S i).filter (zdb (nss[i]?.getD []) 0):=by
  intro i hi
  unfold zcn
  rw [zgl,if_pos (by omega),zg2 _ (hS.ok i hi),hc i]
 have hcs:∀ i,(zjr nss S nss.length i).c=(nss[i]?.getD []).length:=by
  intro i
  rw [zgl]
  split
  ·rw [yeg,hc i,Nat.zero_add]
  ·rename_i hi
   rw [hc i]
   have:nss[i]? = none:=by rw [List.getElem?_eq_none_iff];omega
   rw [this]
   rfl
 unfold ztr
 rw [yfp]
 simp only [hcs]
 unfold zih
 rw [zmr zct na _ hents,zkm]
 refine zc9 _ _ _ _ _ fun g _=>?_
 unfold ygr
 have e:(zto na fun i=>zdb (nss[i]?.getD []) 0 ((g i).1,0))=zto na fun i=>zdb (nss[i]?.getD []) 0 (g i):=by
  congr 1
  funext i
  exact zxl _ _ _ _ rfl
 rw [e]
 split
 ·rfl
 ·simp
theorem zml (rs:List (List zai)) (es:List zai):(zh0 rs es).flatten=rs.flatten ++ es:=by
 unfold zh0
 split
 ·rename_i h;subst h;simp
 ·simp
theorem zq6 (es:List zai):(zeg [es]).flatten=es:=by
 unfold zeg
 cases es with
 | nil=>rfl
 | cons x xs=>simp
def yaw (ix:Nat→List (List zai)×List zai) (n:Nat):Nat→Src:=fun i=>if i<n then ⟨zh0 (ix i).1 (ix i).2,0⟩ else ⟨[],0⟩
def ya1 (ix:Nat→List (List zai)×List zai) (n:Nat):Nat→Src:=fun i=>if i<n then ⟨(ix i).1,0⟩ else ⟨[],0⟩
theorem zwo {na:Nat} {nss:List (List Int)} {sts:List Stp} {ix:Nat→List (List zai)×List zai} (hl:nss.length=na) (hN:POK na nss sts (yaw ix na)) (hO:POK na nss sts (ya1 ix na)) (hA:∀ a,a<na→POK na nss sts (zbb ix na a)) (h:H4) :
  ztr na nss sts (yaw ix na) h=ztr na nss sts (ya1 ix na) h+zed na nss sts ix na h:=by
 rw [zlf hN hl (fun i=>by unfold yaw;split <;> rfl),zlf hO hl (fun i=>by unfold ya1;split <;> rfl)]
 unfold zed
 rw [za8 (g:=fun a=>zih (zl3 (zcn (yaw ix na)) (fun i=>(ix i).2) (zcn (ya1 ix na)) a) na (ygr na nss sts h)) fun a ha=>?_]
 ·refine ydz _ _ _ na _ fun i hi=>?_
  have e1:zcn (yaw ix na) i=(ix i).1.flatten ++ (ix i).2:=by unfold zcn yaw;rw [if_pos hi];exact zml _ _
  have e2:zcn (ya1 ix na) i=(ix i).1.flatten:=by unfold zcn ya1;rw [if_pos hi]
  rw [e1,e2]
  exact Eqv.refl _
 ·have ha':=List.mem_range.1 ha
  rw [zlf (hA a ha') hl (fun i=>by unfold zbb;split <;> rfl)]
  refine zft na _ fun i hi=>?_
  unfold zcn zbb zl3 yaw ya1
  simp only [if_pos hi]
  by_cases h1:i<a
  ·rw [if_pos h1,if_pos h1]
  ·rw [if_neg h1,if_neg h1]
   by_cases h2:i=a
   ·rw [if_pos h2,if_pos h2];exact zq6 _
   ·rw [if_neg h2,if_neg h2]
end Go.Proofs.YtoifcnidhfnapabGreatDoor
