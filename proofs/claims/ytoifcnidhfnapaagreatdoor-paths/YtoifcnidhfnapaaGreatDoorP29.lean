import Derived.Test.YtoifcnidhfnapaaGreatDoorP28
import Derived.Test.YtoifcnidhfnapaaGreatDoorP22
import Derived.Test.YtoifcnidhfnapaaGreatDoorP17
import Derived.Test.YtoifcnidhfnapaaGreatDoorP25
set_option linter.unusedVariables false
set_option linter.unusedSimpArgs false
namespace Go.Proofs.YtoifcnidhfnapaaGreatDoor
open Go.RowKit Go.Maps Go.Sort Go.Shelf
theorem yag {w:World} {blk n:Nat} {d:Array Row} {os:Array Obj} {cur:Array Value} {t:TypeId} (h:w.heap[blk]? = some (.cells cur t (0,0))):∃ cur',(sortWorldK encR 3 w blk 0 n d os).heap[blk]? = some (.cells cur' t (0,0)):=by
  have hl:=(Array.getElem?_eq_some_iff.1 h).1
  simp only [sortWorldK,grow,putRowK,putRow,mapBlock,Sort.ahead]
  rw [Array.getElem?_append_left (by simpa using hl),Array.getElem?_modify,if_pos rfl,h]
  exact ⟨_,rfl⟩
set_option maxHeartbeats 2000000 in
theorem zm8 (Bm b nn:Nat) (D:DataW Unit) (g:Row→Int) (hrep:Rep D g) (w:World) (hm:w.cell? ⟨Bm,0,none⟩=some (.map (some b))) (hown:w.ownsMap Tryz.prog 77 (plainElem Tryz.prog 2) b nn D) (hnn:nn≤1000000000) :
    Calls Tryz.prog 112 #[.func (.func 162) #[] #[.pointer (some ⟨Bm,0,none⟩)],meOf] w fun e w'=>∃ v ys,e=.returned v∧zcz D ys∧zgn w' v ys∧RowKit.Below w.heap.size w w'∧ys.length≤nn∧∀ gb ln cap,v=.slice (some ⟨gb,0,none⟩) ln cap→w.heap.size≤gb∧∃ cur,w'.heap[gb]? = some (.cells cur 77 (0,0)):=by
  have H:=hide (zgi Bm b nn D g hrep w hm hown hnn)
  have hszD:=hown.size_le
  have hT:=hown.tidy ze5
  have HT:=hide hT
  have HK:=hide (zj8 hown)
  have Hrep:=hide hrep
  clear hrep hm hown hT
  go_enter Tryz.func112,Tryz.ntmps112
  go_wp2_with fail
  refine (zaa H).mono ?_
  rintro e w1 ⟨v,xs,rfl,hK,ho,hb⟩
  have hmem:∀ r,zav r→(r∈xs↔Maps.has D (zaz r)=true):=fun r hr=>by rw [hK.mem r hr];simp
  have hxl:xs.length≤nn:=Nat.le_trans (zb6 (zaa HT) hK.wf hK.apart (fun x hx=>(hmem x (hK.wf x hx)).1 hx)) hszD
  rcases ho.2 with ⟨rfl,h0⟩|⟨gb,cap,cur,rfl,hbg,hgh,_⟩
  · have hx0:xs=[]:=List.eq_nil_of_length_eq_zero h0
    subst hx0
    have HR:Hid (zcz D []):=⟨List.Pairwise.nil,fun y hy=>by simp at hy,hmem⟩
    have Hb:=hide hb
    clear H hK hmem ho hb
    go_wp2_with (first|(go_at_call 161;refine (zjh _ _ _ _).mono ?_;rintro e w' ⟨rfl,rfl⟩))
    go_ret
    exact ⟨_,[],rfl,zaa HR,⟨none,0,rfl,fun i hi=>by simp at hi⟩,zaa Hb,by simp,fun gb ln cap e=>by simp at e⟩
  · have hH:=zfm ho
    have hgl:gb<w1.heap.size:=(Array.getElem?_eq_some_iff.1 hgh).1
    have Hs:=hide (zi2 gb cap xs.toArray w1 hH hgl (by simp;omega))
    have HH:=hide hH
    have Hb:=hide hb
    have Hmem:=hide hmem
    have HKo:=hide hK
    have Hgh:=hide hgh
    clear H hK hmem ho hb hgh hH
    go_wp2_with fail
    refine (zaa Hs).mono ?_
    rintro e w2 ⟨rfl,d',n,os,hp,hsrt,rfl⟩
    have hsz:d'.size=xs.length:=by have:=hp.1;simpa using this
    have hperm:d'.toList.Perm xs:=by
      have h:=hp.2.2
      have e1:(d'.extract 0 xs.toArray.size)=d':=by rw [Array.extract_eq_self_of_le (by simp;omega)]
      have e2:(xs.toArray.extract 0 xs.toArray.size)=xs.toArray:=Array.extract_eq_self_of_le (by simp)
      rw [e1,e2] at h
      simpa using h
    have hHd:HoldsK encR 3 (sortWorldK encR 3 w1 gb 0 n d' os) gb 0 d':=holdsK_sortWorldK_c encR 3 w1 gb 0 xs.toArray d' n os (zaa HH) hgl (by simpa using hsz)
    have hR:zcz D d'.toList:=by
      refine ⟨zdc ?_ ?_,fun y hy=>(zaa HKo).wf y (hperm.mem_iff.1 hy),fun r hr=>by rw [hperm.mem_iff];exact (zaa Hmem) r hr⟩
      · rw [hsz];simpa using hsrt
      · exact (hperm.pairwise_iff (fun {a b} (h:a≠b)=>h.symm)).2 (zaa HKo).apart
    have hTr:=zej (cap:=cap) hHd
    have hBe:RowKit.Below w.heap.size w (sortWorldK encR 3 w1 gb 0 n d' os):=(zaa Hb).grown (zhn w1 gb n d' os) (zaa Hb).size (fun k e=>by cases e;exact hbg)
    rw [hsz] at hTr
    have hty:=yag (n:=n) (d:=d') (os:=os) (zaa Hgh)
    have HF:=hide (And.intro hR (And.intro hTr hBe))
    have Hty:=hide hty
    clear hty
    clear hR hTr hBe hHd hperm hp hsrt Hs
    generalize sortWorldK encR 3 w1 gb 0 n d' os=w3 at *
    go_wp2
    go_ret
    exact ⟨_,_,rfl,(zaa HF).1,(zaa HF).2.1,(zaa HF).2.2,by simp [hsz];omega,fun g' ln cap' e=>by simp at e;obtain ⟨rfl,_⟩:=e;exact ⟨hbg,zaa Hty⟩⟩
set_option maxRecDepth 100000 in
set_option maxHeartbeats 4000000 in
theorem all2_in (n:Nat) (hn:1≤n) (l Bn mb nn:Nat) (g:Row→Int) (J Jx:List (Row×Int)→World→Prop) (N:Nat)
    (hY:∀ pre x W,J pre W→pre.length<N→YieldAt Fence.wide (n - 1) Tryz.prog l #[.agg #[.int .i64 x.1.1,.int .i64 x.1.2.1,.int .i64 x.1.2.2],.int .i64 x.2] W fun e W' =>
      (e=.returned (.bool true)∧J (pre ++ [x]) W'∧zbl W W')∨(e=.returned (.bool false)∧Jx (pre ++ [x]) W'))
    (W:World) (hJ:AbidesFrom W.heap.size J) (hBb:W.heap[Bn]? = some (.cells #[.map (some mb)] 127 (0,0)))
    (D:DataW Unit) (hown:W.ownsMap Tryz.prog 77 (plainElem Tryz.prog 2) mb nn D) (hrep:Rep D g) (hnn:nn≤1000000000) (hN:∀ ys,zcz D ys→ys.length≤N) (h0:J [] W) :
    CallsIn Fence.wide n Tryz.prog 111 #[.func (.yield l) #[] #[],.pointer (some ⟨Bn,0,none⟩)] W fun e W'=>(∃ v,e=.returned v) ∧
      ((∃ xs,(∃ ys,zcz D ys∧xs=za3 g ys)∧J xs W')∨(∃ pre,True∧Jx pre W')):=by
  have hBn:W.cell? ⟨Bn,0,none⟩=some (.map (some mb)):=zab hBb 0
  have hBl:=World.block_lt_of_cell? W _ hBn
  have hml:=hown.lt
  dsimp only at hBl
  have hkeys:(w:World)→(hw:w=W.alloc (.cells #[.map (some mb)] 127))→Calls Tryz.prog 112 #[.func (.func 162) #[] #[.pointer (some ⟨W.heap.size,0,none⟩)],meOf] w fun e w'=>∃ v ys,e=.returned v∧zcz D ys∧zgn w' v ys∧RowKit.Below w.heap.size w w'∧ys.length≤nn∧∀ gb ln cap,v=.slice (some ⟨gb,0,none⟩) ln cap→w.heap.size≤gb∧∃ cur,w'.heap[gb]? = some (.cells cur 77 (0,0)):=
    fun w hw=>zm8 W.heap.size mb nn D g hrep w (by rw [hw];exact zab (zad _ _ _ rfl) 0) (by rw [hw];exact hown.alloc _) hnn
  have Hkeys:=hide (hkeys _ rfl)
  clear hkeys
  refine callsIn_of_wp Tryz.func111 rfl trivial ?_ rfl
  simp only [Tryz.ntmps111,List.size_toArray,List.length_cons,List.length_nil,Nat.reduceAdd,Nat.reduceSub,Array.replicate_succ,Array.replicate_zero,List.push_toArray,List.append_toArray,List.nil_append,List.cons_append]
  gi_wp2_with (first
    | (refine ⟨trivial,?_⟩;gi_at_call 113;refine (callsIn_wide.2 (zfn _ _)).mono ?_;rintro e w' ⟨rfl,rfl⟩)
    | (refine ⟨trivial,?_⟩;gi_at_call 112;refine (callsIn_wide.2 (zaa Hkeys)).mono ?_;rintro e w1 ⟨v,ys,rfl,hR,hT,hb,hyl,hgb⟩;obtain ⟨a,cap,rfl,hcs⟩:=hT))
  have hg1:W.grownBy w1 none:=(World.grownBy_alloc W (.cells #[.map (some mb)] 127) none).trans (zcl hb none)
  have hJ1:J [] w1:=hJ [] W w1 none h0 hg1 (fun r e=>by cases e)
  have hk1:zbl W w1:=zbl.of_grown hg1 (fun j e=>by cases e)
  have hBb1:=hk1.cells Bn _ _ _ hBb (by decide) (by decide)
  have hB1:w1.cell? ⟨Bn,0,none⟩=some (.map (some mb)):=zab hBb1 0
  have hm1:WMap w1 mb nn g:=hk1.wmap ⟨D,hown,hrep⟩
  have hys:=hN ys hR
  have hwf:=hR.wf
  have hfr:∀ gb ln cap',Value.slice a ys.length cap=.slice (some ⟨gb,0,none⟩) ln cap'→∃ cur,w1.heap[gb]? = some (.cells cur 77 (0,0)):=fun gb ln cap' e=>(hgb gb ln cap' e).2
  have Hcs:=hide hcs
  have HR:=hide hR
  have HJ1:=hide hJ1
  clear hcs hR hJ1 Hkeys hN hgb hown hrep h0
  try go_frame
  gi_loopw [10] (fun i wr=>∃ k:Nat,k≤ys.length∧i=.int .i64 k∧J (za3 g (ys.take k)) wr∧zbl w1 wr∧W.heap.size≤wr.heap.size) (fun i _=>ys.length - (intOf i).toNat)
  case atStart=>exact ⟨0,Nat.zero_le _,rfl,zaa HJ1,zbl.refl _,hg1.size⟩
  case round =>
    obtain ⟨k,hk,rfl,hJk,hkk,hsk⟩:=hrel
    by_cases hlt:k<ys.length
    · obtain ⟨gb,rfl,d0,d1,d2⟩:=(zaa Hcs) k hlt
      have hx:(k:Int)<(ys.length:Int):=by omega
      obtain ⟨cur,hgX⟩:=hfr gb _ _ rfl
      replace d0:=hkk.cellOf hgX (by decide) (by decide) d0
      replace d1:=hkk.cellOf hgX (by decide) (by decide) d1
      replace d2:=hkk.cellOf hgX (by decide) (by decide) d2
      obtain ⟨y,hy⟩:∃ y,y=ys[k]?.getD (0,0,0):=⟨_,rfl⟩
      have hye:y=ys[k]:=by rw [hy];simp [hlt]
      have hwy:zav y:=by rw [hye];exact hwf _ (List.getElem_mem hlt)
      have htk:ys.take (k+1)=ys.take k ++ [y]:=by rw [List.take_succ_eq_append_getElem hlt,hye]
      rw [← hy] at d0 d1 d2
      obtain ⟨y1,y2,y3⟩:=y
      dsimp only at d0 d1 d2
      have hBbr:=hkk.cells Bn _ _ _ hBb1 (by decide) (by decide)
      have hBr:wr.cell? ⟨Bn,0,none⟩=some (.map (some mb)):=zab hBbr 0
      have hmr:=hkk.wmap hm1
      have Htk:=hide htk
      have HJk:=hide hJk
      have Hkk:=hide hkk
      have Hmr:=hide hmr
      clear hy hye htk hJk hkk hmr
      gi_wp2_with fail
      have hJa:J (za3 g (ys.take k)) (wr.alloc (.cells #[.int .i64 y1,.int .i64 y2,.int .i64 y3] 77)).drew:=
        hJ _ wr _ none (zaa HJk) ((World.grownBy_alloc _ _ none).trans (ze9 _)) (fun r e=>by cases e)
      have hka:zbl wr (wr.alloc (.cells #[.int .i64 y1,.int .i64 y2,.int .i64 y3] 77)).drew:=zbl.of_grown ((World.grownBy_alloc _ _ none).trans (ze9 _)) (fun j e=>by cases e)
      have hsa:wr.heap.size<(wr.alloc (.cells #[.int .i64 y1,.int .i64 y2,.int .i64 y3] 77)).drew.heap.size:=by
        show wr.heap.size<(wr.alloc _).heap.size
        simp
      obtain ⟨fn,tmps,assign,body,hy,hR⟩:=hY _ ((y1,y2,y3),g (y1,y2,y3)) _ hJa (by simp [za3];omega)
      have hR':=hR.mono (R':=fun e W'=>∃ r:Bool,e=.returned (.bool r)∧((r=true∧J (za3 g (ys.take k) ++ [((y1,y2,y3),g (y1,y2,y3))]) W'∧zbl (wr.alloc (.cells #[.int .i64 y1,.int .i64 y2,.int .i64 y3] 77)).drew W')∨(r=false∧Jx (za3 g (ys.take k) ++ [((y1,y2,y3),g (y1,y2,y3))]) W'))) (by
        rintro e W3 (⟨rfl,h1,h2⟩|⟨rfl,h1⟩)
        · exact ⟨true,rfl,.inl ⟨rfl,h1,h2⟩⟩
        · exact ⟨false,rfl,.inr ⟨rfl,h1⟩⟩)
      have hlk:(Instr.lookup 127 (.map (some mb)) (.agg #[.int .i64 y1,.int .i64 y2,.int .i64 y3]) false).run Tryz.prog (wr.alloc (.cells #[.int .i64 y1,.int .i64 y2,.int .i64 y3] 77)).drew=.ok (.int .i64 (g (y1,y2,y3))) (wr.alloc (.cells #[.int .i64 y1,.int .i64 y2,.int .i64 y3] 77)).drew:=(hka.wmap (zaa Hmr)).look hwy
      have f0:(wr.alloc (.cells #[.int .i64 y1,.int .i64 y2,.int .i64 y3] 77)).drew.cell? ⟨wr.heap.size,0,none⟩=some (.int .i64 y1):=zab (zad _ _ _ rfl) 0
      have f1:(wr.alloc (.cells #[.int .i64 y1,.int .i64 y2,.int .i64 y3] 77)).drew.cell? ⟨wr.heap.size,1,none⟩=some (.int .i64 y2):=zab (zad _ _ _ rfl) 1
      have f2:(wr.alloc (.cells #[.int .i64 y1,.int .i64 y2,.int .i64 y3] 77)).drew.cell? ⟨wr.heap.size,2,none⟩=some (.int .i64 y3):=zab (zad _ _ _ rfl) 2
      have fB:(wr.alloc (.cells #[.int .i64 y1,.int .i64 y2,.int .i64 y3] 77)).drew.cell? ⟨Bn,0,none⟩=some (.map (some mb)):=zab (hka.cells Bn _ _ _ hBbr (by decide) (by decide)) 0
      dsimp only at hy
      have HR':=hide hR'
      have Hka:=hide hka
      have HJa:=hide hJa
      clear hR hR' hka hJa hBr hBbr d0 d1 d2 hB1 hBb1 hm1 hBn hBb hJ hY hgX
      gi_region_with (refine (zaa HR').mono ?_;rintro e W3 ⟨r,rfl,hor⟩)
      all_goals (rcases hor with ⟨rfl,hJ3,hk3⟩|⟨rfl,hx3⟩)
      all_goals first
        | (gi_wp2
           go_roundw
           case rel=>exact ⟨k+1,by omega,by simp,by rw [zaa Htk];simpa [za3] using hJ3,((zaa Hkk).trans (zaa Hka)).trans hk3,by have:=hk3.size;omega⟩
           case measure=>simp [intOf];omega)
        | (gi_wp2
           refine bodyPost_ret (results_none rfl _ _ _) rfl ?_
           exact ⟨⟨_,rfl⟩,.inr ⟨_,trivial,hx3⟩⟩)
    · have hke:k=ys.length:=by omega
      subst hke
      rw [List.take_length] at hJk
      gi_wp2
      go_end0
      exact ⟨⟨_,rfl⟩,.inl ⟨_,⟨ys,zaa HR,rfl⟩,hJk⟩⟩
theorem rall_seq {w:World} {Bn mb n N:Nat} {f:Row→Int} (hm:w.heap[Bn]? = some (.cells #[.map (some mb)] 127 (0,0))) (h:WMap w mb n f) (hn:n≤N) (hN:N≤1000000000):∀ W0,Below w.heap.size w W0→SeqStopsK Fence.wide 8 Tryz.prog 111 #[.pointer (some ⟨Bn,0,none⟩)] ztw zbl (zu1 f N) (fun _=>True) N W0:=by
  intro W0 hb0 l J Jx W hW hJ _ hY h0
  have hbW:Below w.heap.size w W:=hb0.trans (hW.mono hb0.size)
  have hmW:=(hbW.block Bn (Array.getElem?_eq_some_iff.1 hm).1).trans hm
  obtain ⟨D,hown,hrep⟩:=h
  have hownW:W.ownsMap Tryz.prog 77 (plainElem Tryz.prog 2) mb n D:=zaw hown (hbW.block mb hown.lt)
  have hlen:∀ ys,zcz D ys→ys.length≤n:=fun ys hR=>Nat.le_trans (zb6 (hown.tidy ze5) hR.wf (hR.rising.imp (fun {a b} h e=>by subst e;unfold ltR at h;omega)) (fun x hx=>(hR.mem x (hR.wf x hx)).1 hx)) hown.size_le
  refine (all2_in 8 (by omega) l Bn mb n f J Jx N hY W hJ hmW D hownW hrep (by omega) (fun ys hR=>by have:=hlen ys hR;omega) h0).mono ?_
  rintro e W' ⟨he,hor⟩
  refine ⟨he,?_⟩
  rcases hor with ⟨ls,⟨ys,hR,rfl⟩,hj⟩|h
  · refine .inl ⟨_,⟨ys,⟨hR.wf,hR.rising.imp (fun {a b} h e=>by subst e;unfold ltR at h;omega),fun r hr=>(hR.mem r hr).trans (hrep.has_ r hr)⟩,rfl,by have:=hlen ys hR;omega⟩,hj⟩
  · exact .inr h
end Go.Proofs.YtoifcnidhfnapaaGreatDoor
namespace Go.Proofs.YtoifcnidhfnapaaGreatDoor
abbrev Trm:=Nat×Int
def zbs (ts:List Trm) (j:Nat):Nat:=(ts[j]?.getD (0,0)).1
def zai (ts:List Trm) (v:Nat):List Nat:=(List.range ts.length).filter fun j=>decide (zbs ts j=v)
def zbp (v:Nat):Nat→List (List Trm)→List (Nat×Nat)
 | _,[]=>[]
 | k,ts :: A=>if (zai ts v).length=0 then zbp v (k+1) A else (k,(zai ts v).length) :: zbp v (k+1) A
def zb3 (A:List (List Trm)) (v:Nat):List (Nat×Nat):=zbp v 0 A
def zbg (H:List Nat) (v:Nat):List Nat:=(List.range H.length).filter fun p=>decide (H[p]?.getD 0=v)
def ze4 (A:List (List Trm)) (H:List Nat) (v:Nat):Stp:=⟨zb3 A v,zbg H v⟩
theorem zfc {v:Nat}:∀ {k:Nat} {A:List (List Trm)} {u:Nat×Nat},u∈zbp v k A→k≤u.1∧u.1<k+A.length∧u.2=(zai (A[u.1 - k]?.getD []) v).length∧1≤u.2
 | k,[],u,h=>by cases h
 | k,ts :: A,u,h=>by
  unfold zbp at h
  have key:u∈zbp v (k+1) A→k≤u.1∧u.1<k+(ts :: A).length∧u.2=(zai ((ts :: A)[u.1 - k]?.getD []) v).length∧1≤u.2:=by
   intro h
   obtain ⟨h1,h2,h3,h4⟩:=zfc h
   refine ⟨by omega,by simp;omega,?_,h4⟩
   rw [h3,show u.1 - k=(u.1 - (k+1))+1 by omega]
   simp
  split at h
  ·exact key h
  ·rcases List.mem_cons.1 h with rfl|h
   ·refine ⟨Nat.le_refl _,by simp,by simp,by dsimp only;omega⟩
   ·exact key h
theorem zel (v:Nat):∀ (k:Nat) (A:List (List Trm)),((zbp v k A).map (·.1)).Nodup
 | k,[]=>List.nodup_nil
 | k,ts :: A=>by
  unfold zbp
  split
  ·exact zel v (k+1) A
  ·rw [List.map_cons,List.nodup_cons]
   refine ⟨fun h=>?_,zel v (k+1) A⟩
   obtain ⟨u,hu,e⟩:=List.mem_map.1 h
   have:=(zfc hu).1
   dsimp only at e
   omega
theorem zsv (v:Nat):∀ (k:Nat) (A:List (List Trm)) (i:Nat),i<A.length→cntU (zbp v k A) (k+i)=(zai (A[i]?.getD []) v).length
 | k,[],i,h=>by simp at h
 | k,ts :: A,i,h=>by
  unfold zbp
  cases i with
  | zero =>
   have h0:cntU (zbp v (k+1) A) k=0:=zea fun hm=>by
    obtain ⟨u,hu,e⟩:=List.mem_map.1 hm
    have:=(zfc hu).1
    omega
   split
   ·rename_i hl
    simp only [Nat.add_zero,h0]
    simp [hl]
   ·simp only [Nat.add_zero,cntU,if_true,h0]
    simp
  | succ i =>
   have ih:=zsv v (k+1) A i (by simpa using h)
   rw [show k+1+i=k+(i+1) by omega] at ih
   split
   ·rw [ih];simp
   ·simp only [cntU]
    rw [if_neg (by omega),ih]
    simp
theorem zsc (A:List (List Trm)) (v i:Nat) (hi:i<A.length):cntU (zb3 A v) i=(zai (A[i]?.getD []) v).length:=by
 have:=zsv v 0 A i hi
 rwa [Nat.zero_add] at this
def zg2 (A:List (List Trm)) (v:Nat):Prop:=∃ i,i<A.length∧zai (A[i]?.getD []) v≠[]
theorem zg3 (v:Nat):∀ (k:Nat) (A:List (List Trm)),(zbp v k A).length≤A.length
 | k,[]=>Nat.le_refl _
 | k,ts :: A=>by
  have:=zg3 v (k+1) A
  unfold zbp
  split
  ·simp;omega
  ·simp;omega
theorem zlh {A:List (List Trm)} {H:List Nat} {v:Nat} (hb:zg2 A v) (hH:H.length≤4):zij A.length (ze4 A H v) where
 ne:=fun e=>by
  obtain ⟨i,hi,hne⟩:=hb
  have:=zsc A v i hi
  rw [show zb3 A v=[] from e] at this
  exact hne (List.eq_nil_of_length_eq_zero this.symm)
 nodup:=zel v 0 A
 at4:=fun u hu=>by
  obtain ⟨_,h2,_,h4⟩:=zfc hu
  exact ⟨by omega,h4⟩
 len:=zg3 v 0 A
 pl:=fun p hp=>by
  have hp':p∈zbg H v:=hp
  unfold zbg at hp'
  rw [List.mem_filter,List.mem_range] at hp'
  omega
 pln:=by
  show (zbg H v).length≤4
  unfold zbg
  exact Nat.le_trans (List.length_filter_le _ _) (by simpa using hH)
def offS (ts:List Trm) (vs:List Nat):Nat:=(vs.map fun v=>(zai ts v).length).sum
def zgt (ts:List Trm) (vs:List Nat):List Nat:=zai ts 0 ++ vs.flatMap (zai ts)
theorem ybf {A:List (List Trm)} {v:Nat} (cs:Nat→Nat) (r r':Nat→Row) (z:Int)
  (hseg:∀ i,i<A.length→∀ k,k<(zai (A[i]?.getD []) v).length→zah (r' i) (cs i+k)=zah (r i) ((zai (A[i]?.getD []) v)[k]?.getD 0)) :
  zco (zb3 A v) cs (zf1 r') z=true↔∀ i,i<A.length→∀ j∈zai (A[i]?.getD []) v,zah (r i) j=z:=by
 rw [← zmi (na:=A.length) (us:=zb3 A v) (zel v 0 A) (fun u hu=>by have:=(zfc hu).2.1;omega),zei]
 constructor
 ·intro h i hi j hj
  have h1:=h i hi
  rw [zsc A v i hi] at h1
  unfold zdz at h1
  rw [zei] at h1
  obtain ⟨k,hk,rfl⟩:=List.getElem_of_mem hj
  have h2:=h1 k hk
  simp only [decide_eq_true_eq] at h2
  have h3:=hseg i hi k hk
  rw [show (zf1 r' i).1=r' i from rfl,h3] at h2
  simpa [hk] using h2
 ·intro h i hi
  rw [zsc A v i hi]
  unfold zdz
  rw [zei]
  intro k hk
  simp only [decide_eq_true_eq]
  rw [show (zf1 r' i).1=r' i from rfl,hseg i hi k hk]
  refine h i hi _ ?_
  simp [hk]
theorem zOf_Q {A:List (List Trm)} {v:Nat} {cs:Nat→Nat} {g:Nat→REnt} {z:Int} (hb:zg2 A v) (h:zco (zb3 A v) cs g z=true):zOf (zb3 A v) cs g=z:=
 (zr6 (zlh (H:=[]) hb (by simp)).ne (fun u hu=>((zlh (H:=[]) hb (by simp)).at4 u hu).2) h).symm
def zr9 (H:List Nat) (vs:List Nat) (asg:Nat→Int) (row:H4):H4:=vs.foldl (fun row v=>zds (zbg H v) (asg v) row) row
theorem zlz (A:List (List Trm)) (H:List Nat) (r r':Nat→Row):∀ (vs:List Nat) (cs:Nat→Nat) (row h:H4),vs.Nodup→(∀ v∈vs,zg2 A v) →
  (∀ pre v post,vs=pre ++ v :: post→∀ i,i<A.length→∀ k,k<(zai (A[i]?.getD []) v).length→zah (r' i) (cs i+offS (A[i]?.getD []) pre+k)=zah (r i) ((zai (A[i]?.getD []) v)[k]?.getD 0)) →
  (zd7 (vs.map (ze4 A H)) cs row (zf1 r')=some h↔∃ asg:Nat→Int,(∀ v∈vs,∀ i,i<A.length→∀ j∈zai (A[i]?.getD []) v,zah (r i) j=asg v)∧zr9 H vs asg row=h)
 | [],cs,row,h,_,_,_=>by
  simp only [List.map_nil,zd7]
  constructor
  ·intro e;exact ⟨fun _=>0,fun v hv=>absurd hv List.not_mem_nil,Option.some.inj e⟩
  ·rintro ⟨_,_,e⟩;exact congrArg some e
 | v :: vs,cs,row,h,hn,hb,hseg=>by
  rw [List.nodup_cons] at hn
  have hbv:=hb v (List.mem_cons_self ..)
  have hseg0:∀ i,i<A.length→∀ k,k<(zai (A[i]?.getD []) v).length→zah (r' i) (cs i+k)=zah (r i) ((zai (A[i]?.getD []) v)[k]?.getD 0):=by
   intro i hi k hk
   have:=hseg [] v vs rfl i hi k hk
   simpa [offS] using this
  have hu:=fun z=>ybf (v:=v) cs r r' z hseg0
  have ih:=fun z=>zlz A H r r' vs (fun i=>cs i+cntU (zb3 A v) i) (zds (zbg H v) z row) h hn.2 (fun u hu=>hb u (List.mem_cons_of_mem _ hu)) (fun pre u post e i hi k hk=>by
   have:=hseg (v :: pre) u post (by rw [e];rfl) i hi k hk
   rw [← this,zsc A v i hi]
   congr 1
   simp only [offS,List.map_cons,List.sum_cons]
   omega)
  simp only [List.map_cons,zd7]
  show (if zco (zb3 A v) cs (zf1 r') (zOf (zb3 A v) cs (zf1 r'))=true then zd7 (vs.map (ze4 A H)) (fun i=>cs i+cntU (zb3 A v) i) (zds (zbg H v) (zOf (zb3 A v) cs (zf1 r')) row) (zf1 r') else none)=some h↔_
  constructor
  ·intro e
   split at e
   ·rename_i hz
    obtain ⟨asg,h1,h2⟩:=(ih _).1 e
    refine ⟨fun u=>if u=v then zOf (zb3 A v) cs (zf1 r') else asg u,fun u hu' i hi j hj=>?_,?_⟩
    ·rcases List.mem_cons.1 hu' with rfl|hu'
     ·dsimp only;rw [if_pos rfl];exact (hu _).1 hz i hi j hj
     ·have hne:u≠v:=fun e=>hn.1 (e ▸ hu')
      dsimp only;rw [if_neg hne];exact h1 u hu' i hi j hj
    ·show zr9 H vs _ (zds (zbg H v) (if v=v then _ else _) row)=h
     rw [if_pos rfl,← h2]
     unfold zr9
     have:∀ (l:List Nat) (row:H4),(∀ u∈l,u≠v)→l.foldl (fun row u=>zds (zbg H u) (if u=v then zOf (zb3 A v) cs (zf1 r') else asg u) row) row=l.foldl (fun row u=>zds (zbg H u) (asg u) row) row:=by
      intro l
      induction l with
      | nil=>intro _ _;rfl
      | cons a l ih=>intro row hl;simp only [List.foldl_cons];rw [if_neg (hl a (List.mem_cons_self ..)),ih _ fun u hu=>hl u (List.mem_cons_of_mem _ hu)]
     exact this vs _ fun u hu e=>hn.1 (e ▸ hu)
   ·cases e
  ·rintro ⟨asg,h1,h2⟩
   have hz:zco (zb3 A v) cs (zf1 r') (asg v)=true:=(hu _).2 fun i hi j hj=>h1 v (List.mem_cons_self ..) i hi j hj
   rw [zOf_Q hbv hz,if_pos hz]
   exact (ih _).2 ⟨asg,fun u hu'=>h1 u (List.mem_cons_of_mem _ hu'),h2⟩
theorem zgk {H:List Nat} {v p:Nat}:p∈zbg H v↔p<H.length∧H[p]?.getD 0=v:=by
 unfold zbg
 simp
theorem znx {H:List Nat} (hH:H.length≤4) {q:Nat} (hq:q<4) (asg:Nat→Int):∀ (vs:List Nat) (row:H4),getH (zr9 H vs asg row) q=if q<H.length∧H[q]?.getD 0∈vs then asg (H[q]?.getD 0) else getH row q
 | [],row=>by simp [zr9]
 | v :: vs,row=>by
  show getH (zr9 H vs asg (zds (zbg H v) (asg v) row)) q=_
  rw [znx hH hq asg vs,zf5 hq _ _ fun p hp=>by have:=(zgk.1 hp).1;omega]
  by_cases h0:q<H.length
  ·by_cases h1:H[q]?.getD 0∈vs
   ·rw [if_pos ⟨h0,h1⟩,if_pos ⟨h0,List.mem_cons_of_mem _ h1⟩]
   ·rw [if_neg (fun h=>h1 h.2)]
    by_cases h2:H[q]?.getD 0=v
    ·rw [if_pos (zgk.2 ⟨h0,h2⟩),if_pos ⟨h0,h2 ▸ List.mem_cons_self ..⟩,h2]
    ·rw [if_neg (fun h=>h2 (zgk.1 h).2),if_neg]
     rintro ⟨_,h⟩
     rcases List.mem_cons.1 h with h|h
     ·exact h2 h
     ·exact h1 h
  ·rw [if_neg (fun h=>h0 h.1),if_neg (fun h=>h0 (zgk.1 h).1),if_neg (fun h=>h0 h.1)]
def zja (H:List Nat) (asg:Nat→Int):H4:=
 let f:=fun q=>if q<H.length then asg (H[q]?.getD 0) else 0
 (f 0,f 1,f 2,f 3)
theorem zvj {H:List Nat} (hH:H.length≤4) {vs:List Nat} (hv:∀ v∈H,v∈vs) (asg:Nat→Int):zr9 H vs asg (0,0,0,0)=zja H asg:=by
 refine H4_ext fun q hq=>?_
 rw [znx hH hq]
 have e:getH (zja H asg) q=if q<H.length then asg (H[q]?.getD 0) else 0:=by
  match q,hq with|0,_=>rfl|1,_=>rfl|2,_=>rfl|3,_=>rfl
 have e0:getH ((0,0,0,0):H4) q=0:=by match q,hq with|0,_=>rfl|1,_=>rfl|2,_=>rfl|3,_=>rfl
 rw [e,e0]
 by_cases h0:q<H.length
 ·rw [if_pos ⟨h0,hv _ (by simp [h0])⟩,if_pos h0]
 ·rw [if_neg (fun h=>h0 h.1),if_neg h0]
def zno (A:List (List Trm)) (r:Nat→Row) (asg:Nat→Int):Prop:=
 ∀ i,i<A.length→∀ j,j<(A[i]?.getD []).length→zah (r i) j=if zbs (A[i]?.getD []) j=0 then ((A[i]?.getD [])[j]?.getD (0,0)).2 else asg (zbs (A[i]?.getD []) j)
end Go.Proofs.YtoifcnidhfnapaaGreatDoor
namespace Go.Proofs.YtoifcnidhfnapaaGreatDoor
open Go.RowKit Go.Maps Go.Sort Go.Shelf
def fitP (na:Nat) (nss:List (List Int)) (sts:List Stp) (h:H4) (r:Nat→Row):B64:=
 if allN na (fun i=>zcx (nss[i]?.getD []) 0 (r i,0)) then fitB sts (fun i=>(nss[i]?.getD []).length) (0,0,0,0) h r else 0#64
theorem ztr (zs:List Int):∀ (c:Nat) (e e':REnt),e.1=e'.1→zcx zs c e=zcx zs c e':=by
 induction zs with
 | nil=>intro c e e' _;rfl
 | cons z zs ih=>intro c e e' h;simp only [zcx];rw [h,ih _ _ _ h]
theorem zjg {na:Nat} {nss:List (List Int)} {sts:List Stp} {S:Nat→Src} (hS:POK na nss sts S) (hl:nss.length=na) (hc:∀ i,(S i).c=0) (h:H4):pval na nss sts S h=jsum (zb8 S) na (fitP na nss sts h):=by
 have hents:∀ i,i<na→zb8 (pnar nss S nss.length) i=(zb8 S i).filter (zcx (nss[i]?.getD []) 0):=by
  intro i hi
  unfold zb8
  rw [zft,if_pos (by omega),zf9 _ (hS.ok i hi),hc i]
 have hcs:∀ i,(pnar nss S nss.length i).c=(nss[i]?.getD []).length:=by
  intro i
  rw [zft]
  split
  ·rw [yan,hc i,Nat.zero_add]
  ·rename_i hi
   rw [hc i]
   have:nss[i]? = none:=by rw [List.getElem?_eq_none_iff];omega
   rw [this]
   rfl
 unfold pval
 rw [zz3]
 simp only [hcs]
 unfold jsum
 rw [zjy zcg na _ hents,zin]
 refine zct _ _ _ _ _ fun g _=>?_
 unfold fitP
 have e:(allN na fun i=>zcx (nss[i]?.getD []) 0 ((g i).1,0))=allN na fun i=>zcx (nss[i]?.getD []) 0 (g i):=by
  congr 1
  funext i
  exact ztr _ _ _ _ rfl
 rw [e]
 split
 ·rfl
 ·simp
theorem zj6 (rs:List (List REnt)) (es:List REnt):(zgu rs es).flatten=rs.flatten ++ es:=by
 unfold zgu
 split
 ·rename_i h;subst h;simp
 ·simp
theorem zon (es:List REnt):(zdv [es]).flatten=es:=by
 unfold zdv
 cases es with
 | nil=>rfl
 | cons x xs=>simp
def newS (ix:Nat→List (List REnt)×List REnt) (n:Nat):Nat→Src:=fun i=>if i<n then ⟨zgu (ix i).1 (ix i).2,0⟩ else ⟨[],0⟩
def oldS (ix:Nat→List (List REnt)×List REnt) (n:Nat):Nat→Src:=fun i=>if i<n then ⟨(ix i).1,0⟩ else ⟨[],0⟩
theorem ztp {na:Nat} {nss:List (List Int)} {sts:List Stp} {ix:Nat→List (List REnt)×List REnt} (hl:nss.length=na) (hN:POK na nss sts (newS ix na)) (hO:POK na nss sts (oldS ix na)) (hA:∀ a,a<na→POK na nss sts (za7 ix na a)) (h:H4) :
  pval na nss sts (newS ix na) h=pval na nss sts (oldS ix na) h+zd4 na nss sts ix na h:=by
 rw [zjg hN hl (fun i=>by unfold newS;split <;> rfl),zjg hO hl (fun i=>by unfold oldS;split <;> rfl)]
 unfold zd4
 rw [zat (g:=fun a=>jsum (zkc (zb8 (newS ix na)) (fun i=>(ix i).2) (zb8 (oldS ix na)) a) na (fitP na nss sts h)) fun a ha=>?_]
 ·refine zyn _ _ _ na _ fun i hi=>?_
  have e1:zb8 (newS ix na) i=(ix i).1.flatten ++ (ix i).2:=by unfold zb8 newS;rw [if_pos hi];exact zj6 _ _
  have e2:zb8 (oldS ix na) i=(ix i).1.flatten:=by unfold zb8 oldS;rw [if_pos hi]
  rw [e1,e2]
  exact Eqv.refl _
 ·have ha':=List.mem_range.1 ha
  rw [zjg (hA a ha') hl (fun i=>by unfold za7;split <;> rfl)]
  refine ze7 na _ fun i hi=>?_
  unfold zb8 za7 zkc newS oldS
  simp only [if_pos hi]
  by_cases h1:i<a
  ·rw [if_pos h1,if_pos h1]
  ·rw [if_neg h1,if_neg h1]
   by_cases h2:i=a
   ·rw [if_pos h2,if_pos h2];exact zon _
   ·rw [if_neg h2,if_neg h2]
def zgj (w:World) (v:Value) (ts:List Trm):Prop:=
 ∃ a cap,v=.slice a ts.length cap∧∀ i,i<ts.length→∃ b o,a=some ⟨b,o,none⟩∧w.cell? ⟨b,o+i*2,none⟩=some (.int .u8 ((ts[i]?.getD (0,0)).1:Nat))∧w.cell? ⟨b,o+i*2+1,none⟩=some (.int .i64 (ts[i]?.getD (0,0)).2)
structure zbe where
 nm:ByteArray
 pl:Nat
 ts:List Trm
def zar:zbe:=⟨ByteArray.empty,0,[]⟩
def zsu (w:World) (v:Value) (B:List zbe):Prop:=
 ∃ a cap,v=.slice a B.length cap∧∀ i,i<B.length→∃ b o tv,a=some ⟨b,o,none⟩∧w.cell? ⟨b,o+i*3,none⟩=some (.string (B[i]?.getD zar).nm)∧w.cell? ⟨b,o+i*3+1,none⟩=some (.int .i64 ((B[i]?.getD zar).pl:Nat))∧w.cell? ⟨b,o+i*3+2,none⟩=some tv∧zgj w tv (B[i]?.getD zar).ts
def zqh (w:World) (v:Value) (H:List (Nat×Nat)):Prop:=
 ∃ a cap,v=.slice a H.length cap∧∀ i,i<H.length→∃ b o,a=some ⟨b,o,none⟩∧w.cell? ⟨b,o+i*2,none⟩=some (.int .u8 ((H[i]?.getD (0,0)).1:Nat))∧w.cell? ⟨b,o+i*2+1,none⟩=some (.int .i64 ((H[i]?.getD (0,0)).2:Nat))
structure zg8 (w:World) (QB:Nat) (H:List (Nat×Nat)) (B:List zbe):Prop where
 blk:∃ hv bv,w.heap[QB]? = some (.cells #[hv,bv] 188 (0,0))∧zqh w hv H∧zsu w bv B
theorem zgj.below {w w':World} {v:Value} {ts:List Trm} (h:zgj w v ts) (hb:Below w.heap.size w w'):zgj w' v ts:=by
 obtain ⟨a,cap,rfl,hx⟩:=h
 refine ⟨a,cap,rfl,fun i hi=>?_⟩
 obtain ⟨b,o,e,h0,h1⟩:=hx i hi
 exact ⟨b,o,e,(hb.cell (World.block_lt_of_cell? w _ h0)).trans h0,(hb.cell (World.block_lt_of_cell? w _ h1)).trans h1⟩
theorem zsu.below {w w':World} {v:Value} {B:List zbe} (h:zsu w v B) (hb:Below w.heap.size w w'):zsu w' v B:=by
 obtain ⟨a,cap,rfl,hx⟩:=h
 refine ⟨a,cap,rfl,fun i hi=>?_⟩
 obtain ⟨b,o,tv,e,h0,h1,h2,h3⟩:=hx i hi
 exact ⟨b,o,tv,e,(hb.cell (World.block_lt_of_cell? w _ h0)).trans h0,(hb.cell (World.block_lt_of_cell? w _ h1)).trans h1,(hb.cell (World.block_lt_of_cell? w _ h2)).trans h2,h3.below hb⟩
theorem zqh.below {w w':World} {v:Value} {H:List (Nat×Nat)} (h:zqh w v H) (hb:Below w.heap.size w w'):zqh w' v H:=by
 obtain ⟨a,cap,rfl,hx⟩:=h
 refine ⟨a,cap,rfl,fun i hi=>?_⟩
 obtain ⟨b,o,e,h0,h1⟩:=hx i hi
 exact ⟨b,o,e,(hb.cell (World.block_lt_of_cell? w _ h0)).trans h0,(hb.cell (World.block_lt_of_cell? w _ h1)).trans h1⟩
theorem zg8.below {w w':World} {QB:Nat} {H:List (Nat×Nat)} {B:List zbe} (h:zg8 w QB H B) (hb:Below w.heap.size w w'):zg8 w' QB H B:=by
 obtain ⟨hv,bv,h1,h2,h3⟩:=h.blk
 exact ⟨hv,bv,zak hb h1,h2.below hb,h3.below hb⟩
structure znc (H:List (Nat×Nat)) (B:List zbe):Prop where
 h4:H.length≤4
 b4:B.length≤4
 t3:∀ a∈B,a.ts.length≤3
 hl:∀ x∈H,x.1<256
 tl:∀ a∈B,∀ t∈a.ts,t.1<256
theorem zjr (v k:Nat) (ts:List Trm) (A:List (List Trm)):zbp v k (ts :: A)=if (zai ts v).length=0 then zbp v (k+1) A else (k,(zai ts v).length) :: zbp v (k+1) A:=rfl
theorem zhk (v:Nat):∀ (k:Nat) (A B:List (List Trm)),zbp v k (A ++ B)=zbp v k A ++ zbp v (k+A.length) B
 | k,[],B=>by simp [zbp]
 | k,ts :: A,B=>by
  have ih:=zhk v (k+1) A B
  rw [List.cons_append,zjr,zjr,ih,show k+1+A.length=k+(ts :: A).length by simp;omega]
  split <;> simp
def zef (ts:List Trm) (v j:Nat):Nat:=((List.range j).filter fun i=>decide (zbs ts i=v)).length
theorem zya (ts:List Trm) (v j:Nat):zef ts v (j+1)=zef ts v j+(if zbs ts j=v then 1 else 0):=by
 unfold zef
 rw [List.range_succ,List.filter_append,List.length_append]
 by_cases h:zbs ts j=v
 ·simp [h]
 ·simp [h]
theorem zvz (ts:List Trm) (v j:Nat):zef ts v j≤j:=by
 unfold zef
 exact Nat.le_trans (List.length_filter_le _ _) (by simp)
def useC (u:Nat×Nat):List Value:=[.int .i64 u.1,.int .i64 u.2]
def zgw (us:List (Nat×Nat)):List Value:=us.flatMap useC
theorem Tryz.info357:(Tryz.prog.info? 357).map (fun i=>(i.zero,i.size,i.bytes))=some (some (.agg #[.int .i64 0,.int .i64 0]),2,16):=by kernel_rfl
theorem ziz {α:Type} (c:α→List Value) (hc:∀ x,(c x).length=2):∀ (xs:List α) (i j:Nat) (hi:i<xs.length),j<2→(xs.flatMap c)[i*2+j]? = (c xs[i])[j]?
 | [],i,j,hi,_=>by simp at hi
 | x :: xs,0,j,_,hj=>by
  rw [List.flatMap_cons,Nat.zero_mul,Nat.zero_add,List.getElem?_append_left (by rw [hc];exact hj)]
  rfl
 | x :: xs,i+1,j,hi,hj=>by
  rw [List.flatMap_cons,List.getElem?_append_right (by rw [hc];omega),hc]
  have:(i+1)*2+j - 2=i*2+j:=by omega
  rw [this,ziz c hc xs i j (by simpa using hi) hj]
  rfl
theorem zud {w:World} {base:Nat} {v:Value} {us:List (Nat×Nat)} (h:w.ownsRow base 357 2 v us.length (zgw us)):zk1 w v us:=by
 obtain ⟨p,c,rfl,hle,hn,hs⟩:=zaj h
 refine ⟨p,c,rfl,fun j hj=>?_⟩
 cases p with
 | none=>have:=(hn rfl).1;omega
 | some ad =>
  obtain ⟨g,rfl,_,_,hc⟩:=hs ad rfl
  refine ⟨g,0,rfl,?_,?_⟩
  ·rw [Nat.zero_add,hc _ (by omega)]
   have:=ziz useC (fun _=>rfl) us j 0 hj (by omega)
   rw [Nat.add_zero] at this
   rw [show zgw us=us.flatMap useC from rfl,this]
   simp [useC,hj]
  ·rw [Nat.zero_add,hc _ (by omega)]
   have:=ziz useC (fun _=>rfl) us j 1 hj (by omega)
   rw [show zgw us=us.flatMap useC from rfl,this]
   simp [useC,hj]
end Go.Proofs.YtoifcnidhfnapaaGreatDoor
