import Derived.Test.YtoifcnidhfnapabGreatDoorB43
set_option linter.unusedVariables false
set_option linter.unusedSimpArgs false
set_option maxRecDepth 100000
set_option maxHeartbeats 16000000
namespace Go.Proofs.YtoifcnidhfnapabGreatDoor
open Go.RowKit Go.Maps Go.Sort Go.Shelf
attribute [local go_sem] Oper.semAt_some
namespace H
theorem Tryz.info92:(Tryz.prog.info? 92).map (fun i=>(i.zero,i.size,i.bytes))=some (some (.agg #[.int .i64 0,.int .i64 0,.int .i64 0,.int .i64 0]),4,32):=by kernel_rfl
def zfy (xs:List H4):List Value:=xs.flatMap zev
theorem zh9 (n:Nat) (hn:3≤n) (Bm b nn:Nat) (D:DataW Unit) (g:H4→Int) (hrep:zyj D g) (w:World) (hm:w.cell? ⟨Bm,0,none⟩=some (.map (some b))) (hown:w.ownsMap Tryz.prog 92 (plainElem Tryz.prog 2) b nn D) (hnn:nn≤1000000000) :
  CallsIn Fence.wide n Tryz.prog 135 #[.slice none 0 0,.func (.func 98) #[] #[.pointer (some ⟨Bm,0,none⟩)]] w fun e w'=>∃ v xs,e=.returned v∧zcg D (fun _=>false) xs∧w'.ownsRow w.heap.size 92 4 v xs.length (zfy xs)∧Below w.heap.size w w':=by
 have h1:1≤n:=by omega
 refine callsIn_of_wp_marks Tryz.func135 rfl trivial ?_ rfl
 simp only [Tryz.ntmps135,List.size_toArray,List.length_cons,List.length_nil,Nat.reduceAdd,Nat.reduceSub,Array.replicate_succ,Array.replicate_zero,List.push_toArray,List.append_toArray,List.nil_append,List.cons_append]
 gi_wp2
 have bS0:=Boxed.new w 139 (.slice none 0 0)
 have hB0:Below w.heap.size w (w.alloc (.cells #[.slice none 0 0] 139)):=(Below.refl _ w).alloc (Nat.le_refl _) _
 have hm0:(w.alloc (.cells #[.slice none 0 0] 139)).cell? ⟨Bm,0,none⟩=some (.map (some b)):=(hB0.cell (p:=⟨Bm,0,none⟩) (World.block_lt_of_cell? w _ hm)).trans hm
 have hBm:Bm<w.heap.size:=World.block_lt_of_cell? w _ hm
 have hown0:=hown.alloc (.cells #[.slice none 0 0] 139)
 have hsz:(w.alloc (.cells #[.slice none 0 0] 139)).heap.size=w.heap.size+1:=by simp
 obtain ⟨W0,hW0⟩:∃ W0,w.alloc (.cells #[.slice none 0 0] 139)=W0:=⟨_,rfl⟩
 rw [hW0] at bS0 hB0 hm0 hown0 hsz ⊢
 clear hW0
 have hsD:Maps.size D≤nn:=hown.size_le
 have hseq:SeqStopsK Fence.wide (n - 1) Tryz.prog 98 #[.pointer (some ⟨Bm,0,none⟩)] (fun x:H4=>#[Value.agg #[.int .i64 x.1,.int .i64 x.2.1,.int .i64 x.2.2.1,.int .i64 x.2.2.2]]) KeepsWalks (zcg D (fun _=>false)) (fun _=>True) (Maps.size D) W0:=fun l J Jx W hW hJ _ hY h0=>by
  refine zsl (n - 1) (by omega) l Bm b nn D g hrep J Jx hY W hJ ((hW.cell (p:=⟨Bm,0,none⟩) (show Bm<_ by omega)).trans hm0) ?_ h0
  have hbl:=hown0.lt
  obtain ⟨es,clock,hb,Ft,hs,hD⟩:=hown0
  exact ⟨es,clock,(hW.block b hbl).trans hb,Ft,hs,hD⟩
 obtain ⟨i60,hi,hz0,hz1,hz2⟩:=info_parts Tryz.info92
 refine wpIn_rangeFunc_ownH rfl h1 (gf:=98) (lb:=#[.pointer (some ⟨Bm,0,none⟩)]) rfl trivial (enters_of Tryz.func98 (by kernel_rfl) rfl) hseq walksK_t walksK_b (Below.refl _ _) (fun _=>rfl)
  (fun pre W=>(∃ v,Boxed W w.heap.size 139 v∧W.ownsRow w.heap.size 92 4 v pre.length (zfy pre)∧True)∧Below w.heap.size w W)
  (fun _ _ _=>False)
  (OwnFrom.and (Own.from (holdsRow_own w.heap.size w.heap.size 139 92 4 (fun pre:List H4=>pre.length) zfy (fun _ _=>True)) _) (ownFrom_below (Nat.le_refl _) (by omega)))
  (fun _ _ _ _ _ hs _ _=>hs)
  ⟨⟨_,bS0,World.ownsRow_nil _ _ _ _,trivial⟩,hB0⟩
  (fun x a' W=>∃ Bx,w.heap.size<Bx∧W.heap[Bx]? = some (.cells #[.int .i64 x.1,.int .i64 x.2.1,.int .i64 x.2.2.1,.int .i64 x.2.2.2] 92 (0,0)) ∧
   a'={ tmps:=#[.slice none 0 0,.func (.func 98) #[] #[.pointer (some ⟨Bm,0,none⟩)],.pointer (some ⟨w.heap.size,0,none⟩),undef,.slice none 0 0,.pointer (some ⟨Bx,0,none⟩),.func (.func 98) #[] #[.pointer (some ⟨Bm,0,none⟩)],.agg #[.int .i64 x.1,.int .i64 x.2.1,.int .i64 x.2.2.1,.int .i64 x.2.2.2],undef,undef,undef,undef,undef],defers:=[] })
  (fun x a' _ X Y row hs hg hr=>by
   obtain ⟨Bx,h1,h2,h3⟩:=hs
   refine ⟨Bx,h1,(hg.block Bx (Array.getElem?_eq_some_iff.1 h2).1 (fun e=>?_)).trans h2,h3⟩
   obtain ⟨_,o,ho,hc⟩:=hr Bx e.symm
   rw [h2] at ho
   cases ho
   cases hc)
  ?assign ?body ?done ?stop
 case assign =>
  rintro l pre x W K ⟨⟨v,bS,hrow,_⟩,hB⟩ hK
  gi_wp2
  exact hK _ _ ((KeepsOthers.alloc _ _).from _) (KeepsWalks.alloc _ _) ⟨⟨v,bS.alloc _,hrow.alloc _,trivial⟩,hB.alloc hB.size _⟩ ⟨W.heap.size,bS.lt,zae _ _ _ rfl,rfl⟩
 case body =>
  rintro l pre x a' W hl ⟨r,hr⟩ ⟨⟨v,bS,hrow,_⟩,hB⟩ ⟨Bx,hBx,hX,rfl⟩ hlt
  obtain ⟨x1,x2,x3,x4⟩:=x
  dsimp only at hX ⊢
  have c0:W.cell? ⟨Bx,0,none⟩=some (.int .i64 x1):=zab hX 0
  have c1:W.cell? ⟨Bx,1,none⟩=some (.int .i64 x2):=zab hX 1
  have c2:W.cell? ⟨Bx,2,none⟩=some (.int .i64 x3):=zab hX 2
  have c3:W.cell? ⟨Bx,3,none⟩=some (.int .i64 x4):=zab hX 3
  have cS:=bS.cell
  have hBs:=hB.size
  have hnew:=ziz W (.int .i64 x1) (.int .i64 x2) (.int .i64 x3) (.int .i64 x4) 92
  gi_wp2_with (first
   | (gi_at_builtin;refine wpListIn_append_own _ rfl _ _ 139 rfl w.heap.size 92 i60 _ 4 32 Tryz.underlying139 hi hz0 hz1 hz2 rfl (by decide) _ _ _ rfl (hrow.alloc _) ⟨W.heap.size,0,none⟩ 1 1 [.int .i64 x1,.int .i64 x2,.int .i64 x3,.int .i64 x4] rfl rfl hnew (by simp [Value.oneCell']) (by unfold maxLen;omega) (by omega) (by simp;omega) ?_;intro v' w1 hown' hgrow _;obtain ⟨g',cap',rfl⟩:=zge hown';obtain ⟨hv1,hv2,hr2,hk2,hb2⟩:=bS.appended (by decide) hrow hB.size (Nat.le_refl _) hown' hgrow;have hc1:=hv1.cell;have hf1:=hv1.frozen))
  refine ⟨hk2.from _,⟨hk2.size,fun k o hk ho=>hk2.same k o hk (Obj.not_cells_of_walk ho)⟩,⟨_,hv2,?_,trivial⟩,hB.trans hb2⟩
  have e:zfy (pre ++ [(x1,x2,x3,x4)])=zfy pre ++ [.int .i64 x1,.int .i64 x2,.int .i64 x3,.int .i64 x4]:=by simp [zfy,zev]
  rw [e]
  simpa using hr2
 case done =>
  rintro D ys W hD hS ⟨⟨v,bS,hrow,_⟩,hB⟩ hK
  have cS:=bS.cell
  gi_wp2
  refine ⟨by simp,.inl ⟨_,_,rfl,run_takeDeferred hK,?_⟩⟩
  exact ⟨_,results_tmp rfl _ _ _,v,ys,rfl,hS,ownsRow_putObj hrow _ hK rfl,hB.trans (belowK_b (w:=w) (Nat.le_refl _) W D _ _ (by omega) hK rfl rfl)⟩
 case stop =>
  rintro D c pre W _ _ h _
  exact h.elim
end H
end Go.Proofs.YtoifcnidhfnapabGreatDoor
namespace Go.Proofs.YtoifcnidhfnapabGreatDoor
open Go.RowKit Go.Maps Go.Sort Go.Shelf
namespace H
theorem zhk (Bm b nn:Nat) (D:DataW Unit) (g:H4→Int) (hrep:zyj D g) (w:World) (hm:w.cell? ⟨Bm,0,none⟩=some (.map (some b))) (hown:w.ownsMap Tryz.prog 92 (plainElem Tryz.prog 2) b nn D) (hnn:nn≤1000000000) :
  Calls Tryz.prog 96 #[.func (.func 98) #[] #[.pointer (some ⟨Bm,0,none⟩)]] w fun e w'=>∃ v xs,e=.returned v∧zcg D (fun _=>false) xs∧w'.ownsRow w.heap.size 92 4 v xs.length (zfy xs)∧RowKit.Below w.heap.size w w':=by
 have H:=zac ((callsIn_wide (n:=3)).1 (zh9 3 (by omega) Bm b nn D g hrep w hm hown hnn))
 clear hrep hm hown
 go_enter Tryz.func96,Tryz.ntmps96
 go_wp2_with fail
 refine (zaa H).mono ?_
 rintro e w1 ⟨v,xs,rfl,hK,ho,hb⟩
 clear H
 go_wp2
 go_ret
 exact ⟨v,xs,rfl,hK,ho,hb⟩
theorem zgd (b:Nat) (w:World):Calls Tryz.prog 65 #[.map (some b)] w fun e w'=>e=.returned (.func (.func 98) #[] #[.pointer (some ⟨w.heap.size,0,none⟩)])∧w'=w.alloc (.cells #[.map (some b)] 66):=by
 go_enter Tryz.func65,Tryz.ntmps65
 go_wp2
 go_ret
 exact ⟨rfl,rfl⟩
theorem zi4 (w:World) (blk n:Nat) (d:Array H4) (os:Array Obj):w.grownBy (sortWorldK zev 4 w blk 0 n d os) (some blk):=by
 refine ⟨rfl,rfl,rfl,by simp [sortWorldK,grow,putRowK,putRow,mapBlock,Sort.ahead],fun k hk hne=>?_⟩
 have hk':k≠blk:=fun e=>hne (by rw [e])
 simp only [sortWorldK,grow,putRowK,putRow,mapBlock,Sort.ahead]
 rw [Array.getElem?_append_left (by simpa using hk),Array.getElem?_modify,if_neg (fun e=>hk' e.symm)]
def zhh (w:World) (v:Value) (ys:List H4):Prop:=
 ∃ a cap,v=.slice a ys.length cap∧∀ i,i<ys.length→∃ b,a=some ⟨b,0,none⟩∧w.cell? ⟨b,i*4,none⟩=some (.int .i64 (ys[i]?.getD (0,0,0,0)).1) ∧
  w.cell? ⟨b,i*4+1,none⟩=some (.int .i64 (ys[i]?.getD (0,0,0,0)).2.1)∧w.cell? ⟨b,i*4+2,none⟩=some (.int .i64 (ys[i]?.getD (0,0,0,0)).2.2.1)∧w.cell? ⟨b,i*4+3,none⟩=some (.int .i64 (ys[i]?.getD (0,0,0,0)).2.2.2)
theorem zsc (xs:List H4) (i j:Nat) (hi:i<xs.length) (hj:j<4):(zfy xs)[i*4+j]? = (zev xs[i])[j]?:=by
 induction xs generalizing i with
 | nil=>simp at hi
 | cons p ps ih =>
  have hl:(zev p).length=4:=rfl
  have e:zfy (p :: ps)=zev p ++ zfy ps:=rfl
  rw [e]
  cases i with
  | zero=>rw [List.getElem?_append_left (by rw [hl];omega)];simp
  | succ i =>
   have h2:(i+1)*4+j - 4=i*4+j:=by omega
   rw [List.getElem?_append_right (by rw [hl];omega),hl,h2,ih i (by simpa using hi)]
   simp
theorem zgb {w:World} {base g cap:Nat} {xs:List H4} (h:w.ownsRow base 92 4 (.slice (some ⟨g,0,none⟩) xs.length cap) xs.length (zfy xs)):HoldsK zev 4 w g 0 xs.toArray:=by
 intro j hj
 rw [size_flatK] at hj
 have hj':j<xs.length*4:=by simpa using hj
 rw [get_flatK _ _ _ _ hj,Nat.zero_add,h.cellAt j hj',h.frozenAt j]
 refine ⟨?_,rfl⟩
 have hd:j / 4<xs.length:=by omega
 have hm:j % 4<4:=Nat.mod_lt _ (by omega)
 have e:j=j / 4*4+j % 4:=by omega
 have:=zsc xs (j / 4) (j % 4) hd hm
 rw [← e] at this
 rw [this]
 have e2:xs.toArray[j / 4]! = xs[j / 4]:=by simp [hd]
 rw [e2]
 have hl:j % 4<(zev xs[j / 4]).length:=by simp [zev];omega
 simp [hl]
theorem ze2 {w:World} {g cap:Nat} {d:Array H4} (h:HoldsK zev 4 w g 0 d):zhh w (.slice (some ⟨g,0,none⟩) d.size cap) d.toList:=by
 refine ⟨some ⟨g,0,none⟩,cap,by simp,fun i hi=>⟨g,rfl,?_⟩⟩
 have hi':i<d.size:=by simpa using hi
 have e:d.toList[i]?.getD (0,0,0,0)=d[i]!:=by simp [hi']
 rw [e]
 have h0:=(h.cell (i:=i) (c:=0) hi' (by omega)).1
 have h1:=(h.cell (i:=i) (c:=1) hi' (by omega)).1
 have h2:=(h.cell (i:=i) (c:=2) hi' (by omega)).1
 have h3:=(h.cell (i:=i) (c:=3) hi' (by omega)).1
 simp only [Nat.zero_add,Nat.add_zero] at h0 h1 h2 h3
 exact ⟨h0,h1,h2,h3⟩
def ze4 (ys:List H4):Prop:=ys.Pairwise ltR
theorem zk8 (x y:H4) (h:¬ ltR y x) (hne:x≠y):ltR x y:=by
 unfold ltR at *
 by_cases h1:x.1=y.1
 ·by_cases h2:x.2.1=y.2.1
  ·by_cases h3:x.2.2.1=y.2.2.1
   ·by_cases h4:x.2.2.2=y.2.2.2
    ·exact absurd (Prod.ext h1 (Prod.ext h2 (Prod.ext h3 h4))) hne
    ·omega
   ·omega
  ·omega
 ·omega
theorem zdy {d:Array H4} (h:SortedIn (ltOf zf7) 0 d.size d) (hp:d.toList.Pairwise (·≠·)):ze4 d.toList:=by
 unfold ze4
 rw [List.pairwise_iff_getElem] at hp ⊢
 intro i j hi hj hij
 have h1:=h i j (Nat.zero_le _) hij (by simpa using hj)
 rw [zcu] at h1
 have e1:d[i]! = d.toList[i]:=by simp at hi;simp [hi]
 have e2:d[j]! = d.toList[j]:=by simp at hj;simp [hj]
 rw [e1,e2] at h1
 exact zk8 _ _ h1 (hp i j hi hj hij)
end H
end Go.Proofs.YtoifcnidhfnapabGreatDoor
namespace Go.Proofs.YtoifcnidhfnapabGreatDoor
open Go.RowKit Go.Maps Go.Sort Go.Shelf
namespace H
def tnR:Sim.Tn:=[(97,[1,12]),(136,[4,29,36,43,51,60,79,84,102,110,133,145]),(137,[]),(256,[]),(161,[3,22]),(162,[3,28,58]),(163,[3]),(164,[3,39,43,47,53]),(165,[3]),(166,[3,23,72,112]),(167,[4,35,54]),(168,[4,36,54,109,127]),(169,[]),(170,[]),(200,[]),(187,[4,24,43]),(188,[]),(189,[]),(190,[3,16]),(191,[5,18,27,36]),(211,[]),(207,[4,12]),(227,[])]
def ydk:Value:=.func (.func 256) #[] #[]
def zsr:Value:=.func (.methodOf 92 "Compare") #[] #[]
theorem zx8:(tnR.all fun x=>Sim.fnOK Tryz.prog tnR x)=true:=by kernel_rfl
theorem yjt (n:Nat) (x:Value) (w:World):(method (n+1) 92 x "Compare").run Tryz.prog w=.ok (256,x) w:=by kernel_rfl
theorem yjg:Sim.Fine Tryz.prog tnR ydk zsr 256 where
 fns f T h:=(List.all_eq_true.1 zx8) (f,T) (zrd h)
 steps:=zpq
 follows:=by kernel_rfl
 cmp:=by rfl
 n1 b:=by simp [ydk]
 n2 b:=by simp [zsr]
 one x y w:=by
  simp only [ydk,Deferred.ofValue,pure_bind,invoke,Array.append_empty,Array.empty_append]
  exact enters_of Tryz.func256 (by kernel_rfl) rfl #[x,y] w
 two x y w:=by
  simp [zsr,Deferred.ofValue,invoke,callMethod]
  rw [show 376+Made.depth=(376+Made.depth - 1)+1 from rfl,yjt]
  exact enters_of Tryz.func256 (by kernel_rfl) rfl #[x,y] w
theorem ym2 (p:Option Addr) (cap:Nat) (fv:Value) (w:World):Calls Tryz.prog 161 #[.slice p 0 cap,.int .i64 0,.int .i64 0,fv] w fun e w'=>e=.returned (.tuple #[])∧w'=w:=by
 go_enter Tryz.func161,Tryz.ntmps161
 go_wp2
 refine wp_loop_rounds 1 ?_
 rw [rounds_succ]
 go_wp2
 go_end0
 exact ⟨rfl,rfl⟩
theorem ym6 (p:Option Addr) (cap:Nat) (lim:Int) (fv:Value) (w:World):Calls Tryz.prog 136 #[.slice p 0 cap,.int .i64 0,.int .i64 0,.int .i64 lim,fv] w fun e w'=>e=.returned (.tuple #[])∧w'=w:=by
 go_enter Tryz.func136,Tryz.ntmps136
 go_wp2
 refine wp_loop_rounds 1 ?_
 rw [rounds_succ]
 go_wp2_with (go_at_call 161;refine (ym2 _ _ _ _).mono ?_;rintro e w' ⟨rfl,rfl⟩)
 (try simp only [Exit.inBlock,Exit.then])
 refine bodyPost_ret (results_none rfl _ _ _) rfl ?_
 exact ⟨rfl,rfl⟩
theorem zlm (p:Option Addr) (cap:Nat) (fv:Value) (w:World):Calls Tryz.prog 97 #[.slice p 0 cap,fv] w fun e w'=>e=.returned (.tuple #[])∧w'=w:=by
 go_enter Tryz.func97,Tryz.ntmps97
 go_wp2_with (first|(go_at_call 137;refine (zr6 _).mono ?_;rintro e w' ⟨rfl,rfl⟩)|(go_at_call 136;refine (ym6 _ _ _ _ _).mono ?_;rintro e w' ⟨rfl,rfl⟩))
 go_end0
 exact ⟨rfl,rfl⟩
theorem zmp (blk cap:Nat) (d:Array H4) (w:World) (hH:HoldsK zev 4 w blk 0 d) (hblk:blk<w.heap.size) (hsz:d.size<4611686018427387904) :
  Calls Tryz.prog 97 #[.slice (some ⟨blk,0,none⟩) d.size cap,.func (.func 256) #[] #[]] w fun e w'=>e=.returned (.tuple #[])∧∃ d' n os,PermIn 0 d.size d d'∧SortedIn (ltOf zf7) 0 d.size d'∧w'=sortWorldK zev 4 w blk 0 n d' os:=by
 have eg:∀ args w,(callFunc 256 args).run Tryz.prog w=.ok (.enter 256 args) w:=enters_of Tryz.func256 (by kernel_rfl) rfl
 exact AnyQ.slices_SortFunc Tryz.sortHRow 4 Tryz.isAgg92 Tryz.sizeOf92 zev (fun _=>rfl) (fun x v hv=>by simp [zev] at hv;rcases hv with rfl|rfl|rfl|rfl <;> rfl) zf7 ykw 256 #[] blk 0 cap d w eg (ygf blk 0 d.size w) hH hblk hsz
theorem yd3:tnR.lookup 97=some [1,12]:=by rfl
theorem zln (blk cap:Nat) (d:Array H4) (w:World) (hH:HoldsK zev 4 w blk 0 d) (hblk:blk<w.heap.size) (hsz:d.size<4611686018427387904) :
  Calls Tryz.prog 97 #[.slice (some ⟨blk,0,none⟩) d.size cap,zsr] w fun e w'=>e=.returned (.tuple #[])∧∃ d' n os,PermIn 0 d.size d d'∧SortedIn (ltOf zf7) 0 d.size d'∧w'=sortWorldK zev 4 w blk 0 n d' os:=by
 have hT:Sim.TRel ydk zsr [1,12] #[.slice (some ⟨blk,0,none⟩) d.size cap,ydk] #[.slice (some ⟨blk,0,none⟩) d.size cap,zsr]:=by
  refine ⟨rfl,fun i=>?_⟩
  match i with
  | 0=>exact Sim.VR.of_clean (by decide)
  | 1=>exact ⟨fun h=>absurd (by decide) h,fun _=>.inr ⟨rfl,rfl⟩⟩
  | i+2=>exact Sim.VR.refl_undef _ _ _ _
 have h1:=zmp blk cap d w hH hblk hsz
 exact Sim.calls_turn yjg yd3 hT (fun e w' h=>⟨_,h.1⟩) h1
structure zdr (D:DataW Unit) (ys:List H4):Prop where
 rising:ze4 ys
 wf:∀ y∈ys,WfH y
 mem:∀ r,WfH r→(r∈ys↔Maps.has D (zjp r)=true)
theorem zdj {D:DataW Unit} (hT:Tidy D) {xs:List H4} (hwf:∀ x∈xs,WfH x) (hap:xs.Pairwise (·≠·)) (hm:∀ x∈xs,Maps.has D (zjp x)=true):xs.length≤Maps.size D:=by
 obtain ⟨es,rfl,hp⟩:=hT
 have h1:(xs.map zjp).length≤(es.map (·.1)).length:=by
  refine zch _ _ ?_ (fun l hl=>?_)
  ·rw [List.pairwise_map]
   exact hap.imp_of_mem (fun {a b} ha hb hne e=>hne (zi5 (hwf a ha) (hwf b hb) e))
  ·obtain ⟨x,hx,rfl⟩:=List.mem_map.1 hl
   have h:=hm x hx
   rw [has_eq] at h
   obtain ⟨p,hp1,hp2⟩:=List.any_eq_true.1 h
   exact List.mem_map.2 ⟨p,hp1,WideAt.sameKey_eq hp2⟩
 simpa [size_eq] using h1
theorem zgn (Bm b nn:Nat) (D:DataW Unit) (g:H4→Int) (hrep:zyj D g) (w:World) (hm:w.cell? ⟨Bm,0,none⟩=some (.map (some b))) (hown:w.ownsMap Tryz.prog 92 (plainElem Tryz.prog 2) b nn D) (hnn:nn≤1000000000) :
  Calls Tryz.prog 64 #[.func (.func 98) #[] #[.pointer (some ⟨Bm,0,none⟩)],zsr] w fun e w'=>∃ v ys,e=.returned v∧zdr D ys∧zhh w' v ys∧RowKit.Below w.heap.size w w'∧ys.length≤nn∧∀ gb ln cap,v=.slice (some ⟨gb,0,none⟩) ln cap→w.heap.size≤gb:=by
 have H:=zac (zhk Bm b nn D g hrep w hm hown hnn)
 have hszD:=hown.size_le
 have hT:=hown.tidy zwf
 have HT:=zac hT
 have HK:=zac (zxr hown)
 have Hrep:=zac hrep
 clear hrep hm hown hT
 go_enter Tryz.func64,Tryz.ntmps64
 go_wp2_with fail
 refine (zaa H).mono ?_
 rintro e w1 ⟨v,xs,rfl,hK,ho,hb⟩
 have hmem:∀ r,WfH r→(r∈xs↔Maps.has D (zjp r)=true):=fun r hr=>by rw [hK.mem r hr];simp
 have hxl:xs.length≤nn:=Nat.le_trans (zdj (zaa HT) hK.wf hK.apart (fun x hx=>(hmem x (hK.wf x hx)).1 hx)) hszD
 rcases ho.2 with ⟨rfl,h0⟩|⟨gb,cap,cur,rfl,hbg,hgh,_⟩
 ·have hx0:xs=[]:=List.eq_nil_of_length_eq_zero h0
  subst hx0
  have HR:Hid (zdr D []):=⟨List.Pairwise.nil,fun y hy=>by simp at hy,hmem⟩
  have Hb:=zac hb
  clear H hK hmem ho hb
  go_wp2_with (first|(go_at_call 97;refine (zlm _ _ _ _).mono ?_;rintro e w' ⟨rfl,rfl⟩))
  go_ret
  exact ⟨_,[],rfl,zaa HR,⟨none,0,rfl,fun i hi=>by simp at hi⟩,zaa Hb,by simp,fun gb ln cap e=>by simp at e⟩
 ·have hH:=zgb ho
  have hgl:gb<w1.heap.size:=(Array.getElem?_eq_some_iff.1 hgh).1
  have Hs:=zac (zln gb cap xs.toArray w1 hH hgl (by simp;omega))
  have HH:=zac hH
  have Hb:=zac hb
  have Hmem:=zac hmem
  have HKo:=zac hK
  clear H hK hmem ho hb hgh hH
  go_wp2_with fail
  refine (zaa Hs).mono ?_
  rintro e w2 ⟨rfl,d',n,os,hp,hsrt,rfl⟩
  have hsz:d'.size=xs.length:=by have:=hp.1;simpa using this
  have hperm:d'.toList.Perm xs:=by
   have h:=hp.2.2
   have e1:(d'.extract 0 xs.toArray.size)=d':=by rw [Array.extract_eq_self_of_le (by simp;omega)]
   have e2:(xs.toArray.extract 0 xs.toArray.size)=xs.toArray:=Array.extract_eq_self_of_le (by simp)
   rw [e1,e2] at h
   simpa using h
  have hHd:HoldsK zev 4 (sortWorldK zev 4 w1 gb 0 n d' os) gb 0 d':=holdsK_sortWorldK_c zev 4 w1 gb 0 xs.toArray d' n os (zaa HH) hgl (by simpa using hsz)
  have hR:zdr D d'.toList:=by
   refine ⟨zdy ?_ ?_,fun y hy=>(zaa HKo).wf y (hperm.mem_iff.1 hy),fun r hr=>by rw [hperm.mem_iff];exact (zaa Hmem) r hr⟩
   ·rw [hsz];simpa using hsrt
   ·exact (hperm.pairwise_iff (fun {a b} (h:a≠b)=>h.symm)).2 (zaa HKo).apart
  have hTr:=ze2 (cap:=cap) hHd
  have hBe:RowKit.Below w.heap.size w (sortWorldK zev 4 w1 gb 0 n d' os):=(zaa Hb).grown (zi4 w1 gb n d' os) (zaa Hb).size (fun k e=>by cases e;exact hbg)
  rw [hsz] at hTr
  have HF:=zac (And.intro hR (And.intro hTr hBe))
  clear hR hTr hBe hHd hperm hp hsrt Hs
  generalize sortWorldK zev 4 w1 gb 0 n d' os=w3 at *
  go_wp2
  go_ret
  exact ⟨_,_,rfl,(zaa HF).1,(zaa HF).2.1,(zaa HF).2.2,by simp [hsz];omega,fun g' ln cap' e=>by simp at e;omega⟩
end H
end Go.Proofs.YtoifcnidhfnapabGreatDoor
namespace Go.Proofs.YtoifcnidhfnapabGreatDoor
open Go.RowKit Go.Maps Go.Sort Go.Shelf
theorem zas.hmap {X:Nat→Prop} {W W':World} (h:zas X W W') {b n:Nat} {f:H4→Int} (hm:zeo W b n f) (hx:¬ X b):zeo W' b n f:=by
  obtain ⟨D,⟨es,cl,hb,h2⟩,hr⟩:=hm
  exact ⟨D,⟨es,cl,h.same b _ hb (Or.inr rfl) hx,h2⟩,hr⟩
theorem zeo.look {w:World} {b n:Nat} {f:H4→Int} (h:zeo w b n f) {x:H4} (hx:WfH x):(Instr.lookup 66 (.map (some b)) (.agg #[.int .i64 x.1,.int .i64 x.2.1,.int .i64 x.2.2.1,.int .i64 x.2.2.2]) false).run Tryz.prog w=.ok (.int .i64 (f x)) w:=by
  obtain ⟨D,hown,hrep⟩:=h
  obtain ⟨c,hrun,hat,_⟩:=hown.lookup_int zwf Tryz.underlying66 Tryz.underlying2 (zyf _) (zo5 hx)
  rw [hrep.at_ x hx] at hat
  rw [← zdk hat] at hrun
  exact hrun
namespace H
def zbf (g:H4→Int) (ys:List H4):List (H4×Int):=ys.map fun y=>(y,g y)
theorem ycm (n:Nat) (hn:1≤n) (l Bn mb nn:Nat) (g:H4→Int) (X:Nat→Prop) (J Jx:List (H4×Int)→World→Prop) (N:Nat)
    (hY:∀ pre x W,J pre W→pre.length<N→YieldAt Fence.wide (n - 1) Tryz.prog l #[.agg #[.int .i64 x.1.1,.int .i64 x.1.2.1,.int .i64 x.1.2.2.1,.int .i64 x.1.2.2.2],.int .i64 x.2] W fun e W' =>
      (e=.returned (.bool true)∧J (pre ++ [x]) W'∧zas X W W')∨(e=.returned (.bool false)∧Jx (pre ++ [x]) W'))
    (W:World) (hJ:AbidesFrom W.heap.size J) (hX:∀ k,X k→k<W.heap.size) (hBn:W.cell? ⟨Bn,0,none⟩=some (.map (some mb))) (hBX:¬ X Bn)
    (hmX:¬ X mb) (D:DataW Unit) (hown:W.ownsMap Tryz.prog 92 (plainElem Tryz.prog 2) mb nn D) (hrep:zyj D g) (hnn:nn≤1000000000) (hN:∀ ys,zdr D ys→ys.length≤N) (h0:J [] W) :
    CallsIn Fence.wide n Tryz.prog 63 #[.func (.yield l) #[] #[],.pointer (some ⟨Bn,0,none⟩)] W fun e W'=>(∃ v,e=.returned v) ∧
      ((∃ xs,(∃ ys,zdr D ys∧xs=zbf g ys)∧J xs W')∨(∃ pre,True∧Jx pre W')):=by
  have hBl:=World.block_lt_of_cell? W _ hBn
  have hml:=hown.lt
  dsimp only at hBl
  have hkeys:(w:World)→(hw:w=W.alloc (.cells #[.map (some mb)] 66))→Calls Tryz.prog 64 #[.func (.func 98) #[] #[.pointer (some ⟨W.heap.size,0,none⟩)],zsr] w fun e w'=>∃ v ys,e=.returned v∧zdr D ys∧zhh w' v ys∧RowKit.Below w.heap.size w w'∧ys.length≤nn∧∀ gb ln cap,v=.slice (some ⟨gb,0,none⟩) ln cap→w.heap.size≤gb:=
    fun w hw=>zgn W.heap.size mb nn D g hrep w (by rw [hw];exact zab (zae _ _ _ rfl) 0) (by rw [hw];exact hown.alloc _) hnn
  have Hkeys:=zac (hkeys _ rfl)
  clear hkeys
  refine callsIn_of_wp Tryz.func63 rfl trivial ?_ rfl
  simp only [Tryz.ntmps63,List.size_toArray,List.length_cons,List.length_nil,Nat.reduceAdd,Nat.reduceSub,Array.replicate_succ,Array.replicate_zero,List.push_toArray,List.append_toArray,List.nil_append,List.cons_append]
  gi_wp2_with (first
    | (refine ⟨trivial,?_⟩;gi_at_call 65;refine (callsIn_wide.2 (zgd _ _)).mono ?_;rintro e w' ⟨rfl,rfl⟩)
    | (refine ⟨trivial,?_⟩;gi_at_call 64;refine (callsIn_wide.2 (zaa Hkeys)).mono ?_;rintro e w1 ⟨v,ys,rfl,hR,hT,hb,hyl,hgb⟩;obtain ⟨a,cap,rfl,hcs⟩:=hT))
  have hg1:W.grownBy w1 none:=(World.grownBy_alloc W (.cells #[.map (some mb)] 66) none).trans (za5 hb none)
  have hJ1:J [] w1:=hJ [] W w1 none h0 hg1 (fun r e=>by cases e)
  have hk1:zas X W w1:=zas.of_grown hg1 (fun j e=>by cases e)
  have hB1:=hk1.cellOf hBn hBX
  have hm1:zeo w1 mb nn g:=hk1.hmap ⟨D,hown,hrep⟩ hmX
  have hys:=hN ys hR
  have hwf:=hR.wf
  have hfr:∀ gb ln cap',Value.slice a ys.length cap=.slice (some ⟨gb,0,none⟩) ln cap'→¬ X gb:=fun gb ln cap' e hx=>by
    have h1:=hgb gb ln cap' e
    have h2:=hX gb hx
    simp at h1
    omega
  have Hcs:=zac hcs
  have HR:=zac hR
  have HJ1:=zac hJ1
  clear hcs hR hJ1 Hkeys hN hgb hown hrep h0
  try go_frame
  gi_loopw [10] (fun i wr=>∃ k:Nat,k≤ys.length∧i=.int .i64 k∧J (zbf g (ys.take k)) wr∧zas X w1 wr∧W.heap.size≤wr.heap.size) (fun i _=>ys.length - (intOf i).toNat)
  case atStart=>exact ⟨0,Nat.zero_le _,rfl,zaa HJ1,zas.refl _ _,hg1.size⟩
  case round =>
    obtain ⟨k,hk,rfl,hJk,hkk,hsk⟩:=hrel
    by_cases hlt:k<ys.length
    · obtain ⟨gb,rfl,d0,d1,d2,d3⟩:=(zaa Hcs) k hlt
      have hx:(k:Int)<(ys.length:Int):=by omega
      have hgX:¬ X gb:=hfr gb _ _ rfl
      replace d0:=hkk.cellOf d0 hgX
      replace d1:=hkk.cellOf d1 hgX
      replace d2:=hkk.cellOf d2 hgX
      replace d3:=hkk.cellOf d3 hgX
      obtain ⟨y,hy⟩:∃ y,y=ys[k]?.getD (0,0,0,0):=⟨_,rfl⟩
      have hye:y=ys[k]:=by rw [hy];simp [hlt]
      have hwy:WfH y:=by rw [hye];exact hwf _ (List.getElem_mem hlt)
      have htk:ys.take (k+1)=ys.take k ++ [y]:=by rw [List.take_succ_eq_append_getElem hlt,hye]
      rw [← hy] at d0 d1 d2 d3
      obtain ⟨y1,y2,y3,y4⟩:=y
      dsimp only at d0 d1 d2 d3
      have hBr:=hkk.cellOf hB1 hBX
      have hmr:=hkk.hmap hm1 hmX
      have Htk:=zac htk
      have HJk:=zac hJk
      have Hkk:=zac hkk
      have Hmr:=zac hmr
      clear hy hye htk hJk hkk hmr
      gi_wp2_with fail
      have hJa:J (zbf g (ys.take k)) (wr.alloc (.cells #[.int .i64 y1,.int .i64 y2,.int .i64 y3,.int .i64 y4] 92)).drew:=
        hJ _ wr _ none (zaa HJk) ((World.grownBy_alloc _ _ none).trans (zfs _)) (fun r e=>by cases e)
      have hka:zas X wr (wr.alloc (.cells #[.int .i64 y1,.int .i64 y2,.int .i64 y3,.int .i64 y4] 92)).drew:=zas.of_grown ((World.grownBy_alloc _ _ none).trans (zfs _)) (fun j e=>by cases e)
      have hsa:wr.heap.size<(wr.alloc (.cells #[.int .i64 y1,.int .i64 y2,.int .i64 y3,.int .i64 y4] 92)).drew.heap.size:=by
        show wr.heap.size<(wr.alloc _).heap.size
        simp
      obtain ⟨fn,tmps,assign,body,hy,hR⟩:=hY _ ((y1,y2,y3,y4),g (y1,y2,y3,y4)) _ hJa (by simp [zbf];omega)
      have hR':=hR.mono (R':=fun e W'=>∃ r:Bool,e=.returned (.bool r)∧((r=true∧J (zbf g (ys.take k) ++ [((y1,y2,y3,y4),g (y1,y2,y3,y4))]) W'∧zas X (wr.alloc (.cells #[.int .i64 y1,.int .i64 y2,.int .i64 y3,.int .i64 y4] 92)).drew W')∨(r=false∧Jx (zbf g (ys.take k) ++ [((y1,y2,y3,y4),g (y1,y2,y3,y4))]) W'))) (by
        rintro e W3 (⟨rfl,h1,h2⟩|⟨rfl,h1⟩)
        · exact ⟨true,rfl,.inl ⟨rfl,h1,h2⟩⟩
        · exact ⟨false,rfl,.inr ⟨rfl,h1⟩⟩)
      have hlk:(Instr.lookup 66 (.map (some mb)) (.agg #[.int .i64 y1,.int .i64 y2,.int .i64 y3,.int .i64 y4]) false).run Tryz.prog (wr.alloc (.cells #[.int .i64 y1,.int .i64 y2,.int .i64 y3,.int .i64 y4] 92)).drew=.ok (.int .i64 (g (y1,y2,y3,y4))) (wr.alloc (.cells #[.int .i64 y1,.int .i64 y2,.int .i64 y3,.int .i64 y4] 92)).drew:=(hka.hmap (zaa Hmr) hmX).look hwy
      have f0:(wr.alloc (.cells #[.int .i64 y1,.int .i64 y2,.int .i64 y3,.int .i64 y4] 92)).drew.cell? ⟨wr.heap.size,0,none⟩=some (.int .i64 y1):=zab (zae _ _ _ rfl) 0
      have f1:(wr.alloc (.cells #[.int .i64 y1,.int .i64 y2,.int .i64 y3,.int .i64 y4] 92)).drew.cell? ⟨wr.heap.size,1,none⟩=some (.int .i64 y2):=zab (zae _ _ _ rfl) 1
      have f2:(wr.alloc (.cells #[.int .i64 y1,.int .i64 y2,.int .i64 y3,.int .i64 y4] 92)).drew.cell? ⟨wr.heap.size,2,none⟩=some (.int .i64 y3):=zab (zae _ _ _ rfl) 2
      have f3:(wr.alloc (.cells #[.int .i64 y1,.int .i64 y2,.int .i64 y3,.int .i64 y4] 92)).drew.cell? ⟨wr.heap.size,3,none⟩=some (.int .i64 y4):=zab (zae _ _ _ rfl) 3
      have fB:=hka.cellOf hBr hBX
      dsimp only at hy
      have HR':=zac hR'
      have Hka:=zac hka
      have HJa:=zac hJa
      clear hR hR' hka hJa hBr d0 d1 d2 d3 hB1 hm1 hBn hJ hY
      gi_region_with (refine (zaa HR').mono ?_;rintro e W3 ⟨r,rfl,hor⟩)
      all_goals (rcases hor with ⟨rfl,hJ3,hk3⟩|⟨rfl,hx3⟩)
      all_goals first
        | (gi_wp2
           go_roundw
           case rel=>exact ⟨k+1,by omega,by simp,by rw [zaa Htk];simpa [zbf] using hJ3,((zaa Hkk).trans (zaa Hka)).trans hk3,by have:=hk3.size;omega⟩
           case measure=>simp [intOf];omega)
        | (gi_wp2
           refine bodyPost_ret (results_none rfl _ _ _) rfl ?_
           exact ⟨⟨_,rfl⟩,.inr ⟨_,trivial,hx3⟩⟩)
    · have hke:k=ys.length:=by omega
      subst hke
      rw [List.take_length] at hJk
      gi_wp2
      go_end0
      exact ⟨⟨_,rfl⟩,.inl ⟨_,⟨ys,zaa HR,rfl⟩,hJk⟩⟩
end H
end Go.Proofs.YtoifcnidhfnapabGreatDoor
