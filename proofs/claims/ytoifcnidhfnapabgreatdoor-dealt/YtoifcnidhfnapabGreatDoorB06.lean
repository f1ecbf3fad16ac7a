import Derived.Test.YtoifcnidhfnapabGreatDoorB05
import Derived.Calls
import Derived.Shelf.Abstract
import Derived.DyingRun
import Derived.Laws.Sem
set_option linter.unusedVariables false
set_option linter.unusedSimpArgs false
set_option maxRecDepth 100000
set_option maxHeartbeats 16000000
namespace Go.Proofs.YtoifcnidhfnapabGreatDoor
open Go.RowKit Go.Maps Go.Sort Go.Shelf
attribute [local go_sem] Oper.semAt_some
theorem Tryz.info150:(Tryz.prog.info? 150).map (fun i=>(i.zero,i.size,i.bytes))=some (some (.agg #[.int .i64 0,.int .i64 0,.int .i64 0]),3,24):=by kernel_rfl
def zfy (xs:List Row):List Value:=xs.flatMap zev
theorem zh9 (n:Nat) (hn:3≤n) (Bm b nn:Nat) (D:DataW Unit) (g:Row→Int) (hrep:Rep D g) (w:World) (hm:w.cell? ⟨Bm,0,none⟩=some (.map (some b))) (hown:w.ownsMap Tryz.prog 150 (plainElem Tryz.prog 2) b nn D) (hnn:nn≤1000000000) :
  CallsIn Fence.wide n Tryz.prog 205 #[.slice none 0 0,.func (.func 182) #[] #[.pointer (some ⟨Bm,0,none⟩)]] w fun e w'=>∃ v xs,e=.returned v∧zcg D (fun _=>false) xs∧w'.ownsRow w.heap.size 150 3 v xs.length (zfy xs)∧Below w.heap.size w w':=by
 have h1:1≤n:=by omega
 refine callsIn_of_wp_marks Tryz.func205 rfl trivial ?_ rfl
 simp only [Tryz.ntmps205,List.size_toArray,List.length_cons,List.length_nil,Nat.reduceAdd,Nat.reduceSub,Array.replicate_succ,Array.replicate_zero,List.push_toArray,List.append_toArray,List.nil_append,List.cons_append]
 gi_wp2
 have bS0:=Boxed.new w 274 (.slice none 0 0)
 have hB0:Below w.heap.size w (w.alloc (.cells #[.slice none 0 0] 274)):=(Below.refl _ w).alloc (Nat.le_refl _) _
 have hm0:(w.alloc (.cells #[.slice none 0 0] 274)).cell? ⟨Bm,0,none⟩=some (.map (some b)):=(hB0.cell (p:=⟨Bm,0,none⟩) (World.block_lt_of_cell? w _ hm)).trans hm
 have hBm:Bm<w.heap.size:=World.block_lt_of_cell? w _ hm
 have hown0:=hown.alloc (.cells #[.slice none 0 0] 274)
 have hsz:(w.alloc (.cells #[.slice none 0 0] 274)).heap.size=w.heap.size+1:=by simp
 obtain ⟨W0,hW0⟩:∃ W0,w.alloc (.cells #[.slice none 0 0] 274)=W0:=⟨_,rfl⟩
 rw [hW0] at bS0 hB0 hm0 hown0 hsz ⊢
 clear hW0
 have hsD:Maps.size D≤nn:=hown.size_le
 have hseq:SeqStopsK Fence.wide (n - 1) Tryz.prog 182 #[.pointer (some ⟨Bm,0,none⟩)] (fun x:Row=>#[Value.agg #[.int .i64 x.1,.int .i64 x.2.1,.int .i64 x.2.2]]) KeepsWalks (zcg D (fun _=>false)) (fun _=>True) (Maps.size D) W0:=fun l J Jx W hW hJ _ hY h0=>by
  refine zsl (n - 1) (by omega) l Bm b nn D g hrep J Jx hY W hJ ((hW.cell (p:=⟨Bm,0,none⟩) (show Bm<_ by omega)).trans hm0) ?_ h0
  have hbl:=hown0.lt
  obtain ⟨es,clock,hb,Ft,hs,hD⟩:=hown0
  exact ⟨es,clock,(hW.block b hbl).trans hb,Ft,hs,hD⟩
 obtain ⟨i60,hi,hz0,hz1,hz2⟩:=info_parts Tryz.info150
 refine wpIn_rangeFunc_ownH rfl h1 (gf:=182) (lb:=#[.pointer (some ⟨Bm,0,none⟩)]) rfl trivial (enters_of Tryz.func182 (by kernel_rfl) rfl) hseq walksK_t walksK_b (Below.refl _ _) (fun _=>rfl)
  (fun pre W=>(∃ v,Boxed W w.heap.size 274 v∧W.ownsRow w.heap.size 150 3 v pre.length (zfy pre)∧True)∧Below w.heap.size w W)
  (fun _ _ _=>False)
  (OwnFrom.and (Own.from (holdsRow_own w.heap.size w.heap.size 274 150 3 (fun pre:List Row=>pre.length) zfy (fun _ _=>True)) _) (ownFrom_below (Nat.le_refl _) (by omega)))
  (fun _ _ _ _ _ hs _ _=>hs)
  ⟨⟨_,bS0,World.ownsRow_nil _ _ _ _,trivial⟩,hB0⟩
  (fun x a' W=>∃ Bx,w.heap.size<Bx∧W.heap[Bx]? = some (.cells #[.int .i64 x.1,.int .i64 x.2.1,.int .i64 x.2.2] 150 (0,0)) ∧
   a'={ tmps:=#[.slice none 0 0,.func (.func 182) #[] #[.pointer (some ⟨Bm,0,none⟩)],.pointer (some ⟨w.heap.size,0,none⟩),undef,.slice none 0 0,.pointer (some ⟨Bx,0,none⟩),.func (.func 182) #[] #[.pointer (some ⟨Bm,0,none⟩)],.agg #[.int .i64 x.1,.int .i64 x.2.1,.int .i64 x.2.2],undef,undef,undef,undef,undef],defers:=[] })
  (fun x a' _ X Y row hs hg hr=>by
   obtain ⟨Bx,h1,h2,h3⟩:=hs
   refine ⟨Bx,h1,(hg.block Bx (Array.getElem?_eq_some_iff.1 h2).1 (fun e=>?_)).trans h2,h3⟩
   obtain ⟨_,o,ho,hc⟩:=hr Bx e.symm
   rw [h2] at ho
   cases ho
   cases hc)
  ?assign ?body ?done ?stop
 case assign =>
  rintro l pre x W K ⟨⟨v,bS,hrow,_⟩,hB⟩ hK
  gi_wp2
  exact hK _ _ ((KeepsOthers.alloc _ _).from _) (KeepsWalks.alloc _ _) ⟨⟨v,bS.alloc _,hrow.alloc _,trivial⟩,hB.alloc hB.size _⟩ ⟨W.heap.size,bS.lt,zae _ _ _ rfl,rfl⟩
 case body =>
  rintro l pre x a' W hl ⟨r,hr⟩ ⟨⟨v,bS,hrow,_⟩,hB⟩ ⟨Bx,hBx,hX,rfl⟩ hlt
  obtain ⟨x1,x2,x3⟩:=x
  dsimp only at hX ⊢
  have c0:W.cell? ⟨Bx,0,none⟩=some (.int .i64 x1):=zab hX 0
  have c1:W.cell? ⟨Bx,1,none⟩=some (.int .i64 x2):=zab hX 1
  have c2:W.cell? ⟨Bx,2,none⟩=some (.int .i64 x3):=zab hX 2
  have cS:=bS.cell
  have hBs:=hB.size
  have hnew:=zma W (.int .i64 x1) (.int .i64 x2) (.int .i64 x3) 150
  gi_wp2_with (first
   | (gi_at_builtin;refine wpListIn_append_own _ rfl _ _ 274 rfl w.heap.size 150 i60 _ 3 24 Tryz.underlying274 hi hz0 hz1 hz2 rfl (by decide) _ _ _ rfl (hrow.alloc _) ⟨W.heap.size,0,none⟩ 1 1 [.int .i64 x1,.int .i64 x2,.int .i64 x3] rfl rfl hnew (by simp [Value.oneCell']) (by unfold maxLen;omega) (by omega) (by simp;omega) ?_;intro v' w1 hown' hgrow _;obtain ⟨g',cap',rfl⟩:=zge hown';obtain ⟨hv1,hv2,hr2,hk2,hb2⟩:=bS.appended (by decide) hrow hB.size (Nat.le_refl _) hown' hgrow;have hc1:=hv1.cell;have hf1:=hv1.frozen))
  refine ⟨hk2.from _,⟨hk2.size,fun k o hk ho=>hk2.same k o hk (Obj.not_cells_of_walk ho)⟩,⟨_,hv2,?_,trivial⟩,hB.trans hb2⟩
  have e:zfy (pre ++ [(x1,x2,x3)])=zfy pre ++ [.int .i64 x1,.int .i64 x2,.int .i64 x3]:=by simp [zfy,zev]
  rw [e]
  simpa using hr2
 case done =>
  rintro D ys W hD hS ⟨⟨v,bS,hrow,_⟩,hB⟩ hK
  have cS:=bS.cell
  gi_wp2
  refine ⟨by simp,.inl ⟨_,_,rfl,run_takeDeferred hK,?_⟩⟩
  exact ⟨_,results_tmp rfl _ _ _,v,ys,rfl,hS,ownsRow_putObj hrow _ hK rfl,hB.trans (belowK_b (w:=w) (Nat.le_refl _) W D _ _ (by omega) hK rfl rfl)⟩
 case stop =>
  rintro D c pre W _ _ h _
  exact h.elim
theorem zhk (Bm b nn:Nat) (D:DataW Unit) (g:Row→Int) (hrep:Rep D g) (w:World) (hm:w.cell? ⟨Bm,0,none⟩=some (.map (some b))) (hown:w.ownsMap Tryz.prog 150 (plainElem Tryz.prog 2) b nn D) (hnn:nn≤1000000000) :
  Calls Tryz.prog 180 #[.func (.func 182) #[] #[.pointer (some ⟨Bm,0,none⟩)]] w fun e w'=>∃ v xs,e=.returned v∧zcg D (fun _=>false) xs∧w'.ownsRow w.heap.size 150 3 v xs.length (zfy xs)∧RowKit.Below w.heap.size w w':=by
 have H:=zac ((callsIn_wide (n:=3)).1 (zh9 3 (by omega) Bm b nn D g hrep w hm hown hnn))
 clear hrep hm hown
 go_enter Tryz.func180,Tryz.ntmps180
 go_wp2_with fail
 refine (zaa H).mono ?_
 rintro e w1 ⟨v,xs,rfl,hK,ho,hb⟩
 clear H
 go_wp2
 go_ret
 exact ⟨v,xs,rfl,hK,ho,hb⟩
theorem zgd (b:Nat) (w:World):Calls Tryz.prog 155 #[.map (some b)] w fun e w'=>e=.returned (.func (.func 182) #[] #[.pointer (some ⟨w.heap.size,0,none⟩)])∧w'=w.alloc (.cells #[.map (some b)] 102):=by
 go_enter Tryz.func155,Tryz.ntmps155
 go_wp2
 go_ret
 exact ⟨rfl,rfl⟩
theorem zi4 (w:World) (blk n:Nat) (d:Array Row) (os:Array Obj):w.grownBy (sortWorldK zev 3 w blk 0 n d os) (some blk):=by
 refine ⟨rfl,rfl,rfl,by simp [sortWorldK,grow,putRowK,putRow,mapBlock,Sort.ahead],fun k hk hne=>?_⟩
 have hk':k≠blk:=fun e=>hne (by rw [e])
 simp only [sortWorldK,grow,putRowK,putRow,mapBlock,Sort.ahead]
 rw [Array.getElem?_append_left (by simpa using hk),Array.getElem?_modify,if_neg (fun e=>hk' e.symm)]
def zhh (w:World) (v:Value) (ys:List Row):Prop:=
 ∃ a cap,v=.slice a ys.length cap∧∀ i,i<ys.length→∃ b,a=some ⟨b,0,none⟩∧w.cell? ⟨b,i*3,none⟩=some (.int .i64 (ys[i]?.getD (0,0,0)).1) ∧
  w.cell? ⟨b,i*3+1,none⟩=some (.int .i64 (ys[i]?.getD (0,0,0)).2.1)∧w.cell? ⟨b,i*3+2,none⟩=some (.int .i64 (ys[i]?.getD (0,0,0)).2.2)
theorem zsc (xs:List Row) (i j:Nat) (hi:i<xs.length) (hj:j<3):(zfy xs)[i*3+j]? = (zev xs[i])[j]?:=by
 induction xs generalizing i with
 | nil=>simp at hi
 | cons p ps ih =>
  have hl:(zev p).length=3:=rfl
  have e:zfy (p :: ps)=zev p ++ zfy ps:=rfl
  rw [e]
  cases i with
  | zero=>rw [List.getElem?_append_left (by rw [hl];omega)];simp
  | succ i =>
   have h2:(i+1)*3+j - 3=i*3+j:=by omega
   rw [List.getElem?_append_right (by rw [hl];omega),hl,h2,ih i (by simpa using hi)]
   simp
theorem zgb {w:World} {base g cap:Nat} {xs:List Row} (h:w.ownsRow base 150 3 (.slice (some ⟨g,0,none⟩) xs.length cap) xs.length (zfy xs)):HoldsK zev 3 w g 0 xs.toArray:=by
 intro j hj
 rw [size_flatK] at hj
 have hj':j<xs.length*3:=by simpa using hj
 rw [get_flatK _ _ _ _ hj,Nat.zero_add,h.cellAt j hj',h.frozenAt j]
 refine ⟨?_,rfl⟩
 have hd:j / 3<xs.length:=by omega
 have hm:j % 3<3:=Nat.mod_lt _ (by omega)
 have e:j=j / 3*3+j % 3:=by omega
 have:=zsc xs (j / 3) (j % 3) hd hm
 rw [← e] at this
 rw [this]
 have e2:xs.toArray[j / 3]! = xs[j / 3]:=by simp [hd]
 rw [e2]
 have hl:j % 3<(zev xs[j / 3]).length:=by simp [zev];omega
 simp [hl]
theorem ze2 {w:World} {g cap:Nat} {d:Array Row} (h:HoldsK zev 3 w g 0 d):zhh w (.slice (some ⟨g,0,none⟩) d.size cap) d.toList:=by
 refine ⟨some ⟨g,0,none⟩,cap,by simp,fun i hi=>⟨g,rfl,?_⟩⟩
 have hi':i<d.size:=by simpa using hi
 have e:d.toList[i]?.getD (0,0,0)=d[i]!:=by simp [hi']
 rw [e]
 have h0:=(h.cell (i:=i) (c:=0) hi' (by omega)).1
 have h1:=(h.cell (i:=i) (c:=1) hi' (by omega)).1
 have h2:=(h.cell (i:=i) (c:=2) hi' (by omega)).1
 simp only [Nat.zero_add,Nat.add_zero] at h0 h1 h2
 exact ⟨h0,h1,h2⟩
def ze4 (ys:List Row):Prop:=ys.Pairwise ltR
theorem zk8 (x y:Row) (h:¬ ltR y x) (hne:x≠y):ltR x y:=by
 unfold ltR at *
 by_cases h1:x.1=y.1
 ·by_cases h2:x.2.1=y.2.1
  ·by_cases h3:x.2.2=y.2.2
   ·exact absurd (Prod.ext h1 (Prod.ext h2 h3)) hne
   ·omega
  ·omega
 ·omega
theorem zdy {d:Array Row} (h:SortedIn (ltOf zf7) 0 d.size d) (hp:d.toList.Pairwise (·≠·)):ze4 d.toList:=by
 unfold ze4
 rw [List.pairwise_iff_getElem] at hp ⊢
 intro i j hi hj hij
 have h1:=h i j (Nat.zero_le _) hij (by simpa using hj)
 rw [zcu] at h1
 have e1:d[i]! = d.toList[i]:=by simp at hi;simp [hi]
 have e2:d[j]! = d.toList[j]:=by simp at hj;simp [hj]
 rw [e1,e2] at h1
 exact zk8 _ _ h1 (hp i j hi hj hij)
end Go.Proofs.YtoifcnidhfnapabGreatDoor
namespace Go.Proofs.YtoifcnidhfnapabGreatDoor.Sim
open Go
abbrev Tn:=List (Nat×List Nat)
def zbm (T:List Nat):Operand→Bool
 | .tmp t=>!T.contains t
 | _=>true
def zdw (T:List Nat) (o:Oper):Bool:=
 match o.dst with
 | some d=>!T.contains d
 | none=>true
def yiq (T T':List Nat) (args:Array Operand):Bool:=
 (List.range args.size).all fun j=>match args[j]? with
  | some x=>(zbm T x) == !(T'.contains j)
  | none=>true
def yf0 (tn:Tn) (T:List Nat) (o:Oper):Bool:=
 match o.op with
 | .move x | .assign x=>if zbm T x then zdw T o else !(zdw T o)
 | .call c=>zdw T o && (match c.callee with
   | .builtin .len=>c.args.all (zbm T)
   | .value (.func f)=>match tn.lookup f with
    | some T'=>yiq T T' c.args
    | none=>false
   | .value (.tmp t)=>T.contains t && c.args.all (zbm T) && c.args.size == 2
   | _=>false)
 | .pick .. | .alloc .. | .box .. | .load .. | .store .. | .nilCheck .. | .binOp .. | .unOp .. | .convert .. | .extract .. | .index .. | .indexAddr .. | .slice .. | .field .. | .fieldAddr ..=>zdw T o && o.op.operands.all (zbm T)
 | _=>false
def zfh (tn:Tn) (T:List Nat):Code→Bool
 | .skip | .ret | .exit _ | .label _=>true
 | .region _ ops _=>ops.all (yf0 tn T)
 | .seq a b=>zfh tn T a && zfh tn T b
 | .cond c a b=>zbm T c && zfh tn T a && zfh tn T b
 | .block _ b=>zfh tn T b
 | .loop b=>zfh tn T b
 | _=>false
def yev (T:List Nat):ResultVar→Bool
 | .tmp t=>!T.contains t
 | .cell a _=>!T.contains a
def fnOK (P:Program) (tn:Tn) (x:Nat×List Nat):Bool:=
 match P.funcs[x.1]? with
 | some fn=>fn.name != "runtime.NumGoroutine" && fn.results.all (yev x.2) && (match fn.body with
   | some c=>zfh tn x.2 c
   | none=>false)
 | none=>false
def zep (tn:Tn) (T:List Nat):Item→Bool
 | .code c=>zfh tn T c
 | .inBlock _=>true
 | .inLoop c=>zfh tn T c
 | .inRegion ops _=>ops.all (yf0 tn T)
 | _=>false
section
variable (V1 V2:Value)
def VR (T:List Nat) (i:Nat) (x y:Value):Prop:=(i ∉ T→x=y)∧(i∈T→(x=undef∧y=undef)∨(x=V1∧y=V2))
structure TRel (T:List Nat) (a b:Array Value):Prop where
 size:a.size=b.size
 each:∀ i,VR V1 V2 T i (a.getD i undef) (b.getD i undef)
end
variable {V1 V2:Value} {T:List Nat} {a b:Array Value}
theorem zyq (a:Array Value) (d i:Nat) (v:Value):(a.setIfInBounds d v).getD i undef=if d=i∧d<a.size then v else a.getD i undef:=by
 simp only [Array.getD_eq_getD_getElem?,Array.getElem?_setIfInBounds]
 by_cases h:d=i
 ·subst h
  by_cases h2:d<a.size
  ·simp [h2]
  ·simp [h2]
 ·simp [h]
theorem TRel.set (h:TRel V1 V2 T a b) {d:Nat} {v v':Value} (hv:VR V1 V2 T d v v'):TRel V1 V2 T (a.setIfInBounds d v) (b.setIfInBounds d v'):=by
 refine ⟨by simp [h.size],fun i=>?_⟩
 rw [zyq,zyq,← h.size]
 by_cases e:d=i∧d<a.size
 ·rw [if_pos e,if_pos e,← e.1];exact hv
 ·rw [if_neg e,if_neg e];exact h.each i
theorem VR.refl_undef (V1 V2:Value) (T:List Nat) (i:Nat):VR V1 V2 T i undef undef:=⟨fun _=>rfl,fun _=>.inl ⟨rfl,rfl⟩⟩
theorem VR.of_clean {i:Nat} {v:Value} (h:i ∉ T):VR V1 V2 T i v v:=⟨fun _=>rfl,fun hi=>absurd hi h⟩
theorem TRel.clean (h:TRel V1 V2 T a b) {i:Nat} (hi:i ∉ T):a.getD i undef=b.getD i undef:=(h.each i).1 hi
theorem TRel.opt (h:TRel V1 V2 T a b) {i:Nat} (hi:i ∉ T):a[i]? = b[i]?:=by
 have h1:=h.clean hi
 have h2:=h.size
 by_cases hl:i<a.size
 ·have hl':i<b.size:=by omega
  simp only [Array.getD_eq_getD_getElem?,Array.getElem?_eq_getElem hl,Array.getElem?_eq_getElem hl',Option.getD_some] at h1
  rw [Array.getElem?_eq_getElem hl,Array.getElem?_eq_getElem hl',h1]
 ·rw [Array.getElem?_eq_none (by omega),Array.getElem?_eq_none (by omega)]
def ztx (V:Value):Prop:=∀ b,V≠.bool b
theorem TRel.yielded (h:TRel V1 V2 T a b) (n1:ztx V1) (n2:ztx V2) (ops:Array Oper):yielded ops a=yielded ops b:=by
 funext j
 unfold Go.yielded
 cases hd:(ops[j]?).bind (·.dst) with
 | none=>rfl
 | some d =>
  simp only [Option.bind_some]
  by_cases hi:d∈T
  ·have key:∀ (x:Array Value) (V:Value),ztx V→(x.getD d undef=undef∨x.getD d undef=V)→(match x[d]? with|some (.bool b)=>some b|_=>none)=(none:Option Bool):=by
    intro x V hV hx
    cases hg:x[d]? with
    | none=>rfl
    | some v =>
     have hv:x.getD d undef=v:=by simp [Array.getD_eq_getD_getElem?,hg]
     rw [hv] at hx
     rcases hx with rfl|rfl
     ·rfl
     ·cases v <;> first|rfl|exact absurd rfl (hV _)
   rcases (h.each d).2 hi with ⟨h1,h2⟩|⟨h1,h2⟩
   ·exact (key a V1 n1 (.inl h1)).trans (key b V2 n2 (.inl h2)).symm
   ·exact (key a V1 n1 (.inr h1)).trans (key b V2 n2 (.inr h2)).symm
  ·rw [h.opt hi]
theorem zu2 {ρ ρ':Operand→Value} (xs:Array Operand) (h:∀ x∈xs,ρ x=ρ' x):xs.map ρ=xs.map ρ':=Array.map_congr_left h
theorem zun {ρ ρ':Operand→Value} (tn:Tn) (T:List Nat) (o:Oper) (hok:yf0 tn T o=true) (h:∀ x∈o.op.operands,ρ x=ρ' x) (hc:∀ c,o.op≠.call c):execOp ρ o=execOp ρ' o:=by
 obtain ⟨dst,op,ty,pos,af,gd⟩:=o
 cases op <;> simp only [yf0,Bool.false_eq_true] at hok <;> (try exact absurd rfl (hc _))
 case pick c x y =>
  simp only [execOp]
  rw [h c (by simp [Op.operands]),h x (by simp [Op.operands]),h y (by simp [Op.operands])]
 case slice t x l hi m =>
  simp only [execOp]
  have hl:∀ (z:Option Operand),(∀ y∈z.toArray,ρ y=ρ' y)→z.map ρ=z.map ρ':=by
   intro z hz
   cases z with
   | none=>rfl
   | some y=>simp;exact hz y (by simp)
  rw [h x (by simp [Op.operands]),hl l (fun y hy=>h y (by simp only [Op.operands,Array.mem_append];exact .inl (.inl (.inr hy)))),hl hi (fun y hy=>h y (by simp only [Op.operands,Array.mem_append];exact .inl (.inr hy))),hl m (fun y hy=>h y (by simp only [Op.operands,Array.mem_append];exact .inr hy))]
 case store t x y =>
  simp only [execOp]
  rw [h x (by simp [Op.operands]),h y (by simp [Op.operands])]
 case binOp q t x y t' =>
  simp only [execOp]
  rw [h x (by simp [Op.operands]),h y (by simp [Op.operands])]
 case index t x y =>
  simp only [execOp]
  rw [h x (by simp [Op.operands]),h y (by simp [Op.operands])]
 case indexAddr t x y =>
  simp only [execOp]
  rw [h x (by simp [Op.operands]),h y (by simp [Op.operands])]
 all_goals (simp only [execOp])
 all_goals (rw [h _ (by simp only [Op.operands];exact Array.mem_singleton.2 rfl)])
theorem zwu {ρ:Operand→Value} (tn:Tn) (T:List Nat) (P:Program) (w w':World) (o:Oper) (nx:Next) (hok:yf0 tn T o=true) (hc:∀ c,o.op≠.call c) (h:(execOp ρ o).run P w=.ok nx w'):(∃ v,nx=.value v)∨nx=.skip:=by
 have hv:∀ s:Sem Value,((do let x ← s;pure (Next.value x)):Sem Next).run P w=.ok nx w'→∃ v,nx=.value v:=by
  intro s hs
  rw [Sem.run_bind] at hs
  cases hr:s.run P w with
  | ok x w2=>rw [hr] at hs;simp at hs;exact ⟨x,hs.1.symm⟩
  | halt x w2=>rw [hr] at hs;simp [Result.andThen] at hs
 have hu:∀ s:Sem Unit,((do s;pure Next.skip):Sem Next).run P w=.ok nx w'→nx=.skip:=by
  intro s hs
  rw [Sem.run_bind] at hs
  cases hr:s.run P w with
  | ok x w2=>rw [hr] at hs;simp at hs;exact hs.1.symm
  | halt x w2=>rw [hr] at hs;simp [Result.andThen] at hs
 obtain ⟨dst,op,ty,pos,af,gd⟩:=o
 cases op <;> simp only [yf0,Bool.false_eq_true] at hok <;> (try exact absurd rfl (hc _))
 case move x=>simp [execOp] at h;exact .inl ⟨_,h.1.symm⟩
 case assign x=>simp [execOp] at h;exact .inl ⟨_,h.1.symm⟩
 case pick c x y=>exact .inl (by
  simp only [execOp] at h
  rw [Sem.run_bind] at h
  cases hr:(asBool (ρ c)).run P w with
  | ok b w2=>rw [hr] at h;simp at h;exact ⟨_,h.1.symm⟩
  | halt x w2=>rw [hr] at h;simp [Result.andThen] at h)
 case store t x y=>exact .inr (hu _ h)
 case nilCheck x =>
  refine .inl ?_
  have hB:∀ {α:Type} (s:Sem α) (k:α→Sem Next) (w1:World),(∀ a w2,(k a).run P w2=.ok nx w'→∃ v,nx=.value v)→(s >>= k).run P w1=.ok nx w'→∃ v,nx=.value v:=by
   intro α s k w1 hk hs
   rw [Sem.run_bind] at hs
   cases hr:s.run P w1 with
   | ok x w2=>rw [hr] at hs;exact hk _ _ hs
   | halt x w2=>rw [hr] at hs;simp [Result.andThen] at hs
  have hp:∀ w1,(runtimePanic .nilDeref:Sem Next).run P w1=.ok nx w'→∃ v,nx=.value v:=by
   intro w1 hs
   unfold runtimePanic at hs
   refine hB _ _ _ (fun p w2 h2=>?_) hs
   simp [goPanic] at h2
  have hpu:∀ w1 v,(pure (Next.value v):Sem Next).run P w1=.ok nx w'→∃ v,nx=.value v:=by
   intro w1 v hs
   simp at hs
   exact ⟨v,hs.1.symm⟩
  simp only [execOp] at h
  split at h
  ·exact hp _ h
  ·exact hp _ h
  ·exact hp _ h
  ·split at h
   ·exact hp _ h
   ·refine hB _ _ _ (fun a w2 h2=>?_) h
    refine hB _ _ _ (fun a w3 h3=>?_) h2
    split at h3
    ·refine hB _ _ _ (fun a w4 h4=>?_) h3
     exact hpu _ _ h4
    ·exact hpu _ _ h3
   ·exact hpu _ _ h
  ·exact hpu _ _ h
 all_goals exact .inl (hv _ h)
end Go.Proofs.YtoifcnidhfnapabGreatDoor.Sim
namespace Go.Proofs.YtoifcnidhfnapabGreatDoor.Sim
open Go
variable {P:Program} {tn:Tn} {V1 V2:Value}
structure FR (P:Program) (tn:Tn) (V1 V2:Value) (fr fr':Frame) (T:List Nat):Prop where
 fn:fr'.fn=fr.fn
 look:tn.lookup fr.fn=some T
 tm:TRel V1 V2 T fr.tmps fr'.tmps
 todo:fr'.todo=fr.todo
 ok:∀ x∈fr.todo,zep tn T x=true
 d:fr.defers=[]
 d':fr'.defers=[]
 mode:fr'.mode=fr.mode
 kind:fr.kind=.normal
 kind':fr'.kind=.normal
 rnd:fr.roundOf=none
 rnd':fr'.roundOf=none
def yck (fr:Frame) (T:List Nat):Prop:=fr.mode=.run∧∃ ops i rest k,fr.todo=.inRegion ops (i :: rest) :: k∧∀ d,(ops[i]?).bind (·.dst)=some d→d ∉ T
def SR (P:Program) (tn:Tn) (V1 V2:Value):List Frame→List Frame→Prop
 | [],[]=>True
 | fr :: l,fr' :: l'=>(∃ T,FR P tn V1 V2 fr fr' T∧yck fr T)∧SR P tn V1 V2 l l'
 | [],_ :: _=>False
 | _ :: _,[]=>False
theorem SR.nil {P:Program} {tn:Tn} {V1 V2:Value}:SR P tn V1 V2 [] []:=trivial
theorem SR.cons {P:Program} {tn:Tn} {V1 V2:Value} {fr fr':Frame} {T:List Nat} {l l':List Frame} (h1:FR P tn V1 V2 fr fr' T) (h2:yck fr T) (h3:SR P tn V1 V2 l l'):SR P tn V1 V2 (fr :: l) (fr' :: l'):=⟨⟨T,h1,h2⟩,h3⟩
theorem SR.inv {P:Program} {tn:Tn} {V1 V2:Value} {fs fs':List Frame} (h:SR P tn V1 V2 fs fs'):(fs=[]∧fs'=[])∨∃ fr fr' T l l',fs=fr :: l∧fs'=fr' :: l'∧FR P tn V1 V2 fr fr' T∧yck fr T∧SR P tn V1 V2 l l':=by
 cases fs with
 | nil =>
  cases fs' with
  | nil=>exact .inl ⟨rfl,rfl⟩
  | cons _ _=>exact h.elim
 | cons fr l =>
  cases fs' with
  | nil=>exact h.elim
  | cons fr' l' =>
   obtain ⟨⟨T,h1,h2⟩,h3⟩:=h
   exact .inr ⟨fr,fr',T,l,l',rfl,rfl,h1,h2,h3⟩
def zhd:Frame:={ fn:=0,tmps:=#[],todo:=[],defers:=[{ target:=.nil,args:=#[] }],mode:=.panicking [],kind:=.normal,roundOf:=none }
def Gone (m:Machine):Prop:=∃ fr w chain,m=lone fr [] w∧fr.mode=.panicking chain∧fr.defers=[{ target:=.nil,args:=#[] }]
theorem ydp {m m':Machine} (h:Gone m):step P m≠.next m':=by
 obtain ⟨fr,w,chain,rfl,hm,hd⟩:=h
 intro hs
 have:∃ o,step P (lone fr [] w)=.ended o w:=by
  exact ⟨.unsupported (.noEntry "machine/Return: a deferred call of a nil function value, made while the frame is unwinding") (({ fr with defers:=[] }:Frame).pos P),step_lone_ended (by simp [stepG,hm,unwind,hd,callDeferred])⟩
 obtain ⟨o,ho⟩:=this
 rw [ho] at hs
 cases hs
def ykp (m:Machine):Prop:=∃ g w,m={ world:=w,gs:=#[g],rest:={ timers:=#[],alone:=none,slice:=none } } ∧
 ((g.status=.blocked∨g.status=.waiting)∨∃ d f,g.status=.running∧g.dying=some d∧d.calling=false∧d.fatal=some f)
theorem zr9 {m:Machine} (h:ykp m) (fr:Frame) (cs:List Frame) (w:World):m≠lone fr cs w:=by
 obtain ⟨g,w2,rfl,h⟩:=h
 intro e
 simp [lone] at e
 obtain ⟨_,rfl⟩:=e
 rcases h with (h|h)|⟨d,f,_,h,_⟩ <;> simp at h
theorem zmc {fr fr':Frame} {T:List Nat} (h:FR P tn V1 V2 fr fr' T) {v v':Value} (hv:∀ ops i rest k d,fr.todo=.inRegion ops (i :: rest) :: k→(ops[i]?).bind (·.dst)=some d→VR V1 V2 T d v v') :
  FR P tn V1 V2 (fr.finish v) (fr'.finish v') T:=by
 obtain ⟨f,tm,todo,df,md,kd,rd⟩:=fr
 obtain ⟨f',tm',todo',df',md',kd',rd'⟩:=fr'
 obtain ⟨h1,h2,h3,h4,h5,h6,h7,h8,h9,h10,h11,h12⟩:=h
 dsimp only at *
 subst h4
 cases todo' with
 | nil=>exact ⟨h1,h2,h3,rfl,h5,h6,h7,h8,h9,h10,h11,h12⟩
 | cons x k =>
  cases x with
  | inRegion ops l =>
   cases l with
   | nil=>exact ⟨h1,h2,h3,rfl,h5,h6,h7,h8,h9,h10,h11,h12⟩
   | cons i rest =>
    simp only [Frame.finish]
    refine ⟨h1,h2,?_,rfl,?_,h6,h7,h8,h9,h10,h11,h12⟩
    ·dsimp only
     cases hd:(ops[i]?).bind (·.dst) with
     | none=>exact h3
     | some d=>exact h3.set (hv ops i rest k d rfl hd)
    ·intro x hx
     dsimp only at hx
     rcases List.mem_cons.1 hx with rfl|hx
     ·have:=h5 _ (List.mem_cons_self ..)
      simpa [zep] using this
     ·exact h5 _ (List.mem_cons_of_mem _ hx)
  | _=>first
   | exact ⟨h1,h2,h3,rfl,h5,h6,h7,h8,h9,h10,h11,h12⟩
   | (have:=h5 _ (List.mem_cons_self ..);simp [zep] at this)
theorem zpj {fr fr':Frame} {T:List Nat} (h:FR P tn V1 V2 fr fr' T) (vs:List PanicEntry):FR P tn V1 V2 (fr.raise vs) (fr'.raise vs) T:=by
 obtain ⟨f,tm,todo,df,md,kd,rd⟩:=fr
 obtain ⟨f',tm',todo',df',md',kd',rd'⟩:=fr'
 obtain ⟨h1,h2,h3,h4,h5,h6,h7,h8,h9,h10,h11,h12⟩:=h
 dsimp only at *
 subst h8
 unfold Frame.raise
 cases md' <;> exact ⟨h1,h2,h3,h4,h5,h6,h7,rfl,h9,h10,h11,h12⟩
theorem zzh {fr fr':Frame} {T:List Nat} (h:FR P tn V1 V2 fr fr' T) (k:List Item) (hk:∀ x∈k,zep tn T x=true):FR P tn V1 V2 { fr with todo:=k } { fr' with todo:=k } T:=
 ⟨h.fn,h.look,h.tm,rfl,hk,h.d,h.d',h.mode,h.kind,h.kind',h.rnd,h.rnd'⟩
theorem yj2 {fr fr':Frame} {T:List Nat} (h:FR P tn V1 V2 fr fr' T):FR P tn V1 V2 { fr with mode:=.returning } { fr' with mode:=.returning } T:=
 ⟨h.fn,h.look,h.tm,h.todo,h.ok,h.d,h.d',rfl,h.kind,h.kind',h.rnd,h.rnd'⟩
theorem zz5 {id:Nat} {k k':List Item} (h:exitTo id k=some k'):∀ x∈k',x∈k:=by
 induction k with
 | nil=>simp [exitTo] at h
 | cons y k ih =>
  cases y with
  | inBlock id' =>
   simp only [exitTo] at h
   split at h
   ·cases h;exact fun x hx=>List.mem_cons_of_mem _ hx
   ·exact fun x hx=>List.mem_cons_of_mem _ (ih h x hx)
  | _=>exact fun x hx=>List.mem_cons_of_mem _ (ih (by simpa [exitTo] using h) x hx)
def zer (P:Program) (tn:Tn) (V1 V2:Value) (cs:List Frame) (m':Machine) (m1:Machine):Prop:=
 (∃ fr frs fr' frs' w T,m1=lone fr (frs ++ [zhd]) w∧step P m'=.next (lone fr' (frs' ++ cs) w)∧FR P tn V1 V2 fr fr' T∧SR P tn V1 V2 frs frs')∨Gone m1∨ykp m1
end Go.Proofs.YtoifcnidhfnapabGreatDoor.Sim
namespace Go.Proofs.YtoifcnidhfnapabGreatDoor.Sim
open Go
variable {P:Program} {tn:Tn} {V1 V2:Value}
theorem zwa (fr:Frame) (d:Dying) (f:Fatal) (w:World) (hc:d.calling=false) (g:Goroutine) (w':World)
  (h:(writeOn P fr d f w).bare=.go g w'):g.status=.blocked∨∃ d f,g.status=.running∧g.dying=some d∧d.calling=false∧d.fatal=some f:=by
 unfold writeOn at h
 cases hp:f.pieces with
 | nil=>simp [hp] at h
 | cons piece rest =>
  simp only [hp] at h
  split at h
  ·simp at h;obtain ⟨rfl,_⟩:=h;exact .inr ⟨_,_,rfl,rfl,hc,rfl⟩
  ·simp at h;obtain ⟨rfl,_⟩:=h;exact .inl rfl
  ·simp at h
  ·simp at h
theorem ydb {m m':Machine} (h:ykp m) (hs:step P m=.next m'):ykp m':=by
 obtain ⟨⟨fr,cs,st,dy,off⟩,w,rfl,h⟩:=h
 dsimp only at h
 rcases h with (rfl|rfl)|⟨d,f,rfl,rfl,hc,hf⟩
 ·exfalso
  simp [step,stepT,move,ask,askOn,runnable_eq,due,ahead,Goroutine.canRun,List.range_succ,choose,pure,Sem.run,Question.forced] at hs
  generalize endWith w 2 _ _=q at hs
  cases q <;> simp at hs
 ·simp [step,stepT,move,ask,askOn,runnable_eq,due,ahead,Goroutine.canRun,List.range_succ,choose,pure,Sem.run,Question.forced] at hs
  exact ⟨⟨fr,cs,.waiting,dy,off⟩,w,hs.symm,.inl (.inr rfl)⟩
 ·have hG:stepG P true { frame:=fr,callers:=cs,status:=.running,dying:=some d,offers:=off } w=writeOn P fr d f w:=by
   obtain ⟨todo,texts,calling,pending,re,hand,fatal⟩:=d
   dsimp only at hc hf
   subst hc hf
   simp [stepG,die]
  rw [show ({ world:=w,gs:=#[{ frame:=fr,callers:=cs,status:=.running,dying:=some d,offers:=off }],rest:={ timers:=#[],alone:=none,slice:=none } }:Machine)=loneD fr cs d off w from rfl] at hs
  rw [step,stepT,move_loneD] at hs
  generalize hx:writeOn P fr d f w=s at hG
  have hb:=zwa (P:=P) fr d f w hc
  rw [hx] at hb
  cases s with
  | go g w2 es =>
   simp [runT,loneD,Array.swapAt!,hG] at hs
   refine ⟨g,w2,hs.symm,?_⟩
   rcases hb g w2 rfl with h|h
   ·exact .inl (.inl h)
   ·exact .inr h
  | ended o w2 es=>simp [runT,loneD,Array.swapAt!,hG] at hs
  | _ =>
   exfalso
   have:(writeOn P fr d f w).bare=_:=congrArg GStep.bare hx
   unfold writeOn at this
   cases hp:f.pieces with
   | nil=>simp [hp] at this
   | cons piece rest=>simp only [hp] at this;split at this <;> simp at this
theorem yda {n:Nat} {m m':Machine} (h:ykp m) (hs:runN P n m=.next m'):ykp m':=by
 induction n generalizing m with
 | zero=>simp [runN] at hs;exact hs ▸ h
 | succ n ih =>
  simp only [runN] at hs
  cases hx:step P m with
  | next m2=>rw [hx] at hs;exact ih (ydb h hx) hs
  | ended o w=>rw [hx] at hs;simp at hs
end Go.Proofs.YtoifcnidhfnapabGreatDoor.Sim
namespace Go.Proofs.YtoifcnidhfnapabGreatDoor.Sim
open Go
variable {P:Program} {tn:Tn} {V1 V2:Value}
structure Fine (P:Program) (tn:Tn) (V1 V2:Value) (g:FuncId):Prop where
 fns:∀ f T,tn.lookup f=some T→fnOK P tn (f,T)=true
 steps:∀ i,P.stepOf i=none
 follows:P.follows .staticDataAhead=true
 cmp:tn.lookup g=some []
 n1:ztx V1
 n2:ztx V2
 one:∀ (x y:Value) (w:World),((do let d ← Deferred.ofValue V1 #[x,y];invoke d.target d.args):Sem Next).run P w=.ok (.enter g #[x,y]) w
 two:∀ (x y:Value) (w:World),((do let d ← Deferred.ofValue V2 #[x,y];invoke d.target d.args):Sem Next).run P w=.ok (.enter g #[x,y]) w
theorem zu1 {α β:Type} (l:Array α) (f g:α→Sem β) (h:∀ x∈l,f x=g x):l.mapM f=l.mapM g:=by
 rw [Array.mapM_eq_mapM_toList,Array.mapM_eq_mapM_toList]
 congr 1
 have h':∀ x∈l.toList,f x=g x:=fun x hx=>h x (by simpa using hx)
 generalize l.toList=k at h'
 induction k with
 | nil=>rfl
 | cons y k ih=>simp only [List.mapM_cons];rw [h' y (by simp),ih (fun x hx=>h' x (by simp [hx]))]
theorem yj9 {fr:Frame} {cs:List Frame} {w:World} {m1:Machine} {s:GStep} (hs:step P (lone fr cs w)=.next m1)
  (hb:(stepG P true { frame:=fr,callers:=cs,status:=.running,dying:=none } w).bare=s.bare) (g:Goroutine) (w1:World) (hg:s.bare=.go g w1) :
  m1={ world:=w1,gs:=#[g],rest:={ timers:=#[],alone:=none,slice:=none } }:=by
 rw [hg] at hb
 generalize hx:stepG P true { frame:=fr,callers:=cs,status:=.running,dying:=none } w=q at hb
 cases q <;> simp at hb
 obtain ⟨rfl,rfl⟩:=hb
 rw [step,stepT,move_lone] at hs
 simp [runT,lone,Array.swapAt!,hx] at hs
 exact hs.symm
theorem zfq {fr:Frame} {cs:List Frame} {w:World} {m1:Machine} (hs:step P (lone fr cs w)=.next m1) (o:Outcome) (w1:World)
  (hb:(stepG P true { frame:=fr,callers:=cs,status:=.running,dying:=none } w).bare=.ended o w1):False:=by
 rw [step_lone_ended hb] at hs
 cases hs
theorem zc7 {fr fr' fr1 fr1':Frame} {frs frs' frs1 frs1' cs:List Frame} {w w1:World} {m1:Machine} {T1:List Nat} (hs:step P (lone fr (frs ++ [zhd]) w)=.next m1)
  (h1:(stepG P true { frame:=fr,callers:=frs ++ [zhd],status:=.running,dying:=none } w).bare=.go { frame:=fr1,callers:=frs1 ++ [zhd],status:=.running,dying:=none } w1)
  (h2:(stepG P true { frame:=fr',callers:=frs' ++ cs,status:=.running,dying:=none } w).bare=.go { frame:=fr1',callers:=frs1' ++ cs,status:=.running,dying:=none } w1)
  (hF:FR P tn V1 V2 fr1 fr1' T1) (hS:SR P tn V1 V2 frs1 frs1'):zer P tn V1 V2 cs (lone fr' (frs' ++ cs) w) m1:=by
 have e1:=step_lone_go h1
 rw [e1] at hs
 cases hs
 exact .inl ⟨fr1,frs1,fr1',frs1',w1,T1,rfl,step_lone_go h2,hF,hS⟩
theorem yh9 {g:FuncId} (hP:Fine P tn V1 V2 g) {fr fr':Frame} {frs frs' cs:List Frame} {w:World} {m1:Machine} {T:List Nat} (hF:FR P tn V1 V2 fr fr' T) (hS:SR P tn V1 V2 frs frs') (hm:fr.mode=.returning)
  (hs:step P (lone fr (frs ++ [zhd]) w)=.next m1):zer P tn V1 V2 cs (lone fr' (frs' ++ cs) w) m1:=by
 have hfn:=hP.fns _ _ hF.look
 unfold fnOK at hfn
 dsimp only at hfn
 cases hf:P.funcs[fr.fn]? with
 | none=>rw [hf] at hfn;simp at hfn
 | some fn =>
  rw [hf] at hfn
  simp only [Bool.and_eq_true] at hfn
  have hres:results fn fr'.tmps=results fn fr.tmps:=by
   unfold results
   congr 1
   refine zu1 _ _ _ (fun x hx=>?_)
   have hx:=Array.all_eq_true_iff_forall_mem.1 hfn.1.2 x hx
   cases x with
   | tmp t=>simp [yev] at hx;dsimp only;rw [hF.tm.clean hx]
   | cell t ty=>simp [yev] at hx;dsimp only;rw [hF.tm.clean hx]
  have hm':fr'.mode=.returning:=hF.mode.trans hm
  have hf':P.funcs[fr'.fn]? = some fn:=by rw [hF.fn];exact hf
  cases hr:(results fn fr.tmps).run P w with
  | halt x w1 =>
   exfalso
   cases x <;> exact zfq hs _ w1 (by simp [stepG,hm,unwind,hF.d,hf,hr];rfl)
  | ok v w1 =>
   rcases SR.inv hS with ⟨rfl,rfl⟩|⟨c,c',T',l,l',rfl,rfl,hc,hw,hl⟩
   ·skip
    have e1:step P (lone fr ([] ++ [zhd]) w)=.next (lone (zhd.finish v) [] w1):=step_lone_go (by simp [stepG,hm,unwind,hF.d,hf,hr,doReturn,hF.kind])
    rw [e1] at hs
    cases hs
    exact .inr (.inl ⟨_,_,[],rfl,rfl,rfl⟩)
   ·skip
    refine zc7 (fr1:=c.finish v) (fr1':=c'.finish v) (frs1:=l) (frs1':=l') (w1:=w1) (T1:=T') hs ?_ ?_ ?_ hl
    ·simp [stepG,hm,unwind,hF.d,hf,hr,doReturn,hF.kind]
    ·simp [stepG,hm',unwind,hF.d',hf',hres,hr,doReturn,hF.kind']
    ·refine zmc hc (fun ops i rest k d ht hd=>?_)
     obtain ⟨_,ops2,i2,rest2,k2,ht2,hd2⟩:=hw
     rw [ht] at ht2
     cases ht2
     exact VR.of_clean (hd2 d hd)
theorem yh8 {g:FuncId} (hP:Fine P tn V1 V2 g) {fr fr':Frame} {frs frs' cs:List Frame} {w:World} {m1:Machine} {T:List Nat} {chain:List PanicEntry} (hF:FR P tn V1 V2 fr fr' T) (hS:SR P tn V1 V2 frs frs') (hm:fr.mode=.panicking chain)
  (hs:step P (lone fr (frs ++ [zhd]) w)=.next m1):zer P tn V1 V2 cs (lone fr' (frs' ++ cs) w) m1:=by
 have hfn:=hP.fns _ _ hF.look
 unfold fnOK at hfn
 dsimp only at hfn
 cases hf:P.funcs[fr.fn]? with
 | none=>rw [hf] at hfn;simp at hfn
 | some fn =>
  have hm':fr'.mode=.panicking chain:=hF.mode.trans hm
  have hf':P.funcs[fr'.fn]? = some fn:=by rw [hF.fn];exact hf
  rcases SR.inv hS with ⟨rfl,rfl⟩|⟨c,c',T',l,l',rfl,rfl,hc,hw,hl⟩
  ·skip
   have e1:step P (lone fr ([] ++ [zhd]) w)=.next (lone (zhd.raise chain) [] w):=step_lone_go (by simp [stepG,hm,unwind,hF.d,hf,Frame.catches])
   rw [e1] at hs
   cases hs
   exact .inr (.inl ⟨_,_,chain ++ [],rfl,rfl,rfl⟩)
  ·skip
   refine zc7 (fr1:=c.raise chain) (fr1':=c'.raise chain) (frs1:=l) (frs1':=l') (w1:=w) (T1:=T') hs ?_ ?_ (zpj hc chain) hl
   ·simp [stepG,hm,unwind,hF.d,hf,Frame.catches]
   ·simp [stepG,hm',unwind,hF.d',hf',Frame.catches]
end Go.Proofs.YtoifcnidhfnapabGreatDoor.Sim
