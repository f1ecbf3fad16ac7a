import Derived.Test.YtoifcnidhfnapaaGreatDoorB02
import Derived.Test.YtoifcnidhfnapaaGreatDoorB15
import Derived.Test.YtoifcnidhfnapaaGreatDoorB21
set_option linter.unusedVariables false
set_option linter.unusedSimpArgs false
set_option maxRecDepth 100000
set_option maxHeartbeats 16000000
namespace Go.Proofs.YtoifcnidhfnapaaGreatDoor
open Go.RowKit Go.Maps
def yjw (h:H4):Value:=.agg #[.int .i64 h.1,.int .i64 h.2.1,.int .i64 h.2.2.1,.int .i64 h.2.2.2]
theorem Tryz.rowH:(134:TypeId)<Tryz.prog.types.size:=of_decide_eq_true (by kernel_rfl)
theorem Tryz.cellsH:Tryz.prog.cellsOf 134=4:=by kernel_rfl
theorem Tryz.keyTypeH:Tryz.prog.keyType 134=true:=by kernel_rfl
theorem Tryz.wideH:(match Tryz.prog.underlying 134 with|some (.array _ _)|some (.struct _)=>true|_=>false)=true:=by rw [Tryz.underlying134]
theorem zy4:Keyed Tryz.prog 134:=Keyed.of_law (deep_law_laid Tryz.laidOut (m:=2) (by omega) Tryz.rowH (by kernel_rfl) Tryz.wideH)
def zj4 (h:H4):Lit:=.string (keyBytes [.int .i64 h.1,.int .i64 h.2.1,.int .i64 h.2.2.1,.int .i64 h.2.2.2])
theorem klH (d:Nat) (a b c e:Value):Tryz.prog.keyLits (d+2) 134 [a,b,c,e]=(do
  let x ← Tryz.prog.keyLits (d+1) 2 [a]
  let y ← Tryz.prog.keyLits (d+1) 2 [b]
  let z ← Tryz.prog.keyLits (d+1) 2 [c]
  let u ← Tryz.prog.keyLits (d+1) 2 [e]
  pure (x ++ (y ++ (z ++ u)))):=by
 conv=>lhs;unfold Program.keyLits
 rw [Tryz.underlying134]
 simp only [Tryz.cellsH,Tryz.cells2,List.length_cons,List.length_nil,Nat.zero_add,Nat.reduceAdd,if_true]
 simp only [show List.range 4=[0,1,2,3] from rfl,List.mapM_cons,List.mapM_nil]
 simp only [Nat.zero_mul,Nat.one_mul,Nat.reduceMul,List.drop_zero,List.drop_succ_cons,List.take_succ_cons,List.take_zero]
 generalize Tryz.prog.keyLits (d+1) 2 [a]=A
 generalize Tryz.prog.keyLits (d+1) 2 [b]=B
 generalize Tryz.prog.keyLits (d+1) 2 [c]=C
 generalize Tryz.prog.keyLits (d+1) 2 [e]=E
 cases A <;> cases B <;> cases C <;> cases E <;> simp [List.flatten]
theorem zom {r:H4} (h:WfH r):keyOf Tryz.prog 134 (yjw r)=some (zj4 r):=by
 obtain ⟨h1,h2,h3,h4⟩:=h
 unfold keyOf
 rw [Tryz.underlying134]
 simp only [Tryz.keyTypeH,yjw,Value.formed,Tryz.underlying134,Tryz.cellsH,Value.cells,Tryz.size]
 have:=klH 445 (.int .i64 r.1) (.int .i64 r.2.1) (.int .i64 r.2.2.1) (.int .i64 r.2.2.2)
 rw [kl2 445 h1,kl2 445 h2,kl2 445 h3,kl2 445 h4] at this
 simp only [show (446+1:Nat)=445+2 from rfl]
 rw [this]
 rfl
theorem len4 {α:Type} {l:List α} (h:l.length=4):∃ a b c d,l=[a,b,c,d]:=by
 match l,h with
 | [a,b,c,d],_=>exact ⟨a,b,c,d,rfl⟩
theorem zj6 {v:Value} {l:Lit} (h:keyOf Tryz.prog 134 v=some l):∃ r,WfH r∧v=yjw r∧l=zj4 r:=by
 unfold keyOf at h
 simp only [Tryz.underlying134,Tryz.keyTypeH,Tryz.size] at h
 cases v <;> simp [Value.formed,Tryz.underlying134,Tryz.cellsH] at h
 rename_i cs
 obtain ⟨hs,ls,hls,rfl⟩:=h
 obtain ⟨cs⟩:=cs
 obtain ⟨a,b,c,d,rfl⟩:=len4 (by simpa using hs)
 simp only [Value.cells] at hls
 have e:(447:Nat)=445+2:=rfl
 rw [e,klH] at hls
 cases hA:Tryz.prog.keyLits (445+1) 2 [a] with
 | none=>simp [hA] at hls
 | some A =>
  cases hB:Tryz.prog.keyLits (445+1) 2 [b] with
  | none=>simp [hA,hB] at hls
  | some B =>
   cases hC:Tryz.prog.keyLits (445+1) 2 [c] with
   | none=>simp [hA,hB,hC] at hls
   | some C =>
    cases hE:Tryz.prog.keyLits (445+1) 2 [d] with
    | none=>simp [hA,hB,hC,hE] at hls
    | some E =>
     obtain ⟨x,wx,rfl,rfl⟩:=zj7 _ hA
     obtain ⟨y,wy,rfl,rfl⟩:=zj7 _ hB
     obtain ⟨z,wz,rfl,rfl⟩:=zj7 _ hC
     obtain ⟨u,wu,rfl,rfl⟩:=zj7 _ hE
     simp [hA,hB,hC,hE] at hls
     subst hls
     exact ⟨(x,y,z,u),⟨wx,wy,wz,wu⟩,rfl,rfl⟩
theorem zi8 {r s:H4} (hr:WfH r) (hs:WfH s) (h:zj4 r=zj4 s):r=s:=by
 have:=zy4.inj (zom hr) (h ▸ zom hs)
 simp [yjw] at this
 obtain ⟨h1,h2,h3,h4⟩:=this
 exact Prod.ext h1 (Prod.ext h2 (Prod.ext h3 h4))
def ye9 (f:H4→Int) (r:H4) (x:Int):H4→Int:=fun s=>if s=r then x else f s
structure zyq (D:DataW Unit) (f:H4→Int):Prop where
 at_:∀ r,WfH r→D.atKey (zj4 r) (.lit (.int .i64 0))=.lit (.int .i64 (f r))
 has_:∀ r,WfH r→(Maps.has D (zj4 r)=true↔f r≠0)
 keys:∀ l,Maps.has D l=true→∃ r,WfH r∧l=zj4 r
def zgv (w:World) (b n:Nat) (f:H4→Int):Prop:=∃ D:DataW Unit,w.ownsMap Tryz.prog 134 (plainElem Tryz.prog 2) b n D∧zyq D f
theorem zi9 (r:H4):WideAt.IsKeyLit (zj4 r):=trivial
theorem zyq.put {D:DataW Unit} {f:H4→Int} (h:zyq D f) (hD:IsMap D) {r:H4} (hr:WfH r) {x:Int} (hx:x≠0):zyq (D.put (zj4 r) (.lit (.int .i64 x))) (ye9 f r x):=by
 refine ⟨fun s hs=>?_,fun s hs=>?_,fun l hl=>?_⟩
 ·unfold ye9
  by_cases e:s=r
  ·subst e;rw [atKey_put_same hD (zi9 _),if_pos rfl]
  ·rw [atKey_put_other (fun e'=>e (zi8 hs hr e')),if_neg e];exact h.at_ s hs
 ·unfold ye9
  by_cases e:s=r
  ·subst e;rw [has_put_same hD (zi9 _),if_pos rfl];simp [hx]
  ·rw [has_put_other (fun e'=>e (zi8 hs hr e')),if_neg e];exact h.has_ s hs
 ·by_cases e:l=zj4 r
  ·exact ⟨r,hr,e⟩
  ·rw [has_put_other e] at hl;exact h.keys l hl
theorem zyq.del {D:DataW Unit} {f:H4→Int} (h:zyq D f) {r:H4} (hr:WfH r):zyq (D.del (zj4 r)) (ye9 f r 0):=by
 refine ⟨fun s hs=>?_,fun s hs=>?_,fun l hl=>?_⟩
 ·unfold ye9
  by_cases e:s=r
  ·subst e;rw [atKey_del_same,if_pos rfl]
  ·rw [atKey_del_other (fun e'=>e (zi8 hs hr e')),if_neg e];exact h.at_ s hs
 ·unfold ye9
  by_cases e:s=r
  ·subst e;rw [has_del_same,if_pos rfl];simp
  ·rw [has_del_other (fun e'=>e (zi8 hs hr e')),if_neg e];exact h.has_ s hs
 ·by_cases e:l=zj4 r
  ·subst e;rw [has_del_same] at hl;simp at hl
  ·rw [has_del_other e] at hl;exact h.keys l hl
theorem ygh (b n:Nat) (f:H4→Int) (r:H4) (x:Int) (w:World) (h:zgv w b n f) (hn:n<9000000000000000001) (hr:WfH r) :
  Calls Tryz.prog 156 #[.map (some b),.agg (h4C r),.int .i64 x] w fun e w'=>e=.returned (.tuple #[])∧zgv w' b (n+1) (ye9 f r (wrap64 (f r+x)))∧w.grownBy w' (some b):=by
 obtain ⟨D,hown,hrep⟩:=h
 have hkey:=zom hr
 have hat0:=hrep.at_ r hr
 obtain ⟨a,a2,a3,a4⟩:=r
 obtain ⟨q,hq⟩:∃ q,q=f (a,a2,a3,a4):=⟨_,rfl⟩
 rw [← hq] at hat0
 have Hq:=zac hq
 have Hrep:=zac hrep
 have Hat:=zac hat0
 clear hq hrep hat0
 have hown':=hown.alloc (.cells #[.int .i64 a,.int .i64 a2,.int .i64 a3,.int .i64 a4] 134)
 unfold yjw at hkey
 unfold h4C
 have hwf:(Lit.int .i64 (wrap64 (q+x))).wf=true:=wrap64_wf _
 by_cases hz:wrap64 (q+x)=0
 ·have hzb:(wrap64 (q+x) == 0)=true:=by simp [hz]
  have Hz:=zac hz
  clear hz
  go_enter Tryz.func156,Tryz.ntmps156
  go_wp2_with (first
   | (at_lookup;refine wpList_lookup_own_int _ rfl _ _ 87 rfl 134 2 .i64 zy4 Tryz.underlying87 Tryz.underlying2 (zym _) b n D rfl hown' _ _ rfl hkey ?_;intro c hat hwc;obtain rfl:=zdk (hat.symm.trans (zaa Hat));clear hat)
   | (at_delete;refine wpList_delete_own _ rfl _ _ 87 134 rfl 2 zy4 Tryz.underlying87 _ b n D rfl hown' _ _ rfl hkey ?_;intro w1 hown1 hturn1)
   | go_in)
  refine bodyPost_ret (v:=.tuple #[]) (by simp [results,Tryz.results156,go_sem]) rfl ?_
  refine ⟨rfl,⟨_,hown1.mono (Nat.le_succ _),?_⟩,((World.grownBy_alloc _ _ _)).trans hturn1.grown⟩
  rw [← zaa Hq,zaa Hz]
  exact (zaa Hrep).del hr
 ·have hzb:(wrap64 (q+x) == 0)=false:=by simp [hz]
  have Hz:=zac hz
  clear hz
  go_enter Tryz.func156,Tryz.ntmps156
  go_wp2_with (first
   | (at_lookup;refine wpList_lookup_own_int _ rfl _ _ 87 rfl 134 2 .i64 zy4 Tryz.underlying87 Tryz.underlying2 (zym _) b n D rfl hown' _ _ rfl hkey ?_;intro c hat hwc;obtain rfl:=zdk (hat.symm.trans (zaa Hat));clear hat)
   | (at_mapUpdate;refine wpList_mapUpdate_own _ rfl _ _ _ 87 rfl 134 2 zy4 Tryz.underlying87 _ b n D rfl hown' (by unfold maxLen;omega) _ _ _ rfl rfl hkey _ [] (plainElem_int Tryz.underlying2 hwf) ?_;intro w1 hown1 hgrow1)
   | go_in)
  go_end0
  refine ⟨rfl,⟨_,hown1,?_⟩,((World.grownBy_alloc _ _ _)).trans hgrow1⟩
  rw [← zaa Hq]
  exact (zaa Hrep).put hown.isMap hr (zaa Hz)
end Go.Proofs.YtoifcnidhfnapaaGreatDoor
namespace Go.Proofs.YtoifcnidhfnapaaGreatDoor
open Go.RowKit Go.Maps Go.Sort Go.Shelf
def zks (f:H4→Int) (ys:List (H4×Int)):H4→Int:=ys.foldl (fun f y=>ye9 f y.1 (wrap64 (f y.1+y.2))) f
theorem ztp (f:H4→Int) (ys:List (H4×Int)) (y:H4×Int):zks f (ys ++ [y])=ye9 (zks f ys) y.1 (wrap64 (zks f ys y.1+y.2)):=by
 unfold zks
 rw [List.foldl_append]
 rfl
theorem zn1 (h:H4):∀ (ys:List (H4×Int)) (f:H4→Int),BitVec.ofInt 64 (zks f ys h)=BitVec.ofInt 64 (f h)+zrj ys h
 | [],f=>by simp [zks,zrj,zbz]
 | y :: ys,f=>by
  show BitVec.ofInt 64 (zks (ye9 f y.1 (wrap64 (f y.1+y.2))) ys h)=_
  rw [zn1 h ys]
  show _=_+((if y.1=h then BitVec.ofInt 64 y.2 else 0#64)+zrj ys h)
  unfold ye9
  by_cases e:h=y.1
  ·subst e
   rw [if_pos rfl,if_pos rfl,zje,BitVec.ofInt_add,BitVec.add_assoc]
  ·rw [if_neg e,if_neg (fun e'=>e e'.symm)]
   simp
theorem zgv.notC {w:World} {b n:Nat} {f:H4→Int} (h:zgv w b n f):ztl w b:=by
 obtain ⟨D,⟨es,cl,hb,_⟩,_⟩:=h
 intro cs t fr e
 rw [hb] at e
 cases e
theorem zgv.keep {X:Nat→Prop} {w w':World} {b n:Nat} {f:H4→Int} (h:zgv w b n f) (hk:w'.heap[b]? = w.heap[b]?):zgv w' b n f:=by
 obtain ⟨D,⟨es,cl,hb,h2⟩,hr⟩:=h
 exact ⟨D,⟨es,cl,hk.trans hb,h2⟩,hr⟩
theorem zgv.lt {w:World} {b n:Nat} {f:H4→Int} (h:zgv w b n f):b<w.heap.size:=by
 obtain ⟨D,⟨es,cl,hb,_⟩,_⟩:=h
 exact (Array.getElem?_eq_some_iff.1 hb).1
theorem zw7 {w w':World} {b:Nat} (h:w.grownBy w' (some b)):KeepX (fun k=>k=b) w w':=
 ⟨h.os,h.tape,h.output,h.size,fun q hq hx=>h.block q hq (fun e=>hx (Option.some.inj e))⟩
theorem znx.keepN {Y:Nat→Prop} {W W':World} {v:Value} {nss:List (List Int)} (h:znx W v nss) (hk:KeepX Y W W') (hN:∀ k,Y k→ztl W k):znx W' v nss:=by
 obtain ⟨a,cap,rfl,hx⟩:=h
 refine ⟨a,cap,rfl,fun j hj=>?_⟩
 obtain ⟨b,o,ia,ic,rfl,d0,d1⟩:=hx j hj
 refine ⟨b,o,ia,ic,rfl,hk.cellN hN d0,fun i hi=>?_⟩
 obtain ⟨b',o',e,d⟩:=d1 i hi
 exact ⟨b',o',e,hk.cellN hN d⟩
theorem zjl.keepN {Y:Nat→Prop} {W W':World} {PB na:Nat} {nss:List (List Int)} {sts:List Stp} (h:zjl W PB na nss sts) (hk:KeepX Y W W') (hN:∀ k,Y k→ztl W k):zjl W' PB na nss sts:=by
 obtain ⟨⟨ka,kcap,nv,stv,hPB,hNs,hSt⟩,hlen,hna,hok⟩:=h
 exact ⟨⟨ka,kcap,nv,stv,hk.blkN hN hPB,hNs.keepN hk hN,hSt.keepN hk hN⟩,hlen,hna,hok⟩
theorem zjl.below {W W':World} {PB na:Nat} {nss:List (List Int)} {sts:List Stp} (h:zjl W PB na nss sts) (hb:Below W.heap.size W W'):zjl W' PB na nss sts:=h.keepN (Y:=fun _=>False) (KeepX.ofBelow hb) (fun _ h=>h.elim)
def yj8 (mb n:Nat) (f:H4→Int) (w1:World) (ys:List (H4×Int)) (A:World):Prop:=zgv A mb (n+ys.length) (zks f ys)∧KeepX (fun k=>k=mb) w1 A
attribute [local go_sem] Oper.semAt_some in
theorem zzo (VB mb n:Nat) (v0 v1 v2:Value) (f:H4→Int) (PB na:Nat) (nss:List (List Int)) (sts:List Stp) (sv:Nat→SV) (S:Nat→Src) (pB qB N:Nat) (w:World) (hV:w.heap[VB]? = some (.cells #[v0,v1,v2,.map (some mb)] 89 (0,0))) (hM:zgv w mb n f)
  (hP:zjl w PB na nss sts) (hS:POK na nss sts S) (hr:∀ i,i<4→zay w (sv i).val (S i).rs) (hpB:w.heap[pB]? = some (.cells #[.pointer (some ⟨PB,0,none⟩)] 84 (0,0))) (hqB:w.heap[qB]? = some (.cells (zag sv (fun i=>((S i).c:Int))) 192 (0,0)))
  (hcnt:zmn na (zjq nss S nss.length)≤N) (hn:n+N≤9000000000000000000) :
  Calls Tryz.prog 109 #[.pointer (some ⟨VB,0,none⟩),.func (.func 157) #[] #[.pointer (some ⟨pB,0,none⟩),.pointer (some ⟨qB,0,none⟩)]] w fun e w'=>e=.returned (.tuple #[])∧(∃ ys,(∀ h,zrj ys h=zte na nss sts S h)∧zgv w' mb (n+N) (zks f ys))∧KeepX (fun k=>k=mb) w w':=by
 refine (callsIn_wide (n:=9)).1 (callsIn_of_wp_marks Tryz.func109 rfl trivial ?_ rfl)
 have hml:=hM.lt
 have hVl:VB<w.heap.size:=(Array.getElem?_eq_some_iff.1 hV).1
 obtain ⟨w1,hw1⟩:∃ w1,w1=w.alloc (.cells #[.pointer (some ⟨VB,0,none⟩)] 81):=⟨_,rfl⟩
 have hb1:Below w.heap.size w w1:=by rw [hw1];exact (Below.refl _ _).alloc (Nat.le_refl _) _
 have hs1:w1.heap.size=w.heap.size+1:=by rw [hw1];simp
 have hbx:w1.heap[w.heap.size]? = some (.cells #[.pointer (some ⟨VB,0,none⟩)] 81 (0,0)):=by rw [hw1];exact zae _ _ _ rfl
 have hM1:zgv w1 mb n f:=hM.keep (X:=fun _=>False) (hb1.block mb hml)
 have hV1:=(hb1.block VB hVl).trans hV
 have hne:VB≠mb:=fun e=>hM.notC _ _ _ (e ▸ hV)
 have Hb1:=zac hb1
 have Hs1:=zac hs1
 have Hbx:=zac hbx
 have HM1:=zac hM1
 have HV1:=zac hV1
 have HP:=zac hP
 have HS:=zac hS
 have Hr:=zac hr
 have HpB:=zac hpB
 have HqB:=zac hqB
 have Hcnt:=zac hcnt
 clear hb1 hs1 hbx hM1 hV1 hP hS hr hpB hqB hcnt hM hV
 simp only [Tryz.ntmps109,List.size_toArray,List.length_cons,List.length_nil,Nat.reduceAdd,Nat.reduceSub,Array.replicate_succ,Array.replicate_zero,List.push_toArray,List.append_toArray,List.nil_append,List.cons_append]
 gi_wp2_with fail
 rw [← hw1]
 clear hw1
 refine zu5 (by omega) (gf:=157) (lb:=#[.pointer (some ⟨pB,0,none⟩),.pointer (some ⟨qB,0,none⟩)]) rfl (enters_of Tryz.func157 (by kernel_rfl) rfl) (encs:=ylp) (fun _=>rfl) (fun k=>k=mb) ?hX (fun A=>∀ k,k=mb∨k=w1.heap.size+1→ztl A k) (fun ys=>ys.length≤N∧∃ pre x,ys=pre ++ [x]∧WfH x.1) (fun ys=>ys.length≤N∧∀ h,zrj ys h=zte na nss sts S h)
  (yj8 mb n f w1) ?hI ?h0 ?hC ?iter
  (fun x a' A=>∃ Bx,w1.heap.size+2≤Bx∧A.heap[Bx]? = some (.cells (h4C x.1) 134 (0,0))∧a'={ tmps:=#[.pointer (some ⟨VB,0,none⟩),.func (.func 157) #[] #[.pointer (some ⟨pB,0,none⟩),.pointer (some ⟨qB,0,none⟩)],.pointer (some ⟨w.heap.size,0,none⟩),undef,.pointer (some ⟨Bx,0,none⟩),.int .i64 x.2,.func (.func 157) #[] #[.pointer (some ⟨pB,0,none⟩),.pointer (some ⟨qB,0,none⟩)],.agg (h4C x.1),.int .i64 x.2,undef,undef,undef,undef,undef,undef,undef],defers:=[] }) ?hAx ?assign ?body ?done
 case hX =>
  rintro k rfl
  have:=zaa Hs1
  omega
 case hI =>
  rintro ys A B ⟨h1,h2⟩ hb
  have:=zaa Hs1
  exact ⟨h1.keep (X:=fun _=>False) (hb.block mb (by omega)),h2.thenB hb⟩
 case h0=>exact ⟨by simpa [zks] using zaa HM1,KeepX.refl _ _⟩
 case hC =>
  rintro ys A r ⟨h1,_⟩ hl k (rfl|rfl)
  ·exact h1.notC
  ·intro cs t fr e
   rw [hl] at e
   cases e
 case iter =>
  intro W1 hb hsz
  have h1:=zaa Hs1
  have hbw:Below w.heap.size w W1:=(zaa Hb1).trans (hb.mono (by omega))
  have hPW:=(zaa HP).below hbw
  refine ya6 PB na nss sts sv S pB qB (fun k=>k=mb) (w1.heap.size+1) W1 hPW (zaa HS) (fun i hi=>((zaa Hr) i hi).below hbw) ((hbw.block pB (Array.getElem?_eq_some_iff.1 (zaa HpB)).1).trans (zaa HpB)) ((hbw.block qB (Array.getElem?_eq_some_iff.1 (zaa HqB)).1).trans (zaa HqB)) ?_ N (zaa Hcnt)
  rintro k (rfl|rfl)
  ·omega
  ·omega
 case hAx =>
  rintro x a' A o ⟨Bx,h1,h2,h3⟩
  exact ⟨Bx,h1,(World.putObj_heap_other (by omega)).trans h2,h3⟩
 case assign =>
  intro ys x A K hI hsA hK
  obtain ⟨⟨x0,x1,x2,x3⟩,xw⟩:=x
  unfold ylp h4C
  gi_wp2
  have hbA:Below A.heap.size A (A.alloc (.cells #[.int .i64 x0,.int .i64 x1,.int .i64 x2,.int .i64 x3] 134)):=(Below.refl _ _).alloc (Nat.le_refl _) _
  exact hK _ _ (KeepX.ofBelow hbA) ⟨hI.1.keep (X:=fun _=>False) (hbA.block mb hI.1.lt),hI.2.then hbA⟩ ⟨A.heap.size,hsA,zae _ _ _ rfl,rfl⟩
 case body =>
  rintro ys x a' A ⟨hMA,hKA⟩ ⟨Bx,hBx,hXx,rfl⟩ hsA ⟨hlen,pre',x',hpx,hwf⟩
  have hxx:x'=x:=by
   have:=congrArg List.getLast? hpx
   simpa using this.symm
  subst hxx
  have h1:=zaa Hs1
  rw [List.length_append] at hlen
  simp only [List.length_cons,List.length_nil] at hlen
  have g0:=(hKA.blk w.heap.size (by omega) (by omega)).trans (zaa Hbx)
  have gV:=(hKA.blk VB (by omega) hne).trans (zaa HV1)
  have c0:A.cell? ⟨w.heap.size,0,none⟩=some (.pointer (some ⟨VB,0,none⟩)):=zab g0 0
  have c3:A.cell? ⟨VB,3,none⟩=some (.map (some mb)):=zab gV 3
  have y0:A.cell? ⟨Bx,0,none⟩=some (.int .i64 x'.1.1):=zab hXx 0
  have y1:A.cell? ⟨Bx,1,none⟩=some (.int .i64 x'.1.2.1):=zab hXx 1
  have y2:A.cell? ⟨Bx,2,none⟩=some (.int .i64 x'.1.2.2.1):=zab hXx 2
  have y3:A.cell? ⟨Bx,3,none⟩=some (.int .i64 x'.1.2.2.2):=zab hXx 3
  have hcall:=ygh mb (n+ys.length) (zks f ys) x'.1 x'.2 A.drew (hMA.keep (X:=fun _=>False) rfl) (by omega) hwf
  have Hcall:=zac hcall
  have HKA:=zac hKA
  clear hcall hKA hMA g0 gV hXx hpx hwf
  gi_wp2_with fail
  refine zdu ?_
  refine ziu rfl (by kernel_rfl) (by kernel_rfl) ?_
  refine zao (i:=0) (v:=.pointer (some ⟨VB,0,none⟩)) [0,4,5] rfl rfl (by kernel_rfl) (by kernel_rfl) (by kernel_rfl) (fun _ _ _ h=>h) ⟨by rfl,(fun w' hw=>?_),(fun _=>rfl)⟩ ?_
  ·have q:=hw.cell (show A.drew.cell? ⟨w.heap.size,0,none⟩=_ from c0)
   go_simp
  refine wpAnyIn_take (i:=1) (v:=.pointer (some ⟨VB,0,none⟩)) rfl rfl (by kernel_rfl) (by kernel_rfl) (by kernel_rfl) (fun _ _ _ h=>h) ⟨Or.inl ⟨by rfl,(fun w'=>?_)⟩,fun _=>rfl⟩ ?_
  ·go_simp
  refine wpAnyIn_take (i:=2) (v:=.pointer (some ⟨VB,3,none⟩)) rfl rfl (by kernel_rfl) (by kernel_rfl) (by kernel_rfl) (fun _ _ _ h=>h) ⟨Or.inl ⟨by rfl,(fun w'=>?_)⟩,fun _=>rfl⟩ ?_
  ·go_simp
  refine zao (i:=3) (v:=.map (some mb)) [3,4,5] rfl rfl (by kernel_rfl) (by kernel_rfl) (by kernel_rfl) (fun _ _ _ h=>h) ⟨by rfl,(fun w' hw=>?_),(fun _=>rfl)⟩ ?_
  ·have q:=hw.cell (show A.drew.cell? ⟨VB,3,none⟩=_ from c3)
   go_simp
  refine zao (i:=4) (v:=.agg (h4C x'.1)) [4,5] rfl rfl (by kernel_rfl) (by kernel_rfl) (by kernel_rfl) (fun _ _ _ h=>h) ⟨by rfl,(fun w' hw=>?_),(fun _=>rfl)⟩ ?_
  ·have q0:=hw.cell (show A.drew.cell? ⟨Bx,0,none⟩=_ from y0)
   have q1:=hw.cell (show A.drew.cell? ⟨Bx,1,none⟩=_ from y1)
   have q2:=hw.cell (show A.drew.cell? ⟨Bx,2,none⟩=_ from y2)
   have q3:=hw.cell (show A.drew.cell? ⟨Bx,3,none⟩=_ from y3)
   unfold h4C
   go_simp
  refine wpAnyIn_take (i:=5) (v:=.int .i64 x'.2) rfl rfl (by kernel_rfl) (by kernel_rfl) (by kernel_rfl) (fun _ _ _ h=>h) ⟨Or.inl ⟨by rfl,(fun w'=>?_)⟩,fun _=>rfl⟩ ?_
  ·go_simp
  refine wpAnyIn_ready (rs:=[6]) (by kernel_rfl) (by simp) ?_
  refine AllReadyIn.cons rfl (fun K hK=>?_) AllReadyIn.nil
  go_simp
  refine ⟨trivial,?_⟩
  refine (callsIn_wide.2 (zaa Hcall)).mono ?_
  rintro e w3 ⟨rfl,hM3,hg3⟩
  dsimp only
  have Hfin:Hid (yj8 mb n f w1 (ys ++ [x']) w3∧KeepX (fun k=>k=mb) A w3):=by
   have hk3:KeepX (fun k=>k=mb) A w3:=KeepX.trans (KeepX.ofBelow (zav _ _)) (zw7 hg3)
   refine ⟨⟨?_,(zaa HKA).trans hk3⟩,hk3⟩
   rw [ztp,List.length_append]
   exact hM3
  clear hM3 hg3
  refine hK _ _ ?_
  clear hK K
  refine wpAnyIn_done (by kernel_rfl) ?_ _
  dsimp only [zkb]
  gi_wp2
  exact zaa Hfin
 case done =>
  rintro D ys A hD ⟨hlen,hys⟩ ⟨hMA,hKA⟩ hdef
  have h1:=zaa Hs1
  have hkw:KeepX (fun k=>k=mb) w A:=⟨hKA.os.trans (zaa Hb1).os,hKA.tape.trans (zaa Hb1).tape,hKA.output.trans (zaa Hb1).output,Nat.le_trans (zaa Hb1).size hKA.size,fun q hq hx=>(hKA.blk q (by omega) hx).trans ((zaa Hb1).block q hq)⟩
  have hb2:Below w.heap.size A (A.putObj D (.deferred none)):=⟨rfl,rfl,rfl,by simp,fun k hk=>World.putObj_heap_other (by omega)⟩
  have hfin:(∃ ys,(∀ h,zrj ys h=zte na nss sts S h)∧zgv (A.putObj D (.deferred none)) mb (n+N) (zks f ys))∧KeepX (fun k=>k=mb) w (A.putObj D (.deferred none)):=by
   refine ⟨⟨ys,hys,?_⟩,hkw.thenB hb2⟩
   obtain ⟨D',h1,h2⟩:=hMA.keep (X:=fun _=>False) (w':=A.putObj D (.deferred none)) (World.putObj_heap_other (by omega))
   exact ⟨D',h1.mono (by omega),h2⟩
  have Hfin:=zac hfin
  clear hfin hMA hKA hkw hb2 hys
  gi_wp2
  refine ⟨by simp,.inl ⟨_,_,rfl,run_takeDeferred hdef,?_⟩⟩
  exact ⟨.tuple #[],results_none rfl _ _ _,rfl,zaa Hfin⟩
theorem zcg.keepN {Y:Nat→Prop} {W W':World} {v:Value} {es:List zaj} (h:zcg W v es) (hk:KeepX Y W W') (hN:∀ k,Y k→ztl W k):zcg W' v es:=by
 rcases h with h|⟨b,o,cp,h1,h2⟩
 ·exact .inl h
 ·exact .inr ⟨b,o,cp,h1,h2.keepN hk hN⟩
theorem zps.keepN {Y:Nat→Prop} {W W':World} {XB:Nat} {rs:List (List zaj)} {es:List zaj} (h:zps W XB rs es) (hk:KeepX Y W W') (hN:∀ k,Y k→ztl W k):zps W' XB rs es:=by
 obtain ⟨⟨x0,x1,x2,rv,bv,h1,h2,h3⟩,hf,hl,hc,he⟩:=h
 exact ⟨⟨x0,x1,x2,rv,bv,hk.blkN hN h1,h2.keepN hk hN,h3.keepN hk hN⟩,hf,hl,hc,he⟩
theorem zjm.keepN {Y:Nat→Prop} {W W':World} {v:Value} {xs:List Nat} (h:zjm W v xs) (hk:KeepX Y W W') (hN:∀ k,Y k→ztl W k):zjm W' v xs:=by
 obtain ⟨a,cap,rfl,hx⟩:=h
 refine ⟨a,cap,rfl,fun i hi=>?_⟩
 obtain ⟨b,o,e,d⟩:=hx i hi
 exact ⟨b,o,e,hk.cellN hN d⟩
theorem zjm.below {W W':World} {v:Value} {xs:List Nat} (h:zjm W v xs) (hb:Below W.heap.size W W'):zjm W' v xs:=h.keepN (Y:=fun _=>False) (KeepX.ofBelow hb) (fun _ h=>h.elim)
theorem ycc (ix:Nat→List (List zaj)×List zaj) (n atom:Nat):(fun i=>((zbe ix n atom i).c:Int))=fun _=>0:=by
 funext i
 unfold zbe
 split <;> rfl
def zee (na:Nat) (nss:List (List Int)) (sts:List Stp) (ix:Nat→List (List zaj)×List zaj) (k:Nat) (h:H4):B64:=zbz (List.range k) fun a=>zte na nss sts (zbe ix na a) h
theorem zrv (na:Nat) (nss:List (List Int)) (sts:List Stp) (ix:Nat→List (List zaj)×List zaj) (k:Nat) (h:H4):zee na nss sts ix (k+1) h=zee na nss sts ix k h+zte na nss sts (zbe ix na k) h:=by
 unfold zee
 rw [List.range_succ,zbf]
 simp [zbz]
theorem yge (VB PB mb n na N:Nat) (iv v2:Value) (f:H4→Int) (nss:List (List Int)) (sts:List Stp) (xs:List Nat) (ix:Nat→List (List zaj)×List zaj) (W:World) (hV:W.heap[VB]? = some (.cells #[.pointer (some ⟨PB,0,none⟩),iv,v2,.map (some mb)] 89 (0,0))) (hM:zgv W mb n f)
  (hP:zjl W PB na nss sts) (hI:zjm W iv xs) (hlen:xs.length=na) (hX:∀ i,i<xs.length→zps W (xs[i]?.getD 0) (ix i).1 (ix i).2) (hS:∀ a,a<na→POK na nss sts (zbe ix na a)) (hc:∀ a,a<na→zmn na (zjq nss (zbe ix na a) nss.length)≤N) (hn:n+4*N≤9000000000000000000) :
  Calls Tryz.prog 122 #[.pointer (some ⟨VB,0,none⟩)] W fun e w'=>e=.returned (.tuple #[])∧(∃ f',zgv w' mb (n+na*N) f'∧∀ h,BitVec.ofInt 64 (f' h)=BitVec.ofInt 64 (f h)+zee na nss sts ix na h)∧KeepX (fun k=>k=mb) W w':=by
 refine (callsIn_wide (n:=9)).1 (callsIn_of_wp Tryz.func122 rfl trivial ?_ rfl)
 obtain ⟨ia,icap,rfl,_⟩:=id hI
 have hN:∀ k,k=mb→ztl W k:=fun k e=>e ▸ hM.notC
 have hna4:=hP.na4
 have c1:W.cell? ⟨VB,1,none⟩=some (.slice ia xs.length icap):=zab hV 1
 have HV:=zac hV
 have HM:=zac hM
 have HP:=zac hP
 have HI:=zac hI
 have HX:=zac hX
 have HS:=zac hS
 have Hc:=zac hc
 have HN:=zac hN
 have Hlen:=zac hlen
 clear hV hM hP hI hX hS hc hN hlen
 simp only [Tryz.ntmps122,List.size_toArray,List.length_cons,List.length_nil,Nat.reduceAdd,Nat.reduceSub,Array.replicate_succ,Array.replicate_zero,List.push_toArray,List.append_toArray,List.nil_append,List.cons_append]
 gi_wp2_with fail
 gi_loopw [8] (fun i wr=>∃ k:Nat,k≤xs.length∧i=.int .i64 k∧(∃ f',zgv wr mb (n+k*N) f'∧∀ h,BitVec.ofInt 64 (f' h)=BitVec.ofInt 64 (f h)+zee na nss sts ix k h)∧KeepX (fun k=>k=mb) W wr) (fun i _=>xs.length - (intOf i).toNat)
 case atStart=>exact ⟨0,Nat.zero_le _,rfl,⟨f,by simpa using zaa HM,fun h=>by simp [zee,zbz]⟩,KeepX.refl _ _⟩
 case round =>
  obtain ⟨k,hk,rfl,⟨f',hMr,hfr⟩,hKr⟩:=hrel
  by_cases hlt:k<xs.length
  ·have hkx:(k:Int)<(xs.length:Int):=by omega
   have hkn:k<na:=by have:=zaa Hlen;omega
   have hk4:k<4:=by omega
   have hVr:=hKr.blkN (zaa HN) (zaa HV)
   have hPr:=(zaa HP).keepN hKr (zaa HN)
   have hIr:=(zaa HI).keepN hKr (zaa HN)
   have hXr:∀ i,i<xs.length→zps wr (xs[i]?.getD 0) (ix i).1 (ix i).2:=fun i hi=>((zaa HX) i hi).keepN hKr (zaa HN)
   have c0:wr.cell? ⟨VB,0,none⟩=some (.pointer (some ⟨PB,0,none⟩)):=zab hVr 0
   have har:=zzu VB (.pointer (some ⟨PB,0,none⟩)) (.slice ia xs.length icap) v2 (.map (some mb)) xs ix k wr.drew hVr (hIr.below (zav _ _)) (by have:=zaa Hlen;omega) (fun i hi=>(hXr i hi).below (zav _ _)) (by omega)
   rw [zaa Hlen] at har
   have hNk:n+k*N+N≤9000000000000000000:=by
    have:k*N≤3*N:=Nat.mul_le_mul_right N (by omega)
    omega
   have hadd:∀ (sv:Nat→SV) (w5 w6:World),(∀ i,i<4→zay w5 (sv i).val (zbe ix na k i).rs)→Below wr.heap.size wr w5→w6=(w5.alloc (.cells #[.pointer (some ⟨PB,0,none⟩)] 84)).alloc (.cells (zag sv (fun _=>0)) 192) →
     Calls Tryz.prog 109 #[.pointer (some ⟨VB,0,none⟩),.func (.func 157) #[] #[.pointer (some ⟨w5.heap.size,0,none⟩),.pointer (some ⟨w5.heap.size+1,0,none⟩)]] w6 fun e w'=>e=.returned (.tuple #[])∧(∃ f',zgv w' mb (n+(k+1)*N) f'∧∀ h,BitVec.ofInt 64 (f' h)=BitVec.ofInt 64 (f h)+zee na nss sts ix (k+1) h)∧KeepX (fun k=>k=mb) W w':=by
    intro sv w5 w6 hr5 hb5 hw6
    have hb6:Below w5.heap.size w5 w6:=by rw [hw6];exact ((Below.refl _ _).alloc (Nat.le_refl _) _).alloc (by simp) _
    have hbr:Below wr.heap.size wr w6:=hb5.trans (hb6.mono hb5.size)
    have hp6:w6.heap[w5.heap.size]? = some (.cells #[.pointer (some ⟨PB,0,none⟩)] 84 (0,0)):=by rw [hw6];exact (Below.heap_alloc _ _ _ (by simp)).trans (zae _ _ _ rfl)
    have hq6:w6.heap[w5.heap.size+1]? = some (.cells (zag sv (fun i=>((zbe ix na k i).c:Int))) 192 (0,0)):=by rw [ycc,hw6];exact zae _ _ _ (by simp)
    refine (zzo VB mb (n+k*N) (.pointer (some ⟨PB,0,none⟩)) (.slice ia xs.length icap) v2 f' PB na nss sts sv (zbe ix na k) w5.heap.size (w5.heap.size+1) N w6 ((hbr.block VB (Array.getElem?_eq_some_iff.1 hVr).1).trans hVr) (hMr.keep (X:=fun _=>False) (hbr.block mb hMr.lt)) (hPr.below hbr) ((zaa HS) k hkn) (fun i hi=>(hr5 i hi).below hb6) hp6 hq6 ((zaa Hc) k hkn) hNk).mono ?_
    rintro e w7 ⟨rfl,⟨ys,hys,hM7⟩,hK7⟩
    refine ⟨rfl,⟨zks f' ys,?_,fun h=>?_⟩,hKr.trans (KeepX.trans (KeepX.ofBelow hbr) hK7)⟩
    ·rw [Nat.succ_mul,← Nat.add_assoc];exact hM7
    ·rw [zn1,hfr h,hys h,zrv,BitVec.add_assoc]
   have Har:=zac har
   have Hadd:=zac hadd
   clear har hadd hVr hPr hIr hXr hMr hfr hNk
   gi_wp2_with fail
   refine zdu ?_
   refine wpIn_region_any (by kernel_rfl) ?_
   change wpAnyIn _ _ _ _ _ _ _ _ _ (World.drew _)
   refine wpAnyIn_take (i:=0) (v:=.pointer (some ⟨VB,0,none⟩)) rfl rfl (by kernel_rfl) (by kernel_rfl) (by kernel_rfl) (fun _ _ _ h=>h) ⟨Or.inl ⟨by rfl,(fun w'=>?_)⟩,fun _=>rfl⟩ ?_
   ·go_simp
   refine wpAnyIn_take (i:=1) (v:=.pointer (some ⟨VB,0,none⟩)) rfl rfl (by kernel_rfl) (by kernel_rfl) (by kernel_rfl) (fun _ _ _ h=>h) ⟨Or.inl ⟨by rfl,(fun w'=>?_)⟩,fun _=>rfl⟩ ?_
   ·go_simp
   refine wpAnyIn_take (i:=2) (v:=.pointer (some ⟨VB,0,none⟩)) rfl rfl (by kernel_rfl) (by kernel_rfl) (by kernel_rfl) (fun _ _ _ h=>h) ⟨Or.inl ⟨by rfl,(fun w'=>?_)⟩,fun _=>rfl⟩ ?_
   ·go_simp
   refine wpAnyIn_take (i:=3) (v:=.pointer (some ⟨VB,0,none⟩)) rfl rfl (by kernel_rfl) (by kernel_rfl) (by kernel_rfl) (fun _ _ _ h=>h) ⟨Or.inl ⟨by rfl,(fun w'=>?_)⟩,fun _=>rfl⟩ ?_
   ·go_simp
   refine wpAnyIn_take (i:=5) (v:=.pointer (some ⟨VB,0,none⟩)) rfl rfl (by kernel_rfl) (by kernel_rfl) (by kernel_rfl) (fun _ _ _ h=>h) ⟨Or.inl ⟨by rfl,(fun w'=>?_)⟩,fun _=>rfl⟩ ?_
   ·go_simp
   refine wpAnyIn_take (i:=6) (v:=.int .i64 k) rfl rfl (by kernel_rfl) (by kernel_rfl) (by kernel_rfl) (fun _ _ _ h=>h) ⟨Or.inl ⟨by rfl,(fun w'=>?_)⟩,fun _=>rfl⟩ ?_
   ·go_simp
   refine wpAnyIn_ready (rs:=[4,7]) (by kernel_rfl) (by simp) ?_
   refine AllReadyIn.cons rfl (fun K hK=>?_) (AllReadyIn.cons rfl (fun K hK=>?_) AllReadyIn.nil)
   ·go_simp
    refine hK _ _ ?_
    clear hK K
    refine wpAnyIn_ready (rs:=[7]) (by kernel_rfl) (by simp) ?_
    refine AllReadyIn.cons rfl (fun K hK=>?_) AllReadyIn.nil
    go_simp
    refine ⟨trivial,?_⟩
    refine (callsIn_wide.2 (zaa Har)).mono ?_
    rintro e w5 ⟨sv,rfl,hr5,hb5⟩
    dsimp only
    refine hK _ _ ?_
    clear hK K
    refine wpAnyIn_ready (rs:=[8]) (by kernel_rfl) (by simp) ?_
    refine AllReadyIn.cons rfl (fun K hK=>?_) AllReadyIn.nil
    go_simp
    refine ⟨trivial,?_⟩
    refine (callsIn_wide.2 (zso PB sv (fun _=>0) w5)).mono ?_
    rintro e w6 ⟨rfl,hw6⟩
    dsimp only
    have Hcall:=zac ((zaa Hadd) sv w5 w6 hr5 ((zav _ _).trans hb5) hw6)
    clear hr5 hb5 hw6
    refine hK _ _ ?_
    clear hK K
    refine wpAnyIn_ready (rs:=[9]) (by kernel_rfl) (by simp) ?_
    refine AllReadyIn.cons rfl (fun K hK=>?_) AllReadyIn.nil
    go_simp
    refine ⟨trivial,?_⟩
    refine (callsIn_wide.2 (zaa Hcall)).mono ?_
    rintro e w7 ⟨rfl,h1,h2⟩
    dsimp only
    have H1:=zac h1
    have H2:=zac h2
    clear h1 h2
    refine hK _ _ ?_
    clear hK K
    refine wpAnyIn_done (by kernel_rfl) ?_ _
    dsimp only [zkb]
    gi_wp2
    go_roundw
    case rel=>exact ⟨k+1,by omega,by simp,zaa H1,zaa H2⟩
    case measure=>simp [intOf];omega
   ·go_simp
    refine ⟨trivial,?_⟩
    refine (callsIn_wide.2 (zaa Har)).mono ?_
    rintro e w5 ⟨sv,rfl,hr5,hb5⟩
    dsimp only
    have c05:=(hb5.cell (p:=⟨VB,0,none⟩) (World.block_lt_of_cell? wr _ c0)).trans c0
    refine hK _ _ ?_
    clear hK K
    refine wpAnyIn_ready (rs:=[4]) (by kernel_rfl) (by simp) ?_
    refine AllReadyIn.cons rfl (fun K hK=>?_) AllReadyIn.nil
    go_simp
    refine hK _ _ ?_
    clear hK K
    refine wpAnyIn_ready (rs:=[8]) (by kernel_rfl) (by simp) ?_
    refine AllReadyIn.cons rfl (fun K hK=>?_) AllReadyIn.nil
    go_simp
    refine ⟨trivial,?_⟩
    refine (callsIn_wide.2 (zso PB sv (fun _=>0) w5)).mono ?_
    rintro e w6 ⟨rfl,hw6⟩
    dsimp only
    have Hcall:=zac ((zaa Hadd) sv w5 w6 hr5 ((zav _ _).trans hb5) hw6)
    clear hr5 hb5 hw6
    refine hK _ _ ?_
    clear hK K
    refine wpAnyIn_ready (rs:=[9]) (by kernel_rfl) (by simp) ?_
    refine AllReadyIn.cons rfl (fun K hK=>?_) AllReadyIn.nil
    go_simp
    refine ⟨trivial,?_⟩
    refine (callsIn_wide.2 (zaa Hcall)).mono ?_
    rintro e w7 ⟨rfl,h1,h2⟩
    dsimp only
    have H1:=zac h1
    have H2:=zac h2
    clear h1 h2
    refine hK _ _ ?_
    clear hK K
    refine wpAnyIn_done (by kernel_rfl) ?_ _
    dsimp only [zkb]
    gi_wp2
    go_roundw
    case rel=>exact ⟨k+1,by omega,by simp,zaa H1,zaa H2⟩
    case measure=>simp [intOf];omega
  ·have hke:k=xs.length:=by omega
   subst hke
   rw [zaa Hlen] at hMr hfr
   have Hfin:Hid ((∃ f',zgv wr mb (n+na*N) f'∧∀ h,BitVec.ofInt 64 (f' h)=BitVec.ofInt 64 (f h)+zee na nss sts ix na h)∧KeepX (fun k=>k=mb) W wr):=⟨⟨f',hMr,hfr⟩,hKr⟩
   clear hMr hfr hKr
   gi_wp2
   go_end0
   exact ⟨rfl,zaa Hfin⟩
end Go.Proofs.YtoifcnidhfnapaaGreatDoor
