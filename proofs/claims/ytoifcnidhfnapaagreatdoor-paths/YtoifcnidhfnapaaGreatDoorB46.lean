import Derived.Test.YtoifcnidhfnapaaGreatDoorB45
import Derived.Test.YtoifcnidhfnapaaGreatDoorB10
import Derived.Laws.CopyRow
set_option linter.unusedVariables false
set_option linter.unusedSimpArgs false
set_option maxRecDepth 100000
set_option maxHeartbeats 16000000
namespace Go.Proofs.YtoifcnidhfnapaaGreatDoor
open Go.RowKit Go.Maps Go.Sort Go.Shelf
theorem zar.hmap {X:Nat→Prop} {W W':World} (h:zar X W W') {b n:Nat} {f:H4→Int} (hm:zgv W b n f) (hx:¬ X b):zgv W' b n f:=by
  obtain ⟨D,⟨es,cl,hb,h2⟩,hr⟩:=hm
  exact ⟨D,⟨es,cl,h.same b _ hb (Or.inr rfl) hx,h2⟩,hr⟩
theorem zgv.look {w:World} {b n:Nat} {f:H4→Int} (h:zgv w b n f) {x:H4} (hx:WfH x):(Instr.lookup 87 (.map (some b)) (.agg #[.int .i64 x.1,.int .i64 x.2.1,.int .i64 x.2.2.1,.int .i64 x.2.2.2]) false).run Tryz.prog w=.ok (.int .i64 (f x)) w:=by
  obtain ⟨D,hown,hrep⟩:=h
  obtain ⟨c,hrun,hat,_⟩:=hown.lookup_int zy4 Tryz.underlying87 Tryz.underlying2 (zym _) (zom hx)
  rw [hrep.at_ x hx] at hat
  rw [← zdk hat] at hrun
  exact hrun
namespace H
def za6 (g:H4→Int) (ys:List H4):List (H4×Int):=ys.map fun y=>(y,g y)
theorem zwg (n:Nat) (hn:1≤n) (l Bn mb nn:Nat) (g:H4→Int) (X:Nat→Prop) (J Jx:List (H4×Int)→World→Prop) (N:Nat)
    (hY:∀ pre x W,J pre W→pre.length<N→YieldAt Fence.wide (n - 1) Tryz.prog l #[.agg #[.int .i64 x.1.1,.int .i64 x.1.2.1,.int .i64 x.1.2.2.1,.int .i64 x.1.2.2.2],.int .i64 x.2] W fun e W' =>
      (e=.returned (.bool true)∧J (pre ++ [x]) W'∧zar X W W')∨(e=.returned (.bool false)∧Jx (pre ++ [x]) W'))
    (W:World) (hJ:AbidesFrom W.heap.size J) (hX:∀ k,X k→k<W.heap.size) (hBn:W.cell? ⟨Bn,0,none⟩=some (.map (some mb))) (hBX:¬ X Bn)
    (hmX:¬ X mb) (D:DataW Unit) (hown:W.ownsMap Tryz.prog 134 (plainElem Tryz.prog 2) mb nn D) (hrep:zyq D g) (hnn:nn≤1000000000) (hN:∀ ys,zdg D ys→ys.length≤N) (h0:J [] W) :
    CallsIn Fence.wide n Tryz.prog 114 #[.func (.yield l) #[] #[],.pointer (some ⟨Bn,0,none⟩)] W fun e W'=>(∃ v,e=.returned v) ∧
      ((∃ xs,(∃ ys,zdg D ys∧xs=za6 g ys)∧J xs W')∨(∃ pre,True∧Jx pre W')):=by
  have hBl:=World.block_lt_of_cell? W _ hBn
  have hml:=hown.lt
  dsimp only at hBl
  have hkeys:(w:World)→(hw:w=W.alloc (.cells #[.map (some mb)] 87))→Calls Tryz.prog 115 #[.func (.func 165) #[] #[.pointer (some ⟨W.heap.size,0,none⟩)],zse] w fun e w'=>∃ v ys,e=.returned v∧zdg D ys∧zhs w' v ys∧RowKit.Below w.heap.size w w'∧ys.length≤nn∧∀ gb ln cap,v=.slice (some ⟨gb,0,none⟩) ln cap→w.heap.size≤gb:=
    fun w hw=>zg0 W.heap.size mb nn D g hrep w (by rw [hw];exact zab (zae _ _ _ rfl) 0) (by rw [hw];exact hown.alloc _) hnn
  have Hkeys:=zac (hkeys _ rfl)
  clear hkeys
  refine callsIn_of_wp Tryz.func114 rfl trivial ?_ rfl
  simp only [Tryz.ntmps114,List.size_toArray,List.length_cons,List.length_nil,Nat.reduceAdd,Nat.reduceSub,Array.replicate_succ,Array.replicate_zero,List.push_toArray,List.append_toArray,List.nil_append,List.cons_append]
  gi_wp2_with (first
    | (refine ⟨trivial,?_⟩;gi_at_call 116;refine (callsIn_wide.2 (zgq _ _)).mono ?_;rintro e w' ⟨rfl,rfl⟩)
    | (refine ⟨trivial,?_⟩;gi_at_call 115;refine (callsIn_wide.2 (zaa Hkeys)).mono ?_;rintro e w1 ⟨v,ys,rfl,hR,hT,hb,hyl,hgb⟩;obtain ⟨a,cap,rfl,hcs⟩:=hT))
  have hg1:W.grownBy w1 none:=(World.grownBy_alloc W (.cells #[.map (some mb)] 87) none).trans (zc3 hb none)
  have hJ1:J [] w1:=hJ [] W w1 none h0 hg1 (fun r e=>by cases e)
  have hk1:zar X W w1:=zar.of_grown hg1 (fun j e=>by cases e)
  have hB1:=hk1.cellOf hBn hBX
  have hm1:zgv w1 mb nn g:=hk1.hmap ⟨D,hown,hrep⟩ hmX
  have hys:=hN ys hR
  have hwf:=hR.wf
  have hfr:∀ gb ln cap',Value.slice a ys.length cap=.slice (some ⟨gb,0,none⟩) ln cap'→¬ X gb:=fun gb ln cap' e hx=>by
    have h1:=hgb gb ln cap' e
    have h2:=hX gb hx
    simp at h1
    omega
  have Hcs:=zac hcs
  have HR:=zac hR
  have HJ1:=zac hJ1
  clear hcs hR hJ1 Hkeys hN hgb hown hrep h0
  try go_frame
  gi_loopw [10] (fun i wr=>∃ k:Nat,k≤ys.length∧i=.int .i64 k∧J (za6 g (ys.take k)) wr∧zar X w1 wr∧W.heap.size≤wr.heap.size) (fun i _=>ys.length - (intOf i).toNat)
  case atStart=>exact ⟨0,Nat.zero_le _,rfl,zaa HJ1,zar.refl _ _,hg1.size⟩
  case round =>
    obtain ⟨k,hk,rfl,hJk,hkk,hsk⟩:=hrel
    by_cases hlt:k<ys.length
    · obtain ⟨gb,rfl,d0,d1,d2,d3⟩:=(zaa Hcs) k hlt
      have hx:(k:Int)<(ys.length:Int):=by omega
      have hgX:¬ X gb:=hfr gb _ _ rfl
      replace d0:=hkk.cellOf d0 hgX
      replace d1:=hkk.cellOf d1 hgX
      replace d2:=hkk.cellOf d2 hgX
      replace d3:=hkk.cellOf d3 hgX
      obtain ⟨y,hy⟩:∃ y,y=ys[k]?.getD (0,0,0,0):=⟨_,rfl⟩
      have hye:y=ys[k]:=by rw [hy];simp [hlt]
      have hwy:WfH y:=by rw [hye];exact hwf _ (List.getElem_mem hlt)
      have htk:ys.take (k+1)=ys.take k ++ [y]:=by rw [List.take_succ_eq_append_getElem hlt,hye]
      rw [← hy] at d0 d1 d2 d3
      obtain ⟨y1,y2,y3,y4⟩:=y
      dsimp only at d0 d1 d2 d3
      have hBr:=hkk.cellOf hB1 hBX
      have hmr:=hkk.hmap hm1 hmX
      have Htk:=zac htk
      have HJk:=zac hJk
      have Hkk:=zac hkk
      have Hmr:=zac hmr
      clear hy hye htk hJk hkk hmr
      gi_wp2_with fail
      have hJa:J (za6 g (ys.take k)) (wr.alloc (.cells #[.int .i64 y1,.int .i64 y2,.int .i64 y3,.int .i64 y4] 134)).drew:=
        hJ _ wr _ none (zaa HJk) ((World.grownBy_alloc _ _ none).trans (zf3 _)) (fun r e=>by cases e)
      have hka:zar X wr (wr.alloc (.cells #[.int .i64 y1,.int .i64 y2,.int .i64 y3,.int .i64 y4] 134)).drew:=zar.of_grown ((World.grownBy_alloc _ _ none).trans (zf3 _)) (fun j e=>by cases e)
      have hsa:wr.heap.size<(wr.alloc (.cells #[.int .i64 y1,.int .i64 y2,.int .i64 y3,.int .i64 y4] 134)).drew.heap.size:=by
        show wr.heap.size<(wr.alloc _).heap.size
        simp
      obtain ⟨fn,tmps,assign,body,hy,hR⟩:=hY _ ((y1,y2,y3,y4),g (y1,y2,y3,y4)) _ hJa (by simp [za6];omega)
      have hR':=hR.mono (R':=fun e W'=>∃ r:Bool,e=.returned (.bool r)∧((r=true∧J (za6 g (ys.take k) ++ [((y1,y2,y3,y4),g (y1,y2,y3,y4))]) W'∧zar X (wr.alloc (.cells #[.int .i64 y1,.int .i64 y2,.int .i64 y3,.int .i64 y4] 134)).drew W')∨(r=false∧Jx (za6 g (ys.take k) ++ [((y1,y2,y3,y4),g (y1,y2,y3,y4))]) W'))) (by
        rintro e W3 (⟨rfl,h1,h2⟩|⟨rfl,h1⟩)
        · exact ⟨true,rfl,.inl ⟨rfl,h1,h2⟩⟩
        · exact ⟨false,rfl,.inr ⟨rfl,h1⟩⟩)
      have hlk:(Instr.lookup 87 (.map (some mb)) (.agg #[.int .i64 y1,.int .i64 y2,.int .i64 y3,.int .i64 y4]) false).run Tryz.prog (wr.alloc (.cells #[.int .i64 y1,.int .i64 y2,.int .i64 y3,.int .i64 y4] 134)).drew=.ok (.int .i64 (g (y1,y2,y3,y4))) (wr.alloc (.cells #[.int .i64 y1,.int .i64 y2,.int .i64 y3,.int .i64 y4] 134)).drew:=(hka.hmap (zaa Hmr) hmX).look hwy
      have f0:(wr.alloc (.cells #[.int .i64 y1,.int .i64 y2,.int .i64 y3,.int .i64 y4] 134)).drew.cell? ⟨wr.heap.size,0,none⟩=some (.int .i64 y1):=zab (zae _ _ _ rfl) 0
      have f1:(wr.alloc (.cells #[.int .i64 y1,.int .i64 y2,.int .i64 y3,.int .i64 y4] 134)).drew.cell? ⟨wr.heap.size,1,none⟩=some (.int .i64 y2):=zab (zae _ _ _ rfl) 1
      have f2:(wr.alloc (.cells #[.int .i64 y1,.int .i64 y2,.int .i64 y3,.int .i64 y4] 134)).drew.cell? ⟨wr.heap.size,2,none⟩=some (.int .i64 y3):=zab (zae _ _ _ rfl) 2
      have f3:(wr.alloc (.cells #[.int .i64 y1,.int .i64 y2,.int .i64 y3,.int .i64 y4] 134)).drew.cell? ⟨wr.heap.size,3,none⟩=some (.int .i64 y4):=zab (zae _ _ _ rfl) 3
      have fB:=hka.cellOf hBr hBX
      dsimp only at hy
      have HR':=zac hR'
      have Hka:=zac hka
      have HJa:=zac hJa
      clear hR hR' hka hJa hBr d0 d1 d2 d3 hB1 hm1 hBn hJ hY
      gi_region_with (refine (zaa HR').mono ?_;rintro e W3 ⟨r,rfl,hor⟩)
      all_goals (rcases hor with ⟨rfl,hJ3,hk3⟩|⟨rfl,hx3⟩)
      all_goals first
        | (gi_wp2
           go_roundw
           case rel=>exact ⟨k+1,by omega,by simp,by rw [zaa Htk];simpa [za6] using hJ3,((zaa Hkk).trans (zaa Hka)).trans hk3,by have:=hk3.size;omega⟩
           case measure=>simp [intOf];omega)
        | (gi_wp2
           refine bodyPost_ret (results_none rfl _ _ _) rfl ?_
           exact ⟨⟨_,rfl⟩,.inr ⟨_,trivial,hx3⟩⟩)
    · have hke:k=ys.length:=by omega
      subst hke
      rw [List.take_length] at hJk
      gi_wp2
      go_end0
      exact ⟨⟨_,rfl⟩,.inl ⟨_,⟨ys,zaa HR,rfl⟩,hJk⟩⟩
end H
end Go.Proofs.YtoifcnidhfnapaaGreatDoor
namespace Go.Proofs.YtoifcnidhfnapaaGreatDoor
open Go.RowKit Go.Maps Go.Sort Go.Shelf
attribute [local go_sem] Oper.semAt_some
namespace H
def zh4 (ar:Nat) (y:H4):List Value:=(ze0 y).take ar
theorem ygy (x1 x2 x3 x4 xw:Int) (Bx:Nat) (W:World) (hX:W.heap[Bx]? = some (.cells #[.int .i64 x1,.int .i64 x2,.int .i64 x3,.int .i64 x4] 134 (0,0))) :
  Calls Tryz.prog 39 #[.slice (some ⟨Bx,0,none⟩) 0 4,.int .i64 xw] W fun e w'=>e=.returned (.agg #[.slice (some ⟨W.heap.size+1,0,none⟩) 0 0,.int .i64 xw]) ∧
   w'.heap[W.heap.size+1]? = some (.cells (zh4 0 (x1,x2,x3,x4)).toArray 2 (0,0))∧W.grownBy w' none:=by
 have hBl:Bx<W.heap.size:=(Array.getElem?_eq_some_iff.1 hX).1
 have hmk:∀ w,(Instr.makeSlice 41 (.int .i64 0) (.int .i64 0)).run Tryz.prog w=.ok (.slice (some ⟨w.heap.size,0,none⟩) 0 0) (w.alloc (.cells #[] 2)):=fun _=>by kernel_rfl
 have hX1:(W.alloc (.cells #[.slice none 0 0,.int .i64 0] 79)).heap[Bx]? = some (.cells #[.int .i64 x1,.int .i64 x2,.int .i64 x3,.int .i64 x4] 134 (0,0)):=(Below.heap_alloc W _ Bx hBl).trans hX
 have hX2:((W.alloc (.cells #[.slice none 0 0,.int .i64 0] 79)).alloc (.cells #[] 2)).heap[Bx]? = some (.cells #[.int .i64 x1,.int .i64 x2,.int .i64 x3,.int .i64 x4] 134 (0,0)):=(Below.heap_alloc _ _ Bx (by simp;omega)).trans hX1
 have hsrc:∀ j v,([]:List Value)[j]? = some v→((W.alloc (.cells #[.slice none 0 0,.int .i64 0] 79)).alloc (.cells #[] 2)).cell? ((⟨Bx,0,none⟩:Addr).add j)=some v:=by
  intro j v hj
  simp at hj
 have hR1:((W.alloc (.cells #[.slice none 0 0,.int .i64 0] 79)).alloc (.cells #[] 2)).heap[W.heap.size]? = some (.cells #[.slice none 0 0,.int .i64 0] 79 (0,0)):=(Below.heap_alloc _ _ _ (by simp)).trans (zae _ _ _ rfl)
 have hg1:W.grownBy ((W.alloc (.cells #[.slice none 0 0,.int .i64 0] 79)).alloc (.cells #[] 2)) none:=(World.grownBy_alloc _ _ none).trans (World.grownBy_alloc _ _ none)
 have Hsrc:=zac hsrc
 have HR1:=zac hR1
 have Hg1:=zac hg1
 clear hsrc hX hX1 hX2 hR1 hg1
 refine (callsIn_wide (n:=3)).1 ?_
 refine callsIn_of_wp Tryz.func39 rfl trivial ?_ rfl
 simp only [Tryz.ntmps39,List.size_toArray,List.length_cons,List.length_nil,Nat.reduceAdd,Nat.reduceSub,Array.replicate_succ,Array.replicate_zero,List.push_toArray,List.append_toArray,List.nil_append,List.cons_append]
 gi_wp2_with (first
  | (refine zbk rfl (.tmp 9) (.tmp 10) 41 41 rfl 2 Tryz.underlying41 Tryz.infoSize2 (W.heap.size+1) 0 0 ⟨Bx,0,none⟩ 0 4 rfl rfl #[] 2 (zae _ _ _ (by simp)) [] rfl (zaa Hsrc) rfl (by simp [Value.oneCell']) ?_;intro w2 hv2 hg2;have hR2:=(hg2.block W.heap.size (by simp only [World.size_alloc];omega) (by simp)).trans (zaa HR1);have c0:w2.cell? ⟨W.heap.size,0,none⟩=some (.slice none 0 0):=zab hR2 0;have c1:w2.cell? ⟨W.heap.size,1,none⟩=some (.int .i64 0):=zab hR2 1;have f0:w2.frozen? ⟨W.heap.size,0,none⟩=false:=zad hR2 0;have f1:w2.frozen? ⟨W.heap.size,1,none⟩=false:=zad hR2 1))
 have hga:=za5 w2 ⟨W.heap.size,0,none⟩ (.slice (some ⟨W.heap.size+1,0,none⟩) 0 0)
 have hgb:=za5 (w2.setCell ⟨W.heap.size,0,none⟩ (.slice (some ⟨W.heap.size+1,0,none⟩) 0 0)) ⟨W.heap.size,1,none⟩ (.int .i64 xw)
 have hgs:=hga.trans hgb
 have hl2:=(Array.getElem?_eq_some_iff.1 hv2).1
 refine bodyPost_ret (v:=.agg #[.slice (some ⟨W.heap.size+1,0,none⟩) 0 0,.int .i64 xw]) (by simp [results,Tryz.results39,go_sem,c0,c1,f0,f1]) rfl ⟨rfl,(hgs.block _ hl2 (by simp)).trans hv2,zfb (zaa Hg1) hg2 hgs⟩
theorem zsg (x1 x2 x3 x4 xw:Int) (Bx:Nat) (W:World) (hX:W.heap[Bx]? = some (.cells #[.int .i64 x1,.int .i64 x2,.int .i64 x3,.int .i64 x4] 134 (0,0))) :
  Calls Tryz.prog 39 #[.slice (some ⟨Bx,0,none⟩) 1 4,.int .i64 xw] W fun e w'=>e=.returned (.agg #[.slice (some ⟨W.heap.size+1,0,none⟩) 1 1,.int .i64 xw]) ∧
   w'.heap[W.heap.size+1]? = some (.cells (zh4 1 (x1,x2,x3,x4)).toArray 2 (0,0))∧W.grownBy w' none:=by
 have hBl:Bx<W.heap.size:=(Array.getElem?_eq_some_iff.1 hX).1
 have hmk:∀ w,(Instr.makeSlice 41 (.int .i64 1) (.int .i64 1)).run Tryz.prog w=.ok (.slice (some ⟨w.heap.size,0,none⟩) 1 1) (w.alloc (.cells #[.int .i64 0] 2)):=fun _=>by kernel_rfl
 have hX1:(W.alloc (.cells #[.slice none 0 0,.int .i64 0] 79)).heap[Bx]? = some (.cells #[.int .i64 x1,.int .i64 x2,.int .i64 x3,.int .i64 x4] 134 (0,0)):=(Below.heap_alloc W _ Bx hBl).trans hX
 have hX2:((W.alloc (.cells #[.slice none 0 0,.int .i64 0] 79)).alloc (.cells #[.int .i64 0] 2)).heap[Bx]? = some (.cells #[.int .i64 x1,.int .i64 x2,.int .i64 x3,.int .i64 x4] 134 (0,0)):=(Below.heap_alloc _ _ Bx (by simp;omega)).trans hX1
 have hsrc:∀ j v,([Value.int .i64 x1]:List Value)[j]? = some v→((W.alloc (.cells #[.slice none 0 0,.int .i64 0] 79)).alloc (.cells #[.int .i64 0] 2)).cell? ((⟨Bx,0,none⟩:Addr).add j)=some v:=by
  intro j v hj
  match j,hj with
  | 0,hj=>cases hj;exact zab hX2 0
 have hR1:((W.alloc (.cells #[.slice none 0 0,.int .i64 0] 79)).alloc (.cells #[.int .i64 0] 2)).heap[W.heap.size]? = some (.cells #[.slice none 0 0,.int .i64 0] 79 (0,0)):=(Below.heap_alloc _ _ _ (by simp)).trans (zae _ _ _ rfl)
 have hg1:W.grownBy ((W.alloc (.cells #[.slice none 0 0,.int .i64 0] 79)).alloc (.cells #[.int .i64 0] 2)) none:=(World.grownBy_alloc _ _ none).trans (World.grownBy_alloc _ _ none)
 have Hsrc:=zac hsrc
 have HR1:=zac hR1
 have Hg1:=zac hg1
 clear hsrc hX hX1 hX2 hR1 hg1
 refine (callsIn_wide (n:=3)).1 ?_
 refine callsIn_of_wp Tryz.func39 rfl trivial ?_ rfl
 simp only [Tryz.ntmps39,List.size_toArray,List.length_cons,List.length_nil,Nat.reduceAdd,Nat.reduceSub,Array.replicate_succ,Array.replicate_zero,List.push_toArray,List.append_toArray,List.nil_append,List.cons_append]
 gi_wp2_with (first
  | (refine zbk rfl (.tmp 9) (.tmp 10) 41 41 rfl 2 Tryz.underlying41 Tryz.infoSize2 (W.heap.size+1) 1 1 ⟨Bx,0,none⟩ 1 4 rfl rfl #[.int .i64 0] 2 (zae _ _ _ (by simp)) [.int .i64 x1] rfl (zaa Hsrc) rfl (by simp [Value.oneCell']) ?_;intro w2 hv2 hg2;have hR2:=(hg2.block W.heap.size (by simp only [World.size_alloc];omega) (by simp)).trans (zaa HR1);have c0:w2.cell? ⟨W.heap.size,0,none⟩=some (.slice none 0 0):=zab hR2 0;have c1:w2.cell? ⟨W.heap.size,1,none⟩=some (.int .i64 0):=zab hR2 1;have f0:w2.frozen? ⟨W.heap.size,0,none⟩=false:=zad hR2 0;have f1:w2.frozen? ⟨W.heap.size,1,none⟩=false:=zad hR2 1))
 have hga:=za5 w2 ⟨W.heap.size,0,none⟩ (.slice (some ⟨W.heap.size+1,0,none⟩) 1 1)
 have hgb:=za5 (w2.setCell ⟨W.heap.size,0,none⟩ (.slice (some ⟨W.heap.size+1,0,none⟩) 1 1)) ⟨W.heap.size,1,none⟩ (.int .i64 xw)
 have hgs:=hga.trans hgb
 have hl2:=(Array.getElem?_eq_some_iff.1 hv2).1
 refine bodyPost_ret (v:=.agg #[.slice (some ⟨W.heap.size+1,0,none⟩) 1 1,.int .i64 xw]) (by simp [results,Tryz.results39,go_sem,c0,c1,f0,f1]) rfl ⟨rfl,(hgs.block _ hl2 (by simp)).trans hv2,zfb (zaa Hg1) hg2 hgs⟩
theorem zsh (x1 x2 x3 x4 xw:Int) (Bx:Nat) (W:World) (hX:W.heap[Bx]? = some (.cells #[.int .i64 x1,.int .i64 x2,.int .i64 x3,.int .i64 x4] 134 (0,0))) :
  Calls Tryz.prog 39 #[.slice (some ⟨Bx,0,none⟩) 2 4,.int .i64 xw] W fun e w'=>e=.returned (.agg #[.slice (some ⟨W.heap.size+1,0,none⟩) 2 2,.int .i64 xw]) ∧
   w'.heap[W.heap.size+1]? = some (.cells (zh4 2 (x1,x2,x3,x4)).toArray 2 (0,0))∧W.grownBy w' none:=by
 have hBl:Bx<W.heap.size:=(Array.getElem?_eq_some_iff.1 hX).1
 have hmk:∀ w,(Instr.makeSlice 41 (.int .i64 2) (.int .i64 2)).run Tryz.prog w=.ok (.slice (some ⟨w.heap.size,0,none⟩) 2 2) (w.alloc (.cells #[.int .i64 0,.int .i64 0] 2)):=fun _=>by kernel_rfl
 have hX1:(W.alloc (.cells #[.slice none 0 0,.int .i64 0] 79)).heap[Bx]? = some (.cells #[.int .i64 x1,.int .i64 x2,.int .i64 x3,.int .i64 x4] 134 (0,0)):=(Below.heap_alloc W _ Bx hBl).trans hX
 have hX2:((W.alloc (.cells #[.slice none 0 0,.int .i64 0] 79)).alloc (.cells #[.int .i64 0,.int .i64 0] 2)).heap[Bx]? = some (.cells #[.int .i64 x1,.int .i64 x2,.int .i64 x3,.int .i64 x4] 134 (0,0)):=(Below.heap_alloc _ _ Bx (by simp;omega)).trans hX1
 have hsrc:∀ j v,([Value.int .i64 x1,Value.int .i64 x2]:List Value)[j]? = some v→((W.alloc (.cells #[.slice none 0 0,.int .i64 0] 79)).alloc (.cells #[.int .i64 0,.int .i64 0] 2)).cell? ((⟨Bx,0,none⟩:Addr).add j)=some v:=by
  intro j v hj
  match j,hj with
  | 0,hj=>cases hj;exact zab hX2 0
  | 1,hj=>cases hj;exact zab hX2 1
 have hR1:((W.alloc (.cells #[.slice none 0 0,.int .i64 0] 79)).alloc (.cells #[.int .i64 0,.int .i64 0] 2)).heap[W.heap.size]? = some (.cells #[.slice none 0 0,.int .i64 0] 79 (0,0)):=(Below.heap_alloc _ _ _ (by simp)).trans (zae _ _ _ rfl)
 have hg1:W.grownBy ((W.alloc (.cells #[.slice none 0 0,.int .i64 0] 79)).alloc (.cells #[.int .i64 0,.int .i64 0] 2)) none:=(World.grownBy_alloc _ _ none).trans (World.grownBy_alloc _ _ none)
 have Hsrc:=zac hsrc
 have HR1:=zac hR1
 have Hg1:=zac hg1
 clear hsrc hX hX1 hX2 hR1 hg1
 refine (callsIn_wide (n:=3)).1 ?_
 refine callsIn_of_wp Tryz.func39 rfl trivial ?_ rfl
 simp only [Tryz.ntmps39,List.size_toArray,List.length_cons,List.length_nil,Nat.reduceAdd,Nat.reduceSub,Array.replicate_succ,Array.replicate_zero,List.push_toArray,List.append_toArray,List.nil_append,List.cons_append]
 gi_wp2_with (first
  | (refine zbk rfl (.tmp 9) (.tmp 10) 41 41 rfl 2 Tryz.underlying41 Tryz.infoSize2 (W.heap.size+1) 2 2 ⟨Bx,0,none⟩ 2 4 rfl rfl #[.int .i64 0,.int .i64 0] 2 (zae _ _ _ (by simp)) [.int .i64 x1,.int .i64 x2] rfl (zaa Hsrc) rfl (by simp [Value.oneCell']) ?_;intro w2 hv2 hg2;have hR2:=(hg2.block W.heap.size (by simp only [World.size_alloc];omega) (by simp)).trans (zaa HR1);have c0:w2.cell? ⟨W.heap.size,0,none⟩=some (.slice none 0 0):=zab hR2 0;have c1:w2.cell? ⟨W.heap.size,1,none⟩=some (.int .i64 0):=zab hR2 1;have f0:w2.frozen? ⟨W.heap.size,0,none⟩=false:=zad hR2 0;have f1:w2.frozen? ⟨W.heap.size,1,none⟩=false:=zad hR2 1))
 have hga:=za5 w2 ⟨W.heap.size,0,none⟩ (.slice (some ⟨W.heap.size+1,0,none⟩) 2 2)
 have hgb:=za5 (w2.setCell ⟨W.heap.size,0,none⟩ (.slice (some ⟨W.heap.size+1,0,none⟩) 2 2)) ⟨W.heap.size,1,none⟩ (.int .i64 xw)
 have hgs:=hga.trans hgb
 have hl2:=(Array.getElem?_eq_some_iff.1 hv2).1
 refine bodyPost_ret (v:=.agg #[.slice (some ⟨W.heap.size+1,0,none⟩) 2 2,.int .i64 xw]) (by simp [results,Tryz.results39,go_sem,c0,c1,f0,f1]) rfl ⟨rfl,(hgs.block _ hl2 (by simp)).trans hv2,zfb (zaa Hg1) hg2 hgs⟩
theorem zsi (x1 x2 x3 x4 xw:Int) (Bx:Nat) (W:World) (hX:W.heap[Bx]? = some (.cells #[.int .i64 x1,.int .i64 x2,.int .i64 x3,.int .i64 x4] 134 (0,0))) :
  Calls Tryz.prog 39 #[.slice (some ⟨Bx,0,none⟩) 3 4,.int .i64 xw] W fun e w'=>e=.returned (.agg #[.slice (some ⟨W.heap.size+1,0,none⟩) 3 3,.int .i64 xw]) ∧
   w'.heap[W.heap.size+1]? = some (.cells (zh4 3 (x1,x2,x3,x4)).toArray 2 (0,0))∧W.grownBy w' none:=by
 have hBl:Bx<W.heap.size:=(Array.getElem?_eq_some_iff.1 hX).1
 have hmk:∀ w,(Instr.makeSlice 41 (.int .i64 3) (.int .i64 3)).run Tryz.prog w=.ok (.slice (some ⟨w.heap.size,0,none⟩) 3 3) (w.alloc (.cells #[.int .i64 0,.int .i64 0,.int .i64 0] 2)):=fun _=>by kernel_rfl
 have hX1:(W.alloc (.cells #[.slice none 0 0,.int .i64 0] 79)).heap[Bx]? = some (.cells #[.int .i64 x1,.int .i64 x2,.int .i64 x3,.int .i64 x4] 134 (0,0)):=(Below.heap_alloc W _ Bx hBl).trans hX
 have hX2:((W.alloc (.cells #[.slice none 0 0,.int .i64 0] 79)).alloc (.cells #[.int .i64 0,.int .i64 0,.int .i64 0] 2)).heap[Bx]? = some (.cells #[.int .i64 x1,.int .i64 x2,.int .i64 x3,.int .i64 x4] 134 (0,0)):=(Below.heap_alloc _ _ Bx (by simp;omega)).trans hX1
 have hsrc:∀ j v,([Value.int .i64 x1,Value.int .i64 x2,Value.int .i64 x3]:List Value)[j]? = some v→((W.alloc (.cells #[.slice none 0 0,.int .i64 0] 79)).alloc (.cells #[.int .i64 0,.int .i64 0,.int .i64 0] 2)).cell? ((⟨Bx,0,none⟩:Addr).add j)=some v:=by
  intro j v hj
  match j,hj with
  | 0,hj=>cases hj;exact zab hX2 0
  | 1,hj=>cases hj;exact zab hX2 1
  | 2,hj=>cases hj;exact zab hX2 2
 have hR1:((W.alloc (.cells #[.slice none 0 0,.int .i64 0] 79)).alloc (.cells #[.int .i64 0,.int .i64 0,.int .i64 0] 2)).heap[W.heap.size]? = some (.cells #[.slice none 0 0,.int .i64 0] 79 (0,0)):=(Below.heap_alloc _ _ _ (by simp)).trans (zae _ _ _ rfl)
 have hg1:W.grownBy ((W.alloc (.cells #[.slice none 0 0,.int .i64 0] 79)).alloc (.cells #[.int .i64 0,.int .i64 0,.int .i64 0] 2)) none:=(World.grownBy_alloc _ _ none).trans (World.grownBy_alloc _ _ none)
 have Hsrc:=zac hsrc
 have HR1:=zac hR1
 have Hg1:=zac hg1
 clear hsrc hX hX1 hX2 hR1 hg1
 refine (callsIn_wide (n:=3)).1 ?_
 refine callsIn_of_wp Tryz.func39 rfl trivial ?_ rfl
 simp only [Tryz.ntmps39,List.size_toArray,List.length_cons,List.length_nil,Nat.reduceAdd,Nat.reduceSub,Array.replicate_succ,Array.replicate_zero,List.push_toArray,List.append_toArray,List.nil_append,List.cons_append]
 gi_wp2_with (first
  | (refine zbk rfl (.tmp 9) (.tmp 10) 41 41 rfl 2 Tryz.underlying41 Tryz.infoSize2 (W.heap.size+1) 3 3 ⟨Bx,0,none⟩ 3 4 rfl rfl #[.int .i64 0,.int .i64 0,.int .i64 0] 2 (zae _ _ _ (by simp)) [.int .i64 x1,.int .i64 x2,.int .i64 x3] rfl (zaa Hsrc) rfl (by simp [Value.oneCell']) ?_;intro w2 hv2 hg2;have hR2:=(hg2.block W.heap.size (by simp only [World.size_alloc];omega) (by simp)).trans (zaa HR1);have c0:w2.cell? ⟨W.heap.size,0,none⟩=some (.slice none 0 0):=zab hR2 0;have c1:w2.cell? ⟨W.heap.size,1,none⟩=some (.int .i64 0):=zab hR2 1;have f0:w2.frozen? ⟨W.heap.size,0,none⟩=false:=zad hR2 0;have f1:w2.frozen? ⟨W.heap.size,1,none⟩=false:=zad hR2 1))
 have hga:=za5 w2 ⟨W.heap.size,0,none⟩ (.slice (some ⟨W.heap.size+1,0,none⟩) 3 3)
 have hgb:=za5 (w2.setCell ⟨W.heap.size,0,none⟩ (.slice (some ⟨W.heap.size+1,0,none⟩) 3 3)) ⟨W.heap.size,1,none⟩ (.int .i64 xw)
 have hgs:=hga.trans hgb
 have hl2:=(Array.getElem?_eq_some_iff.1 hv2).1
 refine bodyPost_ret (v:=.agg #[.slice (some ⟨W.heap.size+1,0,none⟩) 3 3,.int .i64 xw]) (by simp [results,Tryz.results39,go_sem,c0,c1,f0,f1]) rfl ⟨rfl,(hgs.block _ hl2 (by simp)).trans hv2,zfb (zaa Hg1) hg2 hgs⟩
theorem ygz (x1 x2 x3 x4 xw:Int) (Bx:Nat) (W:World) (hX:W.heap[Bx]? = some (.cells #[.int .i64 x1,.int .i64 x2,.int .i64 x3,.int .i64 x4] 134 (0,0))) :
  Calls Tryz.prog 39 #[.slice (some ⟨Bx,0,none⟩) 4 4,.int .i64 xw] W fun e w'=>e=.returned (.agg #[.slice (some ⟨W.heap.size+1,0,none⟩) 4 4,.int .i64 xw]) ∧
   w'.heap[W.heap.size+1]? = some (.cells (zh4 4 (x1,x2,x3,x4)).toArray 2 (0,0))∧W.grownBy w' none:=by
 have hBl:Bx<W.heap.size:=(Array.getElem?_eq_some_iff.1 hX).1
 have hmk:∀ w,(Instr.makeSlice 41 (.int .i64 4) (.int .i64 4)).run Tryz.prog w=.ok (.slice (some ⟨w.heap.size,0,none⟩) 4 4) (w.alloc (.cells #[.int .i64 0,.int .i64 0,.int .i64 0,.int .i64 0] 2)):=fun _=>by kernel_rfl
 have hX1:(W.alloc (.cells #[.slice none 0 0,.int .i64 0] 79)).heap[Bx]? = some (.cells #[.int .i64 x1,.int .i64 x2,.int .i64 x3,.int .i64 x4] 134 (0,0)):=(Below.heap_alloc W _ Bx hBl).trans hX
 have hX2:((W.alloc (.cells #[.slice none 0 0,.int .i64 0] 79)).alloc (.cells #[.int .i64 0,.int .i64 0,.int .i64 0,.int .i64 0] 2)).heap[Bx]? = some (.cells #[.int .i64 x1,.int .i64 x2,.int .i64 x3,.int .i64 x4] 134 (0,0)):=(Below.heap_alloc _ _ Bx (by simp;omega)).trans hX1
 have hsrc:∀ j v,([Value.int .i64 x1,Value.int .i64 x2,Value.int .i64 x3,Value.int .i64 x4]:List Value)[j]? = some v→((W.alloc (.cells #[.slice none 0 0,.int .i64 0] 79)).alloc (.cells #[.int .i64 0,.int .i64 0,.int .i64 0,.int .i64 0] 2)).cell? ((⟨Bx,0,none⟩:Addr).add j)=some v:=by
  intro j v hj
  match j,hj with
  | 0,hj=>cases hj;exact zab hX2 0
  | 1,hj=>cases hj;exact zab hX2 1
  | 2,hj=>cases hj;exact zab hX2 2
  | 3,hj=>cases hj;exact zab hX2 3
 have hR1:((W.alloc (.cells #[.slice none 0 0,.int .i64 0] 79)).alloc (.cells #[.int .i64 0,.int .i64 0,.int .i64 0,.int .i64 0] 2)).heap[W.heap.size]? = some (.cells #[.slice none 0 0,.int .i64 0] 79 (0,0)):=(Below.heap_alloc _ _ _ (by simp)).trans (zae _ _ _ rfl)
 have hg1:W.grownBy ((W.alloc (.cells #[.slice none 0 0,.int .i64 0] 79)).alloc (.cells #[.int .i64 0,.int .i64 0,.int .i64 0,.int .i64 0] 2)) none:=(World.grownBy_alloc _ _ none).trans (World.grownBy_alloc _ _ none)
 have Hsrc:=zac hsrc
 have HR1:=zac hR1
 have Hg1:=zac hg1
 clear hsrc hX hX1 hX2 hR1 hg1
 refine (callsIn_wide (n:=3)).1 ?_
 refine callsIn_of_wp Tryz.func39 rfl trivial ?_ rfl
 simp only [Tryz.ntmps39,List.size_toArray,List.length_cons,List.length_nil,Nat.reduceAdd,Nat.reduceSub,Array.replicate_succ,Array.replicate_zero,List.push_toArray,List.append_toArray,List.nil_append,List.cons_append]
 gi_wp2_with (first
  | (refine zbk rfl (.tmp 9) (.tmp 10) 41 41 rfl 2 Tryz.underlying41 Tryz.infoSize2 (W.heap.size+1) 4 4 ⟨Bx,0,none⟩ 4 4 rfl rfl #[.int .i64 0,.int .i64 0,.int .i64 0,.int .i64 0] 2 (zae _ _ _ (by simp)) [.int .i64 x1,.int .i64 x2,.int .i64 x3,.int .i64 x4] rfl (zaa Hsrc) rfl (by simp [Value.oneCell']) ?_;intro w2 hv2 hg2;have hR2:=(hg2.block W.heap.size (by simp only [World.size_alloc];omega) (by simp)).trans (zaa HR1);have c0:w2.cell? ⟨W.heap.size,0,none⟩=some (.slice none 0 0):=zab hR2 0;have c1:w2.cell? ⟨W.heap.size,1,none⟩=some (.int .i64 0):=zab hR2 1;have f0:w2.frozen? ⟨W.heap.size,0,none⟩=false:=zad hR2 0;have f1:w2.frozen? ⟨W.heap.size,1,none⟩=false:=zad hR2 1))
 have hga:=za5 w2 ⟨W.heap.size,0,none⟩ (.slice (some ⟨W.heap.size+1,0,none⟩) 4 4)
 have hgb:=za5 (w2.setCell ⟨W.heap.size,0,none⟩ (.slice (some ⟨W.heap.size+1,0,none⟩) 4 4)) ⟨W.heap.size,1,none⟩ (.int .i64 xw)
 have hgs:=hga.trans hgb
 have hl2:=(Array.getElem?_eq_some_iff.1 hv2).1
 refine bodyPost_ret (v:=.agg #[.slice (some ⟨W.heap.size+1,0,none⟩) 4 4,.int .i64 xw]) (by simp [results,Tryz.results39,go_sem,c0,c1,f0,f1]) rfl ⟨rfl,(hgs.block _ hl2 (by simp)).trans hv2,zfb (zaa Hg1) hg2 hgs⟩
theorem zme (ar:Nat) (har:ar≤4) (x1 x2 x3 x4 xw:Int) (Bx:Nat) (W:World) (hX:W.heap[Bx]? = some (.cells #[.int .i64 x1,.int .i64 x2,.int .i64 x3,.int .i64 x4] 134 (0,0))) :
  Calls Tryz.prog 39 #[.slice (some ⟨Bx,0,none⟩) ar 4,.int .i64 xw] W fun e w'=>e=.returned (.agg #[.slice (some ⟨W.heap.size+1,0,none⟩) ar ar,.int .i64 xw]) ∧
   w'.heap[W.heap.size+1]? = some (.cells (zh4 ar (x1,x2,x3,x4)).toArray 2 (0,0))∧W.grownBy w' none:=by
 match ar,har with
 | 0,_=>exact ygy x1 x2 x3 x4 xw Bx W hX
 | 1,_=>exact zsg x1 x2 x3 x4 xw Bx W hX
 | 2,_=>exact zsh x1 x2 x3 x4 xw Bx W hX
 | 3,_=>exact zsi x1 x2 x3 x4 xw Bx W hX
 | 4,_=>exact ygz x1 x2 x3 x4 xw Bx W hX
end H
end Go.Proofs.YtoifcnidhfnapaaGreatDoor
