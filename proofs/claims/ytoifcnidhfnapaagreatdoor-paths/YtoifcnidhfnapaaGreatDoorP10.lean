import Derived.Test.YtoifcnidhfnapaaGreatDoorP09
import Derived.Laws.CopyRow
set_option linter.unusedVariables false
set_option linter.unusedSimpArgs false
namespace Go.Proofs.YtoifcnidhfnapaaGreatDoor
open Go.RowKit Go.Maps Go.Sort Go.Shelf
attribute [local go_sem] Oper.semAt_some
theorem za9 {F:Fence} {n:Nat} {P:Program} {w:World} {ops:Array Oper} {rest:List Oper} {o:Oper} {a:Act} {Q:Exit→Act→World→Prop} (hgd:o.guard=none) (d s:Operand) (dT sT:TypeId)
  (ho:o.op=.call { callee:=.builtin .copy,args:=#[d,s],argTypes:=#[dT,sT] }) (elem:TypeId) (hu:P.underlying dT=some (.slice elem)) (hsz:(P.info? elem).map (·.size)=some 1)
  (g dLen dCap:Nat) (ad:Addr) (sLen sCap:Nat) (hd:a.eval d=.slice (some ⟨g,0,none⟩) dLen dCap) (hs:a.eval s=.slice (some ad) sLen sCap)
  (cur:Array Value) (t:TypeId) (hg:w.heap[g]? = some (.cells cur t (0,0))) (cs:List Value) (hn:cs.length=Nat.min sLen dLen)
  (hsrc:∀ j v,cs[j]? = some v→w.cell? (ad.add j)=some v) (hfit:cs.length=cur.size) (h1:∀ v∈cs,v.oneCell'=true)
  (h:∀ w',w'.heap[g]? = some (.cells cs.toArray t (0,0))→w.grownBy w' (some g)→wpListIn F n P ops Q rest (a.put o.dst (goInt cs.length)) w'):wpListIn F n P ops Q (o :: rest) a w:=by
 refine wpListIn_plain hgd fun K hK'=>?_
 have hrun:=run_copy_row (P:=P) w dT sT o.type elem g 0 dLen dCap ad sLen sCap cur t cs hu hsz hg hn hsrc (by omega) h1
 unfold Oper.wpIn
 refine ⟨?_,?_⟩
 ·simp [Oper.about,ho,resolve,Target.leads,Sem.run_pure]
 ·rw [Oper.semAt_plain F _ _ (by rw [ho];intro c hc';cases hc')]
  simp [execOp,ho,resolve,invoke,builtin,hd,hs,hrun,Result.andThen]
  refine hK' _ _ (h _ ?_ ⟨rfl,rfl,rfl,by simp [World.setRow],fun k hk hne=>setRow_other w g k _ (fun e=>hne (by rw [e]))⟩)
  rw [setRow_heap w g _ _ t _ hg]
  simp [hfit]
def zgp (ar:Nat) (y:Row):List Value:=(encR y).take ar
theorem grown_fresh {W w2:World} {o:Obj} (h:(W.alloc o).grownBy w2 (some W.heap.size)):W.grownBy w2 none:=
 ⟨h.os,h.tape,h.output,by have:=h.size;simp at this;omega,fun k hk _=>(h.block k (by simp;omega) (by simp;omega)).trans (Below.heap_alloc W o k hk)⟩
theorem za1 (w:World) (a:Addr) (v:Value):w.grownBy (w.setCell a v) (some a.block):=
 ⟨rfl,rfl,rfl,by simp [World.setCell],fun k hk hne=>by
  simp only [World.setCell]
  rw [Array.getElem?_modify,if_neg (fun e=>hne (by rw [e]))]⟩
theorem zen {W A w2 w3:World} (h1:W.grownBy A none) (h2:A.grownBy w2 (some (W.heap.size+1))) (h3:w2.grownBy w3 (some W.heap.size)):W.grownBy w3 none:=
 ⟨h3.os.trans (h2.os.trans h1.os),h3.tape.trans (h2.tape.trans h1.tape),h3.output.trans (h2.output.trans h1.output),Nat.le_trans h1.size (Nat.le_trans h2.size h3.size),fun k hk _ =>
  (h3.block k (Nat.lt_of_lt_of_le hk (Nat.le_trans h1.size h2.size)) (by simp;omega)).trans ((h2.block k (Nat.lt_of_lt_of_le hk h1.size) (by simp;omega)).trans (h1.block k hk (by simp)))⟩
set_option maxRecDepth 100000 in
set_option maxHeartbeats 1000000 in
theorem zo2 (x1 x2 x3 xw:Int) (Bx:Nat) (W:World) (hX:W.heap[Bx]? = some (.cells #[.int .i64 x1,.int .i64 x2,.int .i64 x3] 77 (0,0))) :
  Calls Tryz.prog 39 #[.slice (some ⟨Bx,0,none⟩) 1 3,.int .i64 xw] W fun e w'=>e=.returned (.agg #[.slice (some ⟨W.heap.size+1,0,none⟩) 1 1,.int .i64 xw]) ∧
   w'.heap[W.heap.size+1]? = some (.cells (zgp 1 (x1,x2,x3)).toArray 2 (0,0))∧W.grownBy w' none:=by
 have hBl:Bx<W.heap.size:=(Array.getElem?_eq_some_iff.1 hX).1
 have hmk:∀ w,(Instr.makeSlice 41 (.int .i64 1) (.int .i64 1)).run Tryz.prog w=.ok (.slice (some ⟨w.heap.size,0,none⟩) 1 1) (w.alloc (.cells #[.int .i64 0] 2)):=fun _=>by kernel_rfl
 have hX1:(W.alloc (.cells #[.slice none 0 0,.int .i64 0] 79)).heap[Bx]? = some (.cells #[.int .i64 x1,.int .i64 x2,.int .i64 x3] 77 (0,0)):=(Below.heap_alloc W _ Bx hBl).trans hX
 have hX2:((W.alloc (.cells #[.slice none 0 0,.int .i64 0] 79)).alloc (.cells #[.int .i64 0] 2)).heap[Bx]? = some (.cells #[.int .i64 x1,.int .i64 x2,.int .i64 x3] 77 (0,0)):=(Below.heap_alloc _ _ Bx (by simp;omega)).trans hX1
 have hsrc:∀ j v,[Value.int .i64 x1][j]? = some v→((W.alloc (.cells #[.slice none 0 0,.int .i64 0] 79)).alloc (.cells #[.int .i64 0] 2)).cell? ((⟨Bx,0,none⟩:Addr).add j)=some v:=by
  intro j v hj
  match j,hj with
  | 0,hj=>cases hj;exact zab hX2 0
 have hR1:((W.alloc (.cells #[.slice none 0 0,.int .i64 0] 79)).alloc (.cells #[.int .i64 0] 2)).heap[W.heap.size]? = some (.cells #[.slice none 0 0,.int .i64 0] 79 (0,0)):=(Below.heap_alloc _ _ _ (by simp)).trans (zad _ _ _ rfl)
 have hg1:W.grownBy ((W.alloc (.cells #[.slice none 0 0,.int .i64 0] 79)).alloc (.cells #[.int .i64 0] 2)) none:=(World.grownBy_alloc _ _ none).trans (World.grownBy_alloc _ _ none)
 have Hsrc:=hide hsrc
 have HR1:=hide hR1
 have Hg1:=hide hg1
 clear hsrc hX hX1 hX2 hR1 hg1
 refine (callsIn_wide (n:=3)).1 ?_
 refine callsIn_of_wp Tryz.func39 rfl trivial ?_ rfl
 simp only [Tryz.ntmps39,List.size_toArray,List.length_cons,List.length_nil,Nat.reduceAdd,Nat.reduceSub,Array.replicate_succ,Array.replicate_zero,List.push_toArray,List.append_toArray,List.nil_append,List.cons_append]
 gi_wp2_with (first
  | (refine za9 rfl (.tmp 9) (.tmp 10) 41 41 rfl 2 Tryz.underlying41 Tryz.infoSize2 (W.heap.size+1) 1 1 ⟨Bx,0,none⟩ 1 3 rfl rfl #[.int .i64 0] 2 (zad _ _ _ (by simp)) [.int .i64 x1] rfl (zaa Hsrc) rfl (by simp [Value.oneCell']) ?_;intro w2 hv2 hg2;have hR2:=(hg2.block W.heap.size (by simp only [World.size_alloc];omega) (by simp)).trans (zaa HR1);have c0:w2.cell? ⟨W.heap.size,0,none⟩=some (.slice none 0 0):=zab hR2 0;have c1:w2.cell? ⟨W.heap.size,1,none⟩=some (.int .i64 0):=zab hR2 1;have f0:w2.frozen? ⟨W.heap.size,0,none⟩=false:=zac hR2 0;have f1:w2.frozen? ⟨W.heap.size,1,none⟩=false:=zac hR2 1))
 have hga:=za1 w2 ⟨W.heap.size,0,none⟩ (.slice (some ⟨W.heap.size+1,0,none⟩) 1 1)
 have hgb:=za1 (w2.setCell ⟨W.heap.size,0,none⟩ (.slice (some ⟨W.heap.size+1,0,none⟩) 1 1)) ⟨W.heap.size,1,none⟩ (.int .i64 xw)
 have hgs:=hga.trans hgb
 have hl2:=(Array.getElem?_eq_some_iff.1 hv2).1
 refine bodyPost_ret (v:=.agg #[.slice (some ⟨W.heap.size+1,0,none⟩) 1 1,.int .i64 xw]) (by simp [results,Tryz.results39,go_sem,c0,c1,f0,f1]) rfl ⟨rfl,(hgs.block _ hl2 (by simp)).trans hv2,zen (zaa Hg1) hg2 hgs⟩
set_option maxRecDepth 100000 in
set_option maxHeartbeats 1000000 in
theorem zpd (x1 x2 x3 xw:Int) (Bx:Nat) (W:World) (hX:W.heap[Bx]? = some (.cells #[.int .i64 x1,.int .i64 x2,.int .i64 x3] 77 (0,0))) :
  Calls Tryz.prog 39 #[.slice (some ⟨Bx,0,none⟩) 2 3,.int .i64 xw] W fun e w'=>e=.returned (.agg #[.slice (some ⟨W.heap.size+1,0,none⟩) 2 2,.int .i64 xw]) ∧
   w'.heap[W.heap.size+1]? = some (.cells (zgp 2 (x1,x2,x3)).toArray 2 (0,0))∧W.grownBy w' none:=by
 have hBl:Bx<W.heap.size:=(Array.getElem?_eq_some_iff.1 hX).1
 have hmk:∀ w,(Instr.makeSlice 41 (.int .i64 2) (.int .i64 2)).run Tryz.prog w=.ok (.slice (some ⟨w.heap.size,0,none⟩) 2 2) (w.alloc (.cells #[.int .i64 0,.int .i64 0] 2)):=fun _=>by kernel_rfl
 have hX1:(W.alloc (.cells #[.slice none 0 0,.int .i64 0] 79)).heap[Bx]? = some (.cells #[.int .i64 x1,.int .i64 x2,.int .i64 x3] 77 (0,0)):=(Below.heap_alloc W _ Bx hBl).trans hX
 have hX2:((W.alloc (.cells #[.slice none 0 0,.int .i64 0] 79)).alloc (.cells #[.int .i64 0,.int .i64 0] 2)).heap[Bx]? = some (.cells #[.int .i64 x1,.int .i64 x2,.int .i64 x3] 77 (0,0)):=(Below.heap_alloc _ _ Bx (by simp;omega)).trans hX1
 have hsrc:∀ j v,[Value.int .i64 x1,Value.int .i64 x2][j]? = some v→((W.alloc (.cells #[.slice none 0 0,.int .i64 0] 79)).alloc (.cells #[.int .i64 0,.int .i64 0] 2)).cell? ((⟨Bx,0,none⟩:Addr).add j)=some v:=by
  intro j v hj
  match j,hj with
  | 0,hj=>cases hj;exact zab hX2 0
  | 1,hj=>cases hj;exact zab hX2 1
 have hR1:((W.alloc (.cells #[.slice none 0 0,.int .i64 0] 79)).alloc (.cells #[.int .i64 0,.int .i64 0] 2)).heap[W.heap.size]? = some (.cells #[.slice none 0 0,.int .i64 0] 79 (0,0)):=(Below.heap_alloc _ _ _ (by simp)).trans (zad _ _ _ rfl)
 have hg1:W.grownBy ((W.alloc (.cells #[.slice none 0 0,.int .i64 0] 79)).alloc (.cells #[.int .i64 0,.int .i64 0] 2)) none:=(World.grownBy_alloc _ _ none).trans (World.grownBy_alloc _ _ none)
 have Hsrc:=hide hsrc
 have HR1:=hide hR1
 have Hg1:=hide hg1
 clear hsrc hX hX1 hX2 hR1 hg1
 refine (callsIn_wide (n:=3)).1 ?_
 refine callsIn_of_wp Tryz.func39 rfl trivial ?_ rfl
 simp only [Tryz.ntmps39,List.size_toArray,List.length_cons,List.length_nil,Nat.reduceAdd,Nat.reduceSub,Array.replicate_succ,Array.replicate_zero,List.push_toArray,List.append_toArray,List.nil_append,List.cons_append]
 gi_wp2_with (first
  | (refine za9 rfl (.tmp 9) (.tmp 10) 41 41 rfl 2 Tryz.underlying41 Tryz.infoSize2 (W.heap.size+1) 2 2 ⟨Bx,0,none⟩ 2 3 rfl rfl #[.int .i64 0,.int .i64 0] 2 (zad _ _ _ (by simp)) [.int .i64 x1,.int .i64 x2] rfl (zaa Hsrc) rfl (by simp [Value.oneCell']) ?_;intro w2 hv2 hg2;have hR2:=(hg2.block W.heap.size (by simp only [World.size_alloc];omega) (by simp)).trans (zaa HR1);have c0:w2.cell? ⟨W.heap.size,0,none⟩=some (.slice none 0 0):=zab hR2 0;have c1:w2.cell? ⟨W.heap.size,1,none⟩=some (.int .i64 0):=zab hR2 1;have f0:w2.frozen? ⟨W.heap.size,0,none⟩=false:=zac hR2 0;have f1:w2.frozen? ⟨W.heap.size,1,none⟩=false:=zac hR2 1))
 have hga:=za1 w2 ⟨W.heap.size,0,none⟩ (.slice (some ⟨W.heap.size+1,0,none⟩) 2 2)
 have hgb:=za1 (w2.setCell ⟨W.heap.size,0,none⟩ (.slice (some ⟨W.heap.size+1,0,none⟩) 2 2)) ⟨W.heap.size,1,none⟩ (.int .i64 xw)
 have hgs:=hga.trans hgb
 have hl2:=(Array.getElem?_eq_some_iff.1 hv2).1
 refine bodyPost_ret (v:=.agg #[.slice (some ⟨W.heap.size+1,0,none⟩) 2 2,.int .i64 xw]) (by simp [results,Tryz.results39,go_sem,c0,c1,f0,f1]) rfl ⟨rfl,(hgs.block _ hl2 (by simp)).trans hv2,zen (zaa Hg1) hg2 hgs⟩
set_option maxRecDepth 100000 in
set_option maxHeartbeats 1000000 in
theorem zpv (x1 x2 x3 xw:Int) (Bx:Nat) (W:World) (hX:W.heap[Bx]? = some (.cells #[.int .i64 x1,.int .i64 x2,.int .i64 x3] 77 (0,0))) :
  Calls Tryz.prog 39 #[.slice (some ⟨Bx,0,none⟩) 3 3,.int .i64 xw] W fun e w'=>e=.returned (.agg #[.slice (some ⟨W.heap.size+1,0,none⟩) 3 3,.int .i64 xw]) ∧
   w'.heap[W.heap.size+1]? = some (.cells (zgp 3 (x1,x2,x3)).toArray 2 (0,0))∧W.grownBy w' none:=by
 have hBl:Bx<W.heap.size:=(Array.getElem?_eq_some_iff.1 hX).1
 have hmk:∀ w,(Instr.makeSlice 41 (.int .i64 3) (.int .i64 3)).run Tryz.prog w=.ok (.slice (some ⟨w.heap.size,0,none⟩) 3 3) (w.alloc (.cells #[.int .i64 0,.int .i64 0,.int .i64 0] 2)):=fun _=>by kernel_rfl
 have hX1:(W.alloc (.cells #[.slice none 0 0,.int .i64 0] 79)).heap[Bx]? = some (.cells #[.int .i64 x1,.int .i64 x2,.int .i64 x3] 77 (0,0)):=(Below.heap_alloc W _ Bx hBl).trans hX
 have hX2:((W.alloc (.cells #[.slice none 0 0,.int .i64 0] 79)).alloc (.cells #[.int .i64 0,.int .i64 0,.int .i64 0] 2)).heap[Bx]? = some (.cells #[.int .i64 x1,.int .i64 x2,.int .i64 x3] 77 (0,0)):=(Below.heap_alloc _ _ Bx (by simp;omega)).trans hX1
 have hsrc:∀ j v,[Value.int .i64 x1,Value.int .i64 x2,Value.int .i64 x3][j]? = some v→((W.alloc (.cells #[.slice none 0 0,.int .i64 0] 79)).alloc (.cells #[.int .i64 0,.int .i64 0,.int .i64 0] 2)).cell? ((⟨Bx,0,none⟩:Addr).add j)=some v:=by
  intro j v hj
  match j,hj with
  | 0,hj=>cases hj;exact zab hX2 0
  | 1,hj=>cases hj;exact zab hX2 1
  | 2,hj=>cases hj;exact zab hX2 2
 have hR1:((W.alloc (.cells #[.slice none 0 0,.int .i64 0] 79)).alloc (.cells #[.int .i64 0,.int .i64 0,.int .i64 0] 2)).heap[W.heap.size]? = some (.cells #[.slice none 0 0,.int .i64 0] 79 (0,0)):=(Below.heap_alloc _ _ _ (by simp)).trans (zad _ _ _ rfl)
 have hg1:W.grownBy ((W.alloc (.cells #[.slice none 0 0,.int .i64 0] 79)).alloc (.cells #[.int .i64 0,.int .i64 0,.int .i64 0] 2)) none:=(World.grownBy_alloc _ _ none).trans (World.grownBy_alloc _ _ none)
 have Hsrc:=hide hsrc
 have HR1:=hide hR1
 have Hg1:=hide hg1
 clear hsrc hX hX1 hX2 hR1 hg1
 refine (callsIn_wide (n:=3)).1 ?_
 refine callsIn_of_wp Tryz.func39 rfl trivial ?_ rfl
 simp only [Tryz.ntmps39,List.size_toArray,List.length_cons,List.length_nil,Nat.reduceAdd,Nat.reduceSub,Array.replicate_succ,Array.replicate_zero,List.push_toArray,List.append_toArray,List.nil_append,List.cons_append]
 gi_wp2_with (first
  | (refine za9 rfl (.tmp 9) (.tmp 10) 41 41 rfl 2 Tryz.underlying41 Tryz.infoSize2 (W.heap.size+1) 3 3 ⟨Bx,0,none⟩ 3 3 rfl rfl #[.int .i64 0,.int .i64 0,.int .i64 0] 2 (zad _ _ _ (by simp)) [.int .i64 x1,.int .i64 x2,.int .i64 x3] rfl (zaa Hsrc) rfl (by simp [Value.oneCell']) ?_;intro w2 hv2 hg2;have hR2:=(hg2.block W.heap.size (by simp only [World.size_alloc];omega) (by simp)).trans (zaa HR1);have c0:w2.cell? ⟨W.heap.size,0,none⟩=some (.slice none 0 0):=zab hR2 0;have c1:w2.cell? ⟨W.heap.size,1,none⟩=some (.int .i64 0):=zab hR2 1;have f0:w2.frozen? ⟨W.heap.size,0,none⟩=false:=zac hR2 0;have f1:w2.frozen? ⟨W.heap.size,1,none⟩=false:=zac hR2 1))
 have hga:=za1 w2 ⟨W.heap.size,0,none⟩ (.slice (some ⟨W.heap.size+1,0,none⟩) 3 3)
 have hgb:=za1 (w2.setCell ⟨W.heap.size,0,none⟩ (.slice (some ⟨W.heap.size+1,0,none⟩) 3 3)) ⟨W.heap.size,1,none⟩ (.int .i64 xw)
 have hgs:=hga.trans hgb
 have hl2:=(Array.getElem?_eq_some_iff.1 hv2).1
 refine bodyPost_ret (v:=.agg #[.slice (some ⟨W.heap.size+1,0,none⟩) 3 3,.int .i64 xw]) (by simp [results,Tryz.results39,go_sem,c0,c1,f0,f1]) rfl ⟨rfl,(hgs.block _ hl2 (by simp)).trans hv2,zen (zaa Hg1) hg2 hgs⟩
theorem zkg (ar:Nat) (har:ar=1∨ar=2∨ar=3) (x1 x2 x3 xw:Int) (Bx:Nat) (W:World) (hX:W.heap[Bx]? = some (.cells #[.int .i64 x1,.int .i64 x2,.int .i64 x3] 77 (0,0))) :
  Calls Tryz.prog 39 #[.slice (some ⟨Bx,0,none⟩) ar 3,.int .i64 xw] W fun e w'=>e=.returned (.agg #[.slice (some ⟨W.heap.size+1,0,none⟩) ar ar,.int .i64 xw]) ∧
   w'.heap[W.heap.size+1]? = some (.cells (zgp ar (x1,x2,x3)).toArray 2 (0,0))∧W.grownBy w' none:=by
 rcases har with rfl|rfl|rfl
 ·exact zo2 x1 x2 x3 xw Bx W hX
 ·exact zpd x1 x2 x3 xw Bx W hX
 ·exact zpv x1 x2 x3 xw Bx W hX
end Go.Proofs.YtoifcnidhfnapaaGreatDoor
