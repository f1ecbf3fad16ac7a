import Derived.Test.YtoifcnidhfnapaaGreatDoorB09
import Derived.Laws.CopyRow
import Derived.Test.YtoifcnidhfnapaaGreatDoorB05
import Derived.Test.YtoifcnidhfnapaaGreatDoorB01
set_option linter.unusedVariables false
set_option linter.unusedSimpArgs false
set_option maxRecDepth 100000
set_option maxHeartbeats 16000000
namespace Go.Proofs.YtoifcnidhfnapaaGreatDoor
open Go.RowKit Go.Maps Go.Sort Go.Shelf
attribute [local go_sem] Oper.semAt_some
theorem zbk {F:Fence} {n:Nat} {P:Program} {w:World} {ops:Array Oper} {rest:List Oper} {o:Oper} {a:Act} {Q:Exit→Act→World→Prop} (hgd:o.guard=none) (d s:Operand) (dT sT:TypeId)
  (ho:o.op=.call { callee:=.builtin .copy,args:=#[d,s],argTypes:=#[dT,sT] }) (elem:TypeId) (hu:P.underlying dT=some (.slice elem)) (hsz:(P.info? elem).map (·.size)=some 1)
  (g dLen dCap:Nat) (ad:Addr) (sLen sCap:Nat) (hd:a.eval d=.slice (some ⟨g,0,none⟩) dLen dCap) (hs:a.eval s=.slice (some ad) sLen sCap)
  (cur:Array Value) (t:TypeId) (hg:w.heap[g]? = some (.cells cur t (0,0))) (cs:List Value) (hn:cs.length=Nat.min sLen dLen)
  (hsrc:∀ j v,cs[j]? = some v→w.cell? (ad.add j)=some v) (hfit:cs.length=cur.size) (h1:∀ v∈cs,v.oneCell'=true)
  (h:∀ w',w'.heap[g]? = some (.cells cs.toArray t (0,0))→w.grownBy w' (some g)→wpListIn F n P ops Q rest (a.put o.dst (goInt cs.length)) w'):wpListIn F n P ops Q (o :: rest) a w:=by
 refine wpListIn_plain hgd fun K hK'=>?_
 have hrun:=run_copy_row (P:=P) w dT sT o.type elem g 0 dLen dCap ad sLen sCap cur t cs hu hsz hg hn hsrc (by omega) h1
 unfold Oper.wpIn
 refine ⟨?_,?_⟩
 ·simp [Oper.about,ho,resolve,Target.leads,Sem.run_pure]
 ·rw [Oper.semAt_plain F _ _ (by rw [ho];intro c hc';cases hc')]
  simp [execOp,ho,resolve,invoke,builtin,hd,hs,hrun,Result.andThen]
  refine hK' _ _ (h _ ?_ ⟨rfl,rfl,rfl,by simp [World.setRow],fun k hk hne=>setRow_other w g k _ (fun e=>hne (by rw [e]))⟩)
  rw [setRow_heap w g _ _ t _ hg]
  simp [hfit]
def zh4 (ar:Nat) (y:Row):List Value:=(ze0 y).take ar
theorem yis {W w2:World} {o:Obj} (h:(W.alloc o).grownBy w2 (some W.heap.size)):W.grownBy w2 none:=
 ⟨h.os,h.tape,h.output,by have:=h.size;simp at this;omega,fun k hk _=>(h.block k (by simp;omega) (by simp;omega)).trans (Below.heap_alloc W o k hk)⟩
theorem za5 (w:World) (a:Addr) (v:Value):w.grownBy (w.setCell a v) (some a.block):=
 ⟨rfl,rfl,rfl,by simp [World.setCell],fun k hk hne=>by
  simp only [World.setCell]
  rw [Array.getElem?_modify,if_neg (fun e=>hne (by rw [e]))]⟩
theorem zfb {W A w2 w3:World} (h1:W.grownBy A none) (h2:A.grownBy w2 (some (W.heap.size+1))) (h3:w2.grownBy w3 (some W.heap.size)):W.grownBy w3 none:=
 ⟨h3.os.trans (h2.os.trans h1.os),h3.tape.trans (h2.tape.trans h1.tape),h3.output.trans (h2.output.trans h1.output),Nat.le_trans h1.size (Nat.le_trans h2.size h3.size),fun k hk _ =>
  (h3.block k (Nat.lt_of_lt_of_le hk (Nat.le_trans h1.size h2.size)) (by simp;omega)).trans ((h2.block k (Nat.lt_of_lt_of_le hk h1.size) (by simp;omega)).trans (h1.block k hk (by simp)))⟩
theorem zsg (x1 x2 x3 xw:Int) (Bx:Nat) (W:World) (hX:W.heap[Bx]? = some (.cells #[.int .i64 x1,.int .i64 x2,.int .i64 x3] 77 (0,0))) :
  Calls Tryz.prog 39 #[.slice (some ⟨Bx,0,none⟩) 1 3,.int .i64 xw] W fun e w'=>e=.returned (.agg #[.slice (some ⟨W.heap.size+1,0,none⟩) 1 1,.int .i64 xw]) ∧
   w'.heap[W.heap.size+1]? = some (.cells (zh4 1 (x1,x2,x3)).toArray 2 (0,0))∧W.grownBy w' none:=by
 have hBl:Bx<W.heap.size:=(Array.getElem?_eq_some_iff.1 hX).1
 have hmk:∀ w,(Instr.makeSlice 41 (.int .i64 1) (.int .i64 1)).run Tryz.prog w=.ok (.slice (some ⟨w.heap.size,0,none⟩) 1 1) (w.alloc (.cells #[.int .i64 0] 2)):=fun _=>by kernel_rfl
 have hX1:(W.alloc (.cells #[.slice none 0 0,.int .i64 0] 79)).heap[Bx]? = some (.cells #[.int .i64 x1,.int .i64 x2,.int .i64 x3] 77 (0,0)):=(Below.heap_alloc W _ Bx hBl).trans hX
 have hX2:((W.alloc (.cells #[.slice none 0 0,.int .i64 0] 79)).alloc (.cells #[.int .i64 0] 2)).heap[Bx]? = some (.cells #[.int .i64 x1,.int .i64 x2,.int .i64 x3] 77 (0,0)):=(Below.heap_alloc _ _ Bx (by simp;omega)).trans hX1
 have hsrc:∀ j v,[Value.int .i64 x1][j]? = some v→((W.alloc (.cells #[.slice none 0 0,.int .i64 0] 79)).alloc (.cells #[.int .i64 0] 2)).cell? ((⟨Bx,0,none⟩:Addr).add j)=some v:=by
  intro j v hj
  match j,hj with
  | 0,hj=>cases hj;exact zab hX2 0
 have hR1:((W.alloc (.cells #[.slice none 0 0,.int .i64 0] 79)).alloc (.cells #[.int .i64 0] 2)).heap[W.heap.size]? = some (.cells #[.slice none 0 0,.int .i64 0] 79 (0,0)):=(Below.heap_alloc _ _ _ (by simp)).trans (zae _ _ _ rfl)
 have hg1:W.grownBy ((W.alloc (.cells #[.slice none 0 0,.int .i64 0] 79)).alloc (.cells #[.int .i64 0] 2)) none:=(World.grownBy_alloc _ _ none).trans (World.grownBy_alloc _ _ none)
 have Hsrc:=zac hsrc
 have HR1:=zac hR1
 have Hg1:=zac hg1
 clear hsrc hX hX1 hX2 hR1 hg1
 refine (callsIn_wide (n:=3)).1 ?_
 refine callsIn_of_wp Tryz.func39 rfl trivial ?_ rfl
 simp only [Tryz.ntmps39,List.size_toArray,List.length_cons,List.length_nil,Nat.reduceAdd,Nat.reduceSub,Array.replicate_succ,Array.replicate_zero,List.push_toArray,List.append_toArray,List.nil_append,List.cons_append]
 gi_wp2_with (first
  | (refine zbk rfl (.tmp 9) (.tmp 10) 41 41 rfl 2 Tryz.underlying41 Tryz.infoSize2 (W.heap.size+1) 1 1 ⟨Bx,0,none⟩ 1 3 rfl rfl #[.int .i64 0] 2 (zae _ _ _ (by simp)) [.int .i64 x1] rfl (zaa Hsrc) rfl (by simp [Value.oneCell']) ?_;intro w2 hv2 hg2;have hR2:=(hg2.block W.heap.size (by simp only [World.size_alloc];omega) (by simp)).trans (zaa HR1);have c0:w2.cell? ⟨W.heap.size,0,none⟩=some (.slice none 0 0):=zab hR2 0;have c1:w2.cell? ⟨W.heap.size,1,none⟩=some (.int .i64 0):=zab hR2 1;have f0:w2.frozen? ⟨W.heap.size,0,none⟩=false:=zad hR2 0;have f1:w2.frozen? ⟨W.heap.size,1,none⟩=false:=zad hR2 1))
 have hga:=za5 w2 ⟨W.heap.size,0,none⟩ (.slice (some ⟨W.heap.size+1,0,none⟩) 1 1)
 have hgb:=za5 (w2.setCell ⟨W.heap.size,0,none⟩ (.slice (some ⟨W.heap.size+1,0,none⟩) 1 1)) ⟨W.heap.size,1,none⟩ (.int .i64 xw)
 have hgs:=hga.trans hgb
 have hl2:=(Array.getElem?_eq_some_iff.1 hv2).1
 refine bodyPost_ret (v:=.agg #[.slice (some ⟨W.heap.size+1,0,none⟩) 1 1,.int .i64 xw]) (by simp [results,Tryz.results39,go_sem,c0,c1,f0,f1]) rfl ⟨rfl,(hgs.block _ hl2 (by simp)).trans hv2,zfb (zaa Hg1) hg2 hgs⟩
theorem zsh (x1 x2 x3 xw:Int) (Bx:Nat) (W:World) (hX:W.heap[Bx]? = some (.cells #[.int .i64 x1,.int .i64 x2,.int .i64 x3] 77 (0,0))) :
  Calls Tryz.prog 39 #[.slice (some ⟨Bx,0,none⟩) 2 3,.int .i64 xw] W fun e w'=>e=.returned (.agg #[.slice (some ⟨W.heap.size+1,0,none⟩) 2 2,.int .i64 xw]) ∧
   w'.heap[W.heap.size+1]? = some (.cells (zh4 2 (x1,x2,x3)).toArray 2 (0,0))∧W.grownBy w' none:=by
 have hBl:Bx<W.heap.size:=(Array.getElem?_eq_some_iff.1 hX).1
 have hmk:∀ w,(Instr.makeSlice 41 (.int .i64 2) (.int .i64 2)).run Tryz.prog w=.ok (.slice (some ⟨w.heap.size,0,none⟩) 2 2) (w.alloc (.cells #[.int .i64 0,.int .i64 0] 2)):=fun _=>by kernel_rfl
 have hX1:(W.alloc (.cells #[.slice none 0 0,.int .i64 0] 79)).heap[Bx]? = some (.cells #[.int .i64 x1,.int .i64 x2,.int .i64 x3] 77 (0,0)):=(Below.heap_alloc W _ Bx hBl).trans hX
 have hX2:((W.alloc (.cells #[.slice none 0 0,.int .i64 0] 79)).alloc (.cells #[.int .i64 0,.int .i64 0] 2)).heap[Bx]? = some (.cells #[.int .i64 x1,.int .i64 x2,.int .i64 x3] 77 (0,0)):=(Below.heap_alloc _ _ Bx (by simp;omega)).trans hX1
 have hsrc:∀ j v,[Value.int .i64 x1,Value.int .i64 x2][j]? = some v→((W.alloc (.cells #[.slice none 0 0,.int .i64 0] 79)).alloc (.cells #[.int .i64 0,.int .i64 0] 2)).cell? ((⟨Bx,0,none⟩:Addr).add j)=some v:=by
  intro j v hj
  match j,hj with
  | 0,hj=>cases hj;exact zab hX2 0
  | 1,hj=>cases hj;exact zab hX2 1
 have hR1:((W.alloc (.cells #[.slice none 0 0,.int .i64 0] 79)).alloc (.cells #[.int .i64 0,.int .i64 0] 2)).heap[W.heap.size]? = some (.cells #[.slice none 0 0,.int .i64 0] 79 (0,0)):=(Below.heap_alloc _ _ _ (by simp)).trans (zae _ _ _ rfl)
 have hg1:W.grownBy ((W.alloc (.cells #[.slice none 0 0,.int .i64 0] 79)).alloc (.cells #[.int .i64 0,.int .i64 0] 2)) none:=(World.grownBy_alloc _ _ none).trans (World.grownBy_alloc _ _ none)
 have Hsrc:=zac hsrc
 have HR1:=zac hR1
 have Hg1:=zac hg1
 clear hsrc hX hX1 hX2 hR1 hg1
 refine (callsIn_wide (n:=3)).1 ?_
 refine callsIn_of_wp Tryz.func39 rfl trivial ?_ rfl
 simp only [Tryz.ntmps39,List.size_toArray,List.length_cons,List.length_nil,Nat.reduceAdd,Nat.reduceSub,Array.replicate_succ,Array.replicate_zero,List.push_toArray,List.append_toArray,List.nil_append,List.cons_append]
 gi_wp2_with (first
  | (refine zbk rfl (.tmp 9) (.tmp 10) 41 41 rfl 2 Tryz.underlying41 Tryz.infoSize2 (W.heap.size+1) 2 2 ⟨Bx,0,none⟩ 2 3 rfl rfl #[.int .i64 0,.int .i64 0] 2 (zae _ _ _ (by simp)) [.int .i64 x1,.int .i64 x2] rfl (zaa Hsrc) rfl (by simp [Value.oneCell']) ?_;intro w2 hv2 hg2;have hR2:=(hg2.block W.heap.size (by simp only [World.size_alloc];omega) (by simp)).trans (zaa HR1);have c0:w2.cell? ⟨W.heap.size,0,none⟩=some (.slice none 0 0):=zab hR2 0;have c1:w2.cell? ⟨W.heap.size,1,none⟩=some (.int .i64 0):=zab hR2 1;have f0:w2.frozen? ⟨W.heap.size,0,none⟩=false:=zad hR2 0;have f1:w2.frozen? ⟨W.heap.size,1,none⟩=false:=zad hR2 1))
 have hga:=za5 w2 ⟨W.heap.size,0,none⟩ (.slice (some ⟨W.heap.size+1,0,none⟩) 2 2)
 have hgb:=za5 (w2.setCell ⟨W.heap.size,0,none⟩ (.slice (some ⟨W.heap.size+1,0,none⟩) 2 2)) ⟨W.heap.size,1,none⟩ (.int .i64 xw)
 have hgs:=hga.trans hgb
 have hl2:=(Array.getElem?_eq_some_iff.1 hv2).1
 refine bodyPost_ret (v:=.agg #[.slice (some ⟨W.heap.size+1,0,none⟩) 2 2,.int .i64 xw]) (by simp [results,Tryz.results39,go_sem,c0,c1,f0,f1]) rfl ⟨rfl,(hgs.block _ hl2 (by simp)).trans hv2,zfb (zaa Hg1) hg2 hgs⟩
theorem zsi (x1 x2 x3 xw:Int) (Bx:Nat) (W:World) (hX:W.heap[Bx]? = some (.cells #[.int .i64 x1,.int .i64 x2,.int .i64 x3] 77 (0,0))) :
  Calls Tryz.prog 39 #[.slice (some ⟨Bx,0,none⟩) 3 3,.int .i64 xw] W fun e w'=>e=.returned (.agg #[.slice (some ⟨W.heap.size+1,0,none⟩) 3 3,.int .i64 xw]) ∧
   w'.heap[W.heap.size+1]? = some (.cells (zh4 3 (x1,x2,x3)).toArray 2 (0,0))∧W.grownBy w' none:=by
 have hBl:Bx<W.heap.size:=(Array.getElem?_eq_some_iff.1 hX).1
 have hmk:∀ w,(Instr.makeSlice 41 (.int .i64 3) (.int .i64 3)).run Tryz.prog w=.ok (.slice (some ⟨w.heap.size,0,none⟩) 3 3) (w.alloc (.cells #[.int .i64 0,.int .i64 0,.int .i64 0] 2)):=fun _=>by kernel_rfl
 have hX1:(W.alloc (.cells #[.slice none 0 0,.int .i64 0] 79)).heap[Bx]? = some (.cells #[.int .i64 x1,.int .i64 x2,.int .i64 x3] 77 (0,0)):=(Below.heap_alloc W _ Bx hBl).trans hX
 have hX2:((W.alloc (.cells #[.slice none 0 0,.int .i64 0] 79)).alloc (.cells #[.int .i64 0,.int .i64 0,.int .i64 0] 2)).heap[Bx]? = some (.cells #[.int .i64 x1,.int .i64 x2,.int .i64 x3] 77 (0,0)):=(Below.heap_alloc _ _ Bx (by simp;omega)).trans hX1
 have hsrc:∀ j v,[Value.int .i64 x1,Value.int .i64 x2,Value.int .i64 x3][j]? = some v→((W.alloc (.cells #[.slice none 0 0,.int .i64 0] 79)).alloc (.cells #[.int .i64 0,.int .i64 0,.int .i64 0] 2)).cell? ((⟨Bx,0,none⟩:Addr).add j)=some v:=by
  intro j v hj
  match j,hj with
  | 0,hj=>cases hj;exact zab hX2 0
  | 1,hj=>cases hj;exact zab hX2 1
  | 2,hj=>cases hj;exact zab hX2 2
 have hR1:((W.alloc (.cells #[.slice none 0 0,.int .i64 0] 79)).alloc (.cells #[.int .i64 0,.int .i64 0,.int .i64 0] 2)).heap[W.heap.size]? = some (.cells #[.slice none 0 0,.int .i64 0] 79 (0,0)):=(Below.heap_alloc _ _ _ (by simp)).trans (zae _ _ _ rfl)
 have hg1:W.grownBy ((W.alloc (.cells #[.slice none 0 0,.int .i64 0] 79)).alloc (.cells #[.int .i64 0,.int .i64 0,.int .i64 0] 2)) none:=(World.grownBy_alloc _ _ none).trans (World.grownBy_alloc _ _ none)
 have Hsrc:=zac hsrc
 have HR1:=zac hR1
 have Hg1:=zac hg1
 clear hsrc hX hX1 hX2 hR1 hg1
 refine (callsIn_wide (n:=3)).1 ?_
 refine callsIn_of_wp Tryz.func39 rfl trivial ?_ rfl
 simp only [Tryz.ntmps39,List.size_toArray,List.length_cons,List.length_nil,Nat.reduceAdd,Nat.reduceSub,Array.replicate_succ,Array.replicate_zero,List.push_toArray,List.append_toArray,List.nil_append,List.cons_append]
 gi_wp2_with (first
  | (refine zbk rfl (.tmp 9) (.tmp 10) 41 41 rfl 2 Tryz.underlying41 Tryz.infoSize2 (W.heap.size+1) 3 3 ⟨Bx,0,none⟩ 3 3 rfl rfl #[.int .i64 0,.int .i64 0,.int .i64 0] 2 (zae _ _ _ (by simp)) [.int .i64 x1,.int .i64 x2,.int .i64 x3] rfl (zaa Hsrc) rfl (by simp [Value.oneCell']) ?_;intro w2 hv2 hg2;have hR2:=(hg2.block W.heap.size (by simp only [World.size_alloc];omega) (by simp)).trans (zaa HR1);have c0:w2.cell? ⟨W.heap.size,0,none⟩=some (.slice none 0 0):=zab hR2 0;have c1:w2.cell? ⟨W.heap.size,1,none⟩=some (.int .i64 0):=zab hR2 1;have f0:w2.frozen? ⟨W.heap.size,0,none⟩=false:=zad hR2 0;have f1:w2.frozen? ⟨W.heap.size,1,none⟩=false:=zad hR2 1))
 have hga:=za5 w2 ⟨W.heap.size,0,none⟩ (.slice (some ⟨W.heap.size+1,0,none⟩) 3 3)
 have hgb:=za5 (w2.setCell ⟨W.heap.size,0,none⟩ (.slice (some ⟨W.heap.size+1,0,none⟩) 3 3)) ⟨W.heap.size,1,none⟩ (.int .i64 xw)
 have hgs:=hga.trans hgb
 have hl2:=(Array.getElem?_eq_some_iff.1 hv2).1
 refine bodyPost_ret (v:=.agg #[.slice (some ⟨W.heap.size+1,0,none⟩) 3 3,.int .i64 xw]) (by simp [results,Tryz.results39,go_sem,c0,c1,f0,f1]) rfl ⟨rfl,(hgs.block _ hl2 (by simp)).trans hv2,zfb (zaa Hg1) hg2 hgs⟩
theorem zme (ar:Nat) (har:ar=1∨ar=2∨ar=3) (x1 x2 x3 xw:Int) (Bx:Nat) (W:World) (hX:W.heap[Bx]? = some (.cells #[.int .i64 x1,.int .i64 x2,.int .i64 x3] 77 (0,0))) :
  Calls Tryz.prog 39 #[.slice (some ⟨Bx,0,none⟩) ar 3,.int .i64 xw] W fun e w'=>e=.returned (.agg #[.slice (some ⟨W.heap.size+1,0,none⟩) ar ar,.int .i64 xw]) ∧
   w'.heap[W.heap.size+1]? = some (.cells (zh4 ar (x1,x2,x3)).toArray 2 (0,0))∧W.grownBy w' none:=by
 rcases har with rfl|rfl|rfl
 ·exact zsg x1 x2 x3 xw Bx W hX
 ·exact zsh x1 x2 x3 xw Bx W hX
 ·exact zsi x1 x2 x3 xw Bx W hX
attribute [local go_sem] Oper.semAt_some
theorem Tryz.info79:(Tryz.prog.info? 79).map (fun i=>(i.zero,i.size,i.bytes))=some (some (.agg #[.slice none 0 0,.int .i64 0]),2,32):=by kernel_rfl
theorem zki (mb:Nat) (w:World):Calls Tryz.prog 65 #[.map (some mb)] w fun e w'=>e=.returned (.func (.func 111) #[] #[.pointer (some ⟨w.heap.size,0,none⟩)])∧w'=w.alloc (.cells #[.map (some mb)] 127):=by
 go_enter Tryz.func65,Tryz.ntmps65
 go_wp2
 go_ret
 exact ⟨rfl,rfl⟩
theorem yca (rb ar mb:Nat) (w:World) (h:w.heap[rb]? = some (.cells #[.int .i64 ar,.map (some mb)] 129 (0,0))):Calls Tryz.prog 38 #[.pointer (some ⟨rb,0,none⟩)] w fun e w'=>e=.returned (.func (.func 111) #[] #[.pointer (some ⟨w.heap.size,0,none⟩)])∧w'=w.alloc (.cells #[.map (some mb)] 127):=by
 have c1:w.cell? ⟨rb,1,none⟩=some (.map (some mb)):=zab h 1
 clear h
 go_enter Tryz.func38,Tryz.ntmps38
 go_wp2_with fail
 refine (zki mb w).mono ?_
 rintro e w' ⟨rfl,rfl⟩
 go_wp2
 go_ret
 exact ⟨rfl,rfl⟩
def zcz (ar:Nat) (xs:List ((Row×Int)×Nat)):List Value:=xs.flatMap fun p=>[.slice (some ⟨p.2,0,none⟩) ar ar,.int .i64 p.1.2]
def zd2 (W:World) (B ar:Nat) (xs:List ((Row×Int)×Nat)):Prop:=(xs.Pairwise fun p q=>p.2<q.2)∧∀ p∈xs,W.heap[p.2]? = some (.cells (zh4 ar p.1.1).toArray 2 (0,0))∧B≤p.2
def zlq (w:World) (ar Br g cap Bp rb:Nat) (pre:List (Row×Int)) (W:World):Prop:=
 ∃ xs,xs.map (·.1)=pre∧Boxed W Br 34 (.slice (some ⟨g,0,none⟩) pre.length cap)∧W.ownsRow w.heap.size 79 2 (.slice (some ⟨g,0,none⟩) pre.length cap) pre.length (zcz ar xs)∧zd2 W w.heap.size ar xs ∧
  Boxed W Bp 66 (.pointer (some ⟨rb,0,none⟩))∧Below w.heap.size w W
theorem zd2.kept {W W':World} {B ar:Nat} {xs:List ((Row×Int)×Nat)} {row:Option Nat} (h:zd2 W B ar xs) (hg:W.grownBy W' row) (hrow:∀ j,row=some j→∀ cur,W.heap[j]?≠some (.cells cur 2 (0,0))):zd2 W' B ar xs:=⟨h.1,fun p hp=>by
 obtain ⟨h1,h2⟩:=h.2 p hp
 refine ⟨(hg.block p.2 (Array.getElem?_eq_some_iff.1 h1).1 (fun e=>?_)).trans h1,h2⟩
 exact hrow p.2 e.symm _ h1⟩
theorem zlq.own (w:World) (ar Br g cap Bp rb B:Nat) (hB:w.heap.size≤B):OwnFrom B (zlq w ar Br g cap Bp rb):=by
 rintro pre W W' row ⟨xs,hm,b1,ho,hv,b2,hb⟩ hg hr
 have hno:∀ k cs t,W.heap[k]? = some (.cells cs t (0,0))→some k≠row:=fun k cs t hk e=>by
  obtain ⟨_,o,h1,h2⟩:=hr k e.symm
  rw [hk] at h1;cases h1;cases h2
 refine ⟨xs,hm,b1.kept hg (hno _ _ _ b1),ho.kept hg (.inr ?_),hv.kept hg (fun j e cur hj=>hno j _ _ hj e.symm),b2.kept hg (hno _ _ _ b2),hb.grown hg hb.size (fun k e=>Nat.le_trans hB (hr k e).1)⟩
 rcases ho.2 with ⟨h,_⟩|⟨g',cap',cur,h,_,hgh,_⟩
 ·cases h
 ·simp at h
  obtain ⟨rfl,_⟩:=h
  exact fun e=>hno _ _ _ hgh (by simpa [Value.ownBlock] using e)
theorem zlz {w W w2 w3:World} {ar Br g cap Bp rb B vb:Nat} {pre:List (Row×Int)} {x:Row×Int} {xs:List ((Row×Int)×Nat)} {tmp:Obj}
  (hm:xs.map (·.1)=pre) (bS:Boxed W Br 34 (.slice (some ⟨g,0,none⟩) pre.length cap)) (hrow:W.ownsRow w.heap.size 79 2 (.slice (some ⟨g,0,none⟩) pre.length cap) pre.length (zcz ar xs)) (hvs:zd2 W w.heap.size ar xs)
  (bP:Boxed W Bp 66 (.pointer (some ⟨rb,0,none⟩))) (hB:Below w.heap.size w W) (hg2:W.grownBy w2 none) (hv2:w2.heap[vb]? = some (.cells (zh4 ar x.1).toArray 2 (0,0)))
  (hrow3:w3.ownsRow w.heap.size 79 2 (.slice (some ⟨g,0,none⟩) (pre.length+1) cap) (pre.length+1) (zcz ar xs ++ [.slice (some ⟨vb,0,none⟩) ar ar,.int .i64 x.2])) (hg3:(w2.alloc tmp).grownBy w3 (some g))
  (hgB:g<B) (hBB:Br<B) (hwg:w.heap.size≤g) (hwB:w.heap.size≤Br) (hvb:W.heap.size≤vb) :
  KeepsFrom B W (w3.setCell ⟨Br,0,none⟩ (.slice (some ⟨g,0,none⟩) (pre.length+1) cap))∧zar (fun k=>k=Br∨k=g) W (w3.setCell ⟨Br,0,none⟩ (.slice (some ⟨g,0,none⟩) (pre.length+1) cap)) ∧
   zlq w ar Br g cap Bp rb (pre ++ [x]) (w3.setCell ⟨Br,0,none⟩ (.slice (some ⟨g,0,none⟩) (pre.length+1) cap)):=by
 have hA:W.grownBy (w2.alloc tmp) none:=hg2.trans (World.grownBy_alloc _ _ none)
 have hC:=grownBy_setCell' w3 Br (.slice (some ⟨g,0,none⟩) (pre.length+1) cap)
 obtain ⟨cur,hgh⟩:∃ cur,W.heap[g]? = some (.cells cur 79 (0,0)):=by
  rcases hrow.2 with ⟨h,_⟩|⟨g',cap',cur,h,_,hgh,_⟩
  ·cases h
  ·simp at h;obtain ⟨rfl,_⟩:=h;exact ⟨cur,hgh⟩
 have hne:Br≠g:=fun e=>by rw [e] at bS;rw [show W.heap[g]? = _ from bS] at hgh;simp at hgh
 have hnP:Bp≠g:=fun e=>by rw [e] at bP;rw [show W.heap[g]? = _ from bP] at hgh;simp at hgh
 have hnP2:Bp≠Br:=fun e=>by rw [e] at bP;have h9:W.heap[Br]? = _:=bS;rw [show W.heap[Br]? = _ from bP] at h9;simp at h9
 have bS3:Boxed w3 Br 34 (.slice (some ⟨g,0,none⟩) pre.length cap):=(bS.kept hA (by simp)).kept hg3 (by simp [hne])
 have hghA:(w2.alloc tmp).heap[g]? = some (.cells cur 79 (0,0)):=(hA.block g (Array.getElem?_eq_some_iff.1 hgh).1 (by simp)).trans hgh
 refine ⟨((KeepsFrom.of_grownBy hA (fun j e=>by cases e)).trans (KeepsFrom.of_grownBy hg3 (fun j e=>by cases e;exact hgB))).trans (KeepsFrom.of_grownBy hC (fun j e=>by cases e;exact hBB)),
  ((zar.of_grown hA (fun j e=>by cases e)).trans (zar.of_grown hg3 (fun j e=>by cases e;exact .inr rfl))).trans (zar.of_grown hC (fun j e=>by cases e;exact .inl rfl)),?_⟩
 have hl:(pre ++ [x]).length=pre.length+1:=by simp
 refine ⟨xs ++ [(x,vb)],by simp [hm],?_,?_,?_,?_,?_⟩
 ·rw [hl];exact bS3.set _
 ·rw [hl]
  have e:zcz ar (xs ++ [(x,vb)])=zcz ar xs ++ [.slice (some ⟨vb,0,none⟩) ar ar,.int .i64 x.2]:=by simp [zcz]
  rw [e]
  exact hrow3.kept hC (.inr (by simp [Value.ownBlock];omega))
 ·have h2:zd2 w2 w.heap.size ar (xs ++ [(x,vb)]):=by
   refine ⟨List.pairwise_append.2 ⟨hvs.1,List.pairwise_singleton _ _,fun p hp q hq=>?_⟩,fun p hp=>?_⟩
   ·simp at hq;subst hq;exact Nat.lt_of_lt_of_le (Array.getElem?_eq_some_iff.1 (hvs.2 p hp).1).1 hvb
   ·rcases List.mem_append.1 hp with hp|hp
    ·exact (hvs.kept hg2 (fun j e=>by cases e)).2 p hp
    ·simp at hp;subst hp;exact ⟨hv2,Nat.le_trans hB.size hvb⟩
  refine ((h2.kept (World.grownBy_alloc _ tmp none) (fun j e=>by cases e)).kept hg3 (fun j e c hj=>?_)).kept hC (fun j e c hj=>?_)
  ·cases e;rw [hghA] at hj;simp at hj
  ·cases e;rw [show w3.heap[Br]? = _ from bS3] at hj;simp at hj
 ·exact ((bP.kept hA (by simp)).kept hg3 (by simp [hnP])).kept hC (by simp [hnP2])
 ·refine ((hB.grown hA hB.size (fun k e=>by cases e)).grown hg3 (Nat.le_trans hB.size hA.size) (fun k e=>by cases e;exact hwg)).grown hC (Nat.le_trans (Nat.le_trans hB.size hA.size) hg3.size) (fun k e=>by cases e;exact hwB)
theorem zl1 (W:World) (a b:Value) (t:TypeId):∀ j u,[a,b][j]? = some u→(W.alloc (.cells #[a,b] t)).cell? ((⟨W.heap.size,0,none⟩:Addr).add j)=some u:=by
 intro j u hj
 match j,hj with
 | 0,hj=>cases hj;exact zab (zae _ _ _ rfl) 0
 | 1,hj=>cases hj;exact zab (zae _ _ _ rfl) 1
theorem zsy (W:World) {Bx:Nat} {cs:Array Value} (h:W.heap[Bx]? = some (.cells cs 77 (0,0))):Bx<W.heap.size:=(Array.getElem?_eq_some_iff.1 h).1
theorem zx0 (ar:Nat) (har:ar=1∨ar=2∨ar=3) (Bx:Nat) (q:World):(Instr.sliceAt 77 (.pointer (some ⟨Bx,0,none⟩)) none (some (.int .i64 ar)) none).run Tryz.prog q=.ok (.slice (some ⟨Bx,0,none⟩) ar 3) q:=by
 rcases har with rfl|rfl|rfl <;> kernel_rfl
theorem yjx {W w2:World} (h:W.drew.grownBy w2 none):W.grownBy w2 none:=⟨h.os,h.tape,h.output,h.size,h.block⟩
def zjy (ts:Array TypeId) (ty:TypeId) (args:Array Value):Sem Value:=Builtin.append_ ts ty args
theorem zhb (ts:Array TypeId) (ty:TypeId) (args:Array Value):Builtin.append_ ts ty args=zjy ts ty args:=rfl
theorem yh0 {w W w2:World} {g cap k:Nat} {xs:List Value} {i62:TypeInfo} (hrow:W.ownsRow w.heap.size 79 2 (.slice (some ⟨g,0,none⟩) k cap) k xs) (hg2:W.grownBy w2 none) (hi:Tryz.prog.info? 79=some i62) (hz1:i62.size=2) (vb ar:Nat) (xw:Int) (b1:k+1≤cap) :
  ∃ w3,(zjy #[34,34] 34 #[.slice (some ⟨g,0,none⟩) k cap,.slice (some ⟨w2.heap.size,0,none⟩) 1 1]).run Tryz.prog (w2.alloc (.cells #[.slice (some ⟨vb,0,none⟩) ar ar,.int .i64 xw] 79))=.ok (.slice (some ⟨g,0,none⟩) (k+1) cap) w3 ∧
   w3.ownsRow w.heap.size 79 2 (.slice (some ⟨g,0,none⟩) (k+1) cap) (k+1) (xs ++ [.slice (some ⟨vb,0,none⟩) ar ar,.int .i64 xw])∧(w2.alloc (.cells #[.slice (some ⟨vb,0,none⟩) ar ar,.int .i64 xw] 79)).grownBy w3 (some g):=by
 have hrow2:=hrow.kept hg2 (.inr (by simp [Value.ownBlock]))
 obtain ⟨w3,hrun,r1,r2⟩:=run_append_fits (P:=Tryz.prog) (w2.alloc (.cells #[.slice (some ⟨vb,0,none⟩) ar ar,.int .i64 xw] 79)) w.heap.size 34 34 79 i62 2 Tryz.underlying34 hi hz1 g k cap xs (hrow2.alloc _) ⟨w2.heap.size,0,none⟩ 1 1 [.slice (some ⟨vb,0,none⟩) ar ar,.int .i64 xw] rfl (zl1 w2 _ _ 79) (by simp [Value.oneCell']) (by omega)
 exact ⟨w3,hrun,r1,r2⟩
section
attribute [local go_sem ↓] zhb
end
def zcv (ar:Nat) (y:Row):List Int:=[y.1,y.2.1,y.2.2].take ar
theorem zta (ar:Nat) (y:Row):zh4 ar y=(zcv ar y).map (Value.int .i64):=by simp [zh4,zcv,ze0]
theorem zn6 (ar:Nat) (xs:List ((Row×Int)×Nat)) (i j:Nat) (hi:i<xs.length) (hj:j<2):(zcz ar xs)[i*2+j]? = [Value.slice (some ⟨xs[i].2,0,none⟩) ar ar,.int .i64 xs[i].1.2][j]?:=by
 induction xs generalizing i with
 | nil=>simp at hi
 | cons p ps ih =>
  have e:zcz ar (p :: ps)=[Value.slice (some ⟨p.2,0,none⟩) ar ar,.int .i64 p.1.2] ++ zcz ar ps:=rfl
  rw [e]
  cases i with
  | zero=>rw [List.getElem?_append_left (by simp;omega)];simp
  | succ i =>
   have h2:(i+1)*2+j - 2=i*2+j:=by omega
   rw [List.getElem?_append_right (by simp;omega)]
   simp only [List.length_cons,List.length_nil,Nat.zero_add,Nat.reduceAdd,h2]
   rw [ih i (by simpa using hi)]
   simp
theorem zkf {w:World} {m ar:Nat} {v:Value} {xs:List ((Row×Int)×Nat)} (har:ar≤3) (h:w.ownsRow m 79 2 v xs.length (zcz ar xs)) (hr:zd2 w m ar xs):zdf w v (xs.map fun p=>(zcv ar p.1.1,p.1.2)):=by
 rcases h.2 with ⟨rfl,h0⟩|⟨g,cap,cur,rfl,_,hg,_,_,_,ht⟩
 ·have:xs=[]:=List.eq_nil_of_length_eq_zero h0
  subst this
  exact ⟨none,0,rfl,fun i hi=>by simp at hi⟩
 ·refine ⟨some ⟨g,0,none⟩,cap,by simp,fun i hi=>?_⟩
  have hi':i<xs.length:=by simpa using hi
  have hx:((xs.map fun p=>(zcv ar p.1.1,p.1.2))[i]?.getD ([],0))=(zcv ar xs[i].1.1,xs[i].1.2):=by simp [hi']
  rw [hx]
  have hcell:∀ j,j<2→cur[i*2+j]? = [Value.slice (some ⟨xs[i].2,0,none⟩) ar ar,.int .i64 xs[i].1.2][j]?:=by
   intro j hj
   rw [← zn6 ar xs i j hi' hj,← ht,List.getElem?_take_of_lt (by omega)]
   simp
  refine ⟨g,0,.slice (some ⟨xs[i].2,0,none⟩) ar ar,rfl,?_,?_,?_⟩
  ·rw [zab hg,Nat.zero_add];exact hcell 0 (by omega)
  ·have hb:=(hr.2 _ (List.getElem_mem hi')).1
   rw [zta] at hb
   have hl:(zcv ar xs[i].1.1).length=ar:=by simp [zcv];omega
   have:=zcj hb ar
   rwa [hl] at this
  ·rw [zab hg,Nat.zero_add];exact hcell 1 (by omega)
structure zg3 (f:Row→Int) (ys:List Row):Prop where
 rising:ze9 ys
 wf:∀ y∈ys,zaw y
 mem:∀ r,zaw r→(r∈ys↔f r≠0)
def zbj (ar:Nat) (f:Row→Int) (ys:List Row):List (List Int×Int):=ys.map fun y=>(zcv ar y,f y)
theorem zdf.below {w w':World} {v:Value} {rs:List (List Int×Int)} (h:zdf w v rs) (hb:Below w.heap.size w w'):zdf w' v rs:=by
 obtain ⟨a,cap,rfl,hc⟩:=h
 exact ⟨a,cap,rfl,fun i hi=>by
  obtain ⟨b,o,sv,ha,h1,h2,h3⟩:=hc i hi
  exact ⟨b,o,sv,ha,(hb.cell (p:=⟨b,_,none⟩) (World.block_lt_of_cell? w _ h1)).trans h1,h2.below hb,(hb.cell (p:=⟨b,_,none⟩) (World.block_lt_of_cell? w _ h3)).trans h3⟩⟩
end Go.Proofs.YtoifcnidhfnapaaGreatDoor
namespace Go.Proofs.YtoifcnidhfnapaaGreatDoor
open Go.RowKit Go.Maps
structure Raw where
 a:Option Addr
 n:Nat
 cap:Nat
 wt:Int
def kept (rs:List Raw):List Raw:=rs.filter fun r=>decide (r.wt≠0)
theorem zmq {P:Program} (w:World) {ops:Array Oper} {rest:List Oper} {o:Oper} {a:Act} {Q:Exit→Act→World→Prop} (hgd:o.guard=none) (s x:Operand) (t:TypeId)
  (ho:o.op=.call { callee:=.builtin .append,args:=#[s,x],argTypes:=#[t,t] })
  (base:Nat) (e:TypeId) (i:TypeInfo) (z:Value) (size bytes:Nat) (ht:P.underlying t=some (.slice e)) (hi:P.info? e=some i) (hz:i.zero=some z)
  (hsize:i.size=size) (hby:i.bytes=bytes) (hzs:z.cells.size=size) (hsz:0<size)
  (v:Value) (n:Nat) (xs:List Value) (hs:a.eval s=v) (hown:w.ownsRow base e size v n xs)
  (p:Option Addr) (m c:Nat) (news:List Value) (hx:a.eval x=.slice p m c) (hp:p=none→m=0∧c=0) (hl:news.length=m*size) (hnews:∀ ad,p=some ad→∀ j u,news[j]? = some u→w.cell? (ad.add j)=some u) (h1:∀ u∈news,u.oneCell'=true)
  (h63:n+m≤maxLen) (hbytes:(n+m)*bytes≤140737488355328) (hbase:base≤w.heap.size)
  (h:∀ v' w',w'.ownsRow base e size v' (n+m) (xs ++ news)→w.grownBy w' v.ownBlock→wpList P ops Q rest (a.put o.dst v') w') :
  wpList P ops Q (o :: rest) a w:=by
 cases p with
 | some ad=>exact wpList_append_own_at w hgd s x t ho base e i z size bytes ht hi hz hsize hby hzs hsz v n xs hs hown ad m c news hx hl (hnews ad rfl) h1 h63 hbytes hbase (fun v' w' h1 h2 _ _=>h v' w' h1 h2)
 | none =>
  obtain ⟨rfl,rfl⟩:=hp rfl
  have hr:=run_append_owned_none (P:=P) (w:=w) base t o.type e i size ht hi v n xs hown
  have hn:news=[]:=List.eq_nil_of_length_eq_zero (by omega)
  subst hn
  refine wpList_plain hgd fun K hK=>?_
  unfold Oper.wp execOp
  simp only [ho,resolve,invoke,builtin,Sem.run_bind,Sem.run_pure,Result.andThen_ok,List.map_toArray,List.map_cons,List.map_nil,hs,hx,hr]
  exact hK _ _ (h v w (by simpa using hown) ⟨rfl,rfl,rfl,Nat.le_refl _,fun _ _ _=>rfl⟩)
theorem zak {w:World} {base:Nat} {e:TypeId} {size:Nat} {v:Value} {n:Nat} {xs:List Value} (h:w.ownsRow base e size v n xs):∃ p c,v=.slice p n c∧n≤c∧(p=none→n=0∧c=0)∧(∀ ad,p=some ad→∃ g,ad=⟨g,0,none⟩∧base≤g∧g<w.heap.size∧∀ j,j<n*size→w.cell? ⟨g,j,none⟩=xs[j]?):=by
 have h0:=h
 rcases h.2 with ⟨rfl,rfl⟩|⟨g,c,cur,rfl,hb,hg,hc,_⟩
 ·exact ⟨none,0,rfl,Nat.le_refl _,fun _=>⟨rfl,rfl⟩,fun ad e=>by cases e⟩
 ·exact ⟨_,c,rfl,hc,(fun e=>by cases e),fun ad e=>by cases e;exact ⟨g,rfl,hb,(Array.getElem?_eq_some_iff.1 hg).1,fun j hj=>by rw [h0.cellAt j hj]⟩⟩
end Go.Proofs.YtoifcnidhfnapaaGreatDoor
