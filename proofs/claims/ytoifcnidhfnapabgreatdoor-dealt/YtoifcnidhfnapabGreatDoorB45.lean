import Derived.Test.YtoifcnidhfnapabGreatDoorB44
import Derived.Test.YtoifcnidhfnapabGreatDoorB10
import Derived.Laws.CopyRow
set_option linter.unusedVariables false
set_option linter.unusedSimpArgs false
set_option maxRecDepth 100000
set_option maxHeartbeats 16000000
namespace Go.Proofs.YtoifcnidhfnapabGreatDoor
open Go.RowKit Go.Maps Go.Sort Go.Shelf
attribute [local go_sem] Oper.semAt_some
namespace H
def zhv (ar:Nat) (y:H4):List Value:=(zev y).take ar
theorem yho (x1 x2 x3 x4 xw:Int) (Bx:Nat) (W:World) (hX:W.heap[Bx]? = some (.cells #[.int .i64 x1,.int .i64 x2,.int .i64 x3,.int .i64 x4] 92 (0,0))) :
  Calls Tryz.prog 41 #[.slice (some ⟨Bx,0,none⟩) 0 4,.int .i64 xw] W fun e w'=>e=.returned (.agg #[.slice (some ⟨W.heap.size+1,0,none⟩) 0 0,.int .i64 xw]) ∧
   w'.heap[W.heap.size+1]? = some (.cells (zhv 0 (x1,x2,x3,x4)).toArray 2 (0,0))∧W.grownBy w' none:=by
 have hBl:Bx<W.heap.size:=(Array.getElem?_eq_some_iff.1 hX).1
 have hmk:∀ w,(Instr.makeSlice 47 (.int .i64 0) (.int .i64 0)).run Tryz.prog w=.ok (.slice (some ⟨w.heap.size,0,none⟩) 0 0) (w.alloc (.cells #[] 2)):=fun _=>by kernel_rfl
 have hX1:(W.alloc (.cells #[.slice none 0 0,.int .i64 0] 51)).heap[Bx]? = some (.cells #[.int .i64 x1,.int .i64 x2,.int .i64 x3,.int .i64 x4] 92 (0,0)):=(Below.heap_alloc W _ Bx hBl).trans hX
 have hX2:((W.alloc (.cells #[.slice none 0 0,.int .i64 0] 51)).alloc (.cells #[] 2)).heap[Bx]? = some (.cells #[.int .i64 x1,.int .i64 x2,.int .i64 x3,.int .i64 x4] 92 (0,0)):=(Below.heap_alloc _ _ Bx (by simp;omega)).trans hX1
 have hsrc:∀ j v,([]:List Value)[j]? = some v→((W.alloc (.cells #[.slice none 0 0,.int .i64 0] 51)).alloc (.cells #[] 2)).cell? ((⟨Bx,0,none⟩:Addr).add j)=some v:=by
  intro j v hj
  simp at hj
 have hR1:((W.alloc (.cells #[.slice none 0 0,.int .i64 0] 51)).alloc (.cells #[] 2)).heap[W.heap.size]? = some (.cells #[.slice none 0 0,.int .i64 0] 51 (0,0)):=(Below.heap_alloc _ _ _ (by simp)).trans (zae _ _ _ rfl)
 have hg1:W.grownBy ((W.alloc (.cells #[.slice none 0 0,.int .i64 0] 51)).alloc (.cells #[] 2)) none:=(World.grownBy_alloc _ _ none).trans (World.grownBy_alloc _ _ none)
 have Hsrc:=zac hsrc
 have HR1:=zac hR1
 have Hg1:=zac hg1
 clear hsrc hX hX1 hX2 hR1 hg1
 refine (callsIn_wide (n:=3)).1 ?_
 refine callsIn_of_wp Tryz.func41 rfl trivial ?_ rfl
 simp only [Tryz.ntmps41,List.size_toArray,List.length_cons,List.length_nil,Nat.reduceAdd,Nat.reduceSub,Array.replicate_succ,Array.replicate_zero,List.push_toArray,List.append_toArray,List.nil_append,List.cons_append]
 gi_wp2_with (first
  | (refine zbj rfl (.tmp 9) (.tmp 10) 47 47 rfl 2 Tryz.underlying47 Tryz.infoSize2 (W.heap.size+1) 0 0 ⟨Bx,0,none⟩ 0 4 rfl rfl #[] 2 (zae _ _ _ (by simp)) [] rfl (zaa Hsrc) rfl (by simp [Value.oneCell']) ?_;intro w2 hv2 hg2;have hR2:=(hg2.block W.heap.size (by simp only [World.size_alloc];omega) (by simp)).trans (zaa HR1);have c0:w2.cell? ⟨W.heap.size,0,none⟩=some (.slice none 0 0):=zab hR2 0;have c1:w2.cell? ⟨W.heap.size,1,none⟩=some (.int .i64 0):=zab hR2 1;have f0:w2.frozen? ⟨W.heap.size,0,none⟩=false:=zad hR2 0;have f1:w2.frozen? ⟨W.heap.size,1,none⟩=false:=zad hR2 1))
 have hga:=za6 w2 ⟨W.heap.size,0,none⟩ (.slice (some ⟨W.heap.size+1,0,none⟩) 0 0)
 have hgb:=za6 (w2.setCell ⟨W.heap.size,0,none⟩ (.slice (some ⟨W.heap.size+1,0,none⟩) 0 0)) ⟨W.heap.size,1,none⟩ (.int .i64 xw)
 have hgs:=hga.trans hgb
 have hl2:=(Array.getElem?_eq_some_iff.1 hv2).1
 refine bodyPost_ret (v:=.agg #[.slice (some ⟨W.heap.size+1,0,none⟩) 0 0,.int .i64 xw]) (by simp [results,Tryz.results41,go_sem,c0,c1,f0,f1]) rfl ⟨rfl,(hgs.block _ hl2 (by simp)).trans hv2,ze5 (zaa Hg1) hg2 hgs⟩
theorem zst (x1 x2 x3 x4 xw:Int) (Bx:Nat) (W:World) (hX:W.heap[Bx]? = some (.cells #[.int .i64 x1,.int .i64 x2,.int .i64 x3,.int .i64 x4] 92 (0,0))) :
  Calls Tryz.prog 41 #[.slice (some ⟨Bx,0,none⟩) 1 4,.int .i64 xw] W fun e w'=>e=.returned (.agg #[.slice (some ⟨W.heap.size+1,0,none⟩) 1 1,.int .i64 xw]) ∧
   w'.heap[W.heap.size+1]? = some (.cells (zhv 1 (x1,x2,x3,x4)).toArray 2 (0,0))∧W.grownBy w' none:=by
 have hBl:Bx<W.heap.size:=(Array.getElem?_eq_some_iff.1 hX).1
 have hmk:∀ w,(Instr.makeSlice 47 (.int .i64 1) (.int .i64 1)).run Tryz.prog w=.ok (.slice (some ⟨w.heap.size,0,none⟩) 1 1) (w.alloc (.cells #[.int .i64 0] 2)):=fun _=>by kernel_rfl
 have hX1:(W.alloc (.cells #[.slice none 0 0,.int .i64 0] 51)).heap[Bx]? = some (.cells #[.int .i64 x1,.int .i64 x2,.int .i64 x3,.int .i64 x4] 92 (0,0)):=(Below.heap_alloc W _ Bx hBl).trans hX
 have hX2:((W.alloc (.cells #[.slice none 0 0,.int .i64 0] 51)).alloc (.cells #[.int .i64 0] 2)).heap[Bx]? = some (.cells #[.int .i64 x1,.int .i64 x2,.int .i64 x3,.int .i64 x4] 92 (0,0)):=(Below.heap_alloc _ _ Bx (by simp;omega)).trans hX1
 have hsrc:∀ j v,([Value.int .i64 x1]:List Value)[j]? = some v→((W.alloc (.cells #[.slice none 0 0,.int .i64 0] 51)).alloc (.cells #[.int .i64 0] 2)).cell? ((⟨Bx,0,none⟩:Addr).add j)=some v:=by
  intro j v hj
  match j,hj with
  | 0,hj=>cases hj;exact zab hX2 0
 have hR1:((W.alloc (.cells #[.slice none 0 0,.int .i64 0] 51)).alloc (.cells #[.int .i64 0] 2)).heap[W.heap.size]? = some (.cells #[.slice none 0 0,.int .i64 0] 51 (0,0)):=(Below.heap_alloc _ _ _ (by simp)).trans (zae _ _ _ rfl)
 have hg1:W.grownBy ((W.alloc (.cells #[.slice none 0 0,.int .i64 0] 51)).alloc (.cells #[.int .i64 0] 2)) none:=(World.grownBy_alloc _ _ none).trans (World.grownBy_alloc _ _ none)
 have Hsrc:=zac hsrc
 have HR1:=zac hR1
 have Hg1:=zac hg1
 clear hsrc hX hX1 hX2 hR1 hg1
 refine (callsIn_wide (n:=3)).1 ?_
 refine callsIn_of_wp Tryz.func41 rfl trivial ?_ rfl
 simp only [Tryz.ntmps41,List.size_toArray,List.length_cons,List.length_nil,Nat.reduceAdd,Nat.reduceSub,Array.replicate_succ,Array.replicate_zero,List.push_toArray,List.append_toArray,List.nil_append,List.cons_append]
 gi_wp2_with (first
  | (refine zbj rfl (.tmp 9) (.tmp 10) 47 47 rfl 2 Tryz.underlying47 Tryz.infoSize2 (W.heap.size+1) 1 1 ⟨Bx,0,none⟩ 1 4 rfl rfl #[.int .i64 0] 2 (zae _ _ _ (by simp)) [.int .i64 x1] rfl (zaa Hsrc) rfl (by simp [Value.oneCell']) ?_;intro w2 hv2 hg2;have hR2:=(hg2.block W.heap.size (by simp only [World.size_alloc];omega) (by simp)).trans (zaa HR1);have c0:w2.cell? ⟨W.heap.size,0,none⟩=some (.slice none 0 0):=zab hR2 0;have c1:w2.cell? ⟨W.heap.size,1,none⟩=some (.int .i64 0):=zab hR2 1;have f0:w2.frozen? ⟨W.heap.size,0,none⟩=false:=zad hR2 0;have f1:w2.frozen? ⟨W.heap.size,1,none⟩=false:=zad hR2 1))
 have hga:=za6 w2 ⟨W.heap.size,0,none⟩ (.slice (some ⟨W.heap.size+1,0,none⟩) 1 1)
 have hgb:=za6 (w2.setCell ⟨W.heap.size,0,none⟩ (.slice (some ⟨W.heap.size+1,0,none⟩) 1 1)) ⟨W.heap.size,1,none⟩ (.int .i64 xw)
 have hgs:=hga.trans hgb
 have hl2:=(Array.getElem?_eq_some_iff.1 hv2).1
 refine bodyPost_ret (v:=.agg #[.slice (some ⟨W.heap.size+1,0,none⟩) 1 1,.int .i64 xw]) (by simp [results,Tryz.results41,go_sem,c0,c1,f0,f1]) rfl ⟨rfl,(hgs.block _ hl2 (by simp)).trans hv2,ze5 (zaa Hg1) hg2 hgs⟩
theorem zsu (x1 x2 x3 x4 xw:Int) (Bx:Nat) (W:World) (hX:W.heap[Bx]? = some (.cells #[.int .i64 x1,.int .i64 x2,.int .i64 x3,.int .i64 x4] 92 (0,0))) :
  Calls Tryz.prog 41 #[.slice (some ⟨Bx,0,none⟩) 2 4,.int .i64 xw] W fun e w'=>e=.returned (.agg #[.slice (some ⟨W.heap.size+1,0,none⟩) 2 2,.int .i64 xw]) ∧
   w'.heap[W.heap.size+1]? = some (.cells (zhv 2 (x1,x2,x3,x4)).toArray 2 (0,0))∧W.grownBy w' none:=by
 have hBl:Bx<W.heap.size:=(Array.getElem?_eq_some_iff.1 hX).1
 have hmk:∀ w,(Instr.makeSlice 47 (.int .i64 2) (.int .i64 2)).run Tryz.prog w=.ok (.slice (some ⟨w.heap.size,0,none⟩) 2 2) (w.alloc (.cells #[.int .i64 0,.int .i64 0] 2)):=fun _=>by kernel_rfl
 have hX1:(W.alloc (.cells #[.slice none 0 0,.int .i64 0] 51)).heap[Bx]? = some (.cells #[.int .i64 x1,.int .i64 x2,.int .i64 x3,.int .i64 x4] 92 (0,0)):=(Below.heap_alloc W _ Bx hBl).trans hX
 have hX2:((W.alloc (.cells #[.slice none 0 0,.int .i64 0] 51)).alloc (.cells #[.int .i64 0,.int .i64 0] 2)).heap[Bx]? = some (.cells #[.int .i64 x1,.int .i64 x2,.int .i64 x3,.int .i64 x4] 92 (0,0)):=(Below.heap_alloc _ _ Bx (by simp;omega)).trans hX1
 have hsrc:∀ j v,([Value.int .i64 x1,Value.int .i64 x2]:List Value)[j]? = some v→((W.alloc (.cells #[.slice none 0 0,.int .i64 0] 51)).alloc (.cells #[.int .i64 0,.int .i64 0] 2)).cell? ((⟨Bx,0,none⟩:Addr).add j)=some v:=by
  intro j v hj
  match j,hj with
  | 0,hj=>cases hj;exact zab hX2 0
  | 1,hj=>cases hj;exact zab hX2 1
 have hR1:((W.alloc (.cells #[.slice none 0 0,.int .i64 0] 51)).alloc (.cells #[.int .i64 0,.int .i64 0] 2)).heap[W.heap.size]? = some (.cells #[.slice none 0 0,.int .i64 0] 51 (0,0)):=(Below.heap_alloc _ _ _ (by simp)).trans (zae _ _ _ rfl)
 have hg1:W.grownBy ((W.alloc (.cells #[.slice none 0 0,.int .i64 0] 51)).alloc (.cells #[.int .i64 0,.int .i64 0] 2)) none:=(World.grownBy_alloc _ _ none).trans (World.grownBy_alloc _ _ none)
 have Hsrc:=zac hsrc
 have HR1:=zac hR1
 have Hg1:=zac hg1
 clear hsrc hX hX1 hX2 hR1 hg1
 refine (callsIn_wide (n:=3)).1 ?_
 refine callsIn_of_wp Tryz.func41 rfl trivial ?_ rfl
 simp only [Tryz.ntmps41,List.size_toArray,List.length_cons,List.length_nil,Nat.reduceAdd,Nat.reduceSub,Array.replicate_succ,Array.replicate_zero,List.push_toArray,List.append_toArray,List.nil_append,List.cons_append]
 gi_wp2_with (first
  | (refine zbj rfl (.tmp 9) (.tmp 10) 47 47 rfl 2 Tryz.underlying47 Tryz.infoSize2 (W.heap.size+1) 2 2 ⟨Bx,0,none⟩ 2 4 rfl rfl #[.int .i64 0,.int .i64 0] 2 (zae _ _ _ (by simp)) [.int .i64 x1,.int .i64 x2] rfl (zaa Hsrc) rfl (by simp [Value.oneCell']) ?_;intro w2 hv2 hg2;have hR2:=(hg2.block W.heap.size (by simp only [World.size_alloc];omega) (by simp)).trans (zaa HR1);have c0:w2.cell? ⟨W.heap.size,0,none⟩=some (.slice none 0 0):=zab hR2 0;have c1:w2.cell? ⟨W.heap.size,1,none⟩=some (.int .i64 0):=zab hR2 1;have f0:w2.frozen? ⟨W.heap.size,0,none⟩=false:=zad hR2 0;have f1:w2.frozen? ⟨W.heap.size,1,none⟩=false:=zad hR2 1))
 have hga:=za6 w2 ⟨W.heap.size,0,none⟩ (.slice (some ⟨W.heap.size+1,0,none⟩) 2 2)
 have hgb:=za6 (w2.setCell ⟨W.heap.size,0,none⟩ (.slice (some ⟨W.heap.size+1,0,none⟩) 2 2)) ⟨W.heap.size,1,none⟩ (.int .i64 xw)
 have hgs:=hga.trans hgb
 have hl2:=(Array.getElem?_eq_some_iff.1 hv2).1
 refine bodyPost_ret (v:=.agg #[.slice (some ⟨W.heap.size+1,0,none⟩) 2 2,.int .i64 xw]) (by simp [results,Tryz.results41,go_sem,c0,c1,f0,f1]) rfl ⟨rfl,(hgs.block _ hl2 (by simp)).trans hv2,ze5 (zaa Hg1) hg2 hgs⟩
theorem zsv (x1 x2 x3 x4 xw:Int) (Bx:Nat) (W:World) (hX:W.heap[Bx]? = some (.cells #[.int .i64 x1,.int .i64 x2,.int .i64 x3,.int .i64 x4] 92 (0,0))) :
  Calls Tryz.prog 41 #[.slice (some ⟨Bx,0,none⟩) 3 4,.int .i64 xw] W fun e w'=>e=.returned (.agg #[.slice (some ⟨W.heap.size+1,0,none⟩) 3 3,.int .i64 xw]) ∧
   w'.heap[W.heap.size+1]? = some (.cells (zhv 3 (x1,x2,x3,x4)).toArray 2 (0,0))∧W.grownBy w' none:=by
 have hBl:Bx<W.heap.size:=(Array.getElem?_eq_some_iff.1 hX).1
 have hmk:∀ w,(Instr.makeSlice 47 (.int .i64 3) (.int .i64 3)).run Tryz.prog w=.ok (.slice (some ⟨w.heap.size,0,none⟩) 3 3) (w.alloc (.cells #[.int .i64 0,.int .i64 0,.int .i64 0] 2)):=fun _=>by kernel_rfl
 have hX1:(W.alloc (.cells #[.slice none 0 0,.int .i64 0] 51)).heap[Bx]? = some (.cells #[.int .i64 x1,.int .i64 x2,.int .i64 x3,.int .i64 x4] 92 (0,0)):=(Below.heap_alloc W _ Bx hBl).trans hX
 have hX2:((W.alloc (.cells #[.slice none 0 0,.int .i64 0] 51)).alloc (.cells #[.int .i64 0,.int .i64 0,.int .i64 0] 2)).heap[Bx]? = some (.cells #[.int .i64 x1,.int .i64 x2,.int .i64 x3,.int .i64 x4] 92 (0,0)):=(Below.heap_alloc _ _ Bx (by simp;omega)).trans hX1
 have hsrc:∀ j v,([Value.int .i64 x1,Value.int .i64 x2,Value.int .i64 x3]:List Value)[j]? = some v→((W.alloc (.cells #[.slice none 0 0,.int .i64 0] 51)).alloc (.cells #[.int .i64 0,.int .i64 0,.int .i64 0] 2)).cell? ((⟨Bx,0,none⟩:Addr).add j)=some v:=by
  intro j v hj
  match j,hj with
  | 0,hj=>cases hj;exact zab hX2 0
  | 1,hj=>cases hj;exact zab hX2 1
  | 2,hj=>cases hj;exact zab hX2 2
 have hR1:((W.alloc (.cells #[.slice none 0 0,.int .i64 0] 51)).alloc (.cells #[.int .i64 0,.int .i64 0,.int .i64 0] 2)).heap[W.heap.size]? = some (.cells #[.slice none 0 0,.int .i64 0] 51 (0,0)):=(Below.heap_alloc _ _ _ (by simp)).trans (zae _ _ _ rfl)
 have hg1:W.grownBy ((W.alloc (.cells #[.slice none 0 0,.int .i64 0] 51)).alloc (.cells #[.int .i64 0,.int .i64 0,.int .i64 0] 2)) none:=(World.grownBy_alloc _ _ none).trans (World.grownBy_alloc _ _ none)
 have Hsrc:=zac hsrc
 have HR1:=zac hR1
 have Hg1:=zac hg1
 clear hsrc hX hX1 hX2 hR1 hg1
 refine (callsIn_wide (n:=3)).1 ?_
 refine callsIn_of_wp Tryz.func41 rfl trivial ?_ rfl
 simp only [Tryz.ntmps41,List.size_toArray,List.length_cons,List.length_nil,Nat.reduceAdd,Nat.reduceSub,Array.replicate_succ,Array.replicate_zero,List.push_toArray,List.append_toArray,List.nil_append,List.cons_append]
 gi_wp2_with (first
  | (refine zbj rfl (.tmp 9) (.tmp 10) 47 47 rfl 2 Tryz.underlying47 Tryz.infoSize2 (W.heap.size+1) 3 3 ⟨Bx,0,none⟩ 3 4 rfl rfl #[.int .i64 0,.int .i64 0,.int .i64 0] 2 (zae _ _ _ (by simp)) [.int .i64 x1,.int .i64 x2,.int .i64 x3] rfl (zaa Hsrc) rfl (by simp [Value.oneCell']) ?_;intro w2 hv2 hg2;have hR2:=(hg2.block W.heap.size (by simp only [World.size_alloc];omega) (by simp)).trans (zaa HR1);have c0:w2.cell? ⟨W.heap.size,0,none⟩=some (.slice none 0 0):=zab hR2 0;have c1:w2.cell? ⟨W.heap.size,1,none⟩=some (.int .i64 0):=zab hR2 1;have f0:w2.frozen? ⟨W.heap.size,0,none⟩=false:=zad hR2 0;have f1:w2.frozen? ⟨W.heap.size,1,none⟩=false:=zad hR2 1))
 have hga:=za6 w2 ⟨W.heap.size,0,none⟩ (.slice (some ⟨W.heap.size+1,0,none⟩) 3 3)
 have hgb:=za6 (w2.setCell ⟨W.heap.size,0,none⟩ (.slice (some ⟨W.heap.size+1,0,none⟩) 3 3)) ⟨W.heap.size,1,none⟩ (.int .i64 xw)
 have hgs:=hga.trans hgb
 have hl2:=(Array.getElem?_eq_some_iff.1 hv2).1
 refine bodyPost_ret (v:=.agg #[.slice (some ⟨W.heap.size+1,0,none⟩) 3 3,.int .i64 xw]) (by simp [results,Tryz.results41,go_sem,c0,c1,f0,f1]) rfl ⟨rfl,(hgs.block _ hl2 (by simp)).trans hv2,ze5 (zaa Hg1) hg2 hgs⟩
theorem yhp (x1 x2 x3 x4 xw:Int) (Bx:Nat) (W:World) (hX:W.heap[Bx]? = some (.cells #[.int .i64 x1,.int .i64 x2,.int .i64 x3,.int .i64 x4] 92 (0,0))) :
  Calls Tryz.prog 41 #[.slice (some ⟨Bx,0,none⟩) 4 4,.int .i64 xw] W fun e w'=>e=.returned (.agg #[.slice (some ⟨W.heap.size+1,0,none⟩) 4 4,.int .i64 xw]) ∧
   w'.heap[W.heap.size+1]? = some (.cells (zhv 4 (x1,x2,x3,x4)).toArray 2 (0,0))∧W.grownBy w' none:=by
 have hBl:Bx<W.heap.size:=(Array.getElem?_eq_some_iff.1 hX).1
 have hmk:∀ w,(Instr.makeSlice 47 (.int .i64 4) (.int .i64 4)).run Tryz.prog w=.ok (.slice (some ⟨w.heap.size,0,none⟩) 4 4) (w.alloc (.cells #[.int .i64 0,.int .i64 0,.int .i64 0,.int .i64 0] 2)):=fun _=>by kernel_rfl
 have hX1:(W.alloc (.cells #[.slice none 0 0,.int .i64 0] 51)).heap[Bx]? = some (.cells #[.int .i64 x1,.int .i64 x2,.int .i64 x3,.int .i64 x4] 92 (0,0)):=(Below.heap_alloc W _ Bx hBl).trans hX
 have hX2:((W.alloc (.cells #[.slice none 0 0,.int .i64 0] 51)).alloc (.cells #[.int .i64 0,.int .i64 0,.int .i64 0,.int .i64 0] 2)).heap[Bx]? = some (.cells #[.int .i64 x1,.int .i64 x2,.int .i64 x3,.int .i64 x4] 92 (0,0)):=(Below.heap_alloc _ _ Bx (by simp;omega)).trans hX1
 have hsrc:∀ j v,([Value.int .i64 x1,Value.int .i64 x2,Value.int .i64 x3,Value.int .i64 x4]:List Value)[j]? = some v→((W.alloc (.cells #[.slice none 0 0,.int .i64 0] 51)).alloc (.cells #[.int .i64 0,.int .i64 0,.int .i64 0,.int .i64 0] 2)).cell? ((⟨Bx,0,none⟩:Addr).add j)=some v:=by
  intro j v hj
  match j,hj with
  | 0,hj=>cases hj;exact zab hX2 0
  | 1,hj=>cases hj;exact zab hX2 1
  | 2,hj=>cases hj;exact zab hX2 2
  | 3,hj=>cases hj;exact zab hX2 3
 have hR1:((W.alloc (.cells #[.slice none 0 0,.int .i64 0] 51)).alloc (.cells #[.int .i64 0,.int .i64 0,.int .i64 0,.int .i64 0] 2)).heap[W.heap.size]? = some (.cells #[.slice none 0 0,.int .i64 0] 51 (0,0)):=(Below.heap_alloc _ _ _ (by simp)).trans (zae _ _ _ rfl)
 have hg1:W.grownBy ((W.alloc (.cells #[.slice none 0 0,.int .i64 0] 51)).alloc (.cells #[.int .i64 0,.int .i64 0,.int .i64 0,.int .i64 0] 2)) none:=(World.grownBy_alloc _ _ none).trans (World.grownBy_alloc _ _ none)
 have Hsrc:=zac hsrc
 have HR1:=zac hR1
 have Hg1:=zac hg1
 clear hsrc hX hX1 hX2 hR1 hg1
 refine (callsIn_wide (n:=3)).1 ?_
 refine callsIn_of_wp Tryz.func41 rfl trivial ?_ rfl
 simp only [Tryz.ntmps41,List.size_toArray,List.length_cons,List.length_nil,Nat.reduceAdd,Nat.reduceSub,Array.replicate_succ,Array.replicate_zero,List.push_toArray,List.append_toArray,List.nil_append,List.cons_append]
 gi_wp2_with (first
  | (refine zbj rfl (.tmp 9) (.tmp 10) 47 47 rfl 2 Tryz.underlying47 Tryz.infoSize2 (W.heap.size+1) 4 4 ⟨Bx,0,none⟩ 4 4 rfl rfl #[.int .i64 0,.int .i64 0,.int .i64 0,.int .i64 0] 2 (zae _ _ _ (by simp)) [.int .i64 x1,.int .i64 x2,.int .i64 x3,.int .i64 x4] rfl (zaa Hsrc) rfl (by simp [Value.oneCell']) ?_;intro w2 hv2 hg2;have hR2:=(hg2.block W.heap.size (by simp only [World.size_alloc];omega) (by simp)).trans (zaa HR1);have c0:w2.cell? ⟨W.heap.size,0,none⟩=some (.slice none 0 0):=zab hR2 0;have c1:w2.cell? ⟨W.heap.size,1,none⟩=some (.int .i64 0):=zab hR2 1;have f0:w2.frozen? ⟨W.heap.size,0,none⟩=false:=zad hR2 0;have f1:w2.frozen? ⟨W.heap.size,1,none⟩=false:=zad hR2 1))
 have hga:=za6 w2 ⟨W.heap.size,0,none⟩ (.slice (some ⟨W.heap.size+1,0,none⟩) 4 4)
 have hgb:=za6 (w2.setCell ⟨W.heap.size,0,none⟩ (.slice (some ⟨W.heap.size+1,0,none⟩) 4 4)) ⟨W.heap.size,1,none⟩ (.int .i64 xw)
 have hgs:=hga.trans hgb
 have hl2:=(Array.getElem?_eq_some_iff.1 hv2).1
 refine bodyPost_ret (v:=.agg #[.slice (some ⟨W.heap.size+1,0,none⟩) 4 4,.int .i64 xw]) (by simp [results,Tryz.results41,go_sem,c0,c1,f0,f1]) rfl ⟨rfl,(hgs.block _ hl2 (by simp)).trans hv2,ze5 (zaa Hg1) hg2 hgs⟩
theorem zri (ar:Nat) (har:ar≤4) (x1 x2 x3 x4 xw:Int) (Bx:Nat) (W:World) (hX:W.heap[Bx]? = some (.cells #[.int .i64 x1,.int .i64 x2,.int .i64 x3,.int .i64 x4] 92 (0,0))) :
  Calls Tryz.prog 41 #[.slice (some ⟨Bx,0,none⟩) ar 4,.int .i64 xw] W fun e w'=>e=.returned (.agg #[.slice (some ⟨W.heap.size+1,0,none⟩) ar ar,.int .i64 xw]) ∧
   w'.heap[W.heap.size+1]? = some (.cells (zhv ar (x1,x2,x3,x4)).toArray 2 (0,0))∧W.grownBy w' none:=by
 match ar,har with
 | 0,_=>exact yho x1 x2 x3 x4 xw Bx W hX
 | 1,_=>exact zst x1 x2 x3 x4 xw Bx W hX
 | 2,_=>exact zsu x1 x2 x3 x4 xw Bx W hX
 | 3,_=>exact zsv x1 x2 x3 x4 xw Bx W hX
 | 4,_=>exact yhp x1 x2 x3 x4 xw Bx W hX
end H
end Go.Proofs.YtoifcnidhfnapabGreatDoor
