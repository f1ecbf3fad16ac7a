import Derived.Test.YtoifcnidhfnapabGreatDoorB08
import Derived.Stop.RegionWithIn
import Derived.Laws.CopyRow
set_option linter.unusedVariables false
set_option linter.unusedSimpArgs false
set_option maxRecDepth 100000
set_option maxHeartbeats 16000000
namespace Go.Proofs.YtoifcnidhfnapabGreatDoor
open Go.RowKit Go.Maps Go.Sort Go.Shelf
theorem zuk (a:Option Addr) (n cap:Nat) (c:Int) (W:World):Calls Tryz.prog 131 #[.agg #[.slice a n cap,.int .i64 c]] W fun e w'=>e=.returned (.bool (decide (n=0)))∧Below W.heap.size W w':=by
 have hb:Below W.heap.size W (W.alloc (.cells #[.slice a n cap,.int .i64 c] 124)):=(Below.refl _ _).alloc (Nat.le_refl _) _
 have Hb:=zac hb
 have hd:((n:Int) == 0)=decide (n=0):=by
  by_cases h:n=0
  ·subst h;rfl
  ·have:¬ (n:Int)=0:=by omega
   simp [h]
 clear hb
 go_enter Tryz.func131,Tryz.ntmps131
 go_wp2
 go_ret
 exact ⟨by simp [hd],zaa Hb⟩
def yb6 (es:List zai) (s:Int):Int:=es.foldl (fun s e=>wrap64 (s+e.2)) s
def zen (rs:List (List zai)):Int:=rs.foldl (fun s r=>yb6 r s) 0
theorem yfi (es:List zai) (s:Int) (k:Nat) (hk:k<es.length):yb6 (es.take (k+1)) s=wrap64 (yb6 (es.take k) s+(es[k]?.getD zct).2):=by
 unfold yb6
 rw [List.take_succ_eq_append_getElem hk,List.foldl_append]
 simp [hk]
theorem zv7 (rs:List (List zai)) (k:Nat) (hk:k<rs.length):zen (rs.take (k+1))=yb6 (rs[k]?.getD []) (zen (rs.take k)):=by
 unfold zen
 rw [List.take_succ_eq_append_getElem hk,List.foldl_append]
 simp [hk]
theorem zmt (rs:List (List zai)) (c:Int) (sv:Value) (W:World) (h:zay W sv rs) (hn:∀ r∈rs,r.length≤1000000000000) (hl:rs.length≤1000000000000) :
  Calls Tryz.prog 158 #[.agg #[sv,.int .i64 c]] W fun e w'=>e=.returned (.int .i64 (zen rs))∧Below W.heap.size W w':=by
 obtain ⟨a,cap,rfl,hx⟩:=h
 obtain ⟨W1,hW1⟩:∃ W1,W1=W.alloc (.cells #[.slice a rs.length cap,.int .i64 c] 124):=⟨_,rfl⟩
 have hb1:Below W.heap.size W W1:=by rw [hW1];exact (Below.refl _ _).alloc (Nat.le_refl _) _
 have hB:W1.heap[W.heap.size]? = some (.cells #[.slice a rs.length cap,.int .i64 c] 124 (0,0)):=by rw [hW1];exact zae _ _ _ rfl
 have c0:W1.cell? ⟨W.heap.size,0,none⟩=some (.slice a rs.length cap):=zab hB 0
 have Hb1:=zac hb1
 have Hn:=zac hn
 have Hx:=zac hx
 clear hb1 hn hx hB
 go_enter Tryz.func158,Tryz.ntmps158
 go_wp2
 rw [← hW1]
 clear hW1
 try go_wp2
 go_loopw [3,11] (fun s i wr=>∃ k:Nat,k≤rs.length∧i=.int .i64 k∧s=.int .i64 (zen (rs.take k))∧Below W1.heap.size W1 wr) (fun _ i _=>rs.length - (intOf i).toNat)
 case atStart=>exact ⟨0,Nat.zero_le _,rfl,rfl,Below.refl _ _⟩
 case round =>
  obtain ⟨k,hk,rfl,rfl,hB⟩:=hrel
  by_cases hlt:k<rs.length
  ·have hkx:(k:Int)<(rs.length:Int):=by omega
   obtain ⟨g,q,b,o,cp,rfl,d0,hr⟩:=(zaa Hx) k hlt
   have hmem:rs[k]?.getD []∈rs:=by simp [hlt]
   have hle:=(zaa Hn) _ hmem
   have hsucc:=zv7 rs k hlt
   have hbr:Below W.heap.size W wr:=(zaa Hb1).trans (hB.mono (zaa Hb1).size)
   have d0':=(hbr.cell (p:=⟨g,q+k,none⟩) (World.block_lt_of_cell? W _ d0)).trans d0
   obtain ⟨r,hre⟩:∃ r,r=rs[k]?.getD []:=⟨_,rfl⟩
   rw [← hre] at hr hle hsucc d0' d0
   obtain ⟨s0,hs0⟩:∃ s0,s0=zen (rs.take k):=⟨_,rfl⟩
   rw [← hs0] at hsucc ⊢
   obtain ⟨wo,hwo⟩:∃ wo,wo=wr:=⟨_,rfl⟩
   rw [← hwo] at hB hbr d0' ⊢
   clear hwo
   have Hr:=zac (hr.below hbr)
   have Hsucc:=zac hsucc
   have HB:=zac hB
   clear hr hsucc hre hs0 hmem hbr d0 hB
   go_wp2
   go_loopw [3,17] (fun s i wr=>∃ j:Nat,j≤r.length∧i=.int .i64 j∧s=.int .i64 (yb6 (r.take j) s0)∧Below wo.heap.size wo wr) (fun _ i _=>r.length - (intOf i).toNat)
   case atStart=>exact ⟨0,Nat.zero_le _,rfl,rfl,Below.refl _ _⟩
   case round =>
    obtain ⟨j,hj,rfl,rfl,hB2⟩:=hrel
    by_cases hlt2:j<r.length
    ·have hjx:(j:Int)<(r.length:Int):=by omega
     obtain ⟨a',cap',e,_,hxx⟩:=(zaa Hr).below hB2
     injection e with e1 e2 e3
     subst e1
     obtain ⟨b',o',e,x0,x1,x2,x3,_⟩:=hxx j hlt2
     injection e with e
     injection e with e1 e2
     subst e1 e2
     have hs2:=yfi r s0 j hlt2
     obtain ⟨y,hy⟩:∃ y,y=r[j]?.getD zct:=⟨_,rfl⟩
     rw [← hy] at x0 x1 x2 x3 hs2
     obtain ⟨⟨y1,y2,y3⟩,yw⟩:=y
     dsimp only at x0 x1 x2 x3 hs2
     have Hs2:=zac hs2
     have HB2:=zac hB2
     clear hs2 hB2 hxx hy
     go_wp2
     refine ⟨⟨j+1,by omega,by simp,by rw [zaa Hs2],(zaa HB2).alloc (zaa HB2).size _⟩,by simp [intOf];omega⟩
    ·have hje:j=r.length:=by omega
     subst hje
     rw [List.take_length]
     have HB2:=zac hB2
     clear hB2
     go_wp2
     refine ⟨⟨k+1,by omega,by simp,by rw [zaa Hsucc],(zaa HB).trans ((zaa HB2).mono (zaa HB).size)⟩,by simp [intOf];omega⟩
  ·have hke:k=rs.length:=by omega
   subst hke
   rw [List.take_length]
   go_wp2
   go_ret
   exact ⟨rfl,(zaa Hb1).trans (hB.mono (zaa Hb1).size)⟩
structure zas (X:Nat→Prop) (W W':World):Prop where
  size:W.heap.size≤W'.heap.size
  same:∀ k o,W.heap[k]? = some o→(o.isCells=true∨o.isWalk=true)→¬ X k→W'.heap[k]? = some o
theorem zas.refl (X:Nat→Prop) (W:World):zas X W W:=⟨Nat.le_refl _,fun _ _ h _ _=>h⟩
theorem zas.trans {X:Nat→Prop} {A B C:World} (h:zas X A B) (k:zas X B C):zas X A C:=
  ⟨Nat.le_trans h.size k.size,fun i o hi ho hx=>k.same i o (h.same i o hi ho hx) ho hx⟩
theorem zas.of_grown {X:Nat→Prop} {A B:World} {row:Option Nat} (h:A.grownBy B row) (hr:∀ j,row=some j→X j):zas X A B:=
  ⟨h.size,fun k o hk _ hx=>(h.block k (Array.getElem?_eq_some_iff.1 hk).1 (fun e=>hx (hr k e.symm))).trans hk⟩
theorem zas.put {X:Nat→Prop} (W:World) (l:Nat) (o o':Obj) (h:W.heap[l]? = some o) (h1:o.isCells=false) (h2:o.isWalk=false):zas X W (W.putObj l o'):=by
  refine ⟨by simp,fun k p hk hp _=>?_⟩
  have hne:k≠l:=fun e=>by
    subst e
    rw [h] at hk
    cases hk
    rcases hp with hp|hp
    · rw [h1] at hp;cases hp
    · rw [h2] at hp;cases hp
  rw [World.putObj_heap_other hne];exact hk
theorem zas.cellOf {X:Nat→Prop} {W W':World} (h:zas X W W') {b o:Nat} {v:Value} (hc:W.cell? ⟨b,o,none⟩=some v) (hx:¬ X b):W'.cell? ⟨b,o,none⟩=some v:=by
  have hlt:=World.block_lt_of_cell? W _ hc
  cases hb:W.heap[b]? with
  | none=>rw [Array.getElem?_eq_none_iff] at hb;simp at hlt;omega
  | some ob =>
    cases ob with
    | cells cs t fr =>
      have h2:=h.same b _ hb (Or.inl rfl) hx
      rw [zab hb] at hc
      rw [zab h2];exact hc
    | _=>simp [World.cell?,hb] at hc
theorem zas.wmap {X:Nat→Prop} {W W':World} (h:zas X W W') {b n:Nat} {f:Row→Int} (hm:ze9 W b n f) (hx:¬ X b):ze9 W' b n f:=by
  obtain ⟨D,⟨es,cl,hb,h2⟩,hr⟩:=hm
  exact ⟨D,⟨es,cl,h.same b _ hb (Or.inr rfl) hx,h2⟩,hr⟩
def zbf (g:Row→Int) (ys:List Row):List (Row×Int):=ys.map fun y=>(y,g y)
theorem zfs (W:World):W.grownBy W.drew none:=⟨rfl,rfl,rfl,Nat.le_refl _,fun _ _ _=>rfl⟩
theorem ycm (n:Nat) (hn:1≤n) (l Bn mb nn:Nat) (g:Row→Int) (X:Nat→Prop) (J Jx:List (Row×Int)→World→Prop) (N:Nat)
    (hY:∀ pre x W,J pre W→pre.length<N→YieldAt Fence.wide (n - 1) Tryz.prog l #[.agg #[.int .i64 x.1.1,.int .i64 x.1.2.1,.int .i64 x.1.2.2],.int .i64 x.2] W fun e W' =>
      (e=.returned (.bool true)∧J (pre ++ [x]) W'∧zas X W W')∨(e=.returned (.bool false)∧Jx (pre ++ [x]) W'))
    (W:World) (hJ:AbidesFrom W.heap.size J) (hX:∀ k,X k→k<W.heap.size) (hBn:W.cell? ⟨Bn,0,none⟩=some (.map (some mb))) (hBX:¬ X Bn)
    (hmX:¬ X mb) (D:DataW Unit) (hown:W.ownsMap Tryz.prog 150 (plainElem Tryz.prog 2) mb nn D) (hrep:Rep D g) (hnn:nn≤1000000000) (hN:∀ ys,zdr D ys→ys.length≤N) (h0:J [] W) :
    CallsIn Fence.wide n Tryz.prog 153 #[.func (.yield l) #[] #[],.pointer (some ⟨Bn,0,none⟩)] W fun e W'=>(∃ v,e=.returned v) ∧
      ((∃ xs,(∃ ys,zdr D ys∧xs=zbf g ys)∧J xs W')∨(∃ pre,True∧Jx pre W')):=by
  have hBl:=World.block_lt_of_cell? W _ hBn
  have hml:=hown.lt
  dsimp only at hBl
  have hkeys:(w:World)→(hw:w=W.alloc (.cells #[.map (some mb)] 102))→Calls Tryz.prog 154 #[.func (.func 182) #[] #[.pointer (some ⟨W.heap.size,0,none⟩)],zsr] w fun e w'=>∃ v ys,e=.returned v∧zdr D ys∧zhh w' v ys∧RowKit.Below w.heap.size w w'∧ys.length≤nn∧∀ gb ln cap,v=.slice (some ⟨gb,0,none⟩) ln cap→w.heap.size≤gb:=
    fun w hw=>zgn W.heap.size mb nn D g hrep w (by rw [hw];exact zab (zae _ _ _ rfl) 0) (by rw [hw];exact hown.alloc _) hnn
  have Hkeys:=zac (hkeys _ rfl)
  clear hkeys
  refine callsIn_of_wp Tryz.func153 rfl trivial ?_ rfl
  simp only [Tryz.ntmps153,List.size_toArray,List.length_cons,List.length_nil,Nat.reduceAdd,Nat.reduceSub,Array.replicate_succ,Array.replicate_zero,List.push_toArray,List.append_toArray,List.nil_append,List.cons_append]
  gi_wp2_with (first
    | (refine ⟨trivial,?_⟩;gi_at_call 155;refine (callsIn_wide.2 (zgd _ _)).mono ?_;rintro e w' ⟨rfl,rfl⟩)
    | (refine ⟨trivial,?_⟩;gi_at_call 154;refine (callsIn_wide.2 (zaa Hkeys)).mono ?_;rintro e w1 ⟨v,ys,rfl,hR,hT,hb,hyl,hgb⟩;obtain ⟨a,cap,rfl,hcs⟩:=hT))
  have hg1:W.grownBy w1 none:=(World.grownBy_alloc W (.cells #[.map (some mb)] 102) none).trans (za5 hb none)
  have hJ1:J [] w1:=hJ [] W w1 none h0 hg1 (fun r e=>by cases e)
  have hk1:zas X W w1:=zas.of_grown hg1 (fun j e=>by cases e)
  have hB1:=hk1.cellOf hBn hBX
  have hm1:ze9 w1 mb nn g:=hk1.wmap ⟨D,hown,hrep⟩ hmX
  have hys:=hN ys hR
  have hwf:=hR.wf
  have hfr:∀ gb ln cap',Value.slice a ys.length cap=.slice (some ⟨gb,0,none⟩) ln cap'→¬ X gb:=fun gb ln cap' e hx=>by
    have h1:=hgb gb ln cap' e
    have h2:=hX gb hx
    simp at h1
    omega
  have Hcs:=zac hcs
  have HR:=zac hR
  have HJ1:=zac hJ1
  clear hcs hR hJ1 Hkeys hN hgb hown hrep h0
  try go_frame
  gi_loopw [10] (fun i wr=>∃ k:Nat,k≤ys.length∧i=.int .i64 k∧J (zbf g (ys.take k)) wr∧zas X w1 wr∧W.heap.size≤wr.heap.size) (fun i _=>ys.length - (intOf i).toNat)
  case atStart=>exact ⟨0,Nat.zero_le _,rfl,zaa HJ1,zas.refl _ _,hg1.size⟩
  case round =>
    obtain ⟨k,hk,rfl,hJk,hkk,hsk⟩:=hrel
    by_cases hlt:k<ys.length
    · obtain ⟨gb,rfl,d0,d1,d2⟩:=(zaa Hcs) k hlt
      have hx:(k:Int)<(ys.length:Int):=by omega
      have hgX:¬ X gb:=hfr gb _ _ rfl
      replace d0:=hkk.cellOf d0 hgX
      replace d1:=hkk.cellOf d1 hgX
      replace d2:=hkk.cellOf d2 hgX
      obtain ⟨y,hy⟩:∃ y,y=ys[k]?.getD (0,0,0):=⟨_,rfl⟩
      have hye:y=ys[k]:=by rw [hy];simp [hlt]
      have hwy:zaw y:=by rw [hye];exact hwf _ (List.getElem_mem hlt)
      have htk:ys.take (k+1)=ys.take k ++ [y]:=by rw [List.take_succ_eq_append_getElem hlt,hye]
      rw [← hy] at d0 d1 d2
      obtain ⟨y1,y2,y3⟩:=y
      dsimp only at d0 d1 d2
      have hBr:=hkk.cellOf hB1 hBX
      have hmr:=hkk.wmap hm1 hmX
      have Htk:=zac htk
      have HJk:=zac hJk
      have Hkk:=zac hkk
      have Hmr:=zac hmr
      clear hy hye htk hJk hkk hmr
      gi_wp2_with fail
      have hJa:J (zbf g (ys.take k)) (wr.alloc (.cells #[.int .i64 y1,.int .i64 y2,.int .i64 y3] 150)).drew:=
        hJ _ wr _ none (zaa HJk) ((World.grownBy_alloc _ _ none).trans (zfs _)) (fun r e=>by cases e)
      have hka:zas X wr (wr.alloc (.cells #[.int .i64 y1,.int .i64 y2,.int .i64 y3] 150)).drew:=zas.of_grown ((World.grownBy_alloc _ _ none).trans (zfs _)) (fun j e=>by cases e)
      have hsa:wr.heap.size<(wr.alloc (.cells #[.int .i64 y1,.int .i64 y2,.int .i64 y3] 150)).drew.heap.size:=by
        show wr.heap.size<(wr.alloc _).heap.size
        simp
      obtain ⟨fn,tmps,assign,body,hy,hR⟩:=hY _ ((y1,y2,y3),g (y1,y2,y3)) _ hJa (by simp [zbf];omega)
      have hR':=hR.mono (R':=fun e W'=>∃ r:Bool,e=.returned (.bool r)∧((r=true∧J (zbf g (ys.take k) ++ [((y1,y2,y3),g (y1,y2,y3))]) W'∧zas X (wr.alloc (.cells #[.int .i64 y1,.int .i64 y2,.int .i64 y3] 150)).drew W')∨(r=false∧Jx (zbf g (ys.take k) ++ [((y1,y2,y3),g (y1,y2,y3))]) W'))) (by
        rintro e W3 (⟨rfl,h1,h2⟩|⟨rfl,h1⟩)
        · exact ⟨true,rfl,.inl ⟨rfl,h1,h2⟩⟩
        · exact ⟨false,rfl,.inr ⟨rfl,h1⟩⟩)
      have hlk:(Instr.lookup 102 (.map (some mb)) (.agg #[.int .i64 y1,.int .i64 y2,.int .i64 y3]) false).run Tryz.prog (wr.alloc (.cells #[.int .i64 y1,.int .i64 y2,.int .i64 y3] 150)).drew=.ok (.int .i64 (g (y1,y2,y3))) (wr.alloc (.cells #[.int .i64 y1,.int .i64 y2,.int .i64 y3] 150)).drew:=(hka.wmap (zaa Hmr) hmX).look hwy
      have f0:(wr.alloc (.cells #[.int .i64 y1,.int .i64 y2,.int .i64 y3] 150)).drew.cell? ⟨wr.heap.size,0,none⟩=some (.int .i64 y1):=zab (zae _ _ _ rfl) 0
      have f1:(wr.alloc (.cells #[.int .i64 y1,.int .i64 y2,.int .i64 y3] 150)).drew.cell? ⟨wr.heap.size,1,none⟩=some (.int .i64 y2):=zab (zae _ _ _ rfl) 1
      have f2:(wr.alloc (.cells #[.int .i64 y1,.int .i64 y2,.int .i64 y3] 150)).drew.cell? ⟨wr.heap.size,2,none⟩=some (.int .i64 y3):=zab (zae _ _ _ rfl) 2
      have fB:=hka.cellOf hBr hBX
      dsimp only at hy
      have HR':=zac hR'
      have Hka:=zac hka
      have HJa:=zac hJa
      clear hR hR' hka hJa hBr d0 d1 d2 hB1 hm1 hBn hJ hY
      gi_region_with (refine (zaa HR').mono ?_;rintro e W3 ⟨r,rfl,hor⟩)
      all_goals (rcases hor with ⟨rfl,hJ3,hk3⟩|⟨rfl,hx3⟩)
      all_goals first
        | (gi_wp2
           go_roundw
           case rel=>exact ⟨k+1,by omega,by simp,by rw [zaa Htk];simpa [zbf] using hJ3,((zaa Hkk).trans (zaa Hka)).trans hk3,by have:=hk3.size;omega⟩
           case measure=>simp [intOf];omega)
        | (gi_wp2
           refine bodyPost_ret (results_none rfl _ _ _) rfl ?_
           exact ⟨⟨_,rfl⟩,.inr ⟨_,trivial,hx3⟩⟩)
    · have hke:k=ys.length:=by omega
      subst hke
      rw [List.take_length] at hJk
      gi_wp2
      go_end0
      exact ⟨⟨_,rfl⟩,.inl ⟨_,⟨ys,zaa HR,rfl⟩,hJk⟩⟩
attribute [local go_sem] Oper.semAt_some
theorem zbj {F:Fence} {n:Nat} {P:Program} {w:World} {ops:Array Oper} {rest:List Oper} {o:Oper} {a:Act} {Q:Exit→Act→World→Prop} (hgd:o.guard=none) (d s:Operand) (dT sT:TypeId)
  (ho:o.op=.call { callee:=.builtin .copy,args:=#[d,s],argTypes:=#[dT,sT] }) (elem:TypeId) (hu:P.underlying dT=some (.slice elem)) (hsz:(P.info? elem).map (·.size)=some 1)
  (g dLen dCap:Nat) (ad:Addr) (sLen sCap:Nat) (hd:a.eval d=.slice (some ⟨g,0,none⟩) dLen dCap) (hs:a.eval s=.slice (some ad) sLen sCap)
  (cur:Array Value) (t:TypeId) (hg:w.heap[g]? = some (.cells cur t (0,0))) (cs:List Value) (hn:cs.length=Nat.min sLen dLen)
  (hsrc:∀ j v,cs[j]? = some v→w.cell? (ad.add j)=some v) (hfit:cs.length=cur.size) (h1:∀ v∈cs,v.oneCell'=true)
  (h:∀ w',w'.heap[g]? = some (.cells cs.toArray t (0,0))→w.grownBy w' (some g)→wpListIn F n P ops Q rest (a.put o.dst (goInt cs.length)) w'):wpListIn F n P ops Q (o :: rest) a w:=by
 refine wpListIn_plain hgd fun K hK'=>?_
 have hrun:=run_copy_row (P:=P) w dT sT o.type elem g 0 dLen dCap ad sLen sCap cur t cs hu hsz hg hn hsrc (by omega) h1
 unfold Oper.wpIn
 refine ⟨?_,?_⟩
 ·simp [Oper.about,ho,resolve,Target.leads,Sem.run_pure]
 ·rw [Oper.semAt_plain F _ _ (by rw [ho];intro c hc';cases hc')]
  simp [execOp,ho,resolve,invoke,builtin,hd,hs,hrun,Result.andThen]
  refine hK' _ _ (h _ ?_ ⟨rfl,rfl,rfl,by simp [World.setRow],fun k hk hne=>setRow_other w g k _ (fun e=>hne (by rw [e]))⟩)
  rw [setRow_heap w g _ _ t _ hg]
  simp [hfit]
def zhv (ar:Nat) (y:Row):List Value:=(zev y).take ar
theorem yjn {W w2:World} {o:Obj} (h:(W.alloc o).grownBy w2 (some W.heap.size)):W.grownBy w2 none:=
 ⟨h.os,h.tape,h.output,by have:=h.size;simp at this;omega,fun k hk _=>(h.block k (by simp;omega) (by simp;omega)).trans (Below.heap_alloc W o k hk)⟩
theorem za6 (w:World) (a:Addr) (v:Value):w.grownBy (w.setCell a v) (some a.block):=
 ⟨rfl,rfl,rfl,by simp [World.setCell],fun k hk hne=>by
  simp only [World.setCell]
  rw [Array.getElem?_modify,if_neg (fun e=>hne (by rw [e]))]⟩
theorem ze5 {W A w2 w3:World} (h1:W.grownBy A none) (h2:A.grownBy w2 (some (W.heap.size+1))) (h3:w2.grownBy w3 (some W.heap.size)):W.grownBy w3 none:=
 ⟨h3.os.trans (h2.os.trans h1.os),h3.tape.trans (h2.tape.trans h1.tape),h3.output.trans (h2.output.trans h1.output),Nat.le_trans h1.size (Nat.le_trans h2.size h3.size),fun k hk _ =>
  (h3.block k (Nat.lt_of_lt_of_le hk (Nat.le_trans h1.size h2.size)) (by simp;omega)).trans ((h2.block k (Nat.lt_of_lt_of_le hk h1.size) (by simp;omega)).trans (h1.block k hk (by simp)))⟩
theorem zst (x1 x2 x3 xw:Int) (Bx:Nat) (W:World) (hX:W.heap[Bx]? = some (.cells #[.int .i64 x1,.int .i64 x2,.int .i64 x3] 150 (0,0))) :
  Calls Tryz.prog 41 #[.slice (some ⟨Bx,0,none⟩) 1 3,.int .i64 xw] W fun e w'=>e=.returned (.agg #[.slice (some ⟨W.heap.size+1,0,none⟩) 1 1,.int .i64 xw]) ∧
   w'.heap[W.heap.size+1]? = some (.cells (zhv 1 (x1,x2,x3)).toArray 2 (0,0))∧W.grownBy w' none:=by
 have hBl:Bx<W.heap.size:=(Array.getElem?_eq_some_iff.1 hX).1
 have hmk:∀ w,(Instr.makeSlice 47 (.int .i64 1) (.int .i64 1)).run Tryz.prog w=.ok (.slice (some ⟨w.heap.size,0,none⟩) 1 1) (w.alloc (.cells #[.int .i64 0] 2)):=fun _=>by kernel_rfl
 have hX1:(W.alloc (.cells #[.slice none 0 0,.int .i64 0] 51)).heap[Bx]? = some (.cells #[.int .i64 x1,.int .i64 x2,.int .i64 x3] 150 (0,0)):=(Below.heap_alloc W _ Bx hBl).trans hX
 have hX2:((W.alloc (.cells #[.slice none 0 0,.int .i64 0] 51)).alloc (.cells #[.int .i64 0] 2)).heap[Bx]? = some (.cells #[.int .i64 x1,.int .i64 x2,.int .i64 x3] 150 (0,0)):=(Below.heap_alloc _ _ Bx (by simp;omega)).trans hX1
 have hsrc:∀ j v,[Value.int .i64 x1][j]? = some v→((W.alloc (.cells #[.slice none 0 0,.int .i64 0] 51)).alloc (.cells #[.int .i64 0] 2)).cell? ((⟨Bx,0,none⟩:Addr).add j)=some v:=by
  intro j v hj
  match j,hj with
  | 0,hj=>cases hj;exact zab hX2 0
 have hR1:((W.alloc (.cells #[.slice none 0 0,.int .i64 0] 51)).alloc (.cells #[.int .i64 0] 2)).heap[W.heap.size]? = some (.cells #[.slice none 0 0,.int .i64 0] 51 (0,0)):=(Below.heap_alloc _ _ _ (by simp)).trans (zae _ _ _ rfl)
 have hg1:W.grownBy ((W.alloc (.cells #[.slice none 0 0,.int .i64 0] 51)).alloc (.cells #[.int .i64 0] 2)) none:=(World.grownBy_alloc _ _ none).trans (World.grownBy_alloc _ _ none)
 have Hsrc:=zac hsrc
 have HR1:=zac hR1
 have Hg1:=zac hg1
 clear hsrc hX hX1 hX2 hR1 hg1
 refine (callsIn_wide (n:=3)).1 ?_
 refine callsIn_of_wp Tryz.func41 rfl trivial ?_ rfl
 simp only [Tryz.ntmps41,List.size_toArray,List.length_cons,List.length_nil,Nat.reduceAdd,Nat.reduceSub,Array.replicate_succ,Array.replicate_zero,List.push_toArray,List.append_toArray,List.nil_append,List.cons_append]
 gi_wp2_with (first
  | (refine zbj rfl (.tmp 9) (.tmp 10) 47 47 rfl 2 Tryz.underlying47 Tryz.infoSize2 (W.heap.size+1) 1 1 ⟨Bx,0,none⟩ 1 3 rfl rfl #[.int .i64 0] 2 (zae _ _ _ (by simp)) [.int .i64 x1] rfl (zaa Hsrc) rfl (by simp [Value.oneCell']) ?_;intro w2 hv2 hg2;have hR2:=(hg2.block W.heap.size (by simp only [World.size_alloc];omega) (by simp)).trans (zaa HR1);have c0:w2.cell? ⟨W.heap.size,0,none⟩=some (.slice none 0 0):=zab hR2 0;have c1:w2.cell? ⟨W.heap.size,1,none⟩=some (.int .i64 0):=zab hR2 1;have f0:w2.frozen? ⟨W.heap.size,0,none⟩=false:=zad hR2 0;have f1:w2.frozen? ⟨W.heap.size,1,none⟩=false:=zad hR2 1))
 have hga:=za6 w2 ⟨W.heap.size,0,none⟩ (.slice (some ⟨W.heap.size+1,0,none⟩) 1 1)
 have hgb:=za6 (w2.setCell ⟨W.heap.size,0,none⟩ (.slice (some ⟨W.heap.size+1,0,none⟩) 1 1)) ⟨W.heap.size,1,none⟩ (.int .i64 xw)
 have hgs:=hga.trans hgb
 have hl2:=(Array.getElem?_eq_some_iff.1 hv2).1
 refine bodyPost_ret (v:=.agg #[.slice (some ⟨W.heap.size+1,0,none⟩) 1 1,.int .i64 xw]) (by simp [results,Tryz.results41,go_sem,c0,c1,f0,f1]) rfl ⟨rfl,(hgs.block _ hl2 (by simp)).trans hv2,ze5 (zaa Hg1) hg2 hgs⟩
theorem zsu (x1 x2 x3 xw:Int) (Bx:Nat) (W:World) (hX:W.heap[Bx]? = some (.cells #[.int .i64 x1,.int .i64 x2,.int .i64 x3] 150 (0,0))) :
  Calls Tryz.prog 41 #[.slice (some ⟨Bx,0,none⟩) 2 3,.int .i64 xw] W fun e w'=>e=.returned (.agg #[.slice (some ⟨W.heap.size+1,0,none⟩) 2 2,.int .i64 xw]) ∧
   w'.heap[W.heap.size+1]? = some (.cells (zhv 2 (x1,x2,x3)).toArray 2 (0,0))∧W.grownBy w' none:=by
 have hBl:Bx<W.heap.size:=(Array.getElem?_eq_some_iff.1 hX).1
 have hmk:∀ w,(Instr.makeSlice 47 (.int .i64 2) (.int .i64 2)).run Tryz.prog w=.ok (.slice (some ⟨w.heap.size,0,none⟩) 2 2) (w.alloc (.cells #[.int .i64 0,.int .i64 0] 2)):=fun _=>by kernel_rfl
 have hX1:(W.alloc (.cells #[.slice none 0 0,.int .i64 0] 51)).heap[Bx]? = some (.cells #[.int .i64 x1,.int .i64 x2,.int .i64 x3] 150 (0,0)):=(Below.heap_alloc W _ Bx hBl).trans hX
 have hX2:((W.alloc (.cells #[.slice none 0 0,.int .i64 0] 51)).alloc (.cells #[.int .i64 0,.int .i64 0] 2)).heap[Bx]? = some (.cells #[.int .i64 x1,.int .i64 x2,.int .i64 x3] 150 (0,0)):=(Below.heap_alloc _ _ Bx (by simp;omega)).trans hX1
 have hsrc:∀ j v,[Value.int .i64 x1,Value.int .i64 x2][j]? = some v→((W.alloc (.cells #[.slice none 0 0,.int .i64 0] 51)).alloc (.cells #[.int .i64 0,.int .i64 0] 2)).cell? ((⟨Bx,0,none⟩:Addr).add j)=some v:=by
  intro j v hj
  match j,hj with
  | 0,hj=>cases hj;exact zab hX2 0
  | 1,hj=>cases hj;exact zab hX2 1
 have hR1:((W.alloc (.cells #[.slice none 0 0,.int .i64 0] 51)).alloc (.cells #[.int .i64 0,.int .i64 0] 2)).heap[W.heap.size]? = some (.cells #[.slice none 0 0,.int .i64 0] 51 (0,0)):=(Below.heap_alloc _ _ _ (by simp)).trans (zae _ _ _ rfl)
 have hg1:W.grownBy ((W.alloc (.cells #[.slice none 0 0,.int .i64 0] 51)).alloc (.cells #[.int .i64 0,.int .i64 0] 2)) none:=(World.grownBy_alloc _ _ none).trans (World.grownBy_alloc _ _ none)
 have Hsrc:=zac hsrc
 have HR1:=zac hR1
 have Hg1:=zac hg1
 clear hsrc hX hX1 hX2 hR1 hg1
 refine (callsIn_wide (n:=3)).1 ?_
 refine callsIn_of_wp Tryz.func41 rfl trivial ?_ rfl
 simp only [Tryz.ntmps41,List.size_toArray,List.length_cons,List.length_nil,Nat.reduceAdd,Nat.reduceSub,Array.replicate_succ,Array.replicate_zero,List.push_toArray,List.append_toArray,List.nil_append,List.cons_append]
 gi_wp2_with (first
  | (refine zbj rfl (.tmp 9) (.tmp 10) 47 47 rfl 2 Tryz.underlying47 Tryz.infoSize2 (W.heap.size+1) 2 2 ⟨Bx,0,none⟩ 2 3 rfl rfl #[.int .i64 0,.int .i64 0] 2 (zae _ _ _ (by simp)) [.int .i64 x1,.int .i64 x2] rfl (zaa Hsrc) rfl (by simp [Value.oneCell']) ?_;intro w2 hv2 hg2;have hR2:=(hg2.block W.heap.size (by simp only [World.size_alloc];omega) (by simp)).trans (zaa HR1);have c0:w2.cell? ⟨W.heap.size,0,none⟩=some (.slice none 0 0):=zab hR2 0;have c1:w2.cell? ⟨W.heap.size,1,none⟩=some (.int .i64 0):=zab hR2 1;have f0:w2.frozen? ⟨W.heap.size,0,none⟩=false:=zad hR2 0;have f1:w2.frozen? ⟨W.heap.size,1,none⟩=false:=zad hR2 1))
 have hga:=za6 w2 ⟨W.heap.size,0,none⟩ (.slice (some ⟨W.heap.size+1,0,none⟩) 2 2)
 have hgb:=za6 (w2.setCell ⟨W.heap.size,0,none⟩ (.slice (some ⟨W.heap.size+1,0,none⟩) 2 2)) ⟨W.heap.size,1,none⟩ (.int .i64 xw)
 have hgs:=hga.trans hgb
 have hl2:=(Array.getElem?_eq_some_iff.1 hv2).1
 refine bodyPost_ret (v:=.agg #[.slice (some ⟨W.heap.size+1,0,none⟩) 2 2,.int .i64 xw]) (by simp [results,Tryz.results41,go_sem,c0,c1,f0,f1]) rfl ⟨rfl,(hgs.block _ hl2 (by simp)).trans hv2,ze5 (zaa Hg1) hg2 hgs⟩
theorem zsv (x1 x2 x3 xw:Int) (Bx:Nat) (W:World) (hX:W.heap[Bx]? = some (.cells #[.int .i64 x1,.int .i64 x2,.int .i64 x3] 150 (0,0))) :
  Calls Tryz.prog 41 #[.slice (some ⟨Bx,0,none⟩) 3 3,.int .i64 xw] W fun e w'=>e=.returned (.agg #[.slice (some ⟨W.heap.size+1,0,none⟩) 3 3,.int .i64 xw]) ∧
   w'.heap[W.heap.size+1]? = some (.cells (zhv 3 (x1,x2,x3)).toArray 2 (0,0))∧W.grownBy w' none:=by
 have hBl:Bx<W.heap.size:=(Array.getElem?_eq_some_iff.1 hX).1
 have hmk:∀ w,(Instr.makeSlice 47 (.int .i64 3) (.int .i64 3)).run Tryz.prog w=.ok (.slice (some ⟨w.heap.size,0,none⟩) 3 3) (w.alloc (.cells #[.int .i64 0,.int .i64 0,.int .i64 0] 2)):=fun _=>by kernel_rfl
 have hX1:(W.alloc (.cells #[.slice none 0 0,.int .i64 0] 51)).heap[Bx]? = some (.cells #[.int .i64 x1,.int .i64 x2,.int .i64 x3] 150 (0,0)):=(Below.heap_alloc W _ Bx hBl).trans hX
 have hX2:((W.alloc (.cells #[.slice none 0 0,.int .i64 0] 51)).alloc (.cells #[.int .i64 0,.int .i64 0,.int .i64 0] 2)).heap[Bx]? = some (.cells #[.int .i64 x1,.int .i64 x2,.int .i64 x3] 150 (0,0)):=(Below.heap_alloc _ _ Bx (by simp;omega)).trans hX1
 have hsrc:∀ j v,[Value.int .i64 x1,Value.int .i64 x2,Value.int .i64 x3][j]? = some v→((W.alloc (.cells #[.slice none 0 0,.int .i64 0] 51)).alloc (.cells #[.int .i64 0,.int .i64 0,.int .i64 0] 2)).cell? ((⟨Bx,0,none⟩:Addr).add j)=some v:=by
  intro j v hj
  match j,hj with
  | 0,hj=>cases hj;exact zab hX2 0
  | 1,hj=>cases hj;exact zab hX2 1
  | 2,hj=>cases hj;exact zab hX2 2
 have hR1:((W.alloc (.cells #[.slice none 0 0,.int .i64 0] 51)).alloc (.cells #[.int .i64 0,.int .i64 0,.int .i64 0] 2)).heap[W.heap.size]? = some (.cells #[.slice none 0 0,.int .i64 0] 51 (0,0)):=(Below.heap_alloc _ _ _ (by simp)).trans (zae _ _ _ rfl)
 have hg1:W.grownBy ((W.alloc (.cells #[.slice none 0 0,.int .i64 0] 51)).alloc (.cells #[.int .i64 0,.int .i64 0,.int .i64 0] 2)) none:=(World.grownBy_alloc _ _ none).trans (World.grownBy_alloc _ _ none)
 have Hsrc:=zac hsrc
 have HR1:=zac hR1
 have Hg1:=zac hg1
 clear hsrc hX hX1 hX2 hR1 hg1
 refine (callsIn_wide (n:=3)).1 ?_
 refine callsIn_of_wp Tryz.func41 rfl trivial ?_ rfl
 simp only [Tryz.ntmps41,List.size_toArray,List.length_cons,List.length_nil,Nat.reduceAdd,Nat.reduceSub,Array.replicate_succ,Array.replicate_zero,List.push_toArray,List.append_toArray,List.nil_append,List.cons_append]
 gi_wp2_with (first
  | (refine zbj rfl (.tmp 9) (.tmp 10) 47 47 rfl 2 Tryz.underlying47 Tryz.infoSize2 (W.heap.size+1) 3 3 ⟨Bx,0,none⟩ 3 3 rfl rfl #[.int .i64 0,.int .i64 0,.int .i64 0] 2 (zae _ _ _ (by simp)) [.int .i64 x1,.int .i64 x2,.int .i64 x3] rfl (zaa Hsrc) rfl (by simp [Value.oneCell']) ?_;intro w2 hv2 hg2;have hR2:=(hg2.block W.heap.size (by simp only [World.size_alloc];omega) (by simp)).trans (zaa HR1);have c0:w2.cell? ⟨W.heap.size,0,none⟩=some (.slice none 0 0):=zab hR2 0;have c1:w2.cell? ⟨W.heap.size,1,none⟩=some (.int .i64 0):=zab hR2 1;have f0:w2.frozen? ⟨W.heap.size,0,none⟩=false:=zad hR2 0;have f1:w2.frozen? ⟨W.heap.size,1,none⟩=false:=zad hR2 1))
 have hga:=za6 w2 ⟨W.heap.size,0,none⟩ (.slice (some ⟨W.heap.size+1,0,none⟩) 3 3)
 have hgb:=za6 (w2.setCell ⟨W.heap.size,0,none⟩ (.slice (some ⟨W.heap.size+1,0,none⟩) 3 3)) ⟨W.heap.size,1,none⟩ (.int .i64 xw)
 have hgs:=hga.trans hgb
 have hl2:=(Array.getElem?_eq_some_iff.1 hv2).1
 refine bodyPost_ret (v:=.agg #[.slice (some ⟨W.heap.size+1,0,none⟩) 3 3,.int .i64 xw]) (by simp [results,Tryz.results41,go_sem,c0,c1,f0,f1]) rfl ⟨rfl,(hgs.block _ hl2 (by simp)).trans hv2,ze5 (zaa Hg1) hg2 hgs⟩
theorem zri (ar:Nat) (har:ar=1∨ar=2∨ar=3) (x1 x2 x3 xw:Int) (Bx:Nat) (W:World) (hX:W.heap[Bx]? = some (.cells #[.int .i64 x1,.int .i64 x2,.int .i64 x3] 150 (0,0))) :
  Calls Tryz.prog 41 #[.slice (some ⟨Bx,0,none⟩) ar 3,.int .i64 xw] W fun e w'=>e=.returned (.agg #[.slice (some ⟨W.heap.size+1,0,none⟩) ar ar,.int .i64 xw]) ∧
   w'.heap[W.heap.size+1]? = some (.cells (zhv ar (x1,x2,x3)).toArray 2 (0,0))∧W.grownBy w' none:=by
 rcases har with rfl|rfl|rfl
 ·exact zst x1 x2 x3 xw Bx W hX
 ·exact zsu x1 x2 x3 xw Bx W hX
 ·exact zsv x1 x2 x3 xw Bx W hX
end Go.Proofs.YtoifcnidhfnapabGreatDoor
