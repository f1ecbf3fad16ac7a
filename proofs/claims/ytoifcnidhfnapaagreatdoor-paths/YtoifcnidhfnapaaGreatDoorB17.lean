import Derived.Test.YtoifcnidhfnapaaGreatDoorB15
import Derived.Test.YtoifcnidhfnapaaGreatDoorB16
import Derived.RangeFuncLeaves
import Derived.Sort.CutIn
set_option linter.unusedVariables false
set_option linter.unusedSimpArgs false
set_option maxRecDepth 100000
set_option maxHeartbeats 16000000
namespace Go.Proofs.YtoifcnidhfnapaaGreatDoor
open Go.RowKit Go.Maps Go.Sort Go.Shelf
theorem zvi (ua pa:Option Addr) (un uc pn pc:Nat) (sv:Nat→SV) (cs:Nat→Int) (w:World) :
  Calls Tryz.prog 203 #[.agg #[.slice ua un uc,.slice pa pn pc],.agg (zag sv cs)] w fun e w'=>e=.returned (.func (.func 228) #[] #[.pointer (some ⟨w.heap.size,0,none⟩),.pointer (some ⟨w.heap.size+1,0,none⟩)])∧w'=(w.alloc (.cells #[.slice ua un uc,.slice pa pn pc] 273)).alloc (.cells (zag sv cs) 192):=by
 go_enter Tryz.func203,Tryz.ntmps203
 unfold zag
 go_wp2
 go_ret
 exact ⟨rfl,rfl⟩
theorem KeepX.thenB {X:Nat→Prop} {A B C:World} (h:KeepX X A B) (hb:Below A.heap.size B C):KeepX X A C:=
 ⟨hb.os.trans h.os,hb.tape.trans h.tape,hb.output.trans h.output,Nat.le_trans h.size hb.size,fun q hq hx=>(hb.block q hq).trans (h.blk q hq hx)⟩
theorem put8 {w:World} {b:Nat} {t:TypeId} {z0 z1 z2 z3 z4 z5 z6 z7:Value} (h:w.heap[b]? = some (.cells #[z0,z1,z2,z3,z4,z5,z6,z7] t (0,0))) (v0 v1 v2 v3 v4 v5 v6 v7:Value) :
  ((((((((w.setCell ⟨b,0,none⟩ v0).setCell ⟨b,1,none⟩ v1).setCell ⟨b,2,none⟩ v2).setCell ⟨b,3,none⟩ v3).setCell ⟨b,4,none⟩ v4).setCell ⟨b,5,none⟩ v5).setCell ⟨b,6,none⟩ v6).setCell ⟨b,7,none⟩ v7).heap[b]? = some (.cells #[v0,v1,v2,v3,v4,v5,v6,v7] t (0,0)):=by
 have s0:(w.setCell ⟨b,0,none⟩ v0).heap[b]? = some (.cells #[v0,z1,z2,z3,z4,z5,z6,z7] t (0,0)):=zdy 0 v0 h
 have s1:((w.setCell ⟨b,0,none⟩ v0).setCell ⟨b,1,none⟩ v1).heap[b]? = some (.cells #[v0,v1,z2,z3,z4,z5,z6,z7] t (0,0)):=zdy 1 v1 s0
 have s2:(((w.setCell ⟨b,0,none⟩ v0).setCell ⟨b,1,none⟩ v1).setCell ⟨b,2,none⟩ v2).heap[b]? = some (.cells #[v0,v1,v2,z3,z4,z5,z6,z7] t (0,0)):=zdy 2 v2 s1
 have s3:((((w.setCell ⟨b,0,none⟩ v0).setCell ⟨b,1,none⟩ v1).setCell ⟨b,2,none⟩ v2).setCell ⟨b,3,none⟩ v3).heap[b]? = some (.cells #[v0,v1,v2,v3,z4,z5,z6,z7] t (0,0)):=zdy 3 v3 s2
 have s4:(((((w.setCell ⟨b,0,none⟩ v0).setCell ⟨b,1,none⟩ v1).setCell ⟨b,2,none⟩ v2).setCell ⟨b,3,none⟩ v3).setCell ⟨b,4,none⟩ v4).heap[b]? = some (.cells #[v0,v1,v2,v3,v4,z5,z6,z7] t (0,0)):=zdy 4 v4 s3
 have s5:((((((w.setCell ⟨b,0,none⟩ v0).setCell ⟨b,1,none⟩ v1).setCell ⟨b,2,none⟩ v2).setCell ⟨b,3,none⟩ v3).setCell ⟨b,4,none⟩ v4).setCell ⟨b,5,none⟩ v5).heap[b]? = some (.cells #[v0,v1,v2,v3,v4,v5,z6,z7] t (0,0)):=zdy 5 v5 s4
 have s6:(((((((w.setCell ⟨b,0,none⟩ v0).setCell ⟨b,1,none⟩ v1).setCell ⟨b,2,none⟩ v2).setCell ⟨b,3,none⟩ v3).setCell ⟨b,4,none⟩ v4).setCell ⟨b,5,none⟩ v5).setCell ⟨b,6,none⟩ v6).heap[b]? = some (.cells #[v0,v1,v2,v3,v4,v5,v6,z7] t (0,0)):=zdy 6 v6 s5
 have s7:((((((((w.setCell ⟨b,0,none⟩ v0).setCell ⟨b,1,none⟩ v1).setCell ⟨b,2,none⟩ v2).setCell ⟨b,3,none⟩ v3).setCell ⟨b,4,none⟩ v4).setCell ⟨b,5,none⟩ v5).setCell ⟨b,6,none⟩ v6).setCell ⟨b,7,none⟩ v7).heap[b]? = some (.cells #[v0,v1,v2,v3,v4,v5,v6,v7] t (0,0)):=zdy 7 v7 s6
 exact s7
def zwb (A:World) (z:Int) (us:List (Nat×Nat)) (S:Nat→Src) (s13 s14:Value) (w:World):Prop:=
 ∃ (nb:Nat) (sv':Nat→SV) (cs':Nat→Int),s13=.pointer (some ⟨nb,0,none⟩)∧s14=.bool (zgc z us S)∧w.heap[nb]? = some (.cells (zag sv' cs') 192 (0,0))∧A.heap.size≤nb∧Below A.heap.size A w∧(zgc z us S=true→cs'=(fun i=>((zh6 z us S i).c:Int))∧∀ i,i<4→zay w (sv' i).val (zh6 z us S i).rs)
theorem ygw {A w2:World} {z:Int} {us:List (Nat×Nat)} {S:Nat→Src} {sv':Nat→SV} {cs':Nat→Int} (hb:Below A.drew.heap.size A.drew w2) (hl:zgc z us S=true→cs'=(fun i=>((zh6 z us S i).c:Int))∧∀ i,i<4→zay w2 (sv' i).val (zh6 z us S i).rs) :
  zwb A z us S (.pointer (some ⟨w2.heap.size,0,none⟩)) (.bool (zgc z us S)) (w2.alloc (.cells (zag sv' cs') 192)):=by
 have hbA:Below A.heap.size A w2:=Below.trans (zav A.heap.size A) hb
 refine ⟨w2.heap.size,sv',cs',rfl,rfl,zae _ _ _ rfl,hbA.size,hbA.alloc hbA.size _,fun h=>⟨(hl h).1,fun i hi=>((hl h).2 i hi).below ((Below.refl _ _).alloc (Nat.le_refl _) _)⟩⟩
theorem zay.asideZ {w w':World} {B:Nat} {v:Value} {rs:List (List zaj)} {t:TypeId} (h:zay w v rs) (hB:w.heap[B]? = some (.cells (zag (fun _=>⟨none,0,0⟩) (fun _=>0)) t (0,0))) (hf:∀ r∈rs,r≠[]) (hk:∀ q,q≠B→w'.heap[q]? = w.heap[q]?):zay w' v rs:=by
 refine h.aside hB hf (fun hne e=>?_) hk
 obtain ⟨a,cap,rfl,hx⟩:=h
 obtain ⟨g,q,b,o,cp,rfl,d0,hr⟩:=hx 0 (List.length_pos_iff.2 hne)
 injection e with e
 have e1:g=B:=e
 subst e1
 rw [zab hB] at d0
 rcases zx3 (fun _=>⟨none,0,0⟩) (fun _=>0) (q+0) with h|⟨h,_⟩|⟨h,_⟩
 ·rw [h] at d0;cases d0
 ·rw [h] at d0;injection d0 with d0;injection d0 with d1;cases d1
 ·rw [h] at d0;cases d0
theorem ygx {A w2:World} {z:Int} {us:List (Nat×Nat)} {S:Nat→Src} {sv':Nat→SV} {cs':Nat→Int} {ob:Obj} (hb:Below (A.drew.alloc ob).heap.size (A.drew.alloc ob) w2) (hl:zgc z us S=true→cs'=(fun i=>((zh6 z us S i).c:Int))∧∀ i,i<4→zay w2 (sv' i).val (zh6 z us S i).rs)
  (hnb:w2.heap[A.heap.size]? = some (.cells (zag (fun _=>⟨none,0,0⟩) (fun _=>0)) 192 (0,0))) (hf:∀ i,i<4→∀ r∈(zh6 z us S i).rs,r≠[]) {w3:World} (hw3:w3.heap[A.heap.size]? = some (.cells (zag sv' cs') 192 (0,0))) (hk:∀ q,q≠A.heap.size→w3.heap[q]? = w2.heap[q]?) (hb3:Below A.heap.size w2 w3) :
  zwb A z us S (.pointer (some ⟨A.heap.size,0,none⟩)) (.bool (zgc z us S)) w3:=by
 have hbA:Below A.heap.size A w2:=Below.trans ((zav A.heap.size A).alloc (Nat.le_refl _) _) (Below.mono hb (by rw [World.size_alloc];exact Nat.le_succ _))
 exact ⟨A.heap.size,sv',cs',rfl,rfl,hw3,Nat.le_refl _,hbA.trans hb3,fun h=>⟨(hl h).1,fun i hi=>((hl h).2 i hi).asideZ hnb (hf i hi) hk⟩⟩
theorem yit (h:H4) (p:Nat) (hp:p<4) (z:Int):(h4C h).setIfInBounds p (.int .i64 z)=h4C (yj1 h p z):=by
 match p,hp with|0,_=>rfl|1,_=>rfl|2,_=>rfl|3,_=>rfl
theorem ygf {w:World} {B:Nat} {h:H4} {t:TypeId} (hB:w.heap[B]? = some (.cells (h4C h) t (0,0))) (p:Nat) (hp:p<4):w.cell? ⟨B,p,none⟩=some (.int .i64 (yad h p)):=by
 rw [zab hB]
 match p,hp with|0,_=>rfl|1,_=>rfl|2,_=>rfl|3,_=>rfl
theorem ybg (ps:List Nat) (k:Nat) (hk:k<ps.length) (z:Int) (h:H4):zea (ps.take (k+1)) z h=yj1 (zea (ps.take k) z h) (ps[k]?.getD 0) z:=by
 unfold zea
 rw [List.take_succ_eq_append_getElem hk,List.foldl_append]
 simp [hk]
theorem KeepX.set1 {B:Nat} {W w:World} (h:KeepX (fun q=>q=B) W w) (o:Nat) (v:Value):KeepX (fun q=>q=B) W (w.setCell ⟨B,o,none⟩ v):=
 ⟨h.os,h.tape,h.output,by simp [World.setCell];exact h.size,fun q hq hne=>(Below.heap_setCell _ _ _ q (fun e=>hne e)).trans (h.blk q hq hne)⟩
theorem ygg (h:H4) (o:Nat) (b:Addr) (n c:Nat):(h4C h)[o]?≠some (Value.slice (some b) n c):=by
 match o with
 | 0=>intro e;cases e
 | 1=>intro e;cases e
 | 2=>intro e;cases e
 | 3=>intro e;cases e
 | o+4=>intro e;simp [h4C] at e
theorem yen (b o n cap:Nat) (h:n+1≤cap):∃ tv,(∀ q,(Instr.sliceAt 263 (.slice (some ⟨b,o,none⟩) (n+1) cap) (some (.int .i64 1)) none none).run Tryz.prog q=.ok tv q)∧(tv=.slice (some ⟨b,o+2,none⟩) n (cap - 1)∨(n=0∧tv=.slice (some ⟨b,o,none⟩) 0 0)):=by
 by_cases hc:cap=1
 ·subst hc
  have hn:n=0:=by omega
  subst hn
  exact ⟨_,(fun q=>by kernel_rfl),.inr ⟨rfl,rfl⟩⟩
 ·refine ⟨.slice (some ⟨b,o+2,none⟩) n (cap - 1),fun q=>?_,.inl rfl⟩
  have h1:(1:Int)≤(n:Int)+1:=by omega
  have h2:(n:Int)+1≤(cap:Int):=by omega
  have h3:¬ cap=1:=hc
  go_simp
def yic (X:Nat→Prop) (l:Nat) (J:List (H4×Int)→World→Prop) (pre:List (H4×Int)) (na:Nat) (st:Stp) (sts:List Stp) (S:Nat→Src) (row:H4) (rB:Nat) (w7:World) (zs:List Int) (A:World):Prop:=
 ∃ ys rc,((∀ h,zrj ys h=zbz zs fun z=>zs9 na sts (zh6 z st.us S) (zea st.ps z row) h)∧ys.length≤(zs.map fun z=>zmn na (zh6 z st.us S)).sum)∧J (pre ++ ys) A∧KeepX (fun k=>(X k∨k=l)∨k=rB) w7 A∧A.heap[rB]? = some (.cells (h4C rc) 134 (0,0))∧∀ z,zea st.ps z rc=zea st.ps z row
attribute [local go_sem] Oper.semAt_some in
theorem ye0 {X:Nat→Prop} {l B0 N:Nat} {J:List (H4×Int)→World→Prop} (hY:zrp X l B0 N J) (PB:Nat) (ka:Option Addr) (na kcap:Nat) (x1 x2:Value) (st:Stp) (sts:List Stp) (hst:zjx na st)
  (IH:∀ (stv:Value) (sv:Nat→SV) (S:Nat→Src) (row:H4) (pre:List (H4×Int)) (W:World),J pre W→B0≤W.heap.size→W.heap[PB]? = some (.cells #[.slice ka na kcap,x1,x2] 265 (0,0))→zeb W stv sts→SOK na sts S→(∀ i,i<4→zay W (sv i).val (S i).rs)→pre.length+zmn na S≤N→WfH row →
   Calls Tryz.prog 159 #[.pointer (some ⟨PB,0,none⟩),stv,.agg (zag sv (fun i=>((S i).c:Int))),.agg (h4C row),.func (.yield l) #[] #[]] W (zkr X l J pre (zs9 na sts S row) (zmn na S) W))
  (stv:Value) (sv:Nat→SV) (S:Nat→Src) (row:H4) (pre:List (H4×Int)) (W:World) (hJ:J pre W) (hB:B0≤W.heap.size) (hP:W.heap[PB]? = some (.cells #[.slice ka na kcap,x1,x2] 265 (0,0))) (hSt:zeb W stv (st :: sts)) (hS:SOK na (st :: sts) S) (hr:∀ i,i<4→zay W (sv i).val (S i).rs) (hcnt:pre.length+zmn na S≤N) (hrow:WfH row) :
  Calls Tryz.prog 159 #[.pointer (some ⟨PB,0,none⟩),stv,.agg (zag sv (fun i=>((S i).c:Int))),.agg (h4C row),.func (.yield l) #[] #[]] W (zkr X l J pre (zs9 na (st :: sts) S row) (zmn na S) W):=by
 refine (callsIn_wide (n:=9)).1 (callsIn_of_wp_marks Tryz.func159 rfl trivial ?_ rfl)
 obtain ⟨r0,r1,r2,r3⟩:=row
 have hSt0:=hSt
 obtain ⟨sa,cap,rfl,hcap,hx⟩:=hSt
 obtain ⟨b,o,ua,uc,pa,pc,rfl,d0,d1,hU,hPl⟩:=hx 0 (by simp)
 simp only [List.getElem?_cons_zero,Option.getD_some,Nat.zero_mul,Nat.add_zero] at d0 d1 hU hPl
 simp only [List.length_cons] at hcap
 obtain ⟨W6,hW6⟩:∃ W6,W6=zp7 W PB (.slice (some ⟨b,o,none⟩) (st :: sts).length cap) (zag sv (fun i=>((S i).c:Int))) (h4C (r0,r1,r2,r3)) l:=⟨_,rfl⟩
 have hb6:Below W.heap.size W W6:=by rw [hW6];exact zpd ..
 have hsz:W6.heap.size=W.heap.size+6:=by rw [hW6];exact zre ..
 have hbx:zn0 W6 W.heap.size PB (.slice (some ⟨b,o,none⟩) (st :: sts).length cap) (zag sv (fun i=>((S i).c:Int))) (h4C (r0,r1,r2,r3)) l false:=by rw [hW6];exact zpe ..
 have hbl:b<W.heap.size:=World.block_lt_of_cell? W _ d0
 have c1:W6.cell? ⟨W.heap.size+1,0,none⟩=some (.slice (some ⟨b,o,none⟩) (sts.length+1) cap):=zab hbx.b1 0
 have e0:W6.cell? ⟨b,o,none⟩=some _:=(hb6.cell (p:=⟨b,o,none⟩) hbl).trans d0
 have e1:W6.cell? ⟨b,o+1,none⟩=some _:=(hb6.cell (p:=⟨b,o+1,none⟩) hbl).trans d1
 have p0:W6.cell? ⟨W.heap.size+1+1,0,none⟩=some _:=(zaf hbx.b2 0 (by omega)).1
 have p1:W6.cell? ⟨W.heap.size+1+1,1,none⟩=some _:=(zaf hbx.b2 0 (by omega)).2
 have p2:W6.cell? ⟨W.heap.size+1+1,2,none⟩=some _:=(zaf hbx.b2 1 (by omega)).1
 have p3:W6.cell? ⟨W.heap.size+1+1,3,none⟩=some _:=(zaf hbx.b2 1 (by omega)).2
 have p4:W6.cell? ⟨W.heap.size+1+1,4,none⟩=some _:=(zaf hbx.b2 2 (by omega)).1
 have p5:W6.cell? ⟨W.heap.size+1+1,5,none⟩=some _:=(zaf hbx.b2 2 (by omega)).2
 have p6:W6.cell? ⟨W.heap.size+1+1,6,none⟩=some _:=(zaf hbx.b2 3 (by omega)).1
 have p7:W6.cell? ⟨W.heap.size+1+1,7,none⟩=some _:=(zaf hbx.b2 3 (by omega)).2
 have Hbx:=zac hbx
 have Hb6:=zac hb6
 have Hsz:=zac hsz
 have HJ:=zac hJ
 have HY:=zac hY
 have HSt:=zac hSt0
 have HU:=zac hU
 have HPl:=zac hPl
 have HS:=zac hS
 have Hr:=zac hr
 have HP:=zac hP
 have HIH:=zac IH
 have Hst:=zac hst
 have Hcnt:=zac hcnt
 have Hrow:=zac hrow
 clear hcnt hrow
 have Hd0:=zac d0
 have Hd1:=zac d1
 clear hbx hb6 hsz hJ hY hSt0 hU hPl hS hr hP IH hst hx d0 d1
 simp only [Tryz.ntmps159,List.size_toArray,List.length_cons,List.length_nil,Nat.reduceAdd,Nat.reduceSub,Array.replicate_succ,Array.replicate_zero,List.push_toArray,List.append_toArray,List.nil_append,List.cons_append]
 unfold zp7 zag h4C at hW6
 simp only [List.length_cons] at hW6
 unfold zag h4C
 have hne:¬ ((sts.length:Int)+1=0):=by omega
 gi_wp2_with fail
 rw [← hW6]
 clear hW6
 refine zdu ?_
 refine wpIn_region_any (by kernel_rfl) ?_
 change wpAnyIn _ _ _ _ _ _ _ _ _ (World.drew _)
 refine zao (i:=0) (v:=.slice (some ⟨b,o,none⟩) (sts.length+1) cap) [0,3] rfl rfl (by kernel_rfl) (by kernel_rfl) (by kernel_rfl) (fun _ _ _ h=>h) ⟨by rfl,(fun w' hw=>?_),(fun _=>rfl)⟩ ?_
 ·have q:=hw.cell (show W6.drew.cell? ⟨W.heap.size+1,0,none⟩=_ from c1)
  go_simp
 refine wpAnyIn_take (i:=1) (v:=.pointer (some ⟨b,o,none⟩)) rfl rfl (by kernel_rfl) (by kernel_rfl) (by kernel_rfl) (fun _ _ _ h=>h) ⟨Or.inl ⟨by rfl,(fun w'=>?_)⟩,fun _=>rfl⟩ ?_
 ·go_simp
 refine zao (i:=2) (v:=.agg #[.slice ua st.us.length uc,.slice pa st.ps.length pc]) [2,3] rfl rfl (by kernel_rfl) (by kernel_rfl) (by kernel_rfl) (fun _ _ _ h=>h) ⟨by rfl,(fun w' hw=>?_),(fun _=>rfl)⟩ ?_
 ·have q0:=hw.cell (show W6.drew.cell? ⟨b,o,none⟩=_ from e0)
  have q1:=hw.cell (show W6.drew.cell? ⟨b,o+1,none⟩=_ from e1)
  go_simp
 refine zao (i:=3) (v:=.agg (zag sv (fun i=>((S i).c:Int)))) [3] rfl rfl (by kernel_rfl) (by kernel_rfl) (by kernel_rfl) (fun _ _ _ h=>h) ⟨by rfl,(fun w' hw=>?_),(fun _=>rfl)⟩ ?_
 ·have q0:=hw.cell (show W6.drew.cell? ⟨W.heap.size+1+1,0,none⟩=_ from p0)
  have q1:=hw.cell (show W6.drew.cell? ⟨W.heap.size+1+1,1,none⟩=_ from p1)
  have q2:=hw.cell (show W6.drew.cell? ⟨W.heap.size+1+1,2,none⟩=_ from p2)
  have q3:=hw.cell (show W6.drew.cell? ⟨W.heap.size+1+1,3,none⟩=_ from p3)
  have q4:=hw.cell (show W6.drew.cell? ⟨W.heap.size+1+1,4,none⟩=_ from p4)
  have q5:=hw.cell (show W6.drew.cell? ⟨W.heap.size+1+1,5,none⟩=_ from p5)
  have q6:=hw.cell (show W6.drew.cell? ⟨W.heap.size+1+1,6,none⟩=_ from p6)
  have q7:=hw.cell (show W6.drew.cell? ⟨W.heap.size+1+1,7,none⟩=_ from p7)
  unfold zag
  go_simp
 refine wpAnyIn_ready (rs:=[4]) (by kernel_rfl) (by simp) ?_
 refine AllReadyIn.cons rfl (fun K hK=>?_) AllReadyIn.nil
 go_simp
 refine ⟨trivial,?_⟩
 refine (callsIn_wide.2 (zvi ua pa st.us.length uc st.ps.length pc sv (fun i=>((S i).c:Int)) W6.drew)).mono ?_
 rintro e w7 ⟨rfl,hw7⟩
 dsimp only
 refine hK _ _ ?_
 clear hK K
 refine wpAnyIn_done (by kernel_rfl) ?_ _
 dsimp only [zkb]
 gi_wp2_with fail
 have hb7:Below W.heap.size W w7:=by
  rw [hw7]
  have h1:Below W.heap.size W W6.drew:=(zaa Hb6).trans (zav _ _)
  have h2:W6.drew.heap.size=W.heap.size+6:=zaa Hsz
  exact (h1.alloc (by rw [h2];omega) _).alloc (by rw [World.size_alloc,h2];omega) _
 have hsz7:w7.heap.size=W.heap.size+8:=by
  rw [hw7,World.size_alloc,World.size_alloc]
  show W6.heap.size+1+1=_
  rw [zaa Hsz]
 have hbl7:Below W6.heap.size W6 w7:=by
  rw [hw7]
  have h1:Below W6.heap.size W6 W6.drew:=zav _ _
  exact (h1.alloc (Nat.le_refl _) _).alloc (by rw [World.size_alloc];exact Nat.le_succ _) _
 have hsB:w7.heap[W6.heap.size]? = some (.cells #[.slice ua st.us.length uc,.slice pa st.ps.length pc] 273 (0,0)):=by
  rw [hw7]
  exact (Below.heap_alloc _ _ _ (by rw [World.size_alloc];exact Nat.lt_succ_self _)).trans (zae _ _ _ rfl)
 have hqB:w7.heap[W6.heap.size+1]? = some (.cells (zag sv (fun i=>((S i).c:Int))) 192 (0,0)):=by
  rw [hw7]
  exact zae _ _ _ (by rw [World.size_alloc];rfl)
 have hdown:∀ W1 W',Below w7.heap.size w7 W1→w7.heap.size≤W1.heap.size→KeepX (fun k=>((X k∨k=l)∨k=W.heap.size+1+1+1)∨k=w7.heap.size+1) W1 W'→KeepX (fun k=>X k∨k=l) W W':=by
  intro W1 W' h1 h1s hk
  refine ⟨hk.os.trans (h1.os.trans hb7.os),hk.tape.trans (h1.tape.trans hb7.tape),hk.output.trans (h1.output.trans hb7.output),Nat.le_trans hb7.size (Nat.le_trans h1.size hk.size),fun q hq hx=>?_⟩
  refine (hk.blk q (by omega) ?_).trans ((h1.block q (by omega)).trans (hb7.block q hq))
  rintro ((h|h)|h)
  ·exact hx h
  ·omega
  ·omega
 clear hw7
 have HB7:=zac hb7
 have Hsz7:=zac hsz7
 have Hbl7:=zac hbl7
 have HsB:=zac hsB
 have HqB:=zac hqB
 have Hdown:=zac hdown
 clear hb7 hsz7 hbl7 hsB hqB hdown c1 e0 e1 p0 p1 p2 p3 p4 p5 p6 p7
 refine zu5 (by omega) (gf:=228) (lb:=#[.pointer (some ⟨W6.heap.size,0,none⟩),.pointer (some ⟨W6.heap.size+1,0,none⟩)]) rfl (enters_of Tryz.func228 (by kernel_rfl) rfl) (encs:=fun z:Int=>#[.int .i64 z]) (fun _=>rfl) (fun k=>(X k∨k=l)∨k=W.heap.size+1+1+1) ?hX (fun _=>True) (fun zs=>zs.Nodup∧∀ z∈zs,wfI z) (zyo st.us S)
  (yic X l J pre na st sts S (r0,r1,r2,r3) (W.heap.size+1+1+1) w7) ?hI ?h0 (fun _ _ _ _ _=>trivial) ?iter
  (fun z a' _=>a'={ tmps:=#[.pointer (some ⟨PB,0,none⟩),.slice (some ⟨b,o,none⟩) (sts.length+1) cap,.agg #[.slice (sv 0).a (sv 0).n (sv 0).cap,.int .i64 ((S 0).c:Int),.slice (sv 1).a (sv 1).n (sv 1).cap,.int .i64 ((S 1).c:Int),.slice (sv 2).a (sv 2).n (sv 2).cap,.int .i64 ((S 2).c:Int),.slice (sv 3).a (sv 3).n (sv 3).cap,.int .i64 ((S 3).c:Int)],.agg #[.int .i64 r0,.int .i64 r1,.int .i64 r2,.int .i64 r3],.func (.yield l) #[] #[],.pointer (some ⟨W.heap.size,0,none⟩),.pointer (some ⟨W.heap.size+1,0,none⟩),.pointer (some ⟨W.heap.size+1+1,0,none⟩),.pointer (some ⟨W.heap.size+1+1+1,0,none⟩),.pointer (some ⟨W.heap.size+1+1+1+1,0,none⟩),.pointer (some ⟨W.heap.size+1+1+1+1+1,0,none⟩),undef,.int .i64 z,undef,undef,undef,undef,.slice (some ⟨b,o,none⟩) (sts.length+1) cap,.int .i64 ((sts.length:Int)+1),.bool false,undef,undef,undef,undef,undef,undef,undef,undef,undef,undef,undef,.slice (some ⟨b,o,none⟩) (sts.length+1) cap,.pointer (some ⟨b,o,none⟩),.agg #[.slice ua st.us.length uc,.slice pa st.ps.length pc],.agg (zag sv (fun i=>((S i).c:Int))),.func (.func 228) #[] #[.pointer (some ⟨W6.heap.size,0,none⟩),.pointer (some ⟨W6.heap.size+1,0,none⟩)],.int .i64 z,undef,undef,undef,undef,undef,undef,undef,undef,undef,undef,undef,undef,undef,undef,undef,undef,undef,undef,undef,undef,undef,undef,undef,undef,undef,undef,undef,undef,undef,undef,undef,undef],defers:=[] }) (fun _ _ _ _ h=>h) ?assign ?body ?done
 case hX =>
  intro k hk
  have h1:=zaa Hsz7
  rcases hk with hk|hk
  ·have:=(zaa HY).lt k hk;omega
  ·omega
 case hI =>
  rintro zs A B ⟨ys,rc,h1,h2,h3,h4,h5⟩ hb
  have hs:=zaa Hsz7
  exact ⟨ys,rc,h1,(zaa HY).st _ _ _ h2 (hb.mono (by omega)),h3.thenB hb,(hb.block _ (by omega)).trans h4,h5⟩
 case h0 =>
  refine ⟨[],(r0,r1,r2,r3),⟨fun h=>by simp [zrj,zbz],Nat.zero_le _⟩,?_,KeepX.refl _ _,((zaa Hbl7).block _ (by rw [zaa Hsz];omega)).trans (zaa Hbx).b3,fun _=>rfl⟩
  rw [List.append_nil]
  exact (zaa HY).st _ _ _ (zaa HJ) ((zaa HB7).mono hB)
 case iter =>
  intro W1 hb1 hs1
  have hn0:0<st.us.length:=List.length_pos_iff.2 (zaa Hst).ne
  have hn4:st.us.length≤4:=Nat.le_trans (zaa Hst).len (zaa HS).na4
  refine zsk st.us (.slice ua st.us.length uc) pa st.ps.length pc sv S hn0 hn4 ((zaa HS).uses1 (zaa Hst)) ((zaa HS).above (zaa Hst)) ((zaa HS).range (zaa Hst)) W6.heap.size (W6.heap.size+1) _ (w7.heap.size+1) W1 fun W' hk=>?_
  have hd:=(zaa Hdown) W1 W' hb1 (by omega) hk
  have hN:=(zaa HY).nc pre W (zaa HJ)
  have h6:=zaa Hsz
  have h7:=zaa Hsz7
  have hold:∀ q,W.heap.size+6≤q→q<w7.heap.size→W'.heap[q]? = w7.heap[q]?:=fun q h1 h2=>(hk.blk q (by omega) (by
   rintro ((h|h)|h)
   ·have:=(zaa HY).lt q h;omega
   ·omega
   ·omega)).trans (hb1.block q h2)
  exact ⟨(zaa HU).keepN hd hN,fun i hi=>((zaa Hr) i hi).keepN hd hN,(hold _ (by omega) (by omega)).trans (zaa HsB),(hold _ (by omega) (by omega)).trans (zaa HqB)⟩
 case assign =>
  intro zs z A K hI hsA hK
  gi_wp2
  exact hK _ _ (KeepX.refl _ _) hI rfl
 case body =>
  rintro zs z a' A ⟨ys,rc,⟨hsum,hylen⟩,hJA,hKA,hrB,hrc⟩ rfl hsA hG
  have hlen2:ys.length+zmn na (zh6 z st.us S)≤zmn na S:=by
   have h1:=zvn (zaa Hst) (zaa HS) (zs ++ [z]) hG.1
   rw [List.map_append,List.sum_append] at h1
   simp at h1
   omega
  have Hwz:=zac (WfH.zea (hG.2 z (by simp)) st.ps (zaa Hrow))
  have Hylen:=zac hylen
  have Hlen2:=zac hlen2
  clear hylen hlen2 hG
  have h6:=zaa Hsz
  have h7:=zaa Hsz7
  have hA6:∀ q,W.heap.size≤q→q<W.heap.size+6→q≠W.heap.size+1+1+1→A.heap[q]? = W6.heap[q]?:=fun q h1 h2 h3=>(hKA.blk q (by omega) (by
   rintro (h|h)
   ·have:=(zaa HY).lt q h;omega
   ·omega)).trans ((zaa Hbl7).block q (by omega))
  have hdA:KeepX (fun k=>X k∨k=l) W A:=(zaa Hdown) w7 A (Below.refl _ _) (Nat.le_refl _) (hKA.mono fun k _ h=>.inl h)
  have hNW:=(zaa HY).nc pre W (zaa HJ)
  have hNA:=(zaa HY).nc _ A hJA
  have hStA:=(zaa HSt).keepN hdA hNW
  have hUA:=(zaa HU).keepN hdA hNW
  have hRA:∀ i,i<4→zay A (sv i).val (S i).rs:=fun i hi=>((zaa Hr) i hi).keepN hdA hNW
  have hPA:A.heap[PB]? = some (.cells #[.slice ka na kcap,x1,x2] 265 (0,0)):=hdA.blkN hNW (zaa HP)
  have hPlA:znj A pa st.ps:=fun k hk=>by
   obtain ⟨b',o',e,d⟩:=(zaa HPl) k hk
   exact ⟨b',o',e,hdA.cellN hNW d⟩
  have c1:A.cell? ⟨W.heap.size+1,0,none⟩=some (.slice (some ⟨b,o,none⟩) (sts.length+1) cap):=zab ((hA6 _ (by omega) (by omega) (by omega)).trans (zaa Hbx).b1) 0
  have e0:=hdA.cellN hNW (zaa Hd0)
  have e1:=hdA.cellN hNW (zaa Hd1)
  have g2:=(hA6 (W.heap.size+1+1) (by omega) (by omega) (by omega)).trans (zaa Hbx).b2
  have p0:A.cell? ⟨W.heap.size+1+1,0,none⟩=some _:=(zaf g2 0 (by omega)).1
  have p1:A.cell? ⟨W.heap.size+1+1,1,none⟩=some _:=(zaf g2 0 (by omega)).2
  have p2:A.cell? ⟨W.heap.size+1+1,2,none⟩=some _:=(zaf g2 1 (by omega)).1
  have p3:A.cell? ⟨W.heap.size+1+1,3,none⟩=some _:=(zaf g2 1 (by omega)).2
  have p4:A.cell? ⟨W.heap.size+1+1,4,none⟩=some _:=(zaf g2 2 (by omega)).1
  have p5:A.cell? ⟨W.heap.size+1+1,5,none⟩=some _:=(zaf g2 2 (by omega)).2
  have p6:A.cell? ⟨W.heap.size+1+1,6,none⟩=some _:=(zaf g2 3 (by omega)).1
  have p7:A.cell? ⟨W.heap.size+1+1,7,none⟩=some _:=(zaf g2 3 (by omega)).2
  have hcall:=fun (wx:World) (hx:zpo A wx)=>zx1 st.us (.slice ua st.us.length uc) pa st.ps.length pc sv S z wx (hUA.keepN (Y:=fun _=>False) (KeepX.ofBelow hx) (fun _ h=>h.elim)) (by have:=(zaa Hst).len;have:=(zaa HS).na4;omega) (fun i hi=>(hRA i hi).below hx) (zaa HS).full ((zaa HS).uses (zaa Hst) z)
  have HfN:=zac ((zaa HS).nar (zaa Hst) z).full
  have HA6:=zac hA6
  have HdA:=zac hdA
  have HStA:=zac hStA
  have HPA:=zac hPA
  have HPlA:=zac hPlA
  have Hcall:=zac hcall
  have Hsum:=zac hsum
  have HJA:=zac hJA
  have HKA:=zac hKA
  have HrB:=zac hrB
  have Hrc:=zac hrc
  have HNA:=zac hNA
  clear hA6 hdA hStA hPA hPlA hcall hsum hJA hKA hrB hrc hNA hNW hUA hRA g2 h6 h7
  gi_wp2_with fail
  gi_cut [13,14] from 37 (fun s13 s14 w=>zwb A z st.us S s13 s14 w)
  case first =>
   refine zdu ?_
   refine ziu rfl (by kernel_rfl) (by kernel_rfl) ?_
   refine zao (i:=0) (v:=.slice (some ⟨b,o,none⟩) (sts.length+1) cap) [0,3,4,9] rfl rfl (by kernel_rfl) (by kernel_rfl) (by kernel_rfl) (fun _ _ _ h=>h) ⟨by rfl,(fun w' hw=>?_),(fun _=>rfl)⟩ ?_
   ·have q:=hw.cell (show A.drew.cell? ⟨W.heap.size+1,0,none⟩=_ from c1)
    go_simp
   refine wpAnyIn_take (i:=1) (v:=.pointer (some ⟨b,o,none⟩)) rfl rfl (by kernel_rfl) (by kernel_rfl) (by kernel_rfl) (fun _ _ _ h=>h) ⟨Or.inl ⟨by rfl,(fun w'=>?_)⟩,fun _=>rfl⟩ ?_
   ·go_simp
   refine zao (i:=2) (v:=.agg #[.slice ua st.us.length uc,.slice pa st.ps.length pc]) [2,3,4,9] rfl rfl (by kernel_rfl) (by kernel_rfl) (by kernel_rfl) (fun _ _ _ h=>h) ⟨by rfl,(fun w' hw=>?_),(fun _=>rfl)⟩ ?_
   ·have q0:=hw.cell (show A.drew.cell? ⟨b,o,none⟩=_ from e0)
    have q1:=hw.cell (show A.drew.cell? ⟨b,o+1,none⟩=_ from e1)
    go_simp
   refine zao (i:=3) (v:=.agg (zag sv (fun i=>((S i).c:Int)))) [3,4,9] rfl rfl (by kernel_rfl) (by kernel_rfl) (by kernel_rfl) (fun _ _ _ h=>h) ⟨by rfl,(fun w' hw=>?_),(fun _=>rfl)⟩ ?_
   ·have q0:=hw.cell (show A.drew.cell? ⟨W.heap.size+1+1,0,none⟩=_ from p0)
    have q1:=hw.cell (show A.drew.cell? ⟨W.heap.size+1+1,1,none⟩=_ from p1)
    have q2:=hw.cell (show A.drew.cell? ⟨W.heap.size+1+1,2,none⟩=_ from p2)
    have q3:=hw.cell (show A.drew.cell? ⟨W.heap.size+1+1,3,none⟩=_ from p3)
    have q4:=hw.cell (show A.drew.cell? ⟨W.heap.size+1+1,4,none⟩=_ from p4)
    have q5:=hw.cell (show A.drew.cell? ⟨W.heap.size+1+1,5,none⟩=_ from p5)
    have q6:=hw.cell (show A.drew.cell? ⟨W.heap.size+1+1,6,none⟩=_ from p6)
    have q7:=hw.cell (show A.drew.cell? ⟨W.heap.size+1+1,7,none⟩=_ from p7)
    unfold zag
    go_simp
   refine wpAnyIn_take (i:=4) (v:=.int .i64 z) rfl rfl (by kernel_rfl) (by kernel_rfl) (by kernel_rfl) (fun _ _ _ h=>h) ⟨Or.inl ⟨by rfl,(fun w'=>?_)⟩,fun _=>rfl⟩ ?_
   ·go_simp
   refine wpAnyIn_ready (rs:=[5,9]) (by kernel_rfl) (by simp) ?_
   refine AllReadyIn.cons rfl (fun K hK=>?_) (AllReadyIn.cons rfl (fun K hK=>?_) AllReadyIn.nil)
   ·go_simp
    refine ⟨trivial,?_⟩
    refine (callsIn_wide.2 ((zaa Hcall) A.drew (zav _ _))).mono ?_
    rintro e w2 ⟨sv',cs',rfl,hb2,hl⟩
    dsimp only
    have HL:=zac hl
    have HB2:=zac hb2
    clear hl hb2
    refine hK _ _ ?_
    clear hK K
    refine wpAnyIn_take (i:=6) (v:=.tuple #[.agg (zag sv' cs'),.bool (zgc z st.us S)]) rfl rfl (by kernel_rfl) (by kernel_rfl) (by kernel_rfl) (fun _ _ _ h=>h) ⟨Or.inl ⟨by rfl,(fun w'=>?_)⟩,fun _=>rfl⟩ ?_
    ·go_simp
    refine wpAnyIn_take (i:=7) (v:=.agg (zag sv' cs')) rfl rfl (by kernel_rfl) (by kernel_rfl) (by kernel_rfl) (fun _ _ _ h=>h) ⟨Or.inl ⟨by rfl,(fun w'=>?_)⟩,fun _=>rfl⟩ ?_
    ·go_simp
    refine wpAnyIn_take (i:=8) (v:=.bool (zgc z st.us S)) rfl rfl (by kernel_rfl) (by kernel_rfl) (by kernel_rfl) (fun _ _ _ h=>h) ⟨Or.inl ⟨by rfl,(fun w'=>?_)⟩,fun _=>rfl⟩ ?_
    ·go_simp
    refine wpAnyIn_ready (rs:=[9]) (by kernel_rfl) (by simp) ?_
    refine AllReadyIn.cons rfl (fun K hK=>?_) AllReadyIn.nil
    go_simp
    refine hK _ _ ?_
    clear hK K
    refine wpAnyIn_ready (rs:=[10]) (by kernel_rfl) (by simp) ?_
    refine AllReadyIn.cons rfl (fun K hK=>?_) AllReadyIn.nil
    unfold zag
    go_simp
    refine hK _ _ ?_
    clear hK K
    refine wpAnyIn_take (i:=11) (v:=.bool (zgc z st.us S)) rfl rfl (by kernel_rfl) (by kernel_rfl) (by kernel_rfl) (fun _ _ _ h=>h) ⟨Or.inl ⟨by rfl,(fun w'=>?_)⟩,fun _=>rfl⟩ ?_
    ·go_simp
    refine wpAnyIn_done (by kernel_rfl) ?_ _
    dsimp only [zkb]
    gi_wp2_with fail
    gi_meet
    case rel =>
     exact ygw (zaa HB2) (zaa HL)
   ·go_simp
    refine hK _ _ ?_
    clear hK K
    refine wpAnyIn_ready (rs:=[5]) (by kernel_rfl) (by simp) ?_
    refine AllReadyIn.cons rfl (fun K hK=>?_) AllReadyIn.nil
    go_simp
    refine ⟨trivial,?_⟩
    refine (callsIn_wide.2 ((zaa Hcall) _ ((zav _ _).alloc (Nat.le_refl _) _))).mono ?_
    rintro e w2 ⟨sv',cs',rfl,hb2,hl⟩
    dsimp only
    have HL:=zac hl
    have HB2:=zac hb2
    clear hl hb2
    refine hK _ _ ?_
    clear hK K
    refine wpAnyIn_take (i:=6) (v:=.tuple #[.agg (zag sv' cs'),.bool (zgc z st.us S)]) rfl rfl (by kernel_rfl) (by kernel_rfl) (by kernel_rfl) (fun _ _ _ h=>h) ⟨Or.inl ⟨by rfl,(fun w'=>?_)⟩,fun _=>rfl⟩ ?_
    ·go_simp
    refine wpAnyIn_take (i:=7) (v:=.agg (zag sv' cs')) rfl rfl (by kernel_rfl) (by kernel_rfl) (by kernel_rfl) (fun _ _ _ h=>h) ⟨Or.inl ⟨by rfl,(fun w'=>?_)⟩,fun _=>rfl⟩ ?_
    ·go_simp
    refine wpAnyIn_take (i:=8) (v:=.bool (zgc z st.us S)) rfl rfl (by kernel_rfl) (by kernel_rfl) (by kernel_rfl) (fun _ _ _ h=>h) ⟨Or.inl ⟨by rfl,(fun w'=>?_)⟩,fun _=>rfl⟩ ?_
    ·go_simp
    refine wpAnyIn_ready (rs:=[10]) (by kernel_rfl) (by simp) ?_
    refine AllReadyIn.cons rfl (fun K hK=>?_) AllReadyIn.nil
    have hnb:w2.heap[A.heap.size]? = some (.cells #[.slice none 0 0,.int .i64 0,.slice none 0 0,.int .i64 0,.slice none 0 0,.int .i64 0,.slice none 0 0,.int .i64 0] 192 (0,0)):=((zaa HB2).block A.heap.size (by rw [World.size_alloc];exact Nat.lt_succ_self _)).trans (zae _ _ _ rfl)
    have y0:w2.cell? ⟨A.heap.size,0,none⟩=some _:=zab hnb 0
    have f0:w2.frozen? ⟨A.heap.size,0,none⟩=false:=zad hnb 0
    have y1:w2.cell? ⟨A.heap.size,1,none⟩=some _:=zab hnb 1
    have f1:w2.frozen? ⟨A.heap.size,1,none⟩=false:=zad hnb 1
    have y2:w2.cell? ⟨A.heap.size,2,none⟩=some _:=zab hnb 2
    have f2:w2.frozen? ⟨A.heap.size,2,none⟩=false:=zad hnb 2
    have y3:w2.cell? ⟨A.heap.size,3,none⟩=some _:=zab hnb 3
    have f3:w2.frozen? ⟨A.heap.size,3,none⟩=false:=zad hnb 3
    have y4:w2.cell? ⟨A.heap.size,4,none⟩=some _:=zab hnb 4
    have f4:w2.frozen? ⟨A.heap.size,4,none⟩=false:=zad hnb 4
    have y5:w2.cell? ⟨A.heap.size,5,none⟩=some _:=zab hnb 5
    have f5:w2.frozen? ⟨A.heap.size,5,none⟩=false:=zad hnb 5
    have y6:w2.cell? ⟨A.heap.size,6,none⟩=some _:=zab hnb 6
    have f6:w2.frozen? ⟨A.heap.size,6,none⟩=false:=zad hnb 6
    have y7:w2.cell? ⟨A.heap.size,7,none⟩=some _:=zab hnb 7
    have f7:w2.frozen? ⟨A.heap.size,7,none⟩=false:=zad hnb 7
    have Hnb:=zac hnb
    clear hnb
    unfold zag
    go_simp
    refine hK _ _ ?_
    clear hK K
    refine wpAnyIn_take (i:=11) (v:=.bool (zgc z st.us S)) rfl rfl (by kernel_rfl) (by kernel_rfl) (by kernel_rfl) (fun _ _ _ h=>h) ⟨Or.inl ⟨by rfl,(fun w'=>?_)⟩,fun _=>rfl⟩ ?_
    ·go_simp
    refine wpAnyIn_done (by kernel_rfl) ?_ _
    dsimp only [zkb]
    gi_wp2_with fail
    gi_meet
    case rel =>
     refine ygx (zaa HB2) (zaa HL) (zaa Hnb) (zaa HfN) (put8 (zaa Hnb) _ _ _ _ _ _ _ _) (fun q hq=>?_) ?_
     ·iterate 8 refine (Below.heap_setCell _ _ _ q (fun e=>hq e)).trans ?_
      rfl
     ·iterate 8 refine zbu ?_ (Nat.le_refl _) _ _
      exact Below.refl _ _
  case rest =>
   obtain ⟨nb,sv',cs',rfl,rfl,hnb,hnA,hbc,hl⟩:=hcut
   have h6:=zaa Hsz
   have h7:=zaa Hsz7
   have hJc:=(zaa HY).st _ _ _ (zaa HJA) (hbc.mono (by omega))
   have hKc:=(zaa HKA).then hbc
   have hrBc:=(hbc.block (W.heap.size+1+1+1) (by omega)).trans (zaa HrB)
   have hKAc:KeepX (fun k=>(X k∨k=l)∨k=W.heap.size+1+1+1) A wc:=KeepX.ofBelow hbc
   by_cases hleft:zgc z st.us S=true
   ·obtain ⟨rfl,hRn⟩:=hl hleft
    rw [hleft]
    have c1':=(hbc.cell (p:=⟨W.heap.size+1,0,none⟩) (by dsimp only;omega)).trans c1
    have e1':=(hbc.cell (p:=⟨b,o+1,none⟩) (by dsimp only;omega)).trans e1
    have hPlc:znj wc pa st.ps:=fun k hk=>by
     obtain ⟨b',o',e,d⟩:=(zaa HPlA) k hk
     exact ⟨b',o',e,(hbc.cell (p:=⟨b',o'+k,none⟩) (World.block_lt_of_cell? A _ d)).trans d⟩
    have HPlc:=zac hPlc
    have HJc:=zac hJc
    have HKc:=zac hKc
    have HrBc:=zac hrBc
    have HKAc:=zac hKAc
    have HRn:=zac hRn
    have Hnb:=zac hnb
    have Hbc:=zac hbc
    clear hPlc hJc hKc hrBc hKAc hRn hnb hbc hl c1 e0 e1 p0 p1 p2 p3 p4 p5 p6 p7 h6 h7
    gi_wp2_with fail
    gi_loopw [53] (fun i wr=>∃ k:Nat,k≤st.ps.length∧i=.int .i64 k∧wr.heap[W.heap.size+1+1+1]? = some (.cells (h4C (zea (st.ps.take k) z rc)) 134 (0,0))∧KeepX (fun q=>q=W.heap.size+1+1+1) wc wr) (fun i _=>st.ps.length - (intOf i).toNat)
    case atStart=>exact ⟨0,Nat.zero_le _,rfl,zaa HrBc,KeepX.refl _ _⟩
    case round =>
     obtain ⟨k,hk,rfl,hRow,hKr⟩:=hrel
     by_cases hlt:k<st.ps.length
     ·have hkx:(k:Int)<(st.ps.length:Int):=by omega
      have hk4:(k:Int)<4:=by have:=(zaa Hst).pln;omega
      obtain ⟨pb,po,rfl,dW⟩:=(zaa HPl) k hlt
      have hpbl:pb<W.heap.size:=World.block_lt_of_cell? W _ dW
      obtain ⟨pb',po',epb,dc⟩:=(zaa HPlc) k hlt
      injection epb with epb
      injection epb with epb1 epb2
      subst epb1 epb2
      have d:=(hKr.cell (p:=⟨pb,po+k,none⟩) (World.block_lt_of_cell? wc _ dc) (by dsimp only;omega)).trans dc
      have hmem:st.ps[k]?.getD 0∈st.ps:=by simp [hlt]
      have hp4:=(zaa Hst).pl _ hmem
      have hsucc:=ybg st.ps k hlt z rc
      obtain ⟨p,hp⟩:∃ p,p=st.ps[k]?.getD 0:=⟨_,rfl⟩
      rw [← hp] at d hp4 hsucc
      have hpx:(p:Int)<4:=by omega
      have cR:=ygf hRow p hp4
      have fR:wr.frozen? ⟨W.heap.size+1+1+1,p,none⟩=false:=zad hRow p
      have hset:=zdy p (.int .i64 z) hRow
      rw [yit _ p hp4,← hsucc] at hset
      have Hset:=zac hset
      have HKr:=zac (hKr.set1 p (.int .i64 z))
      clear dW dc hmem hp hsucc hRow hKr hset
      gi_wp2
      go_roundw
      case rel=>exact ⟨k+1,by omega,by simp,zaa Hset,zaa HKr⟩
      case measure=>simp [intOf];omega
     ·have hke:k=st.ps.length:=by omega
      subst hke
      rw [List.take_length] at hRow
      have HRow:=zac hRow
      have HKr:=zac hKr
      clear hRow hKr
      gi_wp2_with fail
      have h6:=zaa Hsz
      have h7:=zaa Hsz7
      have hKwr:KeepX (fun k=>(X k∨k=l)∨k=W.heap.size+1+1+1) w7 wr:=(zaa HKc).trans ((zaa HKr).mono fun k _ h=>.inr h)
      have hdr:KeepX (fun k=>X k∨k=l) W wr:=(zaa Hdown) w7 wr (Below.refl _ _) (Nat.le_refl _) (hKwr.mono fun k _ h=>.inl h)
      have hNW:=(zaa HY).nc pre W (zaa HJ)
      have hszc:=(zaa Hbc).size
      have hszr:=(zaa HKr).size
      have hwB:∀ q,W.heap.size≤q→q<W.heap.size+6→q≠W.heap.size+1+1+1→wr.heap[q]? = W6.heap[q]?:=fun q h1 h2 h3=>((zaa HKr).blk q (by omega) h3).trans (((zaa Hbc).block q (by omega)).trans ((zaa HA6) q h1 h2 h3))
      have hJr:J (pre ++ ys) wr:=(zaa HY).st _ _ _ (zaa HJc) ((zaa HKr).below (by omega) (fun k e=>by omega))
      have hnbr:wr.heap[nb]? = _:=((zaa HKr).blk nb (Array.getElem?_eq_some_iff.1 (zaa Hnb)).1 (by omega)).trans (zaa Hnb)
      have hRr:∀ i,i<4→zay wr (sv' i).val (zh6 z st.us S i).rs:=fun i hi=>((zaa HRn) i hi).asideT (zaa HrBc) (by decide) (ygg rc) (fun q hq hne=>(zaa HKr).blk q hq hne)
      obtain ⟨tv,htv,htf⟩:=yen b o sts.length cap hcap
      have hStr:zeb wr tv sts:=by
       have hS0:=(zaa HSt).keepN hdr hNW
       rcases htf with rfl|⟨h0,rfl⟩
       ·exact hS0.tail
       ·have:sts=[]:=List.eq_nil_of_length_eq_zero h0
        subst this
        exact ⟨_,0,rfl,Nat.le_refl _,fun k hk=>by simp at hk⟩
      have hcall:=(zaa HIH) tv sv' (zh6 z st.us S) (zea st.ps z rc) (pre ++ ys) wr.drew ((zaa HY).st _ _ _ hJr (zav _ _)) (by show B0≤wr.heap.size;omega) (hdr.blkN hNW (zaa HP)) (hStr.below (zav _ _)) ((zaa HS).nar (zaa Hst) z) (fun i hi=>(hRr i hi).below (zav _ _)) (by have:=zaa Hlen2;have:=zaa Hcnt;rw [List.length_append];omega) (by rw [(zaa Hrc) z];exact zaa Hwz)
      have c0:wr.cell? ⟨W.heap.size,0,none⟩=some (.pointer (some ⟨PB,0,none⟩)):=zab ((hwB _ (by omega) (by omega) (by omega)).trans (zaa Hbx).b0) 0
      have c1:wr.cell? ⟨W.heap.size+1,0,none⟩=some (.slice (some ⟨b,o,none⟩) (sts.length+1) cap):=zab ((hwB _ (by omega) (by omega) (by omega)).trans (zaa Hbx).b1) 0
      have c4:wr.cell? ⟨W.heap.size+1+1+1+1,0,none⟩=some (.func (.yield l) #[] #[]):=zab ((hwB _ (by omega) (by omega) (by omega)).trans (zaa Hbx).b4) 0
      have p0:wr.cell? ⟨nb,0,none⟩=some _:=(zaf hnbr 0 (by omega)).1
      have p1:wr.cell? ⟨nb,1,none⟩=some _:=(zaf hnbr 0 (by omega)).2
      have p2:wr.cell? ⟨nb,2,none⟩=some _:=(zaf hnbr 1 (by omega)).1
      have p3:wr.cell? ⟨nb,3,none⟩=some _:=(zaf hnbr 1 (by omega)).2
      have p4:wr.cell? ⟨nb,4,none⟩=some _:=(zaf hnbr 2 (by omega)).1
      have p5:wr.cell? ⟨nb,5,none⟩=some _:=(zaf hnbr 2 (by omega)).2
      have p6:wr.cell? ⟨nb,6,none⟩=some _:=(zaf hnbr 3 (by omega)).1
      have p7:wr.cell? ⟨nb,7,none⟩=some _:=(zaf hnbr 3 (by omega)).2
      obtain ⟨rc2,hrc2⟩:∃ rc2,rc2=zea st.ps z rc:=⟨_,rfl⟩
      have hRow2:wr.heap[W.heap.size+1+1+1]? = some (.cells (h4C rc2) 134 (0,0)):=by rw [hrc2];exact zaa HRow
      rw [← hrc2] at hcall
      have v0:wr.cell? ⟨W.heap.size+1+1+1,0,none⟩=some (.int .i64 rc2.1):=zab hRow2 0
      have v1:wr.cell? ⟨W.heap.size+1+1+1,1,none⟩=some (.int .i64 rc2.2.1):=zab hRow2 1
      have v2:wr.cell? ⟨W.heap.size+1+1+1,2,none⟩=some (.int .i64 rc2.2.2.1):=zab hRow2 2
      have v3:wr.cell? ⟨W.heap.size+1+1+1,3,none⟩=some (.int .i64 rc2.2.2.2):=zab hRow2 3
      have hrB0:¬ (X (W.heap.size+1+1+1)∨W.heap.size+1+1+1=l):=fun e=>by have:=(zaa HY).lt _ e;omega
      have hrBl:W.heap.size+1+1+1<wr.heap.size:=(Array.getElem?_eq_some_iff.1 hRow2).1
      have hKA3:KeepX (fun k=>(X k∨k=l)∨k=W.heap.size+1+1+1) A wr:=(zaa HKAc).trans ((zaa HKr).mono fun k _ h=>.inr h)
      have hps4:=(zaa Hst).pl
      have Hcall2:=zac hcall
      have HKwr:=zac hKwr
      have HKA3:=zac hKA3
      have HRow2:=zac hRow2
      have Hrc2:=zac hrc2
      have HrBn:=zac hrB0
      have Hps4:=zac hps4
      clear hcall hKwr hKA3 hRow2 hrc2 hrB0 hnbr hRr hStr hdr hNW hJr hwB h6 h7 htf hps4
      refine zdu ?_
      refine ziu rfl (by kernel_rfl) (by kernel_rfl) ?_
      refine zao (i:=1) (v:=.slice (some ⟨b,o,none⟩) (sts.length+1) cap) [0,1,3,4,5] rfl rfl (by kernel_rfl) (by kernel_rfl) (by kernel_rfl) (fun _ _ _ h=>h) ⟨by rfl,(fun w' hw=>?_),(fun _=>rfl)⟩ ?_
      ·have q:=hw.cell (show wr.drew.cell? ⟨W.heap.size+1,0,none⟩=_ from c1)
       go_simp
      refine wpAnyIn_take (i:=2) (v:=tv) rfl rfl (by kernel_rfl) (by kernel_rfl) (by kernel_rfl) (fun _ _ _ h=>h) ⟨Or.inl ⟨by rfl,(fun w'=>?_)⟩,fun _=>rfl⟩ ?_
      ·have q:=htv w'
       go_simp
      refine zao (i:=0) (v:=.pointer (some ⟨PB,0,none⟩)) [0,3,4,5] rfl rfl (by kernel_rfl) (by kernel_rfl) (by kernel_rfl) (fun _ _ _ h=>h) ⟨by rfl,(fun w' hw=>?_),(fun _=>rfl)⟩ ?_
      ·have q:=hw.cell (show wr.drew.cell? ⟨W.heap.size,0,none⟩=_ from c0)
       go_simp
      refine zao (i:=3) (v:=.agg (zag sv' (fun i=>((zh6 z st.us S i).c:Int)))) [3,4,5] rfl rfl (by kernel_rfl) (by kernel_rfl) (by kernel_rfl) (fun _ _ _ h=>h) ⟨by rfl,(fun w' hw=>?_),(fun _=>rfl)⟩ ?_
      ·have q0:=hw.cell (show wr.drew.cell? ⟨nb,0,none⟩=_ from p0)
       have q1:=hw.cell (show wr.drew.cell? ⟨nb,1,none⟩=_ from p1)
       have q2:=hw.cell (show wr.drew.cell? ⟨nb,2,none⟩=_ from p2)
       have q3:=hw.cell (show wr.drew.cell? ⟨nb,3,none⟩=_ from p3)
       have q4:=hw.cell (show wr.drew.cell? ⟨nb,4,none⟩=_ from p4)
       have q5:=hw.cell (show wr.drew.cell? ⟨nb,5,none⟩=_ from p5)
       have q6:=hw.cell (show wr.drew.cell? ⟨nb,6,none⟩=_ from p6)
       have q7:=hw.cell (show wr.drew.cell? ⟨nb,7,none⟩=_ from p7)
       unfold zag
       go_simp
      refine zao (i:=4) (v:=.agg (h4C rc2)) [4,5] rfl rfl (by kernel_rfl) (by kernel_rfl) (by kernel_rfl) (fun _ _ _ h=>h) ⟨by rfl,(fun w' hw=>?_),(fun _=>rfl)⟩ ?_
      ·have q0:=hw.cell (show wr.drew.cell? ⟨W.heap.size+1+1+1,0,none⟩=_ from v0)
       have q1:=hw.cell (show wr.drew.cell? ⟨W.heap.size+1+1+1,1,none⟩=_ from v1)
       have q2:=hw.cell (show wr.drew.cell? ⟨W.heap.size+1+1+1,2,none⟩=_ from v2)
       have q3:=hw.cell (show wr.drew.cell? ⟨W.heap.size+1+1+1,3,none⟩=_ from v3)
       unfold h4C
       go_simp
      refine zao (i:=5) (v:=.func (.yield l) #[] #[]) [5] rfl rfl (by kernel_rfl) (by kernel_rfl) (by kernel_rfl) (fun _ _ _ h=>h) ⟨by rfl,(fun w' hw=>?_),(fun _=>rfl)⟩ ?_
      ·have q:=hw.cell (show wr.drew.cell? ⟨W.heap.size+1+1+1+1,0,none⟩=_ from c4)
       go_simp
      refine wpAnyIn_ready (rs:=[6]) (by kernel_rfl) (by simp) ?_
      refine AllReadyIn.cons rfl (fun K hK=>?_) AllReadyIn.nil
      go_simp
      refine ⟨trivial,?_⟩
      refine (callsIn_wide.2 (zaa Hcall2)).mono ?_
      rintro e w3 ⟨rfl,ys2,hs2,hlen3,hJ3,hK3⟩
      dsimp only
      have Hfin:Hid (yic X l J pre na st sts S (r0,r1,r2,r3) (W.heap.size+1+1+1) w7 (zs ++ [z]) w3∧KeepX (fun k=>(X k∨k=l)∨k=W.heap.size+1+1+1) A w3):=by
       have hK3':KeepX (fun k=>(X k∨k=l)∨k=W.heap.size+1+1+1) wr w3:=KeepX.trans (KeepX.ofBelow (zav _ _)) (hK3.mono fun k _ h=>.inl h)
       refine ⟨⟨ys ++ ys2,rc2,⟨fun h=>?_,by have:=zaa Hylen;rw [List.map_append,List.sum_append,List.length_append];simp;omega⟩,by rw [← List.append_assoc];exact hJ3,(zaa HKwr).trans hK3',(hK3.blk _ hrBl (zaa HrBn)).trans (zaa HRow2),fun z'=>?_⟩,(zaa HKA3).trans hK3'⟩
       ·rw [zyl,zbf,(zaa Hsum) h,hs2 h,zaa Hrc2,(zaa Hrc) z]
        simp [zbz]
       ·rw [zaa Hrc2,zxz _ (zaa Hps4),(zaa Hrc) z']
      clear hs2 hlen3 hJ3 hK3
      refine hK _ _ ?_
      clear hK K
      refine wpAnyIn_take (i:=7) (v:=.bool false) rfl rfl (by kernel_rfl) (by kernel_rfl) (by kernel_rfl) (fun _ _ _ h=>h) ⟨Or.inl ⟨by rfl,(fun w'=>?_)⟩,fun _=>rfl⟩ ?_
      ·go_simp
      refine wpAnyIn_done (by kernel_rfl) ?_ _
      dsimp only [zkb]
      gi_wp2
      exact zaa Hfin
   ·have hfl:zgc z st.us S=false:=by simpa using hleft
    rw [hfl]
    have Hfin:Hid (yic X l J pre na st sts S (r0,r1,r2,r3) (W.heap.size+1+1+1) w7 (zs ++ [z]) wc∧KeepX (fun k=>(X k∨k=l)∨k=W.heap.size+1+1+1) A wc):=by
     obtain ⟨i0,hi0,hr0⟩:=ydo (zaa Hst) hfl
     refine ⟨⟨ys,rc,⟨fun h=>?_,by have:=zaa Hylen;rw [List.map_append,List.sum_append];omega⟩,hJc,hKc,hrBc,zaa Hrc⟩,hKAc⟩
     rw [zbf,(zaa Hsum) h]
     simp only [zbz]
     rw [zrh hi0 hr0]
     simp
    clear hJc hKc hrBc hKAc hnb hbc hl c1 e0 e1 p0 p1 p2 p3 p4 p5 p6 p7
    gi_wp2
    exact zaa Hfin
 case done =>
  rintro D zs A hD hN ⟨ys,rc,⟨hsum,hylen⟩,hJA,hKA,hrB,hrc⟩ hdef
  have h6:=zaa Hsz
  have h7:=zaa Hsz7
  have g5:A.heap[W.heap.size+1+1+1+1+1]? = some (.cells #[.bool false] 4 (0,0)):=(hKA.blk _ (by omega) (by
   rintro (h|h)
   ·have:=(zaa HY).lt _ h;omega
   ·omega)).trans (((zaa Hbl7).block _ (by omega)).trans (zaa Hbx).b5)
  have d5:A.cell? ⟨W.heap.size+1+1+1+1+1,0,none⟩=some (.bool false):=zab g5 0
  have f5:A.frozen? ⟨W.heap.size+1+1+1+1+1,0,none⟩=false:=zad g5 0
  have hdA:KeepX (fun k=>X k∨k=l) W A:=(zaa Hdown) w7 A (Below.refl _ _) (Nat.le_refl _) (hKA.mono fun k _ h=>.inl h)
  obtain ⟨A2,hA2⟩:∃ A2,A2=A.setCell ⟨W.heap.size+1+1+1+1+1,0,none⟩ (.bool true):=⟨_,rfl⟩
  have hdef2:A2.heap[D]? = some (.deferred (some [])):=by rw [hA2];exact (Below.heap_setCell _ _ _ D (by dsimp only;omega)).trans hdef
  have g52:A2.heap[W.heap.size+1+1+1+1+1]? = some (.cells #[.bool true] 4 (0,0)):=by rw [hA2];exact zdy 0 (.bool true) g5
  have hfin:zkr X l J pre (zs9 na (st :: sts) S (r0,r1,r2,r3)) (zmn na S) W (.returned (.bool true)) (A2.putObj D (.deferred none)):=by
   have hb2:Below W.heap.size A (A2.putObj D (.deferred none)):=by
    rw [hA2]
    refine (zbu (Below.refl _ _) (by omega) _ _).trans ⟨rfl,rfl,rfl,by simp,fun k hk=>World.putObj_heap_other (by omega)⟩
   refine ⟨rfl,ys,fun h=>?_,Nat.le_trans hylen (zvn (zaa Hst) (zaa HS) zs (hN.1.imp (fun h e=>by omega))),(zaa HY).st _ _ _ hJA (hb2.mono hB),hdA.thenB hb2⟩
   rw [hsum h,ye7 (zaa Hst) (zaa HS).ok zs (hN.1.imp (fun h e=>by omega)) (fun z hz=>(hN.2 z).2 hz)]
  have g53:(A2.putObj D (.deferred none)).heap[W.heap.size+1+1+1+1+1]? = some (.cells #[.bool true] 4 (0,0)):=(World.putObj_heap_other (by omega)).trans g52
  have d53:(A2.putObj D (.deferred none)).cell? ⟨W.heap.size+1+1+1+1+1,0,none⟩=some (.bool true):=zab g53 0
  have Hfin:=zac hfin
  have Hdef2:=zac hdef2
  clear hfin hdef2 g5 g52 g53 hsum hylen hJA hKA hrB hrc hdef hdA hN
  gi_wp2
  rw [← hA2]
  refine ⟨by simp,.inl ⟨_,_,rfl,run_takeDeferred (zaa Hdef2),?_⟩⟩
  exact ⟨.bool true,by simp [results,Tryz.results159,go_sem,d53],zaa Hfin⟩
end Go.Proofs.YtoifcnidhfnapaaGreatDoor
