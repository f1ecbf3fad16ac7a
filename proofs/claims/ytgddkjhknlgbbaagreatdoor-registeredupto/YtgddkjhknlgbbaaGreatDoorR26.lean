import Derived.BigRegion
import Derived.Test.YtgddkjhknlgbbaaGreatDoorR24
import Derived.Test.YtgddkjhknlgbbaaGreatDoorR25
import Derived.Deep.Fields
import Derived.Deep.Slices
import Derived.ChangeSlices
import Derived.ProofKit
import Derived.Test.YtgddkjhknlgbbaaGreatDoorRows
import Derived.Test.YtgddkjhknlgbbaaGreatDoorCards
import Derived.Test.YtgddkjhknlgbbaaGreatDoorTie
import Derived.WalkKit
import Derived.OpenShut
import Derived.Deep.DeepHandedRow
import Derived.Deep.DeepWitnessRowRef
import Derived.Lib.LaidTab
import Derived.LaidHandle
import Derived.ChangeOld
import Derived.Below
import Derived.LaidSub
set_option linter.unusedVariables false
set_option linter.unusedSimpArgs false

namespace Go.Proofs.YtgddkjhknlgbbaaGreatDoor
set_option linter.unusedVariables false
set_option linter.unusedSimpArgs false
open Go.RowKit Go.Maps

set_option maxRecDepth 100000 in
set_option maxHeartbeats 8000000 in
theorem step_register (o:Nat→Nat) (W:World) (wb:Nat) (ps:List (Nat×Nat)) (zss:List ZV) (hs:List Nat) (N B0:Nat) (h:Law o W wb ps zss hs N B0) (hpos:0<ps.length) (hpl:ps.length≤1000000000) (hB:B0≤W.heap.size) (m a:Int) (s t u:ByteArray) (p:Option Addr) (nb cb:Nat) (hsz:s.size≤10000000) (htz:t.size≤10000000) (huz:u.size≤10000000) (hN:N≤900000000) (hH:HandleAt W) (hEn:EndsAt W) (hB2:2≤B0) :
  Calls Tryz.prog 9 #[.pointer (some ⟨wb,0,none⟩),opV 5 m a s t u (.slice p nb cb)] W fun e w'=>e=.returned (.bool true)∧∃ o' zss',Law o' w' wb ps zss' hs (N+128) B0∧Mid (fun b=>o b≠0) W w':=by
 obtain ⟨pv,hv,base,hS,hpv,hwb,hcp,hch⟩:=h.ex
 obtain ⟨j,r,hj,hr,hr1,hr2,hjj⟩:=pick_pair m ps.length hpos
 obtain ⟨pp,cp,hpe,_,hpn,hps⟩:=own_form hpv
 cases pp with
 | none=>have:=hpn rfl;omega
 | some ad =>
 obtain ⟨gp,rfl,_,hgl,hcl⟩:=hps ad rfl
 obtain ⟨eb,heb⟩:∃ eb,eb=(ps[j]?.getD (0,0)).1:=⟨_,rfl⟩
 obtain ⟨fb,hfb⟩:∃ fb,fb=(ps[j]?.getD (0,0)).2:=⟨_,rfl⟩
 have hpc:=cellsP_at ps j hj
 have hp0:=hcl (j*2) (by omega)
 have hp1:=hcl (j*2+1) (by omega)
 rw [hpc.1,← heb] at hp0
 rw [hpc.2,← hfb] at hp1
 have hwl:=heap_lt hS.box
 obtain ⟨w1,hw1⟩:∃ w1,w1=W.alloc (.cells #[.int .i64 5,.int .i64 m,.int .i64 a,.string s,.string t,.string u,.slice p nb cb] 34):=⟨_,rfl⟩
 have x1:w1.heap[W.heap.size]? = some (Obj.cells #[.int .i64 5,.int .i64 m,.int .i64 a,.string s,.string t,.string u,.slice p nb cb] 34 (0,0)):=by rw [hw1];exact heap_last _ _ _ rfl
 have hb1:Below W.heap.size W w1:=by rw [hw1];exact (Below.refl _ _).alloc (Nat.le_refl _) _
 have hbox1:=(hb1.block wb hwl).trans hS.box
 rw [hpe] at hbox1
 have y0:w1.cell? ⟨W.heap.size,0,none⟩=some (.int .i64 5):=cell_of_heap x1 0
 have y1:w1.cell? ⟨W.heap.size,1,none⟩=some (.int .i64 m):=cell_of_heap x1 1
 have b0:w1.cell? ⟨wb,0,none⟩=some (.slice (some ⟨gp,0,none⟩) ps.length cp):=cell_of_heap hbox1 0
 have e0:=(hb1.cell (p:=⟨gp,_,none⟩) hgl).trans hp0
 have e1:=(hb1.cell (p:=⟨gp,_,none⟩) hgl).trans hp1
 have s1:W.heap.size<w1.heap.size:=heap_lt x1
 have s2:wb<w1.heap.size:=by omega
 have s3:gp<w1.heap.size:=by omega
 have hn0:¬ ps.length=0:=by omega
 have hjx:(j:Int)<(ps.length:Int):=by omega
 obtain ⟨w2,hw2⟩:∃ w2,w2=(w1.alloc (.cells #[.pointer (some ⟨eb,0,none⟩),.pointer (some ⟨fb,0,none⟩)] 43)).drew:=⟨_,rfl⟩
 have hb2:Below w1.heap.size w1 w2:=by rw [hw2];exact ((Below.refl _ _).alloc (Nat.le_refl _) _).trans ((Drawn.refl _).drew.below _)
 have x2:w2.heap[w1.heap.size]? = some (Obj.cells #[.pointer (some ⟨eb,0,none⟩),.pointer (some ⟨fb,0,none⟩)] 43 (0,0)):=by
  rw [hw2]
  have h0:(w1.alloc (.cells #[.pointer (some ⟨eb,0,none⟩),.pointer (some ⟨fb,0,none⟩)] 43)).heap[w1.heap.size]? = some (Obj.cells #[.pointer (some ⟨eb,0,none⟩),.pointer (some ⟨fb,0,none⟩)] 43 (0,0)):=heap_last _ _ _ rfl
  exact h0
 have x12:=(hb2.block W.heap.size s1).trans x1
 have hB12:Below W.heap.size W w2:=hb1.trans (hb2.mono (by omega))
 have hs2:=hB12.size
 have hLaw:=h.below hB12
 have hE:=hLaw.eng j hj
 have hR:=hLaw.ref j hj
 have hz:=hLaw.ok j hj
 rw [← heb] at hE
 rw [← hfb] at hR
 have HH2:=hide (show HandleAt w2 from (hB12.cell (p:=⟨0,0,none⟩) (World.block_lt_of_cell? W _ hH)).trans hH)
 have HE2:=hide (hEn.below hB12)
 have Ho1:Hid (o 1=0):=h.args 1 (by omega)
 clear hH hEn
 have X1:=hide x12
 have X2:=hide x2
 have Hw1:=hide hw1
 have Hw2:=hide hw2
 have HLaw:=hide hLaw
 have HB12:=hide hB12
 have HE:=hide hE
 have HR:=hide hR
 have Hz:=hide hz
 have Heb:=hide heb
 have Hfb:=hide hfb
 have H:=hide h
 obtain ⟨n,hnn⟩:∃ n,n=ps.length:=⟨_,rfl⟩
 rw [← hnn] at b0 hn0 hjx hr hr1 hr2 hjj
 have hnb:n≤1000000000:=by omega
 have hnp:0<n:=by omega
 have Hj:=hide hj
 clear h hS hpv hwb hcp hch hpn hps hcl hpc hp0 hp1 x1 hb1 hbox1 hw1 hw2 hb2 x2 x12 hB12 hLaw hE hR hz heb hfb hpe hj hnn hpos hpl
 unfold opV
 go_enter Tryz.func9,Tryz.ntmps9
 go_upto_region 1 with fail
 rw [← unhide Hw1]
 go_wp2
 go_region
 rw [← unhide Hw2]
 have z0:w2.cell? ⟨w1.heap.size,0,none⟩=some (.pointer (some ⟨eb,0,none⟩)):=cell_of_heap (unhide X2) 0
 have z1:w2.cell? ⟨w1.heap.size,1,none⟩=some (.pointer (some ⟨fb,0,none⟩)):=cell_of_heap (unhide X2) 1
 have o0:w2.cell? ⟨W.heap.size,0,none⟩=some (.int .i64 5):=cell_of_heap (unhide X1) 0
 have o1:w2.cell? ⟨W.heap.size,1,none⟩=some (.int .i64 m):=cell_of_heap (unhide X1) 1
 have o2:w2.cell? ⟨W.heap.size,2,none⟩=some (.int .i64 a):=cell_of_heap (unhide X1) 2
 have o3:w2.cell? ⟨W.heap.size,3,none⟩=some (.string s):=cell_of_heap (unhide X1) 3
 have o4:w2.cell? ⟨W.heap.size,4,none⟩=some (.string t):=cell_of_heap (unhide X1) 4
 have o5:w2.cell? ⟨W.heap.size,5,none⟩=some (.string u):=cell_of_heap (unhide X1) 5
 have o6:w2.cell? ⟨W.heap.size,6,none⟩=some (.slice p nb cb):=cell_of_heap (unhide X1) 6
 have t1l:w1.heap.size<w2.heap.size:=heap_lt (unhide X2)
 have t0l:W.heap.size<w2.heap.size:=by omega
 clear y0 y1 b0 e0 e1 hr hjj hr1 hr2
 have Hc:=hide (engRegV _ w2 eb (zss[j]?.getD zV0) N s t u (unhide HE) (unhide Hz) (unhide HH2) hsz htz huz hN)
 go_wp2_with fail
 refine (unhide Hc).mono ?_
 rintro e w3 ⟨rfl,hE3,hM3⟩
 have hs3:=hM3.size
 have hk3:∀ b,b<w2.heap.size→o b≠2*j+2→w3.heap[b]? = w2.heap[b]?:=fun b hb hc=>hM3.block b hb hc
 have hW0:o W.heap.size=0:=(unhide H).fresh _ (Nat.le_refl _)
 have hw0:o w1.heap.size=0:=(unhide H).fresh _ (by omega)
 have q1:w3.cell? ⟨w1.heap.size,1,none⟩=some (.pointer (some ⟨fb,0,none⟩)):=by rw [World.cell?_of_block (w:=w2) (a:=⟨w1.heap.size,1,none⟩) (hk3 w1.heap.size t1l (by omega))];exact z1
 have q3:w3.cell? ⟨W.heap.size,3,none⟩=some (.string s):=by rw [World.cell?_of_block (w:=w2) (a:=⟨W.heap.size,3,none⟩) (hk3 W.heap.size t0l (by omega))];exact o3
 have q4:w3.cell? ⟨W.heap.size,4,none⟩=some (.string t):=by rw [World.cell?_of_block (w:=w2) (a:=⟨W.heap.size,4,none⟩) (hk3 W.heap.size t0l (by omega))];exact o4
 have q5:w3.cell? ⟨W.heap.size,5,none⟩=some (.string u):=by rw [World.cell?_of_block (w:=w2) (a:=⟨W.heap.size,5,none⟩) (hk3 W.heap.size t0l (by omega))];exact o5
 have hEn3:EndsAt w3:=fun i hi=>by
  have h0:=(unhide HE2) i hi
  have h1:=unhide Ho1
  rw [World.cell?_of_block (w:=w2) (a:=⟨1,i,none⟩) (hk3 1 (World.block_lt_of_cell? w2 _ h0) (by omega))]
  exact h0
 have hR3:=(unhide HR).kept (W':=w3) (fun b hb hlt=>hk3 b hlt (by omega))
 have Hr:=hide (refRegV _ w3 fb (zss[j]?.getD zV0) s t u hR3 (unhide Hz) hEn3 hsz htz huz)
 have HE3:=hide hE3
 have HM3:=hide hM3
 clear hE3 hM3 hk3 hR3 hW0 hw0 Hc z0 z1 o0 o1 o2 o3 o4 o5 o6 hEn3
 generalize hcc:(regZ (zss[j]?.getD zV0) s t u).1=cc at *
 generalize hdd:(regZ (zss[j]?.getD zV0) s t u).2=dd at *
 go_wp2_with fail
 refine (unhide Hr).mono ?_
 rintro e w4 ⟨rfl,hR4,hM4⟩
 have hfin:∃ o' zss',Law o' w4 wb ps zss' hs (N+128) B0∧Mid (fun b=>o b≠0) W w4:=by
  have hE3:=unhide HE3
  rw [unhide Heb] at hE3
  rw [unhide Hfb] at hR4
  obtain ⟨o',g1,g2⟩:=(unhide HLaw).made (unhide Hj) (unhide HM3) hM4 (hE3.imp (fun b hb=>.inl hb) (Nat.le_refl _)) (Nat.le_add_right _ _) hR4 (by have:=(unhide Hz).reg s t u;rw [hcc] at this;exact this) (by omega)
  exact ⟨o',_,g1,Mid.after (unhide HB12) g2⟩
 have Hfin:=hide hfin
 have hcq:(cc == cc)=true:=by simp
 have hdq:(dd == dd)=true:=by simp
 clear hfin hR4 hM4 Hr hcc hdd
 go_wp2
 go_ret
 exact ⟨by simp,unhide Hfin⟩


set_option maxRecDepth 100000 in
set_option maxHeartbeats 8000000 in
theorem step_drop (o:Nat→Nat) (W:World) (wb:Nat) (ps:List (Nat×Nat)) (zss:List ZV) (hs:List Nat) (N B0:Nat) (h:Law o W wb ps zss hs N B0) (hpos:0<ps.length) (hpl:ps.length≤1000000000) (hB:B0≤W.heap.size) (m a:Int) (s t u:ByteArray) (p:Option Addr) (nb cb:Nat) (hsz:s.size≤10000000) :
  Calls Tryz.prog 9 #[.pointer (some ⟨wb,0,none⟩),opV 6 m a s t u (.slice p nb cb)] W fun e w'=>e=.returned (.bool true)∧∃ o' zss',Law o' w' wb ps zss' hs (N+128) B0∧Mid (fun b=>o b≠0) W w':=by
 obtain ⟨pv,hv,base,hS,hpv,hwb,hcp,hch⟩:=h.ex
 obtain ⟨j,r,hj,hr,hr1,hr2,hjj⟩:=pick_pair m ps.length hpos
 obtain ⟨pp,cp,hpe,_,hpn,hps⟩:=own_form hpv
 cases pp with
 | none=>have:=hpn rfl;omega
 | some ad =>
 obtain ⟨gp,rfl,_,hgl,hcl⟩:=hps ad rfl
 obtain ⟨eb,heb⟩:∃ eb,eb=(ps[j]?.getD (0,0)).1:=⟨_,rfl⟩
 obtain ⟨fb,hfb⟩:∃ fb,fb=(ps[j]?.getD (0,0)).2:=⟨_,rfl⟩
 have hpc:=cellsP_at ps j hj
 have hp0:=hcl (j*2) (by omega)
 have hp1:=hcl (j*2+1) (by omega)
 rw [hpc.1,← heb] at hp0
 rw [hpc.2,← hfb] at hp1
 have hwl:=heap_lt hS.box
 obtain ⟨w1,hw1⟩:∃ w1,w1=W.alloc (.cells #[.int .i64 6,.int .i64 m,.int .i64 a,.string s,.string t,.string u,.slice p nb cb] 34):=⟨_,rfl⟩
 have x1:w1.heap[W.heap.size]? = some (Obj.cells #[.int .i64 6,.int .i64 m,.int .i64 a,.string s,.string t,.string u,.slice p nb cb] 34 (0,0)):=by rw [hw1];exact heap_last _ _ _ rfl
 have hb1:Below W.heap.size W w1:=by rw [hw1];exact (Below.refl _ _).alloc (Nat.le_refl _) _
 have hbox1:=(hb1.block wb hwl).trans hS.box
 rw [hpe] at hbox1
 have y0:w1.cell? ⟨W.heap.size,0,none⟩=some (.int .i64 6):=cell_of_heap x1 0
 have y1:w1.cell? ⟨W.heap.size,1,none⟩=some (.int .i64 m):=cell_of_heap x1 1
 have b0:w1.cell? ⟨wb,0,none⟩=some (.slice (some ⟨gp,0,none⟩) ps.length cp):=cell_of_heap hbox1 0
 have e0:=(hb1.cell (p:=⟨gp,_,none⟩) hgl).trans hp0
 have e1:=(hb1.cell (p:=⟨gp,_,none⟩) hgl).trans hp1
 have s1:W.heap.size<w1.heap.size:=heap_lt x1
 have s2:wb<w1.heap.size:=by omega
 have s3:gp<w1.heap.size:=by omega
 have hn0:¬ ps.length=0:=by omega
 have hjx:(j:Int)<(ps.length:Int):=by omega
 obtain ⟨w2,hw2⟩:∃ w2,w2=(w1.alloc (.cells #[.pointer (some ⟨eb,0,none⟩),.pointer (some ⟨fb,0,none⟩)] 43)).drew:=⟨_,rfl⟩
 have hb2:Below w1.heap.size w1 w2:=by rw [hw2];exact ((Below.refl _ _).alloc (Nat.le_refl _) _).trans ((Drawn.refl _).drew.below _)
 have x2:w2.heap[w1.heap.size]? = some (Obj.cells #[.pointer (some ⟨eb,0,none⟩),.pointer (some ⟨fb,0,none⟩)] 43 (0,0)):=by
  rw [hw2]
  have h0:(w1.alloc (.cells #[.pointer (some ⟨eb,0,none⟩),.pointer (some ⟨fb,0,none⟩)] 43)).heap[w1.heap.size]? = some (Obj.cells #[.pointer (some ⟨eb,0,none⟩),.pointer (some ⟨fb,0,none⟩)] 43 (0,0)):=heap_last _ _ _ rfl
  exact h0
 have x12:=(hb2.block W.heap.size s1).trans x1
 have hB12:Below W.heap.size W w2:=hb1.trans (hb2.mono (by omega))
 have hs2:=hB12.size
 have hLaw:=h.below hB12
 have hE:=hLaw.eng j hj
 have hR:=hLaw.ref j hj
 have hz:=hLaw.ok j hj
 rw [← heb] at hE
 rw [← hfb] at hR
 have X1:=hide x12
 have X2:=hide x2
 have Hw1:=hide hw1
 have Hw2:=hide hw2
 have HLaw:=hide hLaw
 have HB12:=hide hB12
 have HE:=hide hE
 have HR:=hide hR
 have Hz:=hide hz
 have Heb:=hide heb
 have Hfb:=hide hfb
 have H:=hide h
 obtain ⟨n,hnn⟩:∃ n,n=ps.length:=⟨_,rfl⟩
 rw [← hnn] at b0 hn0 hjx hr hr1 hr2 hjj
 have hnb:n≤1000000000:=by omega
 have hnp:0<n:=by omega
 have Hj:=hide hj
 clear h hS hpv hwb hcp hch hpn hps hcl hpc hp0 hp1 x1 hb1 hbox1 hw1 hw2 hb2 x2 x12 hB12 hLaw hE hR hz heb hfb hpe hj hnn hpos hpl
 unfold opV
 go_enter Tryz.func9,Tryz.ntmps9
 go_upto_region 1 with fail
 rw [← unhide Hw1]
 go_wp2
 go_region
 rw [← unhide Hw2]
 have z0:w2.cell? ⟨w1.heap.size,0,none⟩=some (.pointer (some ⟨eb,0,none⟩)):=cell_of_heap (unhide X2) 0
 have z1:w2.cell? ⟨w1.heap.size,1,none⟩=some (.pointer (some ⟨fb,0,none⟩)):=cell_of_heap (unhide X2) 1
 have o0:w2.cell? ⟨W.heap.size,0,none⟩=some (.int .i64 6):=cell_of_heap (unhide X1) 0
 have o1:w2.cell? ⟨W.heap.size,1,none⟩=some (.int .i64 m):=cell_of_heap (unhide X1) 1
 have o2:w2.cell? ⟨W.heap.size,2,none⟩=some (.int .i64 a):=cell_of_heap (unhide X1) 2
 have o3:w2.cell? ⟨W.heap.size,3,none⟩=some (.string s):=cell_of_heap (unhide X1) 3
 have o4:w2.cell? ⟨W.heap.size,4,none⟩=some (.string t):=cell_of_heap (unhide X1) 4
 have o5:w2.cell? ⟨W.heap.size,5,none⟩=some (.string u):=cell_of_heap (unhide X1) 5
 have o6:w2.cell? ⟨W.heap.size,6,none⟩=some (.slice p nb cb):=cell_of_heap (unhide X1) 6
 have t1l:w1.heap.size<w2.heap.size:=heap_lt (unhide X2)
 have t0l:W.heap.size<w2.heap.size:=by omega
 clear y0 y1 b0 e0 e1 hr hjj hr1 hr2
 have Hc:=hide (engDropV _ w2 eb (zss[j]?.getD zV0) N s (unhide HE) (unhide Hz) hsz)
 go_wp2_with fail
 refine (unhide Hc).mono ?_
 rintro e w3 ⟨rfl,hE3,hM3⟩
 have hs3:=hM3.size
 have hk3:∀ b,b<w2.heap.size→o b≠2*j+2→w3.heap[b]? = w2.heap[b]?:=fun b hb hc=>hM3.block b hb hc
 have hW0:o W.heap.size=0:=(unhide H).fresh _ (Nat.le_refl _)
 have hw0:o w1.heap.size=0:=(unhide H).fresh _ (by omega)
 have q1:w3.cell? ⟨w1.heap.size,1,none⟩=some (.pointer (some ⟨fb,0,none⟩)):=by rw [World.cell?_of_block (w:=w2) (a:=⟨w1.heap.size,1,none⟩) (hk3 w1.heap.size t1l (by omega))];exact z1
 have q3:w3.cell? ⟨W.heap.size,3,none⟩=some (.string s):=by rw [World.cell?_of_block (w:=w2) (a:=⟨W.heap.size,3,none⟩) (hk3 W.heap.size t0l (by omega))];exact o3
 have hR3:=(unhide HR).kept (W':=w3) (fun b hb hlt=>hk3 b hlt (by omega))
 have Hr:=hide (refDropV _ w3 fb (zss[j]?.getD zV0) s hR3 (unhide Hz))
 have HE3:=hide hE3
 have HM3:=hide hM3
 clear hE3 hM3 hk3 hR3 hW0 hw0 Hc z0 z1 o0 o1 o2 o3 o4 o5 o6
 generalize hcc:dropC (zss[j]?.getD zV0) s=cc at *
 go_wp2_with fail
 refine (unhide Hr).mono ?_
 rintro e w4 ⟨rfl,hR4,hM4⟩
 have hfin:∃ o' zss',Law o' w4 wb ps zss' hs (N+128) B0∧Mid (fun b=>o b≠0) W w4:=by
  have hE3:=unhide HE3
  rw [unhide Heb] at hE3
  rw [unhide Hfb] at hR4
  obtain ⟨o',g1,g2⟩:=(unhide HLaw).made (unhide Hj) (unhide HM3) hM4 (hE3.imp (fun b hb=>.inl hb) (Nat.le_refl _)) (Nat.le_add_right _ _) hR4 ((unhide Hz).drop s) (by omega)
  exact ⟨o',_,g1,Mid.after (unhide HB12) g2⟩
 have Hfin:=hide hfin
 have hcq:(cc == cc)=true:=by simp
 clear hfin hR4 hM4 Hr hcc
 go_wp2
 go_ret
 exact ⟨by simp,unhide Hfin⟩


end Go.Proofs.YtgddkjhknlgbbaaGreatDoor

set_option linter.unusedVariables false
set_option linter.unusedSimpArgs false

namespace Go.Proofs.YtgddkjhknlgbbaaGreatDoor
set_option linter.unusedVariables false
set_option linter.unusedSimpArgs false
open Go.RowKit Go.Maps

/-- An op of a script: its cells,and the batch that it reads as. -/
structure OpR where
 k:Int
 m:Int
 a:Int
 s:ByteArray
 t:ByteArray
 u:ByteArray
 p:Option Addr
 nb:Nat
 cb:Nat
 es:List Ent

def zeroOp:OpR:=⟨0,0,0,⟨#[]⟩,⟨#[]⟩,⟨#[]⟩,none,0,0,[]⟩
def opC (x:OpR):List Value:=[.int .i64 x.k,.int .i64 x.m,.int .i64 x.a,.string x.s,.string x.t,.string x.u,.slice x.p x.nb x.cb]

/-- A script as it lies. -/
def ScriptAt (w:World) (v:Value) (ops:List OpR):Prop:=
 ∃ a cap,v=.slice a ops.length cap∧∀ i,i<ops.length→(∃ b o,a=some ⟨b,o,none⟩∧∀ j,j<7→w.cell? ⟨b,o+i*7+j,none⟩=(opC (ops[i]?.getD zeroOp))[j]?) ∧
  EntsAt w (.slice (ops[i]?.getD zeroOp).p (ops[i]?.getD zeroOp).nb (ops[i]?.getD zeroOp).cb) (ops[i]?.getD zeroOp).es∧EntsNil w (.slice (ops[i]?.getD zeroOp).p (ops[i]?.getD zeroOp).nb (ops[i]?.getD zeroOp).cb)∧FineB (ops[i]?.getD zeroOp).es∧(ops[i]?.getD zeroOp).s.size≤10000000∧(ops[i]?.getD zeroOp).t.size≤10000000∧(ops[i]?.getD zeroOp).u.size≤10000000

def entSum (ops:List OpR):Nat:=(ops.map fun x=>x.es.length).sum

theorem step_all (o:Nat→Nat) (W:World) (wb:Nat) (ps:List (Nat×Nat)) (zss:List ZV) (hs:List Nat) (N B0:Nat) (h:Law o W wb ps zss hs N B0) (hpos:0<ps.length) (hpl:ps.length≤900000000) (hB:B0≤W.heap.size) (hhl:hs.length≤10000000000) (hN:N≤900000000) (w0:World) (hw0:w0.heap.size=B0) (hB0:Below B0 w0 W) (x:OpR) (hk:x.k≤6) (hH:HandleAt w0) (hEn:EndsAt w0) (hB2:2≤B0)
  (hea:EntsAt w0 (.slice x.p x.nb x.cb) x.es) (hnil:EntsNil w0 (.slice x.p x.nb x.cb)) (hF:FineB x.es) (hsz:x.s.size≤10000000) (htz:x.t.size≤10000000) (huz:x.u.size≤10000000) :
  Calls Tryz.prog 9 #[.pointer (some ⟨wb,0,none⟩),opV x.k x.m x.a x.s x.t x.u (.slice x.p x.nb x.cb)] W fun e w'=>e=.returned (.bool true)∧∃ o' ps' zss' hs2,Law o' w' wb ps' zss' (hs ++ hs2) (N+128) B0∧Mid (fun b=>o b≠0) W w'∧0<ps'.length∧ps'.length≤ps.length+1∧hs2.length≤x.es.length+17:=by
 obtain ⟨k,m,a,s,t,u,p,nb,cb,es⟩:=x
 dsimp only at *
 by_cases k1:k=1
 ·subst k1
  refine (step_new o W wb ps zss hs N B0 h hpos (by omega) hB m a s t u p nb cb).mono ?_
  rintro e w' ⟨rfl,o',eb,fb,h1,h2⟩
  exact ⟨rfl,o',_,_,[],by simpa using h1.more (Nat.le_add_right _ _),h2,by simp,by simp,by simp⟩
 ·by_cases k2:k=2
  ·subst k2
   refine (step_create o W wb ps zss hs N B0 h hpos (by omega) hB m a s t u p nb cb (by omega)).mono ?_
   rintro e w' ⟨rfl,o',zss',h1,h2⟩
   exact ⟨rfl,o',_,_,[],by simpa using h1.more (Nat.le_add_right _ _),h2,hpos,by omega,by simp⟩
  ·by_cases k3:k=3
   ·subst k3
    refine (step_apply o W wb ps zss hs N B0 h hpos (by omega) hB m a s t u p nb cb hhl hN w0 es hw0 hB0 hea hnil hF).mono ?_
    rintro e w' ⟨rfl,o',zss',hs2,h1,h2,h3⟩
    exact ⟨rfl,o',_,_,hs2,h1,h2,hpos,by omega,by omega⟩
   ·by_cases k4:k=4
    ·subst k4
     refine (step_rows o W wb ps zss hs N B0 h hpos (by omega) hB m a s t u p nb cb hhl hN (by unfold maxLen;omega)).mono ?_
     rintro e w' ⟨rfl,o',hs2,h1,h2,h3⟩
     exact ⟨rfl,o',_,_,hs2,h1.more (Nat.le_add_right _ _),h2,hpos,by omega,by omega⟩
    ·by_cases k5:k=5
     ·subst k5
      have hHW:HandleAt W:=(hB0.cell (p:=⟨0,0,none⟩) (show 0<B0 by omega)).trans hH
      have hEW:EndsAt W:=fun i hi=>(hB0.cell (p:=⟨1,i,none⟩) (show 1<B0 by omega)).trans (hEn i hi)
      refine (step_register o W wb ps zss hs N B0 h hpos (by omega) hB m a s t u p nb cb hsz htz huz hN hHW hEW hB2).mono ?_
      rintro e w' ⟨rfl,o',zss',h1,h2⟩
      exact ⟨rfl,o',_,_,[],by simpa using h1,h2,hpos,by omega,by simp⟩
     ·by_cases k6:k=6
      ·subst k6
       refine (step_drop o W wb ps zss hs N B0 h hpos (by omega) hB m a s t u p nb cb hsz).mono ?_
       rintro e w' ⟨rfl,o',zss',h1,h2⟩
       exact ⟨rfl,o',_,_,[],by simpa using h1,h2,hpos,by omega,by simp⟩
      ·refine (stepV_other o W wb ps zss hs N B0 h hpos (by omega) hB m a s t u p nb cb hhl hN k (by omega)).mono ?_
       rintro e w' ⟨rfl,o',hs2,h1,h2,h3⟩
       exact ⟨rfl,o',_,_,hs2,h1.more (Nat.le_add_right _ _),h2,hpos,by omega,by omega⟩

theorem law_start (w:World):Law (fun b=>if b=w.heap.size then 1 else 0) (w.alloc (.cells #[.slice none 0 0,.slice none 0 0] 29)) w.heap.size [] [] [] 0 w.heap.size:=by
 refine ⟨⟨.slice none 0 0,.slice none 0 0,0,⟨heap_last _ _ _ rfl,⟨0,World.ownsRow_nil _ _ _ _⟩⟩,World.ownsRow_nil _ _ _ _,by simp,fun g hg=>(by cases hg),fun g hg=>(by cases hg)⟩,rfl,fun i hi=>by simp at hi,fun i hi=>by simp at hi,fun i hi=>by simp at hi,fun x hx=>by simp at hx,fun b hb=>?_,fun b hb=>?_⟩
 ·have:b≠w.heap.size:=by simp at hb;omega
  simp [this]
 ·have:b≠w.heap.size:=by omega
  simp [this]

theorem Mid.args {o:Nat→Nat} {w0 W W':World} {wb:Nat} {ps:List (Nat×Nat)} {zss:List ZV} {hs:List Nat} {N B0:Nat} (hw0:w0.heap.size=B0) (h:Law o W wb ps zss hs N B0) (hB:B0≤W.heap.size) (hb:Below B0 w0 W) (hm:Mid (fun b=>o b≠0) W W'):Below B0 w0 W':=
 hb.trans ⟨hm.os,hm.tape,hm.output,hm.size,fun b hlt=>hm.block b (by omega) (fun hq=>hq (h.args b hlt))⟩

set_option maxRecDepth 100000 in
set_option maxHeartbeats 8000000 in
theorem plays_any (v:Value) (ops:List OpR) (lo hi:Int) (w:World) (hv:ScriptAt w v ops) (hl:ops.length≤2000000) (hsum:entSum ops≤1000000000) (hH:HandleAt w) (hEn:EndsAt w) (hB2:2≤w.heap.size) :
  Calls Tryz.prog 7 #[v,.int .i64 lo,.int .i64 hi,.int .i64 6] w fun e w'=>e=.returned (.bool true)∧Below w.heap.size w w':=by
 obtain ⟨a,cap,rfl,hcs⟩:=hv
 have Hc:=hide hcs
 have HG:=hide (And.intro hH hEn)
 clear hH hEn
 obtain ⟨w1,hw1⟩:∃ w1,w1=w.alloc (.cells #[.slice none 0 0,.slice none 0 0] 29):=⟨_,rfl⟩
 have hL1:=law_start w
 rw [← hw1] at hL1
 have hb1:Below w.heap.size w w1:=by rw [hw1];exact (Below.refl _ _).alloc (Nat.le_refl _) _
 have hs1:=hb1.size
 have Hbeg:=hide (begin_any _ w1 w.heap.size [] [] [] 0 w.heap.size hL1 hs1 (by simp))
 have HL1:=hide hL1
 have Hb1:=hide hb1
 have Hw1:=hide hw1
 clear hcs hL1 hb1 hw1
 go_enter Tryz.func7,Tryz.ntmps7
 go_upto_region 2 with fail
 rw [← unhide Hw1]
 go_wp2_with fail
 refine (unhide Hbeg).mono ?_
 rintro e w2 ⟨rfl,o2,eb,fb,hL2,hM2⟩
 have hB2:Below w.heap.size w w2:=Mid.args rfl (unhide HL1) hs1 (unhide Hb1) hM2
 have hs2:=hB2.size
 have Hst:=hide (step_create o2 w2 w.heap.size _ _ _ 0 w.heap.size hL2 (by simp) (by simp) hs2 0 2 ⟨#[114]⟩ ⟨#[]⟩ ⟨#[]⟩ none 0 0 (by decide))
 have HL2:=hide hL2
 have HB2:=hide hB2
 unfold opV at Hst
 clear hL2 hM2 hB2 Hbeg
 go_wp2_with fail
 refine (unhide Hst).mono ?_
 rintro e w3 ⟨rfl,o3,zss3,hL3,hM3⟩
 have hB3:Below w.heap.size w w3:=Mid.args rfl (unhide HL2) hs2 (unhide HB2) hM3
 have HL3:=hide hL3
 have HB3:=hide hB3
 clear hL3 hM3 hB3 Hst
 go_wp2
 go_loopw [11] (fun i wr=>∃ (k:Nat) (o:Nat→Nat) (ps:List (Nat×Nat)) (zss:List ZV) (hs:List Nat),k≤ops.length∧i=.int .i64 k∧Law o wr w.heap.size ps zss hs (128*k) w.heap.size∧0<ps.length∧ps.length≤k+1∧hs.length≤entSum (ops.take k)+17*k∧Below w.heap.size w wr) (fun i _=>ops.length - (intOf i).toNat)
 case atStart=>exact ⟨0,o3,_,_,_,Nat.zero_le _,rfl,unhide HL3,by simp,by simp,by simp,unhide HB3⟩
 case round =>
  obtain ⟨k,o,ps,zss,hs,hk,rfl,hL,hp0,hp1,hhs,hB⟩:=hrel
  have hBs:=hB.size
  by_cases hlt:k<ops.length
  ·have hx:(k:Int)<(ops.length:Int):=by omega
   obtain ⟨⟨b,oo,rfl,hcell⟩,hea,hnl,hFB,hsz⟩:=(unhide Hc) k hlt
   obtain ⟨x,hxe⟩:∃ x,x=ops[k]?.getD zeroOp:=⟨_,rfl⟩
   rw [← hxe] at hcell hea hnl hFB hsz
   have htk:entSum (ops.take (k+1))=entSum (ops.take k)+x.es.length:=by
    have hxg:x=ops[k]:=by rw [hxe];simp [hlt]
    rw [List.take_succ_eq_append_getElem hlt]
    unfold entSum
    rw [List.map_append,List.sum_append,← hxg]
    simp
   have hle9:entSum (ops.take (k+1))≤entSum ops:=by
    have e9:=List.take_append_drop (k+1) ops
    have:entSum ops=entSum (ops.take (k+1))+entSum (ops.drop (k+1)):=by
     unfold entSum
     rw [← List.sum_append,← List.map_append,e9]
    omega
   have hle8:entSum (ops.take k)≤1000000000:=by omega
   have hc0:o wr.heap.size=0:=hL.fresh _ (Nat.le_refl _)
   have d0:=hcell 0 (by omega)
   have d1:=hcell 1 (by omega)
   have d2:=hcell 2 (by omega)
   have d3:=hcell 3 (by omega)
   have d4:=hcell 4 (by omega)
   have d5:=hcell 5 (by omega)
   have d6:=hcell 6 (by omega)
   simp only [opC,Nat.add_zero,List.getElem?_cons_zero,List.getElem?_cons_succ] at d0 d1 d2 d3 d4 d5 d6
   have hbl:b<w.heap.size:=World.block_lt_of_cell? w _ d0
   rw [← hB.cell (p:=⟨b,_,none⟩) hbl] at d0 d1 d2 d3 d4 d5 d6
   obtain ⟨wa,hwa⟩:∃ wa,wa=wr.alloc (.cells #[.int .i64 x.k,.int .i64 x.m,.int .i64 x.a,.string x.s,.string x.t,.string x.u,.slice x.p x.nb x.cb] 34):=⟨_,rfl⟩
   have hba:Below wr.heap.size wr wa:=by rw [hwa];exact (Below.refl _ _).alloc (Nat.le_refl _) _
   have xa:wa.heap[wr.heap.size]? = some (Obj.cells #[.int .i64 x.k,.int .i64 x.m,.int .i64 x.a,.string x.s,.string x.t,.string x.u,.slice x.p x.nb x.cb] 34 (0,0)):=by rw [hwa];exact heap_last _ _ _ rfl
   have hLa:=hL.below hba
   have hBa:Below w.heap.size w wa:=hB.trans (hba.mono hBs)
   have Hdat:=hide (And.intro hea (And.intro hnl (And.intro hFB hsz)))
   have HLa:=hide hLa
   have HBa:=hide hBa
   have Hxa:=hide xa
   have Hwa:=hide hwa
   have Hba:=hide hba
   have Htk:=hide htk
   have hbb:b<wr.heap.size:=by omega
   obtain ⟨xk,xm,xav,xs,xt,xu,xp,xnb,xcb,xes⟩:=x
   dsimp only at d0 d1 d2 d3 d4 d5 d6 Hdat Hxa Hwa Htk
   clear hcell hea hnl hFB hsz hxe htk hL hB hwa hba xa hLa hBa
   by_cases hk4:xk≤6
   ·have hk4':¬ (6:Int)<xk:=by omega
    have hsa:=(unhide HBa).size
    have Hst:=hide (step_all o wa w.heap.size ps zss hs (128*k) w.heap.size (unhide HLa) hp0 (by omega) hsa (by omega) (by omega) w rfl (unhide HBa) ⟨xk,xm,xav,xs,xt,xu,xp,xnb,xcb,xes⟩ hk4 (unhide HG).1 (unhide HG).2 hB2 (unhide Hdat).1 (unhide Hdat).2.1 (unhide Hdat).2.2.1 (unhide Hdat).2.2.2.1 (unhide Hdat).2.2.2.2.1 (unhide Hdat).2.2.2.2.2)
    dsimp only at Hst
    unfold opV at Hst
    go_upto_region 12 with fail
    rw [← unhide Hwa]
    have y0:wa.cell? ⟨wr.heap.size,0,none⟩=some (.int .i64 xk):=cell_of_heap (unhide Hxa) 0
    have y1:wa.cell? ⟨wr.heap.size,1,none⟩=some (.int .i64 xm):=cell_of_heap (unhide Hxa) 1
    have y2:wa.cell? ⟨wr.heap.size,2,none⟩=some (.int .i64 xav):=cell_of_heap (unhide Hxa) 2
    have y3:wa.cell? ⟨wr.heap.size,3,none⟩=some (.string xs):=cell_of_heap (unhide Hxa) 3
    have y4:wa.cell? ⟨wr.heap.size,4,none⟩=some (.string xt):=cell_of_heap (unhide Hxa) 4
    have y5:wa.cell? ⟨wr.heap.size,5,none⟩=some (.string xu):=cell_of_heap (unhide Hxa) 5
    have y6:wa.cell? ⟨wr.heap.size,6,none⟩=some (.slice xp xnb xcb):=cell_of_heap (unhide Hxa) 6
    have hxal:wr.heap.size<wa.heap.size:=heap_lt (unhide Hxa)
    clear d0 d1 d2 d3 d4 d5 d6
    go_wp2_with fail
    refine (unhide Hst).mono ?_
    rintro e w4 ⟨rfl,o4,ps4,zss4,hs4,hL4,hM4,hq0,hq1,hq2⟩
    have z0:w4.cell? ⟨wr.heap.size,0,none⟩=some (.int .i64 xk):=by rw [World.cell?_of_block (w:=wa) (a:=⟨wr.heap.size,0,none⟩) (hM4.block wr.heap.size hxal (fun hq=>hq hc0))];exact y0
    have hB4:Below w.heap.size w w4:=Mid.args rfl (unhide HLa) hsa (unhide HBa) hM4
    obtain ⟨pv4,hv4,base4,hS4,hpv4,hwb4,hcp4,hch4⟩:=hL4.ex
    obtain ⟨bh4,hoh4⟩:=hS4.own
    have hhl4:(hs ++ hs4).length≤1000000000000:=by have:=(unhide Hdat).2.2.1.len;simp;omega
    have Hlook:=hide (looks_any (fun b=>o4 b=1) w.heap.size pv4 hv4 (hs ++ hs4) w4 hS4.box ⟨⟨bh4,hoh4⟩,hch4⟩ (fun b=>o4 b=0) hL4.holds hhl4)
    have HL4:=hide hL4
    have HB4:=hide hB4
    clear hL4 hM4 hB4 hS4 hpv4 hwb4 hcp4 hch4 hoh4 Hst y0 y1 y2 y3 y4 y5 y6
    by_cases hk1:xk=1
    ·have k1:(xk == 1)=true:=by simpa using hk1
     have Hk1:=hide hk1
     clear hk1
     go_wp2_with fail
     refine (unhide Hlook).mono ?_
     rintro e w5 ⟨rfl,hd5⟩
     have HL5:=hide (((unhide HL4).below (hd5.below _)).more (N':=128*(k+1)) (by omega))
     have HB5:=hide ((unhide HB4).trans ((hd5.below _).mono (unhide HB4).size))
     have Hq:=hide (And.intro hq0 (And.intro hq1 hq2))
     clear hd5 Hlook hq0 hq1 hq2
     go_wp2
     go_roundw
     case rel =>
      obtain ⟨a1,a2,a3⟩:=unhide Hq
      exact ⟨k+1,o4,ps4,zss4,hs ++ hs4,by omega,by go_num,unhide HL5,a1,by omega,by have:=unhide Htk;simp at a3 ⊢;omega,unhide HB5⟩
     case measure=>simp [intOf];omega
    ·have k1:(xk == 1)=false:=by simpa using hk1
     have Hk1:=hide hk1
     clear hk1
     by_cases hlo:lo≤xk
     ·by_cases hhi:xk≤hi
      ·go_wp2_with fail
       refine (unhide Hlook).mono ?_
       rintro e w5 ⟨rfl,hd5⟩
       have HL5:=hide (((unhide HL4).below (hd5.below _)).more (N':=128*(k+1)) (by omega))
       have HB5:=hide ((unhide HB4).trans ((hd5.below _).mono (unhide HB4).size))
       have Hq:=hide (And.intro hq0 (And.intro hq1 hq2))
       clear hd5 Hlook hq0 hq1 hq2
       go_wp2
       go_roundw
       case rel =>
        obtain ⟨a1,a2,a3⟩:=unhide Hq
        exact ⟨k+1,o4,ps4,zss4,hs ++ hs4,by omega,by go_num,unhide HL5,a1,by omega,by have:=unhide Htk;simp at a3 ⊢;omega,unhide HB5⟩
       case measure=>simp [intOf];omega
      ·go_wp2_with fail
       refine (unhide Hlook).mono ?_
       rintro e w5 ⟨rfl,hd5⟩
       have HL5:=hide (((unhide HL4).below (hd5.below _)).more (N':=128*(k+1)) (by omega))
       have HB5:=hide ((unhide HB4).trans ((hd5.below _).mono (unhide HB4).size))
       have Hq:=hide (And.intro hq0 (And.intro hq1 hq2))
       clear hd5 Hlook hq0 hq1 hq2
       go_wp2
       go_roundw
       case rel =>
        obtain ⟨a1,a2,a3⟩:=unhide Hq
        exact ⟨k+1,o4,ps4,zss4,hs ++ hs4,by omega,by go_num,unhide HL5,a1,by omega,by have:=unhide Htk;simp at a3 ⊢;omega,unhide HB5⟩
       case measure=>simp [intOf];omega
     ·go_wp2_with fail
      refine (unhide Hlook).mono ?_
      rintro e w5 ⟨rfl,hd5⟩
      have HL5:=hide (((unhide HL4).below (hd5.below _)).more (N':=128*(k+1)) (by omega))
      have HB5:=hide ((unhide HB4).trans ((hd5.below _).mono (unhide HB4).size))
      have Hq:=hide (And.intro hq0 (And.intro hq1 hq2))
      clear hd5 Hlook hq0 hq1 hq2
      go_wp2
      go_roundw
      case rel =>
       obtain ⟨a1,a2,a3⟩:=unhide Hq
       exact ⟨k+1,o4,ps4,zss4,hs ++ hs4,by omega,by go_num,unhide HL5,a1,by omega,by have:=unhide Htk;simp at a3 ⊢;omega,unhide HB5⟩
      case measure=>simp [intOf];omega
   ·have hk4':(6:Int)<xk:=by omega
    have HLa':=HLa
    go_upto_region 12 with fail
    rw [← unhide Hwa]
    have y0:wa.cell? ⟨wr.heap.size,0,none⟩=some (.int .i64 xk):=cell_of_heap (unhide Hxa) 0
    clear d0 d1 d2 d3 d4 d5 d6
    go_wp2
    go_roundw
    case rel=>exact ⟨k+1,o,ps,zss,hs,by omega,by go_num,(unhide HLa).more (by omega),hp0,by omega,by have:=unhide Htk;omega,unhide HBa⟩
    case measure=>simp [intOf];omega
  ·have hx:¬ (k:Int)<(ops.length:Int):=by omega
   have HB:=hide hB
   clear hL hB
   go_wp2
   go_ret
   exact ⟨rfl,unhide HB⟩

end Go.Proofs.YtgddkjhknlgbbaaGreatDoor

set_option linter.unusedVariables false
set_option linter.unusedSimpArgs false

namespace Go.Proofs.YtgddkjhknlgbbaaGreatDoor
set_option linter.unusedVariables false
set_option linter.unusedSimpArgs false
open Go.RowKit Go.Maps


open Go.ChangeShapes Go.WideShapes Go.Deep

section
variable {H : Type} {enc : TypeId × Value → H} {w : World}

/-- What is read of a value is at least one thing. -/
theorem bulk_one (d : DataW H) : 1 ≤ Rows.uptoBulk d := by
  cases d with
  | lit l => cases l <;> simp [Rows.uptoBulk]
  | nil => simp [Rows.uptoBulk]
  | ptr d => simp [Rows.uptoBulk]
  | slice elems spare => simp [Rows.uptoBulk]
  | agg parts => simp [Rows.uptoBulk]
  | iface t d => simp [Rows.uptoBulk]
  | map entries => simp [Rows.uptoBulk]
  | held h => simp [Rows.uptoBulk]

/-- The bulk of a list by its indices. -/
theorem bulkAll_range (D : Nat → DataW H) (n : Nat) : Rows.uptoBulkAll ((List.range n).map D) = ((List.range n).map fun i => Rows.uptoBulk (D i)).sum := by
  generalize List.range n = l
  induction l with
  | nil => simp [Rows.uptoBulkAll]
  | cons x r ih => simp [Rows.uptoBulkAll, ih]

theorem sum_le_of {f g : Nat → Nat} (n : Nat) (h : ∀ i, i < n → f i ≤ g i) : ((List.range n).map f).sum ≤ ((List.range n).map g).sum := by
  induction n with
  | zero => simp
  | succ n ih =>
    have h1 := ih (fun i hi => h i (by omega))
    have h2 := h n (by omega)
    simp [List.range_succ]
    omega

theorem one_le_sum {f : Nat → Nat} (n i : Nat) (h : i < n) : f i ≤ ((List.range n).map f).sum := by
  induction n with
  | zero => omega
  | succ n ih =>
    simp [List.range_succ]
    rcases Nat.lt_succ_iff_lt_or_eq.1 h with hlt | rfl
    · have := ih hlt; omega
    · omega

theorem len_le_sum {f : Nat → Nat} (n : Nat) (h : ∀ i, 1 ≤ f i) : n ≤ ((List.range n).map f).sum := by
  induction n with
  | zero => omega
  | succ n ih =>
    have := h n
    simp [List.range_succ]
    omega

/-- A struct of one-cell fields, by value. -/
theorem open_fields {P : Program} {base : Nat} {spare : Nat → Bool} {held : Bool} {ts : TypeId} {fs : Array Field} {fuel : Nat} {cs : List Value} {x : DataW H × List MemPlace} (hs : P.underlying ts = some (.struct fs))
    (hone : ∀ (i : Nat) (f : Field), fs[i]? = some f → f.offset = i ∧ P.cellsOf f.type = 1) (hC : P.cellsOf ts = fs.size) (h : DataW.trod enc P w base spare held fuel ts cs = some x) :
    cs.length = fs.size ∧ ∃ (n : Nat) (Y : Nat → DataW H × List MemPlace), x.1 = .agg ((List.range fs.size).map fun i => (Y i).1) ∧
      ∀ (i : Nat) (f : Field), fs[i]? = some f → DataW.trod enc P w base spare held n f.type [cs.getD i undef] = some (Y i) := by
  obtain ⟨xs, n, _, rfl, hlen, hxl, hf⟩ := DataW.trod_struct hs h
  rw [hC] at hlen
  refine ⟨hlen, n, fun i => xs.getD i (.nil, []), ?_, fun i f hi => ?_⟩
  · show DataW.agg _ = _
    rw [map_by_index xs (.nil, []) (·.1), hxl]
  · have hlt : i < fs.size := (Array.getElem?_eq_some_iff.1 hi).1
    obtain ⟨ho, hc1⟩ := hone i f hi
    have g := hf i f hi
    rw [ho, hc1] at g
    rw [take1_drop cs i undef (by omega), List.getElem?_eq_getElem (by omega)] at g
    rw [g]
    simp [List.getD, List.getElem?_eq_getElem (show i < xs.length by omega)]

theorem pad_wf {zs : List Int} (h : ∀ n ∈ zs, (Lit.int .i64 n).wf = true) : WfRow (padRow zs) := by
  have key : ∀ i, wfI (zs[i]?.getD 0) := fun i => by
    by_cases hi : i < zs.length
    · rw [List.getElem?_eq_getElem hi]; exact h _ (List.getElem_mem hi)
    · rw [List.getElem?_eq_none (by omega)]; unfold wfI; decide
  exact ⟨key 0, key 1, key 2⟩

theorem lits_bulk (k : IntKind) (l : List Int) : l.length ≤ Rows.uptoBulkAll (H := H) (lits k l) := by
  unfold lits
  induction l with
  | nil => simp
  | cons x r ih => simp [Rows.uptoBulkAll, Rows.uptoBulk] at *; omega

/-- A row of numbers, read. -/
theorem read_row {fuel : Nat} {cs : List Value} {x : DataW H × List MemPlace} (h : DataW.trod enc Tryz.prog w 0 (fun _ => true) true fuel 73 cs = some x) :
    ∃ (sv : Value) (zs : List Int), cs = [sv] ∧ IntsAt w sv zs ∧ (∀ m c, sv = .slice none m c → m = 0 ∧ c = 0) ∧ WfRow (padRow zs) ∧ zs.length + 1 ≤ Rows.uptoBulk x.1 := by
  rcases open_ints Tryz.underlying73 Tryz.underlying2 (by kernel_rfl) h with ⟨rfl, rfl⟩ | ⟨a, len, cap, zs, rfl, _, hl, hm, hz, rfl, hcell, hwz⟩
  · refine ⟨_, [], rfl, ⟨none, 0, rfl, fun i hi => by simp at hi⟩, fun m c e => by cases e; exact ⟨rfl, rfl⟩, pad_wf (fun n hn => by cases hn), by simp [Rows.uptoBulk]⟩
  · have hlen : (zs.take len).length = len := by simp at hz ⊢; omega
    refine ⟨_, zs.take len, rfl, ⟨some a, cap, by rw [hlen], fun i hi => ?_⟩, fun m c e => by simp at e, pad_wf (fun n hn => hwz n (List.mem_of_mem_take hn)), ?_⟩
    · rw [hlen] at hi
      obtain ⟨b, off, spot⟩ := a
      have h0 := hcell 0 (by simp at hz; omega)
      have hspot : spot = none := by simpa [Addr.add] using World.cell?_spot h0
      subst hspot
      refine ⟨b, off, rfl, ?_⟩
      have h1 := hcell i (by simp at hz; omega)
      rw [add_plain] at h1
      rw [h1, List.getElem?_take_of_lt hi]
      simp
    · have := lits_bulk (H := H) .i64 (zs.take len)
      simp only [Rows.uptoBulk]
      omega

theorem Tryz.cells75 : Tryz.prog.cellsOf 75 = 3 := by kernel_rfl
theorem Tryz.cells34 : Tryz.prog.cellsOf 34 = 7 := by kernel_rfl

/-- An entry, read. -/
theorem read_ent {fuel : Nat} {cs : List Value} {x : DataW H × List MemPlace} (h : DataW.trod enc Tryz.prog w 0 (fun _ => true) true fuel 75 cs = some x) :
    ∃ (y : Ent × Value), cs = [.string y.1.nm, y.2, .int .i64 y.1.wt] ∧ IntsAt w y.2 y.1.row ∧ (∀ m c, y.2 = .slice none m c → m = 0 ∧ c = 0) ∧ WfRow (padRow y.1.row) ∧ y.1.nm.size + y.1.row.length + 1 ≤ Rows.uptoBulk x.1 := by
  obtain ⟨hl, n, Y, hx, hf⟩ := open_fields Tryz.underlying75 (hone_of (by kernel_rfl)) (by kernel_rfl) h
  have g0 := hf 0 _ rfl
  have g1 := hf 1 _ rfl
  have g2 := hf 2 _ rfl
  obtain ⟨s, e0, y0, hs⟩ := DataW.trod_string Tryz.underlying9 g0
  obtain ⟨sv, zs, e1, hz, hn, hwf, hb⟩ := read_row g1
  obtain ⟨c, e2, y2, _⟩ := DataW.trod_int Tryz.underlying3 g2
  refine ⟨(⟨s, zs, c⟩, sv), ?_, hz, hn, hwf, ?_⟩
  · match cs, hl with
    | [c0, c1, c2], _ =>
      have a0 : c0 = .string s := (List.cons.inj e0).1
      have a1 : c1 = sv := (List.cons.inj e1).1
      have a2 : c2 = .int .i64 c := (List.cons.inj e2).1
      rw [a0, a1, a2]
  · rw [hx]
    have : s.data.toList.length = s.size := by rw [Array.length_toList]; rfl
    simp [List.range_succ, Rows.uptoBulk, Rows.uptoBulkAll, y0, this]
    omega

/-- A batch, read. -/
theorem read_batch {fuel : Nat} {cs : List Value} {x : DataW H × List MemPlace} (h : DataW.trod enc Tryz.prog w 0 (fun _ => true) true fuel 32 cs = some x) :
    ∃ (p : Option Addr) (nb cb : Nat) (es : List Ent), cs = [.slice p nb cb] ∧ EntsAt w (.slice p nb cb) es ∧ EntsNil w (.slice p nb cb) ∧ WfEs es ∧ (∀ y ∈ es, y.nm.size + y.row.length ≤ Rows.uptoBulk x.1) ∧ es.length + 1 ≤ Rows.uptoBulk x.1 := by
  haveI : Inhabited Ent := ⟨zeroEnt⟩
  rcases open_slice Tryz.underlying32 h with ⟨rfl, rfl⟩ | ⟨a, len, cap, m, n, D, Pl, rfl, _, hl, hm, hmm, rfl, hx⟩
  · exact ⟨none, 0, 0, [], rfl, ⟨none, 0, rfl, fun i hi => by simp at hi⟩, fun b o n cap i e => by simp at e, fun y hy => (by cases hy), fun y hy => (by cases hy), by simp [Rows.uptoBulk]⟩
  · simp only [if_true] at hmm
    subst hmm
    rw [Tryz.cells75] at hx
    obtain ⟨E, hE⟩ := choose_lt (α := Ent × Value) (n := m) (p := fun i y => (∀ j, j < 3 → w.cell? ((a.add (i * 3)).add j) = [Value.string y.1.nm, y.2, .int .i64 y.1.wt][j]?) ∧ IntsAt w y.2 y.1.row ∧ (∀ m c, y.2 = .slice none m c → m = 0 ∧ c = 0) ∧ WfRow (padRow y.1.row) ∧ y.1.nm.size + y.1.row.length + 1 ≤ Rows.uptoBulk (D i)) (fun i hi => by
      obtain ⟨cs', h1, h2⟩ := hx i hi
      obtain ⟨y, rfl, g1, g2, g3, g4⟩ := read_ent h2
      obtain ⟨_, _, hc⟩ := World.cells?_some h1
      exact ⟨y, hc, g1, g2, g3, g4⟩)
    have hbulk : Rows.uptoBulkAll ((List.range len).map D) + 1 ≤ Rows.uptoBulk (DataW.slice ((List.range len).map D) ((List.range (m - len)).map fun j => D (len + j))) := by simp only [Rows.uptoBulk]; omega
    rw [bulkAll_range] at hbulk
    have hplain : 0 < len → ∃ b o, a = ⟨b, o, none⟩ := fun h0 => by
      obtain ⟨b, o, spot⟩ := a
      have h1 := (hE 0 (by omega)).1 0 (by omega)
      have hspot : spot = none := by simpa [Addr.add] using World.cell?_spot h1
      subst hspot
      exact ⟨b, o, rfl⟩
    refine ⟨some a, len, m, (List.range len).map fun i => (E i).1, rfl, ⟨some a, m, by simp, fun i hi => ?_⟩, fun b o n' cap' i e hi p m' c hp hnone => ?_, fun y hy => ?_, fun y hy => ?_, ?_⟩
    · simp at hi
      obtain ⟨b, o, rfl⟩ := hplain (by omega)
      obtain ⟨hc, hz, hnl, hwf, hb⟩ := hE i (by omega)
      have c0 := hc 0 (by omega)
      have c1 := hc 1 (by omega)
      have c2 := hc 2 (by omega)
      rw [add_add, add_plain] at c0 c1 c2
      have ee : ((List.range len).map fun i => (E i).1)[i]?.getD zeroEnt = (E i).1 := by simp [hi]
      rw [ee]
      exact ⟨b, o, (E i).2, rfl, by simpa using c0, by simpa [Nat.add_assoc] using c1, hz, by simpa [Nat.add_assoc] using c2⟩
    · cases e
      obtain ⟨hc, hz, hnl, hwf, hb⟩ := hE i (by omega)
      have c1 := hc 1 (by omega)
      rw [add_add, add_plain] at c1
      rw [← Nat.add_assoc, hp] at c1
      simp at c1
      subst hnone
      exact hnl m' c c1.symm
    · simp at hy
      obtain ⟨i, hi, rfl⟩ := hy
      exact (hE i (by omega)).2.2.2.1
    · simp at hy
      obtain ⟨i, hi, rfl⟩ := hy
      have h1 := (hE i (by omega)).2.2.2.2
      have h2 := one_le_sum (f := fun i => Rows.uptoBulk (D i)) len i hi
      exact Nat.le_trans (Nat.le_of_succ_le h1) (Nat.le_trans h2 (Nat.le_of_succ_le hbulk))
    · have := len_le_sum (f := fun i => Rows.uptoBulk (D i)) len (fun i => bulk_one _)
      simp only [List.length_map, List.length_range]
      omega

/-- An op, read. -/
theorem read_op {fuel : Nat} {cs : List Value} {x : DataW H × List MemPlace} (h : DataW.trod enc Tryz.prog w 0 (fun _ => true) true fuel 34 cs = some x) :
    ∃ (y : OpR), cs = opC y ∧ EntsAt w (.slice y.p y.nb y.cb) y.es ∧ EntsNil w (.slice y.p y.nb y.cb) ∧ WfEs y.es ∧ (∀ z ∈ y.es, z.nm.size + z.row.length ≤ Rows.uptoBulk x.1) ∧ y.es.length + y.s.size + y.t.size + y.u.size + 1 ≤ Rows.uptoBulk x.1 := by
  obtain ⟨hl, n, Y, hx, hf⟩ := open_fields Tryz.underlying34 (hone_of (by kernel_rfl)) (by kernel_rfl) h
  have g0 := hf 0 _ rfl
  have g1 := hf 1 _ rfl
  have g2 := hf 2 _ rfl
  have g3 := hf 3 _ rfl
  have g4 := hf 4 _ rfl
  have g5 := hf 5 _ rfl
  have g6 := hf 6 _ rfl
  obtain ⟨k, e0, y0, _⟩ := DataW.trod_int Tryz.underlying3 g0
  obtain ⟨m, e1, y1, _⟩ := DataW.trod_int Tryz.underlying3 g1
  obtain ⟨a, e2, y2, _⟩ := DataW.trod_int Tryz.underlying3 g2
  obtain ⟨s, e3, y3, hs⟩ := DataW.trod_string Tryz.underlying9 g3
  obtain ⟨t, e4, y4, ht⟩ := DataW.trod_string Tryz.underlying9 g4
  obtain ⟨u, e5, y5, hu⟩ := DataW.trod_string Tryz.underlying9 g5
  obtain ⟨p, nb, cb, es, e6, hE, hN, hW, hb, hlen⟩ := read_batch g6
  have hbig : Rows.uptoBulk (Y 6).1 + s.size + t.size + u.size + 1 ≤ Rows.uptoBulk x.1 := by
    rw [hx]
    have h3 : s.data.toList.length = s.size := by rw [Array.length_toList]; rfl
    have h4 : t.data.toList.length = t.size := by rw [Array.length_toList]; rfl
    have h5 : u.data.toList.length = u.size := by rw [Array.length_toList]; rfl
    simp [List.range_succ, Rows.uptoBulk, Rows.uptoBulkAll, y3, y4, y5, h3, h4, h5]
    omega
  refine ⟨⟨k, m, a, s, t, u, p, nb, cb, es⟩, ?_, hE, hN, hW, fun z hz => ?_, ?_⟩
  · match cs, hl with
    | [c0, c1, c2, c3, c4, c5, c6], _ =>
      have a0 : c0 = .int .i64 k := (List.cons.inj e0).1
      have a1 : c1 = .int .i64 m := (List.cons.inj e1).1
      have a2 : c2 = .int .i64 a := (List.cons.inj e2).1
      have a3 : c3 = .string s := (List.cons.inj e3).1
      have a4 : c4 = .string t := (List.cons.inj e4).1
      have a5 : c5 = .string u := (List.cons.inj e5).1
      have a6 : c6 = .slice p nb cb := (List.cons.inj e6).1
      rw [a0, a1, a2, a3, a4, a5, a6]
      rfl
  · have := hb z hz
    omega
  · dsimp only
    omega

/-- A script, read. -/
theorem read_script {fuel : Nat} {v : Value} {x : DataW H × List MemPlace} (h : DataW.trod enc Tryz.prog w 0 (fun _ => true) true fuel 22 [v] = some x) (hbd : Rows.uptoBulk x.1 ≤ 1048576) :
    ∃ ops : List OpR, ScriptAt w v ops ∧ ops.length ≤ 2000000 ∧ entSum ops ≤ 1000000000 := by
  haveI : Inhabited OpR := ⟨zeroOp⟩
  rcases open_slice Tryz.underlying22 h with ⟨hv, rfl⟩ | ⟨a, len, cap, m, n, D, Pl, hv, _, hl, hm, hmm, rfl, hx⟩
  · simp at hv
    exact ⟨[], ⟨none, 0, by simpa using hv, fun i hi => by simp at hi⟩, by simp, by simp [entSum]⟩
  · simp at hv
    subst hv
    simp only [if_true] at hmm
    subst hmm
    rw [Tryz.cells34] at hx
    obtain ⟨E, hE⟩ := choose_lt (α := OpR) (n := m) (p := fun i y => (∀ j, j < 7 → w.cell? ((a.add (i * 7)).add j) = (opC y)[j]?) ∧ EntsAt w (.slice y.p y.nb y.cb) y.es ∧ EntsNil w (.slice y.p y.nb y.cb) ∧ WfEs y.es ∧ (∀ z ∈ y.es, z.nm.size + z.row.length ≤ Rows.uptoBulk (D i)) ∧ y.es.length + y.s.size + y.t.size + y.u.size + 1 ≤ Rows.uptoBulk (D i)) (fun i hi => by
      obtain ⟨cs', h1, h2⟩ := hx i hi
      obtain ⟨y, rfl, g1, g2, g3, g4⟩ := read_op h2
      obtain ⟨_, _, hc⟩ := World.cells?_some h1
      exact ⟨y, hc, g1, g2, g3, g4⟩)
    have hbulk : Rows.uptoBulkAll ((List.range len).map D) + 1 ≤ Rows.uptoBulk (DataW.slice ((List.range len).map D) ((List.range (m - len)).map fun j => D (len + j))) := by simp only [Rows.uptoBulk]; omega
    rw [bulkAll_range] at hbulk
    have hall : ((List.range len).map fun i => Rows.uptoBulk (D i)).sum ≤ 1048576 := by dsimp only at hbd; omega
    have hplain : 0 < len → ∃ b o, a = ⟨b, o, none⟩ := fun h0 => by
      obtain ⟨b, o, spot⟩ := a
      have h1 := (hE 0 (by omega)).1 0 (by omega)
      have hspot : spot = none := by simpa [Addr.add, opC] using World.cell?_spot h1
      subst hspot
      exact ⟨b, o, rfl⟩
    refine ⟨(List.range len).map E, ⟨some a, m, by simp, fun i hi => ?_⟩, ?_, ?_⟩
    · simp at hi
      obtain ⟨b, o, rfl⟩ := hplain (by omega)
      obtain ⟨hc, h1, h2, h3, h4, h5⟩ := hE i (by omega)
      have ee : ((List.range len).map E)[i]?.getD zeroOp = E i := by simp [hi]
      have hone := one_le_sum (f := fun i => Rows.uptoBulk (D i)) len i hi
      rw [ee]
      refine ⟨⟨b, o, rfl, fun j hj => ?_⟩, h1, h2, ⟨h3, fun z hz => ?_, fun z hz => ?_, by omega⟩, by omega, by omega, by omega⟩
      · have := hc j hj
        rwa [add_add, add_plain, ← Nat.add_assoc] at this
      · have := h4 z hz; omega
      · have := h4 z hz; omega
    · have := len_le_sum (f := fun i => Rows.uptoBulk (D i)) len (fun i => bulk_one _)
      simp only [List.length_map, List.length_range]
      omega
    · unfold entSum
      rw [List.map_map]
      have := sum_le_of (f := fun i => (E i).es.length) (g := fun i => Rows.uptoBulk (D i)) len (fun i hi => by have := (hE i (by omega)).2.2.2.2.2; omega)
      have e : ((fun x : OpR => x.es.length) ∘ E) = fun i => (E i).es.length := rfl
      rw [e]
      omega

end

end Go.Proofs.YtgddkjhknlgbbaaGreatDoor

namespace Go.Proofs.YtgddkjhknlgbbaaGreatDoor
set_option linter.unusedVariables false
set_option linter.unusedSimpArgs false
open Go.RowKit Go.Maps


theorem walk_registered (v : Value) (w : World) (ops : List OpR) (hv : ScriptAt w v ops) (hl : ops.length ≤ 2000000) (hsum : entSum ops ≤ 1000000000) (hH : HandleAt w) (hEn : EndsAt w) (hB2 : 2 ≤ w.heap.size) :
    Calls Tryz.prog 6 #[v] w fun e w' => e = .returned (.bool true) ∧ Below w.heap.size w w' := by
  have Hp := hide (plays_any v ops 5 6 w hv hl hsum hH hEn hB2)
  clear hv hH hEn
  go_enter Tryz.func6, Tryz.ntmps6
  go_wp2_with fail
  refine (unhide Hp).mono ?_
  rintro e w1 ⟨rfl, hb⟩
  have Hb := hide hb
  clear hb Hp
  go_wp2
  go_ret
  exact ⟨rfl, unhide Hb⟩

end Go.Proofs.YtgddkjhknlgbbaaGreatDoor

set_option linter.unusedVariables false
set_option linter.unusedSimpArgs false

namespace Go.Proofs.YtgddkjhknlgbbaaGreatDoor
set_option linter.unusedVariables false
set_option linter.unusedSimpArgs false
open Go.RowKit Go.Maps


open Go.ChangeShapes Go.WideShapes Go.ChangeAt

theorem Tryz.own : ownKnob Tryz.prog.godebug = none := by kernel_rfl

/-- What the listed variables' initialisers lay. -/
def laidHeap (h : Array Obj) : Array Obj :=
  let put (h : Array Obj) (g : Nat) (cs : Array Value) : Array Obj := h.modify g fun
    | .cells _ t frozen => .cells cs t frozen
    | o => o
  let h0 := put h 0 #[.iface 215 (.agg #[.pointer (some ⟨5, 96, none⟩)])]
  let h1 := put h0 1 (([[], [41, 58, 45, 97, 40, 65, 41], [65, 41, 58, 45, 97, 40, 65, 41], [40, 65, 41, 58, 45, 97, 40, 65, 41], [58, 45, 97, 40, 65, 41], [45, 97, 40, 65, 41], [97, 40, 65, 41], [40, 65, 41], [65, 41], [41], [49, 41], [97]] : List (List UInt8)).map fun x => Value.string ⟨x.toArray⟩).toArray
  let h2 := put h1 2 (([1, 10, 100, 1000, 10000, 100000, 1000000, 10000000, 100000000, 1000000000, 10000000000, 100000000000, 1000000000000, 10000000000000, 100000000000000, 1000000000000000, 10000000000000000, 100000000000000000, 1000000000000000000, 10000000000000000000] : List Int).map fun z => Value.int .u64 z).toArray
  let h3 := put h2 3 (([0, 1, 28, 2, 29, 14, 24, 3, 30, 22, 20, 15, 25, 17, 4, 8, 31, 27, 13, 23, 21, 19, 16, 7, 26, 12, 18, 6, 11, 5, 10, 9] : List Int).map fun z => Value.int .u8 z).toArray
  put h3 4 (([0, 1, 56, 2, 57, 49, 28, 3, 61, 58, 42, 50, 38, 29, 17, 4, 62, 47, 59, 36, 45, 43, 51, 22, 53, 39, 33, 30, 24, 18, 12, 5, 63, 55, 48, 27, 60, 41, 37, 16, 46, 35, 44, 21, 52, 32, 23, 11, 54, 26, 40, 15, 34, 20, 31, 10, 25, 14, 19, 9, 13, 8, 7, 6] : List Int).map fun z => Value.int .u8 z).toArray

/-- The script of a call, read: what the walks ask. -/
theorem script_of {H : Type} {enc : TypeId × Value → H} {W : World} {v : Value} {d : DataW H} {p : List MemPlace} (h : ∃ n, DataW.trod enc Tryz.prog W 0 (fun _ => true) true n 22 v.cells.toList = some (d, p)) (hv : v.cells.toList = [v]) (hb : Rows.uptoSmall H [d] = true) :
    ∃ ops : List OpR, ScriptAt W v ops ∧ ops.length ≤ 2000000 ∧ entSum ops ≤ 1000000000 := by
  obtain ⟨n, hn⟩ := h
  rw [hv] at hn
  refine read_script hn ?_
  have h1 : Rows.uptoBulk d + 0 ≤ 1048576 := of_decide_eq_true hb
  exact h1

end Go.Proofs.YtgddkjhknlgbbaaGreatDoor

namespace Go.Proofs.YtgddkjhknlgbbaaGreatDoor
set_option linter.unusedVariables false
set_option linter.unusedSimpArgs false
open Go.RowKit Go.Maps Go.Lib
open Go.ChangeShapes Go.WideShapes Go.ChangeAt

theorem Tryz.et : Tryz.prog.globalNamed "errors.errorType" = some 0 := by kernel_rfl
theorem Tryz.oneRow : ((List.range 301).filter fun t => Tryz.prog.rowNamed t [101, 114, 114, 111, 114]) = [96] := by kernel_rfl

theorem handle_of_laid {W : World} (h : laidMetH Tryz.prog Rows.registeredUptoRow.laid W) : HandleAt W := by
  obtain ⟨_, h2⟩ := laidMetH_iff.1 h
  obtain ⟨name, u, ty, e1, e2, e3, e4, e5⟩ := h2 ("errors.errorType", Rows.laid_errors_errorType) (List.mem_filter.2 ⟨List.mem_cons_of_mem _ (List.mem_cons_of_mem _ (List.mem_cons_of_mem _ (List.mem_cons_of_mem _ (List.mem_cons_self ..)))), rfl⟩)
  have en : name = [101, 114, 114, 111, 114] := (Option.some.inj e1).symm
  subst en
  have e2' : some u = some 215 := e2.symm.trans (by kernel_rfl)
  obtain rfl := Option.some.inj e2'
  have hm : ty ∈ (List.range 301).filter fun t => Tryz.prog.rowNamed t [101, 114, 114, 111, 114] := List.mem_filter.2 ⟨List.mem_range.2 (by rw [← Tryz.size]; exact e3), e4⟩
  rw [Tryz.oneRow] at hm
  obtain rfl := List.mem_singleton.1 hm
  have hh : typeHandle Tryz.prog 96 = .pointer (some ⟨5, 96, none⟩) := by kernel_rfl
  rw [hh] at e5
  have h9 := World.var?_cell Tryz.et e5 0
  exact h9

theorem cells_of_strs {H : Type} {enc : TypeId × Value → H} {P : Program} {w : World} {base : Nat} {sp : Nat → Bool} {held : Bool} {fuel : Nat} {t e : TypeId} {n : Nat} {cs : List Value} {bs : List (List UInt8)} {p : List MemPlace}
    (ht : P.underlying t = some (.array n e)) (he : P.underlying e = some .string) (hce : P.cellsOf e = 1) (hct : P.cellsOf t = n)
    (h : DataW.trod enc P w base sp held fuel t cs = some (.agg (bs.map fun b => .lit (.string b)), p)) : cs = bs.map fun b => Value.string ⟨b.toArray⟩ := by
  cases fuel with
  | zero => simp [DataW.trod] at h
  | succ fuel =>
    simp only [DataW.trod, ht, hce, hct, Nat.mul_one] at h
    split at h
    · rename_i hl
      obtain ⟨xs, hm, hx⟩ := Option.map_eq_some_iff.1 h
      have hxs : xs.map (·.1) = bs.map fun b => (DataW.lit (.string b) : DataW H) := by
        have := congrArg Prod.fst hx
        simpa using this
      have hxl : xs.length = n := by simpa using mapM_length hm
      have hzl : bs.length = n := by
        have := congrArg List.length hxs
        simp at this
        omega
      apply List.ext_getElem?
      intro i
      by_cases hi : i < n
      · obtain ⟨b, hb, hf⟩ := mapM_at hm i i (by simp [hi])
        obtain ⟨s, hc, y3, _⟩ := DataW.trod_string he hf
        have h1 : cs[i]? = some (.string s) := by
          have := congrArg (·[0]?) hc
          simpa [List.getElem?_take, List.getElem?_drop] using this
        have h2 : (xs.map (·.1))[i]? = some b.1 := by simp [hb]
        rw [y3, hxs] at h2
        simp only [List.getElem?_map, Option.map_eq_some_iff, DataW.lit.injEq, Lit.string.injEq] at h2
        obtain ⟨z', hz', e9⟩ := h2
        rw [h1]
        simp only [List.getElem?_map, hz', Option.map_some, e9]
      · rw [List.getElem?_eq_none (by omega), List.getElem?_eq_none (by simp; omega)]
    · cases h

theorem ends_of_laid {W : World} (h : laidMetH Tryz.prog Rows.registeredUptoRow.laid W) : EndsAt W := by
  obtain ⟨h1, _⟩ := laidMetH_iff.1 h
  obtain ⟨ps, ⟨_, _, _, _, _, _, _, _, _, _, ⟨_, _, _, _, _, _, _, _, _, _, ⟨_, _, _, _, _, _, _, _, _, _, ⟨g, t, cs, fuel, p, q, hg, ht, hvar, hd, _, _⟩, _⟩, _⟩, _⟩, _⟩ := h1
  have hg1 : some g = some 1 := hg.symm.trans (by kernel_rfl)
  obtain rfl := Option.some.inj hg1
  have hty : (Tryz.prog.globals[1]?).map (·.type) = some 188 := by kernel_rfl
  obtain rfl := Option.some.inj (hty.symm.trans ht)
  have hcs : cs.toList = qEnds.map fun b => Value.string ⟨b.toArray⟩ := cells_of_strs (n := 12) (e := 9) (by kernel_rfl) Tryz.underlying9 (by kernel_rfl) (by kernel_rfl) hd
  intro i hi
  rw [World.var?_cell hg hvar i, ← Array.getElem?_toList, hcs]
  have hq : i < qEnds.length := hi
  simp [hq]

end Go.Proofs.YtgddkjhknlgbbaaGreatDoor
