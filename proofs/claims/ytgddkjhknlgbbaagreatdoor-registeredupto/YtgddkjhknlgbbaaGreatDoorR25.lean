import Derived.Test.YtgddkjhknlgbbaaGreatDoorR24
set_option linter.unusedVariables false
set_option linter.unusedSimpArgs false

set_option linter.unusedVariables false
set_option linter.unusedSimpArgs false

namespace Go.Proofs.YtgddkjhknlgbbaaGreatDoor
set_option linter.unusedVariables false
set_option linter.unusedSimpArgs false
open Go.RowKit Go.Maps

set_option maxRecDepth 100000 in
set_option maxHeartbeats 8000000 in
theorem step_new (o:Nat→Nat) (W:World) (wb:Nat) (ps:List (Nat×Nat)) (zss:List ZV) (hs:List Nat) (N B0:Nat) (h:Law o W wb ps zss hs N B0) (hpos:0<ps.length) (hpl:ps.length≤1000000000) (hB:B0≤W.heap.size) (m a:Int) (s t u:ByteArray) (p:Option Addr) (nb cb:Nat) :
  Calls Tryz.prog 9 #[.pointer (some ⟨wb,0,none⟩),opV 1 m a s t u (.slice p nb cb)] W fun e w'=>e=.returned (.bool true)∧∃ o' eb fb,Law o' w' wb (ps ++ [(eb,fb)]) (zss ++ [zV0]) hs N B0∧Mid (fun b=>o b≠0) W w':=by
 obtain ⟨w1,hw1⟩:∃ w1,w1=W.alloc (.cells #[.int .i64 1,.int .i64 m,.int .i64 a,.string s,.string t,.string u,.slice p nb cb] 34):=⟨_,rfl⟩
 have x1:w1.heap[W.heap.size]? = some (Obj.cells #[.int .i64 1,.int .i64 m,.int .i64 a,.string s,.string t,.string u,.slice p nb cb] 34 (0,0)):=by rw [hw1];exact heap_last _ _ _ rfl
 have hb1:Below W.heap.size W w1:=by rw [hw1];exact (Below.refl _ _).alloc (Nat.le_refl _) _
 have y0:w1.cell? ⟨W.heap.size,0,none⟩=some (.int .i64 1):=cell_of_heap x1 0
 have hs1:=hb1.size
 have Hbeg:=hide (begin_any o w1 wb ps zss hs N B0 (h.below hb1) (by omega) hpl)
 have Hb1:=hide hb1
 have Hw1:=hide hw1
 clear h hb1 hw1 x1
 unfold opV
 go_enter Tryz.func9,Tryz.ntmps9
 go_upto_region 1 with fail
 rw [← unhide Hw1]
 go_wp2_with fail
 refine (unhide Hbeg).mono ?_
 rintro e w2 ⟨rfl,o',eb,fb,h1,h2⟩
 have Hfin:=hide (And.intro h1 (Mid.after (unhide Hb1) h2))
 clear h1 h2 Hbeg
 go_wp2
 go_ret
 exact ⟨rfl,o',eb,fb,(unhide Hfin).1,(unhide Hfin).2⟩

set_option maxRecDepth 100000 in
set_option maxHeartbeats 8000000 in
theorem step_rows (o:Nat→Nat) (W:World) (wb:Nat) (ps:List (Nat×Nat)) (zss:List ZV) (hs:List Nat) (N B0:Nat) (h:Law o W wb ps zss hs N B0) (hpos:0<ps.length) (hpl:ps.length≤1000000000) (hB:B0≤W.heap.size) (m a:Int) (s t u:ByteArray) (p:Option Addr) (nb cb:Nat) (hhl:hs.length≤10000000000) (hN:N≤900000000) (hsz:s.size≤maxLen) :
  Calls Tryz.prog 9 #[.pointer (some ⟨wb,0,none⟩),opV 4 m a s t u (.slice p nb cb)] W fun e w'=>e=.returned (.bool true)∧∃ o' hs2,Law o' w' wb ps zss (hs ++ hs2) N B0∧Mid (fun b=>o b≠0) W w'∧hs2.length≤17:=by
 obtain ⟨pv,hv,base,hS,hpv,hwb,hcp,hch⟩:=h.ex
 obtain ⟨j,r,hj,hr,hr1,hr2,hjj⟩:=pick_pair m ps.length hpos
 obtain ⟨pp,cp,hpe,_,hpn,hps⟩:=own_form hpv
 cases pp with
 | none=>have:=hpn rfl;omega
 | some ad =>
 obtain ⟨gp,rfl,_,hgl,hcl⟩:=hps ad rfl
 obtain ⟨eb,heb⟩:∃ eb,eb=(ps[j]?.getD (0,0)).1:=⟨_,rfl⟩
 obtain ⟨fb,hfb⟩:∃ fb,fb=(ps[j]?.getD (0,0)).2:=⟨_,rfl⟩
 have hpc:=cellsP_at ps j hj
 have hp0:=hcl (j*2) (by omega)
 have hp1:=hcl (j*2+1) (by omega)
 rw [hpc.1,← heb] at hp0
 rw [hpc.2,← hfb] at hp1
 have hwl:=heap_lt hS.box
 obtain ⟨w1,hw1⟩:∃ w1,w1=W.alloc (.cells #[.int .i64 4,.int .i64 m,.int .i64 a,.string s,.string t,.string u,.slice p nb cb] 34):=⟨_,rfl⟩
 have x1:w1.heap[W.heap.size]? = some (Obj.cells #[.int .i64 4,.int .i64 m,.int .i64 a,.string s,.string t,.string u,.slice p nb cb] 34 (0,0)):=by rw [hw1];exact heap_last _ _ _ rfl
 have hb1:Below W.heap.size W w1:=by rw [hw1];exact (Below.refl _ _).alloc (Nat.le_refl _) _
 have hbox1:=(hb1.block wb hwl).trans hS.box
 rw [hpe] at hbox1
 have y0:w1.cell? ⟨W.heap.size,0,none⟩=some (.int .i64 4):=cell_of_heap x1 0
 have y1:w1.cell? ⟨W.heap.size,1,none⟩=some (.int .i64 m):=cell_of_heap x1 1
 have b0:w1.cell? ⟨wb,0,none⟩=some (.slice (some ⟨gp,0,none⟩) ps.length cp):=cell_of_heap hbox1 0
 have e0:=(hb1.cell (p:=⟨gp,_,none⟩) hgl).trans hp0
 have e1:=(hb1.cell (p:=⟨gp,_,none⟩) hgl).trans hp1
 have s1:W.heap.size<w1.heap.size:=heap_lt x1
 have s2:wb<w1.heap.size:=by omega
 have s3:gp<w1.heap.size:=by omega
 have hn0:¬ ps.length=0:=by omega
 have hjx:(j:Int)<(ps.length:Int):=by omega
 obtain ⟨w2,hw2⟩:∃ w2,w2=(w1.alloc (.cells #[.pointer (some ⟨eb,0,none⟩),.pointer (some ⟨fb,0,none⟩)] 43)).drew:=⟨_,rfl⟩
 have hb2:Below w1.heap.size w1 w2:=by rw [hw2];exact ((Below.refl _ _).alloc (Nat.le_refl _) _).trans ((Drawn.refl _).drew.below _)
 have x2:w2.heap[w1.heap.size]? = some (Obj.cells #[.pointer (some ⟨eb,0,none⟩),.pointer (some ⟨fb,0,none⟩)] 43 (0,0)):=by
  rw [hw2]
  have h0:(w1.alloc (.cells #[.pointer (some ⟨eb,0,none⟩),.pointer (some ⟨fb,0,none⟩)] 43)).heap[w1.heap.size]? = some (Obj.cells #[.pointer (some ⟨eb,0,none⟩),.pointer (some ⟨fb,0,none⟩)] 43 (0,0)):=heap_last _ _ _ rfl
  exact h0
 have x12:=(hb2.block W.heap.size s1).trans x1
 have hB12:Below W.heap.size W w2:=hb1.trans (hb2.mono (by omega))
 have hs2:=hB12.size
 have hLaw:=h.below hB12
 have hE:=hLaw.eng j hj
 have hR:=hLaw.ref j hj
 have hz:=hLaw.ok j hj
 rw [← heb] at hE
 rw [← hfb] at hR
 have X1:=hide x12
 have X2:=hide x2
 have Hw1:=hide hw1
 have Hw2:=hide hw2
 have HLaw:=hide hLaw
 have HB12:=hide hB12
 have HE:=hide hE
 have HR:=hide hR
 have Hz:=hide hz
 have Heb:=hide heb
 have Hfb:=hide hfb
 have H:=hide h
 obtain ⟨n,hnn⟩:∃ n,n=ps.length:=⟨_,rfl⟩
 rw [← hnn] at b0 hn0 hjx hr hr1 hr2 hjj
 have hnb:n≤1000000000:=by omega
 have hnp:0<n:=by omega
 have Hj:=hide hj
 have Hask:Hid (Calls Tryz.prog 25 #[.pointer (some ⟨wb,0,none⟩),.agg #[.pointer (some ⟨eb,0,none⟩),.pointer (some ⟨fb,0,none⟩)],opV 4 m a s t u (.slice p nb cb)] w2 fun e w'=>e=.returned (.bool true)∧∃ o' hs2,Law o' w' wb ps zss (hs ++ hs2) N B0∧Mid (fun b=>o b≠0) w2 w'∧hs2.length≤17):=by
  rw [heb,hfb]
  cases hf:findZ (zss[j]?.getD zV0).1 s with
  | none=>exact asks_miss o w2 wb ps zss hs N B0 j hLaw hj (by omega) hhl hN m a s t u p nb cb hsz hf
  | some z=>exact asks_hit o w2 wb ps zss hs N B0 j hLaw hj (by omega) hhl hN m a s t u p nb cb z hf
 unfold opV at Hask
 clear h hS hpv hwb hcp hch hpn hps hcl hpc hp0 hp1 x1 hb1 hbox1 hw1 hw2 hb2 x2 x12 hB12 hLaw hE hR hz heb hfb hpe hj hnn hpos hpl
 unfold opV
 go_enter Tryz.func9,Tryz.ntmps9
 go_upto_region 1 with fail
 rw [← unhide Hw1]
 go_wp2
 go_region
 rw [← unhide Hw2]
 have z0:w2.cell? ⟨w1.heap.size,0,none⟩=some (.pointer (some ⟨eb,0,none⟩)):=cell_of_heap (unhide X2) 0
 have z1:w2.cell? ⟨w1.heap.size,1,none⟩=some (.pointer (some ⟨fb,0,none⟩)):=cell_of_heap (unhide X2) 1
 have o0:w2.cell? ⟨W.heap.size,0,none⟩=some (.int .i64 4):=cell_of_heap (unhide X1) 0
 have o1:w2.cell? ⟨W.heap.size,1,none⟩=some (.int .i64 m):=cell_of_heap (unhide X1) 1
 have o2:w2.cell? ⟨W.heap.size,2,none⟩=some (.int .i64 a):=cell_of_heap (unhide X1) 2
 have o3:w2.cell? ⟨W.heap.size,3,none⟩=some (.string s):=cell_of_heap (unhide X1) 3
 have o4:w2.cell? ⟨W.heap.size,4,none⟩=some (.string t):=cell_of_heap (unhide X1) 4
 have o5:w2.cell? ⟨W.heap.size,5,none⟩=some (.string u):=cell_of_heap (unhide X1) 5
 have o6:w2.cell? ⟨W.heap.size,6,none⟩=some (.slice p nb cb):=cell_of_heap (unhide X1) 6
 have t1l:w1.heap.size<w2.heap.size:=heap_lt (unhide X2)
 have t0l:W.heap.size<w2.heap.size:=by omega
 clear y0 y1 b0 e0 e1 hr hjj hr1 hr2
 go_wp2_with fail
 refine (unhide Hask).mono ?_
 rintro e w3 ⟨rfl,o',hs2',q1,q2,q3⟩
 have Hfin:=hide (And.intro q1 (And.intro (Mid.after (unhide HB12) q2) q3))
 clear q1 q2 q3 Hask
 go_wp2
 go_ret
 exact ⟨rfl,o',hs2',unhide Hfin⟩

set_option maxRecDepth 100000 in
set_option maxHeartbeats 8000000 in
theorem stepV_other (o:Nat→Nat) (W:World) (wb:Nat) (ps:List (Nat×Nat)) (zss:List ZV) (hs:List Nat) (N B0:Nat) (h:Law o W wb ps zss hs N B0) (hpos:0<ps.length) (hpl:ps.length≤1000000000) (hB:B0≤W.heap.size) (m a:Int) (s t u:ByteArray) (p:Option Addr) (nb cb:Nat) (hhl:hs.length≤10000000000) (hN:N≤900000000) (k:Int) (hk:k≤0) :
  Calls Tryz.prog 9 #[.pointer (some ⟨wb,0,none⟩),opV k m a s t u (.slice p nb cb)] W fun e w'=>e=.returned (.bool true)∧∃ o' hs2,Law o' w' wb ps zss (hs ++ hs2) N B0∧Mid (fun b=>o b≠0) W w'∧hs2.length≤17:=by
 obtain ⟨pv,hv,base,hS,hpv,hwb,hcp,hch⟩:=h.ex
 obtain ⟨j,r,hj,hr,hr1,hr2,hjj⟩:=pick_pair m ps.length hpos
 obtain ⟨pp,cp,hpe,_,hpn,hps⟩:=own_form hpv
 cases pp with
 | none=>have:=hpn rfl;omega
 | some ad =>
 obtain ⟨gp,rfl,_,hgl,hcl⟩:=hps ad rfl
 obtain ⟨eb,heb⟩:∃ eb,eb=(ps[j]?.getD (0,0)).1:=⟨_,rfl⟩
 obtain ⟨fb,hfb⟩:∃ fb,fb=(ps[j]?.getD (0,0)).2:=⟨_,rfl⟩
 have hpc:=cellsP_at ps j hj
 have hp0:=hcl (j*2) (by omega)
 have hp1:=hcl (j*2+1) (by omega)
 rw [hpc.1,← heb] at hp0
 rw [hpc.2,← hfb] at hp1
 have hwl:=heap_lt hS.box
 obtain ⟨w1,hw1⟩:∃ w1,w1=W.alloc (.cells #[.int .i64 k,.int .i64 m,.int .i64 a,.string s,.string t,.string u,.slice p nb cb] 34):=⟨_,rfl⟩
 have x1:w1.heap[W.heap.size]? = some (Obj.cells #[.int .i64 k,.int .i64 m,.int .i64 a,.string s,.string t,.string u,.slice p nb cb] 34 (0,0)):=by rw [hw1];exact heap_last _ _ _ rfl
 have hb1:Below W.heap.size W w1:=by rw [hw1];exact (Below.refl _ _).alloc (Nat.le_refl _) _
 have hbox1:=(hb1.block wb hwl).trans hS.box
 rw [hpe] at hbox1
 have y0:w1.cell? ⟨W.heap.size,0,none⟩=some (.int .i64 k):=cell_of_heap x1 0
 have y1:w1.cell? ⟨W.heap.size,1,none⟩=some (.int .i64 m):=cell_of_heap x1 1
 have b0:w1.cell? ⟨wb,0,none⟩=some (.slice (some ⟨gp,0,none⟩) ps.length cp):=cell_of_heap hbox1 0
 have e0:=(hb1.cell (p:=⟨gp,_,none⟩) hgl).trans hp0
 have e1:=(hb1.cell (p:=⟨gp,_,none⟩) hgl).trans hp1
 have s1:W.heap.size<w1.heap.size:=heap_lt x1
 have s2:wb<w1.heap.size:=by omega
 have s3:gp<w1.heap.size:=by omega
 have hn0:¬ ps.length=0:=by omega
 have hjx:(j:Int)<(ps.length:Int):=by omega
 obtain ⟨w2,hw2⟩:∃ w2,w2=(w1.alloc (.cells #[.pointer (some ⟨eb,0,none⟩),.pointer (some ⟨fb,0,none⟩)] 43)).drew:=⟨_,rfl⟩
 have hb2:Below w1.heap.size w1 w2:=by rw [hw2];exact ((Below.refl _ _).alloc (Nat.le_refl _) _).trans ((Drawn.refl _).drew.below _)
 have x2:w2.heap[w1.heap.size]? = some (Obj.cells #[.pointer (some ⟨eb,0,none⟩),.pointer (some ⟨fb,0,none⟩)] 43 (0,0)):=by
  rw [hw2]
  have h0:(w1.alloc (.cells #[.pointer (some ⟨eb,0,none⟩),.pointer (some ⟨fb,0,none⟩)] 43)).heap[w1.heap.size]? = some (Obj.cells #[.pointer (some ⟨eb,0,none⟩),.pointer (some ⟨fb,0,none⟩)] 43 (0,0)):=heap_last _ _ _ rfl
  exact h0
 have x12:=(hb2.block W.heap.size s1).trans x1
 have hB12:Below W.heap.size W w2:=hb1.trans (hb2.mono (by omega))
 have hs2:=hB12.size
 have hLaw:=h.below hB12
 have hE:=hLaw.eng j hj
 have hR:=hLaw.ref j hj
 have hz:=hLaw.ok j hj
 rw [← heb] at hE
 rw [← hfb] at hR
 have X1:=hide x12
 have X2:=hide x2
 have Hw1:=hide hw1
 have Hw2:=hide hw2
 have HLaw:=hide hLaw
 have HB12:=hide hB12
 have HE:=hide hE
 have HR:=hide hR
 have Hz:=hide hz
 have Heb:=hide heb
 have Hfb:=hide hfb
 have H:=hide h
 obtain ⟨n,hnn⟩:∃ n,n=ps.length:=⟨_,rfl⟩
 rw [← hnn] at b0 hn0 hjx hr hr1 hr2 hjj
 have hnb:n≤1000000000:=by omega
 have hnp:0<n:=by omega
 have Hj:=hide hj
 have Hask:Hid (Calls Tryz.prog 25 #[.pointer (some ⟨wb,0,none⟩),.agg #[.pointer (some ⟨eb,0,none⟩),.pointer (some ⟨fb,0,none⟩)],opV k m a s t u (.slice p nb cb)] w2 fun e w'=>e=.returned (.bool true)∧∃ o' hs2,Law o' w' wb ps zss (hs ++ hs2) N B0∧Mid (fun b=>o b≠0) w2 w'∧hs2.length≤17):=by
  rw [heb,hfb]
  exact asks_other o w2 wb ps zss hs N B0 j hLaw hj (by omega) hhl hN m a s t u p nb cb k (by omega) (by omega) (by omega)
 unfold opV at Hask
 have k1:(k == 1)=false:=by simp;omega
 have k2:(k == 2)=false:=by simp;omega
 have k3:(k == 3)=false:=by simp;omega
 have k5:(k == 5)=false:=by simp;omega
 have k6:(k == 6)=false:=by simp;omega
 have k9:(k == 9)=false:=by simp;omega
 clear h hS hpv hwb hcp hch hpn hps hcl hpc hp0 hp1 x1 hb1 hbox1 hw1 hw2 hb2 x2 x12 hB12 hLaw hE hR hz heb hfb hpe hj hnn hpos hpl
 unfold opV
 go_enter Tryz.func9,Tryz.ntmps9
 go_upto_region 1 with fail
 rw [← unhide Hw1]
 go_wp2
 go_region
 rw [← unhide Hw2]
 have z0:w2.cell? ⟨w1.heap.size,0,none⟩=some (.pointer (some ⟨eb,0,none⟩)):=cell_of_heap (unhide X2) 0
 have z1:w2.cell? ⟨w1.heap.size,1,none⟩=some (.pointer (some ⟨fb,0,none⟩)):=cell_of_heap (unhide X2) 1
 have o0:w2.cell? ⟨W.heap.size,0,none⟩=some (.int .i64 k):=cell_of_heap (unhide X1) 0
 have o1:w2.cell? ⟨W.heap.size,1,none⟩=some (.int .i64 m):=cell_of_heap (unhide X1) 1
 have o2:w2.cell? ⟨W.heap.size,2,none⟩=some (.int .i64 a):=cell_of_heap (unhide X1) 2
 have o3:w2.cell? ⟨W.heap.size,3,none⟩=some (.string s):=cell_of_heap (unhide X1) 3
 have o4:w2.cell? ⟨W.heap.size,4,none⟩=some (.string t):=cell_of_heap (unhide X1) 4
 have o5:w2.cell? ⟨W.heap.size,5,none⟩=some (.string u):=cell_of_heap (unhide X1) 5
 have o6:w2.cell? ⟨W.heap.size,6,none⟩=some (.slice p nb cb):=cell_of_heap (unhide X1) 6
 have t1l:w1.heap.size<w2.heap.size:=heap_lt (unhide X2)
 have t0l:W.heap.size<w2.heap.size:=by omega
 clear y0 y1 b0 e0 e1 hr hjj hr1 hr2
 go_wp2_with fail
 refine (unhide Hask).mono ?_
 rintro e w3 ⟨rfl,o',hs2',q1,q2,q3⟩
 have Hfin:=hide (And.intro q1 (And.intro (Mid.after (unhide HB12) q2) q3))
 clear q1 q2 q3 Hask
 go_wp2
 go_ret
 exact ⟨rfl,o',hs2',unhide Hfin⟩

end Go.Proofs.YtgddkjhknlgbbaaGreatDoor

namespace Go.Proofs.YtgddkjhknlgbbaaGreatDoor
set_option linter.unusedVariables false
set_option linter.unusedSimpArgs false
open Go.RowKit Go.Maps

set_option maxRecDepth 100000 in
set_option maxHeartbeats 8000000 in
theorem step_apply (o:Nat→Nat) (W:World) (wb:Nat) (ps:List (Nat×Nat)) (zss:List ZV) (hs:List Nat) (N B0:Nat) (h:Law o W wb ps zss hs N B0) (hpos:0<ps.length) (hpl:ps.length≤1000000000) (hB:B0≤W.heap.size) (m a:Int) (s t u:ByteArray) (p:Option Addr) (nb cb:Nat) (hhl:hs.length≤10000000000) (hN:N≤900000000) (w0:World) (es:List Ent) (hw0:w0.heap.size=B0) (hB0:Below B0 w0 W) (hea:EntsAt w0 (.slice p nb cb) es) (hnil:EntsNil w0 (.slice p nb cb)) (hF:FineB es) :
  Calls Tryz.prog 9 #[.pointer (some ⟨wb,0,none⟩),opV 3 m a s t u (.slice p nb cb)] W fun e w'=>e=.returned (.bool true)∧∃ o' zss' hs2,Law o' w' wb ps zss' (hs ++ hs2) (N+128) B0∧Mid (fun b=>o b≠0) W w'∧hs2.length≤es.length+1:=by
 obtain ⟨pv,hv,base,hS,hpv,hwb,hcp,hch⟩:=h.ex
 obtain ⟨j,r,hj,hr,hr1,hr2,hjj⟩:=pick_pair m ps.length hpos
 obtain ⟨pp,cp,hpe,_,hpn,hps⟩:=own_form hpv
 cases pp with
 | none=>have:=hpn rfl;omega
 | some ad =>
 obtain ⟨gp,rfl,_,hgl,hcl⟩:=hps ad rfl
 obtain ⟨eb,heb⟩:∃ eb,eb=(ps[j]?.getD (0,0)).1:=⟨_,rfl⟩
 obtain ⟨fb,hfb⟩:∃ fb,fb=(ps[j]?.getD (0,0)).2:=⟨_,rfl⟩
 have hpc:=cellsP_at ps j hj
 have hp0:=hcl (j*2) (by omega)
 have hp1:=hcl (j*2+1) (by omega)
 rw [hpc.1,← heb] at hp0
 rw [hpc.2,← hfb] at hp1
 have hwl:=heap_lt hS.box
 obtain ⟨w1,hw1⟩:∃ w1,w1=W.alloc (.cells #[.int .i64 3,.int .i64 m,.int .i64 a,.string s,.string t,.string u,.slice p nb cb] 34):=⟨_,rfl⟩
 have x1:w1.heap[W.heap.size]? = some (Obj.cells #[.int .i64 3,.int .i64 m,.int .i64 a,.string s,.string t,.string u,.slice p nb cb] 34 (0,0)):=by rw [hw1];exact heap_last _ _ _ rfl
 have hb1:Below W.heap.size W w1:=by rw [hw1];exact (Below.refl _ _).alloc (Nat.le_refl _) _
 have hbox1:=(hb1.block wb hwl).trans hS.box
 rw [hpe] at hbox1
 have y0:w1.cell? ⟨W.heap.size,0,none⟩=some (.int .i64 3):=cell_of_heap x1 0
 have y1:w1.cell? ⟨W.heap.size,1,none⟩=some (.int .i64 m):=cell_of_heap x1 1
 have b0:w1.cell? ⟨wb,0,none⟩=some (.slice (some ⟨gp,0,none⟩) ps.length cp):=cell_of_heap hbox1 0
 have e0:=(hb1.cell (p:=⟨gp,_,none⟩) hgl).trans hp0
 have e1:=(hb1.cell (p:=⟨gp,_,none⟩) hgl).trans hp1
 have s1:W.heap.size<w1.heap.size:=heap_lt x1
 have s2:wb<w1.heap.size:=by omega
 have s3:gp<w1.heap.size:=by omega
 have hn0:¬ ps.length=0:=by omega
 have hjx:(j:Int)<(ps.length:Int):=by omega
 obtain ⟨w2,hw2⟩:∃ w2,w2=(w1.alloc (.cells #[.pointer (some ⟨eb,0,none⟩),.pointer (some ⟨fb,0,none⟩)] 43)).drew:=⟨_,rfl⟩
 have hb2:Below w1.heap.size w1 w2:=by rw [hw2];exact ((Below.refl _ _).alloc (Nat.le_refl _) _).trans ((Drawn.refl _).drew.below _)
 have x2:w2.heap[w1.heap.size]? = some (Obj.cells #[.pointer (some ⟨eb,0,none⟩),.pointer (some ⟨fb,0,none⟩)] 43 (0,0)):=by
  rw [hw2]
  have h0:(w1.alloc (.cells #[.pointer (some ⟨eb,0,none⟩),.pointer (some ⟨fb,0,none⟩)] 43)).heap[w1.heap.size]? = some (Obj.cells #[.pointer (some ⟨eb,0,none⟩),.pointer (some ⟨fb,0,none⟩)] 43 (0,0)):=heap_last _ _ _ rfl
  exact h0
 have x12:=(hb2.block W.heap.size s1).trans x1
 have hB12:Below W.heap.size W w2:=hb1.trans (hb2.mono (by omega))
 have hs2:=hB12.size
 have hLaw:=h.below hB12
 have hE:=hLaw.eng j hj
 have hR:=hLaw.ref j hj
 have hz:=hLaw.ok j hj
 rw [← heb] at hE
 rw [← hfb] at hR
 have X1:=hide x12
 have X2:=hide x2
 have Hw1:=hide hw1
 have Hw2:=hide hw2
 have HLaw:=hide hLaw
 have HB12:=hide hB12
 have HE:=hide hE
 have HR:=hide hR
 have Hz:=hide hz
 have Heb:=hide heb
 have Hfb:=hide hfb
 have H:=hide h
 obtain ⟨n,hnn⟩:∃ n,n=ps.length:=⟨_,rfl⟩
 rw [← hnn] at b0 hn0 hjx hr hr1 hr2 hjj
 have hnb:n≤1000000000:=by omega
 have hnp:0<n:=by omega
 have Hj:=hide hj
 have hB02:Below B0 w0 w2:=hB0.trans (hB12.mono hB)
 rw [← hw0] at hB02
 have hv2:=hea.below hB02
 have hnl2:=hnil.below hea hB02
 have HSp:=hide (hS.below hB12)
 have Hpv:=hide (own_below hpv hB12)
 have Hcol:=hide (And.intro hwb (And.intro hcp hch))
 have Hfr2:=hide hLaw.fresh
 have Hargs:=hide (And.intro hea (And.intro hnil (And.intro hF hB02)))
 have hee:es.length=nb:=by obtain ⟨a',c',h1,_⟩:=hea;cases h1;rfl
 have Hlent:=hide (lent_any (.slice p nb cb) es w2 hv2 hnl2 hF.len hF.row)
 have hesl:=hF.len
 have Hargs0:Hid (∀ b,b<w0.heap.size→o b=0):=fun b hb=>h.args b (by omega)
 have hw0s:w0.heap.size≤W.heap.size:=by omega
 have hwbl2:wb<w2.heap.size:=by omega
 clear hv2 hnl2 hB02 hea hnil hF hB0
 clear h hS hpv hwb hcp hch hpn hps hcl hpc hp0 hp1 x1 hb1 hbox1 hw1 hw2 hb2 x2 x12 hB12 hLaw hE hR hz heb hfb hpe hj hnn hpos hpl
 unfold opV
 go_enter Tryz.func9,Tryz.ntmps9
 go_upto_region 1 with fail
 rw [← unhide Hw1]
 go_wp2
 go_region
 rw [← unhide Hw2]
 have z0:w2.cell? ⟨w1.heap.size,0,none⟩=some (.pointer (some ⟨eb,0,none⟩)):=cell_of_heap (unhide X2) 0
 have z1:w2.cell? ⟨w1.heap.size,1,none⟩=some (.pointer (some ⟨fb,0,none⟩)):=cell_of_heap (unhide X2) 1
 have o0:w2.cell? ⟨W.heap.size,0,none⟩=some (.int .i64 3):=cell_of_heap (unhide X1) 0
 have o1:w2.cell? ⟨W.heap.size,1,none⟩=some (.int .i64 m):=cell_of_heap (unhide X1) 1
 have o2:w2.cell? ⟨W.heap.size,2,none⟩=some (.int .i64 a):=cell_of_heap (unhide X1) 2
 have o3:w2.cell? ⟨W.heap.size,3,none⟩=some (.string s):=cell_of_heap (unhide X1) 3
 have o4:w2.cell? ⟨W.heap.size,4,none⟩=some (.string t):=cell_of_heap (unhide X1) 4
 have o5:w2.cell? ⟨W.heap.size,5,none⟩=some (.string u):=cell_of_heap (unhide X1) 5
 have o6:w2.cell? ⟨W.heap.size,6,none⟩=some (.slice p nb cb):=cell_of_heap (unhide X1) 6
 have t1l:w1.heap.size<w2.heap.size:=heap_lt (unhide X2)
 have t0l:W.heap.size<w2.heap.size:=by omega
 clear y0 y1 b0 e0 e1 hr hjj hr1 hr2
 go_wp2_with fail
 refine (unhide Hlent).mono ?_
 rintro e w3 ⟨ev,rv,los,rfl,hL3,hle,hb3⟩
 obtain ⟨ge,ce,hev,hce,hEnt⟩:=loan_ents hL3 hle
 subst hev
 have hs3:=hb3.size
 have hl3:w2.heap.size<w3.heap.size:=heap_lt hL3.box
 have p0:=(hb3.cell (p:=⟨w1.heap.size,0,none⟩) t1l).trans z0
 have p1:=(hb3.cell (p:=⟨w1.heap.size,1,none⟩) t1l).trans z1
 have p6:=(hb3.cell (p:=⟨W.heap.size,6,none⟩) t0l).trans o6
 have pl:w3.cell? ⟨w2.heap.size,0,none⟩=some (.slice (some ⟨ge,0,none⟩) (es.length+1) ce):=cell_of_heap hL3.box 0
 have hE3:=(unhide HE).kept hs3 (fun b _ hlt=>hb3.block b hlt)
 have hd3:=(Drawn.refl w3).drew
 have hb3d:=hd3.below w3.heap.size
 have Happ:=hide (engApplyV _ w3.drew eb (zss[j]?.getD zV0) N (.slice (some ⟨ge,0,none⟩) es.length ce) es (hE3.kept hb3d.size (fun b _ hlt=>hb3d.block b hlt)) (unhide Hz) (hEnt.below hb3d) (unhide Hargs).2.2.1 hN)
 have c0:o W.heap.size=0:=(unhide H).fresh _ (Nat.le_refl _)
 have c1:o w1.heap.size=0:=(unhide H).fresh _ (by omega)
 have c2:o w2.heap.size=0:=(unhide H).fresh _ (by omega)
 have HL3:=hide hL3
 have Hle:=hide hle
 have Hb3:=hide hb3
 have hnbx:(nb:Int)≤(es.length:Int)+1:=by omega
 have hnce:nb≤ce:=by omega
 have Hee:=hide hee
 have hn1:es.length+1=nb+1:=by omega
 rw [hn1] at pl
 rw [hee] at Happ
 clear hL3 hle hb3 hEnt hE3 hd3 hb3d Hlent z0 z1 o0 o1 o2 o3 o4 o5 o6 hn1 hee
 go_wp2
 go_region_held3 (fun W'=>W'.cell? ⟨w1.heap.size,0,none⟩=some (.pointer (some ⟨eb,0,none⟩))∧W'.cell? ⟨w2.heap.size,0,none⟩=some (.slice (some ⟨ge,0,none⟩) (nb+1) ce)∧W'.cell? ⟨W.heap.size,6,none⟩=some (.slice p nb cb))
  (first
   | go_keep
   | (go_split_ands;refine ⟨?_,?_,?_⟩ <;> first
     | (rw [World.cell?_of_block (w:=w3.drew) (a:=⟨w1.heap.size,_,none⟩) (hM4.block w1.heap.size (by show w1.heap.size<w3.heap.size;omega) (by rw [c1];omega))];assumption)
     | (rw [World.cell?_of_block (w:=w3.drew) (a:=⟨w2.heap.size,_,none⟩) (hM4.block w2.heap.size (by show w2.heap.size<w3.heap.size;omega) (by rw [c2];omega))];assumption)
     | (rw [World.cell?_of_block (w:=w3.drew) (a:=⟨W.heap.size,_,none⟩) (hM4.block W.heap.size (by show W.heap.size<w3.heap.size;omega) (by rw [c0];omega))];assumption)))
  (first
   | (go_at_call 15;refine (unhide Happ).mono ?_;rintro e w4 ⟨rc,rk,zs',rfl,hA4,hE4,hM4⟩))
 have hs4:w3.heap.size≤w4.heap.size:=hM4.size
 have hk4:∀ b,b<w3.heap.size→o b≠2*j+2→w4.heap[b]? = w3.heap[b]?:=fun b hb hc=>hM4.block b hb hc
 have q1:w4.cell? ⟨w1.heap.size,1,none⟩=some (.pointer (some ⟨fb,0,none⟩)):=by rw [World.cell?_of_block (w:=w3) (a:=⟨w1.heap.size,1,none⟩) (hk4 w1.heap.size (by omega) (by omega))];exact p1
 have q6:w4.cell? ⟨W.heap.size,6,none⟩=some (.slice p nb cb):=by rw [World.cell?_of_block (w:=w3) (a:=⟨W.heap.size,6,none⟩) (hk4 W.heap.size (by omega) (by omega))];exact p6
 have hbA4:Below w0.heap.size w0 w4:=by
  refine ((unhide Hargs).2.2.2.trans ((unhide Hb3).mono (by omega))).trans ⟨hM4.os,hM4.tape,hM4.output,hs4,fun b hb=>hk4 b (by omega) (by rw [(unhide Hargs0) b hb];omega)⟩
 have hR4:RefV (fun b=>o b=2*j+3) w4 fb (zss[j]?.getD zV0):=((unhide HR).kept (fun b _ hlt=>(unhide Hb3).block b hlt)).kept (fun b hb hlt=>hk4 b hlt (by omega))
 have Href:=hide (refApplyV _ w4 fb (zss[j]?.getD zV0) (.slice p nb cb) es hR4 (unhide Hz) ((unhide Hargs).1.below hbA4) ((unhide Hargs).2.1.below (unhide Hargs).1 hbA4) (unhide Hargs).2.2.1)
 have HA4:=hide hA4
 have HE4:=hide hE4
 have HM4:=hide hM4
 have Hk4:=hide hk4
 have HbA4:=hide hbA4
 clear hA4 hE4 hM4 hk4 hbA4 hR4 Happ p0 p1 p6 pl
 go_wp2_with fail
 refine (unhide Href).mono ?_
 rintro e w5 ⟨rc2,rk2,zs2,rfl,hA5,hR5,hM5⟩
 obtain ⟨rfl,rfl,rfl⟩:=(unhide HA4).unique hA5
 have hs5:w4.heap.size≤w5.heap.size:=hM5.size
 have hk5:∀ b,b<w4.heap.size→o b≠2*j+3→w5.heap[b]? = w4.heap[b]?:=fun b hb hc=>hM5.block b hb hc
 have u6:w5.cell? ⟨W.heap.size,6,none⟩=some (.slice p nb cb):=by rw [World.cell?_of_block (w:=w4) (a:=⟨W.heap.size,6,none⟩) (hk5 W.heap.size (by omega) (by omega))];exact q6
 have hbA5:Below w0.heap.size w0 w5:=(unhide HbA4).trans ⟨hM5.os,hM5.tape,hM5.output,hs5,fun b hb=>hk5 b (by omega) (by rw [(unhide Hargs0) b hb];omega)⟩
 have hL5:LoanRep w5 w2.heap.size w2.heap.size (.slice (some ⟨ge,0,none⟩) (es.length+1) ce) rv los:=(unhide HL3).kept (Nat.le_refl _) (fun b h1 h2=>by
  have h0:=(unhide Hfr2) b h1
  exact (hk5 b (by omega) (by omega)).trans ((unhide Hk4) b h2 (by omega)))
 have Hun:=hide (unhurt_any w2.heap.size w2.heap.size _ rv (.slice p nb cb) los es w5 hL5 (unhide Hle) ((unhide Hargs).1.below hbA5) hesl (unhide Hargs).2.2.1.row)
 have HL5:=hide hL5
 have HR5:=hide hR5
 have HM5:=hide hM5
 have Hk5:=hide hk5
 clear hA5 hR5 hM5 hk5 hL5 hbA5 q1 q6 Href
 go_wp2_with fail
 refine (unhide Hun).mono ?_
 rintro e w6 ⟨rfl,hb6⟩
 have hs6:=hb6.size
 have hcol:=unhide Hcol
 have hk26:∀ b,b<w2.heap.size→o b≠2*j+2→o b≠2*j+3→w6.heap[b]? = w2.heap[b]?:=fun b hb h2 h3 =>
  (hb6.block b (by omega)).trans (((unhide Hk5) b (by omega) h3).trans (((unhide Hk4) b (by omega) h2).trans ((unhide Hb3).block b hb)))
 have hS6:Spine w6 wb pv hv hs:=by
  obtain ⟨bh,hoh⟩:=(unhide HSp).own
  refine ⟨(hk26 wb hwbl2 (by omega) (by omega)).trans (unhide HSp).box,⟨bh,hoh.1,?_⟩⟩
  rcases hoh.2 with h1|⟨g,cap,cur,h1,h2,h3,h4⟩
  ·exact .inl h1
  ·have hc:=hcol.2.2 g (by rw [h1];rfl)
   exact .inr ⟨g,cap,cur,h1,h2,(hk26 g (heap_lt h3) (by omega) (by omega)).trans h3,h4⟩
 have hL6:=(unhide HL5).kept (Nat.le_refl _) (fun b _ h2=>hb6.block b h2)
 have hll:los.length=es.length:=by rw [← unhide Hle];simp
 have Hsp:=hide (spoil_any wb pv hv hs w2.heap.size w2.heap.size _ rv los w6 hS6 hhl hL6 (by omega) (fun x hx=>(unhide Hargs).2.2.1.row x.e (by rw [← unhide Hle];exact List.mem_map_of_mem hx)) (by omega))
 have Hfin:Hid (∀ w7 hv7 hs7,KeptMany w6 w7 wb pv hv hs (fun b=>Value.ownBlock (.slice (some ⟨ge,0,none⟩) (es.length+1) ce)=some b∨∃ x∈los,x.g=b) hv7 hs7→∃ o' zss',Law o' w7 wb ps zss' (hs ++ hs7) (N+128) B0∧Mid (fun b=>o b≠0) W w7):=by
  intro w7 hv7 hs7 hK
  have hM1:Mid (fun b=>o b=2*j+2∨o b=2*j+3) w2 w6:=by
   have h3:=unhide Hb3
   have h4:=unhide HM4
   have h5:=unhide HM5
   exact ⟨hb6.os.trans (h5.os.trans (h4.os.trans h3.os)),hb6.tape.trans (h5.tape.trans (h4.tape.trans h3.tape)),hb6.output.trans (h5.output.trans (h4.output.trans h3.output)),by omega,fun b hb hq=>hk26 b hb (fun e=>hq (.inl e)) (fun e=>hq (.inr e))⟩
  have hE6:EngV (fun b=>o b=2*j+2) w6 (ps[j]?.getD (0,0)).1 zs' (N+128):=by
   rw [← unhide Heb]
   exact ((unhide HE4).kept hs5 (fun b hb hlt=>(unhide Hk5) b hlt (by omega))).kept hs6 (fun b _ hlt=>hb6.block b hlt)
  have hR6:RefV (fun b=>o b=2*j+3∨w4.heap.size≤b∧b<w5.heap.size) w6 (ps[j]?.getD (0,0)).2 zs':=by
   rw [← unhide Hfb]
   exact (unhide HR5).kept (fun b _ hlt=>hb6.block b hlt)
  have hz':ZOkV zs':=by
   exact (unhide Hz).applied (unhide HA4) (unhide Hargs).2.2.1.wf
  have hLb:∀ b,(Value.ownBlock (.slice (some ⟨ge,0,none⟩) (es.length+1) ce)=some b∨∃ x∈los,x.g=b)→w2.heap.size≤b∧b<w6.heap.size∧¬ (w4.heap.size≤b∧b<w5.heap.size):=fun b hb=>by
   have hL3:=unhide HL3
   have:w2.heap.size≤b∧b<w3.heap.size:=by
    rcases hb with hb|⟨x,hx,hb⟩
    ·have h1:=(own_block hL3.ents b hb).1
     obtain ⟨c,h2⟩:=own_type hL3.ents hb
     exact ⟨h1,heap_lt h2⟩
    ·have:=hL3.each.lt x hx
     omega
   omega
  obtain ⟨o',g1,g2⟩:=(unhide HLaw).keep (lo:=w4.heap.size) (hi:=w5.heap.size) (unhide Hj) (unhide Hpv) hcol.2.1 (unhide HSp) hcol.1 hcol.2.2 hM1 hK hLb (by omega) hs6 (Nat.le_add_right _ _) hE6 hR6 hz' (by omega)
  exact ⟨o',_,g1,Mid.after (unhide HB12) g2⟩
 have Hll:=hide hll
 clear hb6 hcol hk26 hS6 hL6 Hun hll u6
 go_wp2_with fail
 refine (unhide Hsp).mono ?_
 rintro e w7 ⟨hv7,hs7,rfl,hK,hlen⟩
 have HF7:=hide ((unhide Hfin) w7 hv7 hs7 hK)
 have Hlen:=hide hlen
 have hcq:(rc == rc)=true:=by simp
 have hkq:(rk == rk)=true:=by simp
 clear hK hlen Hsp Hfin
 go_wp2
 go_ret
 obtain ⟨o',zss',g1,g2⟩:=unhide HF7
 exact ⟨by simp,o',zss',hs7,g1,g2,by have:=unhide Hlen;have:=unhide Hll;omega⟩

end Go.Proofs.YtgddkjhknlgbbaaGreatDoor
