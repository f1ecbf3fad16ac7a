import Derived.Test.YtoifcnidhfnapaaGreatDoorP05
set_option linter.unusedVariables false
set_option linter.unusedSimpArgs false
namespace Go.Proofs.YtoifcnidhfnapaaGreatDoor
namespace K
open Go.RowKit Go.Maps
def Done (w:World) (B m:Nat) (v:Value) (es:List Ent):Prop:=
  ∃ g cap cur xs,v=.slice (some ⟨g,0,none⟩) xs.length cap∧B≤g∧g<m∧w.heap[g]? = some (.cells cur 64 (0,0))∧cur.toList.take (xs.length*3)=zgs xs∧zjs w xs∧xs.map (·.1)=es∧∀ p∈xs,B≤p.2
def BatsAt (w:World) (v:Value) (bs:List (List Ent)):Prop:=
  ∃ a cap,v=.slice a bs.length cap∧∀ i,i<bs.length→∃ b o sv,a=some ⟨b,o,none⟩∧w.cell? ⟨b,o+i,none⟩=some sv∧zh4 w sv (bs[i]?.getD [])
def zp8 (s:List (List Ent)×List Ent) (c:Int):List (List Ent)×List Ent:=
  if zcm (c.tdiv 7) 12<((s.2 ++ [entZ c]).length:Int) then (s.1 ++ [s.2 ++ [entZ c]],[]) else (s.1,s.2 ++ [entZ c])
def runB (codes:List Int):List (List Ent)×List Ent:=codes.foldl zp8 ([],[])
def zfr (codes:List Int):List (List Ent):=if 0<(runB (codes.take 400)).2.length then (runB (codes.take 400)).1 ++ [(runB (codes.take 400)).2] else (runB (codes.take 400)).1
theorem zuy {α:Type} {P:List α→Prop} (h0:P []) (hs:∀ l c,P l→P (l ++ [c])) (l:List α):P l:=by
  rw [← l.reverse_reverse]
  induction l.reverse with
  | nil=>exact h0
  | cons a t ih=>rw [List.reverse_cons];exact hs _ _ ih
theorem zg5 (l:List Int) (c:Int):runB (l ++ [c])=zp8 (runB l) c:=by simp [runB,List.foldl_append]
theorem zps (l:List Int):((runB l).1.map List.length).sum+(runB l).2.length=l.length∧(runB l).1.length≤l.length:=by
  refine zuy (P:=fun l=>((runB l).1.map List.length).sum+(runB l).2.length=l.length∧(runB l).1.length≤l.length) (by simp [runB]) (fun l c ih=>?_) l
  rw [zg5]
  unfold zp8
  split <;> simp at ih ⊢ <;> omega
def BInv (wr:World) (B:Nat) (vo vl:Value) (s:List (List Ent)×List Ent):Prop:=
  ∃ m xs vos,s.2=xs.map (·.1)∧wr.ownsRow m 64 3 vl xs.length (zgs xs)∧zjs wr xs∧(∀ p∈xs,B≤p.2)∧wr.ownsRow B 49 1 vo vos.length vos∧vos.length=s.1.length ∧
    (∀ j,j<vos.length→Done wr B m (vos[j]?.getD undef) (s.1[j]?.getD []))∧B≤m∧m≤wr.heap.size
theorem Done.kept {w w':World} {B m:Nat} {v:Value} {es:List Ent} {row:Option Nat} (h:Done w B m v es) (hg:w.grownBy w' row)
    (hrow:∀ j,row=some j→∃ cur t,w.heap[j]? = some (.cells cur t (0,0))∧t≠2∧(t=64→m≤j)):Done w' B m v es:=by
  obtain ⟨g,cap,cur,xs,rfl,h1,h2,h3,h4,h5,h6,h7⟩:=h
  have hlt:g<w.heap.size:=(Array.getElem?_eq_some_iff.1 h3).1
  refine ⟨g,cap,cur,xs,rfl,h1,h2,?_,h4,h5.kept hg (fun j e=>by obtain ⟨c,t,a,b,_⟩:=hrow j e;exact ⟨c,t,a,b⟩),h6,h7⟩
  rw [hg.block g hlt (fun e=>?_)]
  · exact h3
  · obtain ⟨c,t,a,b,d⟩:=hrow g e.symm
    rw [h3] at a
    cases a
    have:=d rfl
    omega
theorem Done.mono {w:World} {B m m':Nat} {v:Value} {es:List Ent} (h:Done w B m v es) (hm:m≤m'):Done w B m' v es:=by
  obtain ⟨g,cap,cur,xs,rfl,h1,h2,h3⟩:=h
  exact ⟨g,cap,cur,xs,rfl,h1,by omega,h3⟩
theorem BInv.below {w w':World} {B:Nat} {vo vl:Value} {s:List (List Ent)×List Ent} (h:BInv w B vo vl s) (hb:Below w.heap.size w w'):BInv w' B vo vl s:=by
  obtain ⟨m,xs,vos,h1,h2,h3,h4,h5,h6,h7,h8,h9⟩:=h
  have hg:=zcl hb none
  exact ⟨m,xs,vos,h1,h2.kept hg (by cases hx:vl.ownBlock <;> simp),h3.kept hg (fun j e=>by cases e),h4,h5.kept hg (by cases hx:vo.ownBlock <;> simp),h6,fun j hj=>(h7 j hj).kept hg (fun j e=>by cases e),h8,Nat.le_trans h9 hb.size⟩
theorem BInv.more {w w':World} {B m:Nat} {vo vl vl':Value} {s:List (List Ent)×List Ent} {xs:List (Ent×Nat)} {vos:List Value} {x:Ent} {b:Nat}
    (h1:s.2=xs.map (·.1)) (h2:w.ownsRow m 64 3 vl xs.length (zgs xs)) (h3:zjs w xs) (h4:∀ p∈xs,B≤p.2) (h5:w.ownsRow B 49 1 vo vos.length vos) (h6:vos.length=s.1.length)
    (h7:∀ j,j<vos.length→Done w B m (vos[j]?.getD undef) (s.1[j]?.getD [])) (h8:B≤m) (h9:m≤w.heap.size)
    (hb:w.heap[b]? = some (.cells (x.row.map (Value.int .i64)).toArray 2 (0,0))) (hbB:B≤b)
    (ho:w'.ownsRow m 64 3 vl' (xs.length+1) (zgs xs ++ entL (x,b))) (hg:w.grownBy w' vl.ownBlock):BInv w' B vo vl' (s.1,s.2 ++ [x]):=by
  have hrow:∀ j,vl.ownBlock=some j→∃ cur t,w.heap[j]? = some (.cells cur t (0,0))∧t≠2∧(t=64→m≤j):=fun j e=>by
    obtain ⟨a,cur,c⟩:=zdx h2 j e
    exact ⟨cur,64,c,by decide,fun _=>a⟩
  have hrow2:∀ j,vl.ownBlock=some j→∃ cur t,w.heap[j]? = some (.cells cur t (0,0))∧t≠2:=fun j e=>by
    obtain ⟨cur,t,a,b,_⟩:=hrow j e
    exact ⟨cur,t,a,b⟩
  refine ⟨m,xs ++ [(x,b)],vos,by simp [h1],?_,?_,?_,?_,h6,fun j hj=>(h7 j hj).kept hg hrow,h8,Nat.le_trans h9 hg.size⟩
  · rw [zth,List.length_append];exact ho
  · intro p hp
    rcases List.mem_append.1 hp with hp|hp
    · exact h3.kept hg hrow2 p hp
    · simp at hp;subst hp
      exact (show zjs w [(x,b)] from fun p hp=>by simp at hp;subst hp;exact hb).kept hg hrow2 (x,b) (by simp)
  · intro p hp
    rcases List.mem_append.1 hp with hp|hp
    · exact h4 p hp
    · simp at hp;subst hp;exact hbB
  · refine h5.kept hg ?_
    cases hvo:vo.ownBlock with
    | none=>exact Or.inl rfl
    | some j =>
      refine Or.inr (fun e=>?_)
      obtain ⟨_,cur,c⟩:=zdx h5 j hvo
      obtain ⟨_,cur',c'⟩:=zdx h2 j e.symm
      rw [c] at c'
      cases c'
theorem BInv.shut {w w':World} {B m:Nat} {vo vo' vl:Value} {s:List (List Ent)×List Ent} {xs:List (Ent×Nat)} {vos:List Value}
    (h1:s.2=xs.map (·.1)) (h2:w.ownsRow m 64 3 vl xs.length (zgs xs)) (h3:zjs w xs) (h4:∀ p∈xs,B≤p.2) (h5:w.ownsRow B 49 1 vo vos.length vos) (h6:vos.length=s.1.length)
    (h7:∀ j,j<vos.length→Done w B m (vos[j]?.getD undef) (s.1[j]?.getD [])) (h8:B≤m) (h9:m≤w.heap.size) (hx:0<xs.length)
    (ho:w'.ownsRow B 49 1 vo' (vos.length+1) (vos ++ [vl])) (hg:w.grownBy w' vo.ownBlock):BInv w' B vo' (.slice none 0 0) (s.1 ++ [s.2],[]):=by
  have hrow:∀ j,vo.ownBlock=some j→∃ cur t,w.heap[j]? = some (.cells cur t (0,0))∧t≠2∧(t=64→m≤j):=fun j e=>by
    obtain ⟨a,cur,c⟩:=zdx h5 j e
    exact ⟨cur,49,c,by decide,fun e=>by cases e⟩
  have hrow3:∀ j,vo.ownBlock=some j→∃ cur t,w.heap[j]? = some (.cells cur t (0,0))∧t≠2∧(t=64→w.heap.size≤j):=fun j e=>by
    obtain ⟨a,cur,c⟩:=zdx h5 j e
    exact ⟨cur,49,c,by decide,fun e=>by cases e⟩
  have hd:Done w B w.heap.size vl s.2:=by
    rcases h2.2 with ⟨_,h0⟩|⟨g,cap,cur,rfl,hb,hgh,_,_,_,ht⟩
    · omega
    · exact ⟨g,cap,cur,xs,rfl,by omega,(Array.getElem?_eq_some_iff.1 hgh).1,hgh,ht,h3,h1.symm,h4⟩
  refine ⟨w.heap.size,[],vos ++ [vl],rfl,World.ownsRow_nil _ _ _ _,fun p hp=>by simp at hp,fun p hp=>by simp at hp,by simpa using ho,by simp [h6],fun j hj=>?_,by omega,hg.size⟩
  by_cases e:j<vos.length
  · have h:=((h7 j e).mono h9).kept hg hrow3
    rw [List.getElem?_append_left e,List.getElem?_append_left (by omega)]
    exact h
  · have:j=vos.length:=by simp at hj;omega
    subst this
    rw [List.getElem?_append_right (Nat.le_refl _),h6,List.getElem?_append_right (Nat.le_refl _)]
    simp
    exact hd.kept hg hrow3
def zrk (w:World) (B:Nat) (v:Value) (bs:List (List Ent)):Prop:=
  ∃ a cap,v=.slice a bs.length cap∧bs.length≤cap∧∀ i,i<bs.length→∃ b sv m,a=some ⟨b,0,none⟩∧B≤b∧w.cell? ⟨b,i,none⟩=some sv∧Done w B m sv (bs[i]?.getD [])∧∃ cur,w.heap[b]? = some (.cells cur 49 (0,0))
theorem BInv.bats {w:World} {B:Nat} {vo vl:Value} {s:List (List Ent)×List Ent} (h:BInv w B vo vl s):zrk w B vo s.1:=by
  obtain ⟨m,xs,vos,h1,h2,h3,h4,h5,h6,h7,h8,h9⟩:=h
  rcases h5.2 with ⟨rfl,h0⟩|⟨g,cap,cur,rfl,hb,hg,hcap,_,_,ht⟩
  · refine ⟨none,0,by rw [← h6,h0],by omega,fun i hi=>?_⟩
    omega
  · refine ⟨some ⟨g,0,none⟩,cap,by rw [h6],by omega,fun i hi=>?_⟩
    refine ⟨g,vos[i]?.getD undef,m,rfl,hb,?_,h7 i (by omega),cur,hg⟩
    have hi':i<vos.length:=by omega
    rw [zab hg]
    have:cur.toList[i]? = vos[i]?:=by rw [← ht,List.getElem?_take_of_lt (by omega)]
    rw [← Array.getElem?_toList,this]
    simp [hi']
theorem tdiv_bd (c:Int) (h1:-9223372036854775808≤c) (h2:c≤9223372036854775807):-9223372036854775808≤c.tdiv 7∧c.tdiv 7≤9223372036854775807:=by
  by_cases h:0≤c
  · rw [Int.tdiv_eq_ediv_of_nonneg h];omega
  · obtain ⟨d,rfl⟩:∃ d,c=-d:=⟨-c,by omega⟩
    rw [Int.neg_tdiv,Int.tdiv_eq_ediv_of_nonneg (by omega)];omega
theorem ya6 {s:List (List Ent)×List Ent} {c:Int} {x:Ent} {n:Nat} (hx:x=entZ c) (hn:s.2.length=n) (h:zcm (c.tdiv 7) 12<(n:Int)+1):zp8 s c=(s.1 ++ [s.2 ++ [x]],[]):=by
  unfold zp8
  rw [if_pos (by simp;omega),hx]
theorem stepB_no {s:List (List Ent)×List Ent} {c:Int} {x:Ent} {n:Nat} (hx:x=entZ c) (hn:s.2.length=n) (h:¬ zcm (c.tdiv 7) 12<(n:Int)+1):zp8 s c=(s.1,s.2 ++ [x]):=by
  unfold zp8
  rw [if_neg (by simp;omega),hx]
set_option maxRecDepth 100000 in
set_option maxHeartbeats 1000000 in
theorem bats_any (v:Value) (codes:List Int) (w:World) (hv:zbm w v codes) (hl:codes.length≤9223372036854775807) (hb:∀ c∈codes,-9223372036854775808≤c∧c≤9223372036854775807) :
    Calls Tryz.prog 18 #[v] w fun e w'=>∃ u,e=.returned u∧zrk w' w.heap.size u (zfr codes)∧Below w.heap.size w w':=by
  obtain ⟨a,cap,rfl,hc⟩:=hv
  have Hc:=hide hc
  have Hb:=hide hb
  clear hc hb
  obtain ⟨i39,hi,hz0,hz1,hz2⟩:=info_parts Tryz.info64
  obtain ⟨i36,gi,gz0,gz1,gz2⟩:=info_parts Tryz.info49
  go_enter Tryz.func18,Tryz.ntmps18
  go_wp2
  go_loopw [3,4,5] (fun vo vl i wr=>∃ k:Nat,k≤codes.length∧k≤400∧i=.int .i64 k∧BInv wr w.heap.size vo vl (runB (codes.take k))∧Below w.heap.size w wr) (fun _ _ i _=>400 - (intOf i).toNat)
  case atStart =>
    exact ⟨0,Nat.zero_le _,Nat.zero_le _,rfl,⟨w.heap.size,[],[],rfl,World.ownsRow_nil _ _ _ _,fun p hp=>by simp at hp,fun p hp=>by simp at hp,World.ownsRow_nil _ _ _ _,rfl,fun j hj=>by simp at hj,Nat.le_refl _,Nat.le_refl _⟩,Below.refl _ _⟩
  case round =>
    obtain ⟨k,hk,hk4,rfl,hI,hB⟩:=hrel
    by_cases hlt:k<codes.length∧k<400
    · obtain ⟨hlt,hlt4⟩:=hlt
      obtain ⟨b,o,rfl,hcell⟩:=(zaa Hc) k hlt
      have hx:(k:Int)<(codes.length:Int):=by omega
      have hx4:(k:Int)<400:=by omega
      have hbl:b<w.heap.size:=World.block_lt_of_cell? w _ hcell
      obtain ⟨c,hce⟩:∃ c,c=codes[k]?.getD 0:=⟨_,rfl⟩
      rw [← hce] at hcell
      rw [← hB.cell (p:=⟨b,_,none⟩) hbl] at hcell
      have hcb:-9223372036854775808≤c∧c≤9223372036854775807:=by rw [hce];simp [hlt];exact (zaa Hb) _ (List.getElem_mem hlt)
      have htk:codes.take (k+1)=codes.take k ++ [c]:=by rw [List.take_succ_eq_append_getElem hlt,hce];simp [hlt]
      have Htk:=hide htk
      have HI:=hide hI
      have HB:=hide hB
      have hBs:=hB.size
      clear hce htk hI hB
      go_wp2_with fail
      refine (ybc c _ hcb.1 hcb.2).mono ?_
      rintro e w1 ⟨rb,rfl,hrb,hrow,hb1⟩
      have hI1:=(zaa HI).below hb1
      have HB1:=hide ((zaa HB).trans (hb1.mono hBs))
      have hcell1:w1.cell? ⟨b,o+k,none⟩=some (.int .i64 c):=by rw [hb1.cell (p:=⟨b,_,none⟩) (show b<_ by omega)];exact hcell
      have hs1:=hb1.size
      have hcnt:=zps (codes.take k)
      have hkk:(codes.take k).length≤400:=by simp;omega
      obtain ⟨x,hxz⟩:∃ x,x=entZ c:=⟨_,rfl⟩
      rw [← hxz] at hrow ⊢
      have Hx:=hide hxz
      clear hxz hcell
      obtain ⟨nm,row,wt⟩:=x
      rw [entL_val]
      dsimp only at hrow ⊢
      have hI2:=(hI1.below ((Below.refl _ _).alloc (Nat.le_refl _) (.cells #[.string nm,.slice (some ⟨rb,0,none⟩) row.length row.length,.int .i64 wt] 64))).below ((Below.refl _ _).alloc (Nat.le_refl _) (.cells #[.string nm,.slice (some ⟨rb,0,none⟩) row.length row.length,.int .i64 wt] 64))
      obtain ⟨m,xs,vos,h1,h2,h3,h4,h5,h6,h7,h8,h9⟩:=hI2
      have hnew:=zoi (w1.alloc (.cells #[.string nm,.slice (some ⟨rb,0,none⟩) row.length row.length,.int .i64 wt] 64)) (.string nm) (.slice (some ⟨rb,0,none⟩) row.length row.length) (.int .i64 wt) 64
      rw [World.size_alloc] at hnew
      have hxl:xs.length≤400:=by
        have:=congrArg List.length h1
        simp at this
        omega
      have hvl:vos.length≤400:=by omega
      have hrb2:((w1.alloc (.cells #[.string nm,.slice (some ⟨rb,0,none⟩) row.length row.length,.int .i64 wt] 64)).alloc (.cells #[.string nm,.slice (some ⟨rb,0,none⟩) row.length row.length,.int .i64 wt] 64)).heap[rb]? = some (.cells (row.map (Value.int .i64)).toArray 2 (0,0)):=by
        have hlt:rb<w1.heap.size:=(Array.getElem?_eq_some_iff.1 hrow).1
        rw [Below.heap_alloc _ _ _ (by simp;omega),Below.heap_alloc _ _ _ hlt]
        exact hrow
      have hcell2:((w1.alloc (.cells #[.string nm,.slice (some ⟨rb,0,none⟩) row.length row.length,.int .i64 wt] 64)).alloc (.cells #[.string nm,.slice (some ⟨rb,0,none⟩) row.length row.length,.int .i64 wt] 64)).cell? ⟨b,o+k,none⟩=some (.int .i64 c):=by
        rw [World.cell?_of_block (a:=⟨b,o+k,none⟩) (Below.heap_alloc _ _ _ (show b<_ by simp;omega)),World.cell?_of_block (a:=⟨b,o+k,none⟩) (Below.heap_alloc _ _ _ (show b<_ by omega))]
        exact hcell1
      have H1:=hide h1
      have H2:=hide h2
      have H3:=hide h3
      have H4:=hide h4
      have H5:=hide h5
      have H6:=hide h6
      have H7:=hide h7
      have Hrb2:=hide hrb2
      have Hcell2:=hide hcell2
      clear h1 h3 h4 h5 h6 h7 hrow hI1 hcnt hkk hb1 hrb2 hcell1 hcell2
      go_wp2_with (first
        | (at_builtin;refine wpList_append_own_at _ rfl _ _ 49 rfl m 64 i39 _ 3 48 Tryz.underlying49 hi hz0 hz1 hz2 rfl (by decide) _ _ _ rfl (zaa H2) ⟨w1.heap.size+1,0,none⟩ 1 1 [.string nm,.slice (some ⟨rb,0,none⟩) row.length row.length,.int .i64 wt] rfl rfl hnew (by simp [Value.oneCell']) (by unfold maxLen;omega) (by omega) h9 ?_;intro vl' w2 ho hgr hnil hloc;obtain ⟨g',cap',rfl⟩:=zfo ho
           have hI3:=BInv.more (x:=⟨nm,row,wt⟩) (b:=rb) (zaa H1) (zaa H2) (zaa H3) (zaa H4) (zaa H5) (zaa H6) (zaa H7) h8 h9 (zaa Hrb2) (by omega) ho hgr
           have hcell3:w2.cell? ⟨b,o+k,none⟩=some (.int .i64 c):=(World.cell?_of_block (a:=⟨b,o+k,none⟩) (hgr.block b (show b<_ by simp;omega) (fun e=>by have:=(zdx (zaa H2) b e.symm).1;omega))).trans (zaa Hcell2)
           have HI3:=hide hI3
           have HB3:=hide ((((zaa HB1).alloc (by omega) (.cells #[.string nm,.slice (some ⟨rb,0,none⟩) row.length row.length,.int .i64 wt] 64)).alloc (by simp;omega) (.cells #[.string nm,.slice (some ⟨rb,0,none⟩) row.length row.length,.int .i64 wt] 64)).grown hgr (by simp;omega) (fun j e=>by have:=(zdx (zaa H2) j e).1;omega))
           have hsz3:=hgr.size
           clear hI3 ho hgr hnil hloc h2 hnew))
      have htd:=tdiv_bd c hcb.1 hcb.2
      have hpr:=zdg (c.tdiv 7) 12 (by omega)
      refine (zjl _ 12 _ htd.1 htd.2 (by omega) (by omega)).mono ?_
      rintro e w2' ⟨rfl,hw2⟩
      subst hw2
      have hsl:(runB (codes.take k)).2.length=xs.length:=by rw [zaa H1];simp
      obtain ⟨pq,hpq⟩:∃ pq,pq=zcm (c.tdiv 7) 12:=⟨_,rfl⟩
      rw [← hpq] at hpr ⊢
      have Hpq:=hide hpq
      clear hpq htd
      by_cases hlen:pq<(xs.length:Int)+1
      · have Hst:=hide (ya6 (zaa Hx) hsl (by rw [← zaa Hpq];exact hlen))
        have hI4:=(zaa HI3).below ((Below.refl _ _).alloc (Nat.le_refl _) (.cells #[.slice (some ⟨g',0,none⟩) (xs.length+1) cap'] 49))
        have hnew4:=zgc w2' (.slice (some ⟨g',0,none⟩) (xs.length+1) cap') 49
        have HB4:=hide ((zaa HB3).alloc (by have:=(zaa HB3).size;omega) (.cells #[.slice (some ⟨g',0,none⟩) (xs.length+1) cap'] 49))
        obtain ⟨m',xs',vos',k1,k2,k3,k4,k5,k6,k7,k8,k9⟩:=hI4
        have hxl':0<xs'.length:=by
          have:=congrArg List.length k1
          simp at this
          omega
        have hvl':vos'.length≤400:=by
          dsimp only at k6
          have:=zaa H6
          omega
        have K1:=hide k1
        have K2:=hide k2
        have K3:=hide k3
        have K4:=hide k4
        have K5:=hide k5
        have K6:=hide k6
        have K7:=hide k7
        clear k1 k2 k3 k4 k5 k6 k7
        go_wp2_with (first
          | (at_builtin;refine wpList_append_own_at _ rfl _ _ 32 rfl w.heap.size 49 i36 _ 1 24 Tryz.underlying32 gi gz0 gz1 gz2 rfl (by decide) _ _ _ rfl (zaa K5) ⟨w2'.heap.size,0,none⟩ 1 1 [.slice (some ⟨g',0,none⟩) (xs.length+1) cap'] rfl rfl hnew4 (by simp [Value.oneCell']) (by unfold maxLen;omega) (by omega) (by omega) ?_;intro vo' w5 ho5 hgr5 hnil5 hloc5))
        have hI5:=BInv.shut (s:=((runB (codes.take k)).1,(runB (codes.take k)).2 ++ [⟨nm,row,wt⟩])) (zaa K1) (zaa K2) (zaa K3) (zaa K4) (zaa K5) (zaa K6) (zaa K7) k8 k9 hxl' ho5 hgr5
        have HI5:=hide hI5
        have HB5:=hide ((zaa HB4).grown hgr5 (zaa HB4).size (fun j e=>(zdx (zaa K5) j e).1))
        clear hI5 ho5 hgr5 hnil5 hloc5 hnew4
        go_wp2
        refine ⟨⟨k+1,by omega,by omega,by go_num,?_,zaa HB5⟩,by simp [intOf];omega⟩
        rw [zaa Htk,zg5,zaa Hst]
        exact zaa HI5
      · have Hst:=hide (stepB_no (zaa Hx) hsl (by rw [← zaa Hpq];exact hlen))
        go_wp2
        refine ⟨⟨k+1,by omega,by omega,by go_num,?_,zaa HB3⟩,by simp [intOf];omega⟩
        rw [zaa Htk,zg5,zaa Hst]
        exact zaa HI3
    · have htk:codes.take 400=codes.take k:=by
        by_cases h:k<codes.length
        · have:k=400:=by omega
          rw [this]
        · rw [List.take_of_length_le (by omega),List.take_of_length_le (by omega)]
      have Htk:=hide htk
      obtain ⟨m,xs,vos,h1,h2,h3,h4,h5,h6,h7,h8,h9⟩:=hI
      have hcnt:=zps (codes.take k)
      have hkk:(codes.take k).length≤400:=by simp;omega
      have hsl:(runB (codes.take k)).2.length=xs.length:=by rw [h1];simp
      have hvl:vos.length≤400:=by omega
      have hxl:xs.length≤400:=by omega
      have hbs:=hB.size
      have HB:=hide hB
      obtain ⟨a4,cap4,rfl⟩:∃ a4 cap4,u4=.slice a4 xs.length cap4:=by
        rcases h2.2 with ⟨rfl,h0⟩|⟨g,cap,_,rfl,_⟩
        · exact ⟨none,0,by rw [h0]⟩
        · exact ⟨_,_,rfl⟩
      by_cases hx0:0<xs.length
      · have hz:Hid (zfr codes=(runB (codes.take k)).1 ++ [(runB (codes.take k)).2]):=by
          unfold Hid zfr;rw [htk,if_pos (by omega)]
        have hI4:BInv (wr.alloc (.cells #[.slice a4 xs.length cap4] 49)) w.heap.size u3 (.slice a4 xs.length cap4) (runB (codes.take k)):=BInv.below ⟨m,xs,vos,h1,h2,h3,h4,h5,h6,h7,h8,h9⟩ ((Below.refl _ _).alloc (Nat.le_refl _) _)
        have hnew4:=zgc wr (.slice a4 xs.length cap4) 49
        have HB4:=hide (hB.alloc hbs (.cells #[.slice a4 xs.length cap4] 49))
        obtain ⟨m',xs',vos',k1,k2,k3,k4,k5,k6,k7,k8,k9⟩:=hI4
        have hxl':0<xs'.length:=by
          have:=congrArg List.length k1
          simp at this
          omega
        have hvl':vos'.length≤400:=by omega
        have K1:=hide k1
        have K2:=hide k2
        have K3:=hide k3
        have K4:=hide k4
        have K5:=hide k5
        have K6:=hide k6
        have K7:=hide k7
        have hx0':(0:Int)<(xs.length:Int):=by omega
        clear k1 k2 k3 k4 k5 k6 k7 h1 h2 h3 h4 h5 h6 h7 hcnt hkk hsl htk hB hvl h8 h9
        have hcase:(codes.length:Int)≤k∨((k:Int)<codes.length∧(400:Int)≤k):=by omega
        rcases hcase with hc1|⟨hc1,hc2⟩
        all_goals
          go_wp2_with (first
            | (at_builtin;refine wpList_append_own_at _ rfl _ _ 32 rfl w.heap.size 49 i36 _ 1 24 Tryz.underlying32 gi gz0 gz1 gz2 rfl (by decide) _ _ _ rfl (zaa K5) ⟨wr.heap.size,0,none⟩ 1 1 [.slice a4 xs.length cap4] rfl rfl hnew4 (by simp [Value.oneCell']) (by unfold maxLen;omega) (by omega) (by simp;omega) ?_;intro vo' w5 ho5 hgr5 hnil5 hloc5))
          have hI5:=BInv.shut (zaa K1) (zaa K2) (zaa K3) (zaa K4) (zaa K5) (zaa K6) (zaa K7) k8 k9 hxl' ho5 hgr5
          have HI5:=hide hI5.bats
          have HB5:=hide ((zaa HB4).grown hgr5 (zaa HB4).size (fun j e=>(zdx (zaa K5) j e).1))
          clear hI5 ho5 hgr5 hnil5 hloc5
          go_wp2
          go_ret
          refine ⟨vo',rfl,?_,zaa HB5⟩
          rw [zaa hz]
          exact zaa HI5
      · have hz:Hid (zfr codes=(runB (codes.take k)).1):=by
          unfold Hid zfr;rw [htk,if_neg (by omega)]
        have HI4:Hid (zrk wr w.heap.size u3 (runB (codes.take k)).1):=BInv.bats ⟨m,xs,vos,h1,h2,h3,h4,h5,h6,h7,h8,h9⟩
        have hx0':¬ (0:Int)<(xs.length:Int):=by omega
        clear h1 h2 h3 h4 h5 h6 h7 hcnt hkk hsl htk hB hvl h8 h9
        have hcase:(codes.length:Int)≤k∨((k:Int)<codes.length∧(400:Int)≤k):=by omega
        rcases hcase with hc1|⟨hc1,hc2⟩
        all_goals
          go_wp2
          go_ret
          refine ⟨u3,rfl,?_,zaa HB⟩
          rw [zaa hz]
          exact zaa HI4
def nums:List Int:=[0,1,top,bot]
def zdt:List Row:=nums.flatMap fun a=>nums.map fun b=>(a,b,0)
def zhz:List Row:=nums.map fun a=>(a,0,0)
theorem zq1:zdt.length=16:=rfl
theorem zyh:zhz.length=4:=rfl
theorem zbj (c:Int):numZ c∈nums:=by
 unfold numZ numT nums
 split
 ·simp
 ·split
  ·simp
  ·split <;> simp
theorem zb1 {a:Int} (h:a∈nums):wfI a:=by
 unfold nums top bot at h
 simp at h
 rcases h with rfl|rfl|rfl|rfl <;> (unfold wfI;decide)
theorem zca:wfI 0:=by unfold wfI;decide
theorem zrw {a b:Int} (ha:a∈nums) (hb:b∈nums):((a,b,0):Row)∈zdt:=by
 unfold zdt
 exact List.mem_flatMap.2 ⟨a,ha,List.mem_map.2 ⟨b,hb,rfl⟩⟩
theorem yab {a:Int} (ha:a∈nums):((a,0,0):Row)∈zhz:=List.mem_map.2 ⟨a,ha,rfl⟩
structure Fine (x:Ent):Prop where
 name:(x.nm=nmR∧x.row.length=2∧zbx x.row∈zdt)∨(x.nm=nmS∧x.row.length=2∧zbx x.row∈zdt)∨(x.nm=nmT∧x.row.length=1∧zbx x.row∈zhz)
 wf:zav (zbx x.row)
 lo:-2≤x.wt
 hi:x.wt≤2
theorem zz9 (c:Int):Fine (entZ c):=by
 have h5:0≤entC c % 5∧entC c % 5<5:=⟨Int.emod_nonneg _ (by omega),Int.emod_lt_of_pos _ (by omega)⟩
 unfold entZ
 split
 ·exact ⟨Or.inl ⟨rfl,rfl,zrw (zbj _) (zbj _)⟩,⟨zb1 (zbj _),zb1 (zbj _),zca⟩,by dsimp only;omega,by dsimp only;omega⟩
 ·split
  ·exact ⟨Or.inr (Or.inl ⟨rfl,rfl,zrw (zbj _) (zbj _)⟩),⟨zb1 (zbj _),zb1 (zbj _),zca⟩,by dsimp only;omega,by dsimp only;omega⟩
  ·exact ⟨Or.inr (Or.inr ⟨rfl,rfl,yab (zbj _)⟩),⟨zb1 (zbj _),zca,zca⟩,by dsimp only;omega,by dsimp only;omega⟩
theorem Fine.good {x:Ent} (h:Fine x):zm6 x:=by
 refine ⟨?_,?_,h.wf,by have:=h.lo;omega,by have:=h.hi;omega⟩
 ·rcases h.name with ⟨e,_⟩|⟨e,_⟩|⟨e,_⟩ <;> (rw [e];decide)
 ·rcases h.name with ⟨_,e,_⟩|⟨_,e,_⟩|⟨_,e,_⟩ <;> omega
theorem zt1 (a b:List Ent) (nm:ByteArray) (r:Row):sumE (a ++ b) nm r=sumE a nm r+sumE b nm r:=by
 induction a with
 | nil=>simp [sumE]
 | cons x xs ih=>simp only [List.cons_append,sumE,ih];omega
theorem zob {es:List Ent} (h:∀ x∈es,Fine x) (nm:ByteArray) (r:Row):-(2*(es.length:Int))≤sumE es nm r∧sumE es nm r≤2*(es.length:Int):=by
 induction es with
 | nil=>simp [sumE]
 | cons y ys ih =>
  have h1:=ih (fun x hx=>h x (List.mem_cons_of_mem _ hx))
  have h2:=(h y (List.mem_cons_self)).lo
  have h3:=(h y (List.mem_cons_self)).hi
  simp only [sumE,List.length_cons]
  split <;> omega
theorem ya8 {es:List Ent} {nm:ByteArray} {r:Row} (h:sumE es nm r≠0):∃ x∈es,x.nm=nm∧zbx x.row=r:=by
 induction es with
 | nil=>simp [sumE] at h
 | cons y ys ih =>
  by_cases e:y.nm=nm∧zbx y.row=r
  ·exact ⟨y,List.mem_cons_self,e⟩
  ·simp only [sumE,if_neg e] at h
   obtain ⟨x,hx,h2⟩:=ih (by omega)
   exact ⟨x,List.mem_cons_of_mem _ hx,h2⟩
theorem zfx {es:List Ent} (hf:∀ x∈es,Fine x) {nm:ByteArray} {r:Row} (h:sumE es nm r≠0):(nm=nmR→r∈zdt)∧(nm=nmS→r∈zdt)∧(nm=nmT→r∈zhz):=by
 obtain ⟨x,hx,hn,hr⟩:=ya8 h
 have hx:=(hf x hx).name
 rw [hn,hr] at hx
 refine ⟨fun e=>?_,fun e=>?_,fun e=>?_⟩
 ·subst e
  rcases hx with ⟨_,_,h⟩|⟨e,_⟩|⟨e,_⟩
  ·exact h
  ·exact absurd e nmRS
  ·exact absurd e nmRT
 ·subst e
  rcases hx with ⟨e,_⟩|⟨_,_,h⟩|⟨e,_⟩
  ·exact absurd e.symm nmRS
  ·exact h
  ·exact absurd e nmST
 ·subst e
  rcases hx with ⟨e,_⟩|⟨e,_⟩|⟨_,_,h⟩
  ·exact absurd e.symm nmRT
  ·exact absurd e.symm nmST
  ·exact h
structure Tame (R:Rel) (ar cnt:Nat) (G:List Row):Prop where
 ar_:R.ar=ar
 n_:R.n≤2*cnt
 lo:∀ r,zav r→-(2*(cnt:Int))≤R.f r
 hi:∀ r,zav r→R.f r≤2*(cnt:Int)
 supp:∀ r,zav r→R.f r≠0→r∈G
def zao (R:Rel) (es:List Ent) (nm:ByteArray):Rel:={ R with n:=R.n+2*es.length,f:=fun r=>R.f r+sumE es nm r }
theorem zzs (R S T:Rel) (es:List Ent):zw4 (st3 R S T) es=st3 (zao R es nmR) (zao S es nmS) (zao T es nmT):=by
 funext nm
 unfold zw4
 by_cases h1:nm=nmR
 ·subst h1;rw [zsj,zsj];rfl
 ·by_cases h2:nm=nmS
  ·subst h2;rw [zrr,zrr];rfl
  ·by_cases h3:nm=nmT
   ·subst h3;rw [zyc,zyc];rfl
   ·rw [zo0 h1 h2 h3,zo0 h1 h2 h3];rfl
theorem Tame.add {R:Rel} {ar cnt:Nat} {G:List Row} (h:Tame R ar cnt G) {es:List Ent} (hf:∀ x∈es,Fine x) {nm:ByteArray} (hG:∀ r,sumE es nm r≠0→r∈G):Tame (zao R es nm) ar (cnt+es.length) G:=by
 refine ⟨h.ar_,?_,fun r hr=>?_,fun r hr=>?_,fun r hr h0=>?_⟩
 ·have:=h.n_;simp only [zao];omega
 ·have h1:=h.lo r hr;have h2:=(zob hf nm r).1;simp only [zao];push_cast;omega
 ·have h1:=h.hi r hr;have h2:=(zob hf nm r).2;simp only [zao];push_cast;omega
 ·simp only [zao] at h0
  by_cases e:R.f r=0
  ·exact hG r (by omega)
  ·exact h.supp r hr e
theorem Tame.start {R:Rel} {ar:Nat} (h:znb R ar) (G:List Row):Tame R ar 0 G:=by
 obtain ⟨h1,h2,h3⟩:=h
 exact ⟨h1,by omega,fun r _=>by rw [h3];simp,fun r _=>by rw [h3];simp,fun r _ h0=>by rw [h3] at h0;exact absurd rfl h0⟩
theorem zy3 (l:List Int):(runB l).1.flatten ++ (runB l).2=l.map entZ:=by
 refine zuy (P:=fun l=>(runB l).1.flatten ++ (runB l).2=l.map entZ) (by simp [runB]) (fun l c ih=>?_) l
 rw [zg5]
 unfold zp8
 split
 ·simp only [List.flatten_append,List.flatten_cons,List.flatten_nil,List.append_nil,List.map_append,List.map_cons,List.map_nil]
  rw [← List.append_assoc,ih]
 ·simp only [List.map_append,List.map_cons,List.map_nil]
  rw [← List.append_assoc,ih]
theorem zw8 (l:List Int):(∀ b∈(runB l).1,b.length≤12)∧(runB l).2.length≤11:=by
 refine zuy (P:=fun l=>(∀ b∈(runB l).1,b.length≤12)∧(runB l).2.length≤11) (by simp [runB]) (fun l c ih=>?_) l
 rw [zg5]
 have hp:=zdg (c.tdiv 7) 12 (by omega)
 unfold zp8
 split
 ·refine ⟨fun b hb=>?_,by simp⟩
  rcases List.mem_append.1 hb with hb|hb
  ·exact ih.1 b hb
  ·simp at hb;subst hb;simp;omega
 ·rename_i h
  refine ⟨ih.1,?_⟩
  simp at h ⊢
  omega
theorem zow (codes:List Int):(zfr codes).flatten=(codes.take 400).map entZ:=by
 have h:=zy3 (codes.take 400)
 unfold zfr
 split
 ·rw [← h];simp
 ·rename_i h0
  have:(runB (codes.take 400)).2=[]:=List.eq_nil_of_length_eq_zero (by omega)
  rw [this] at h
  simpa using h
theorem zug (codes:List Int):∀ b∈zfr codes,b.length≤12:=by
 have h:=zw8 (codes.take 400)
 unfold zfr
 split
 ·intro b hb
  rcases List.mem_append.1 hb with hb|hb
  ·exact h.1 b hb
  ·simp at hb;subst hb;omega
 ·exact h.1
theorem zxs (codes:List Int):∀ b∈zfr codes,∀ x∈b,Fine x:=by
 intro b hb x hx
 have:x∈(zfr codes).flatten:=List.mem_flatten.2 ⟨b,hb,hx⟩
 rw [zow] at this
 obtain ⟨c,_,rfl⟩:=List.mem_map.1 this
 exact zz9 c
end K
end Go.Proofs.YtoifcnidhfnapaaGreatDoor
namespace Go.Proofs.YtoifcnidhfnapaaGreatDoor
open Go.RowKit Go.Maps
def cmpI (x y:Int):Int:=if x<y then -1 else if y<x then 1 else 0
set_option maxHeartbeats 400000 in
theorem zte (x:Int) (w:World):Calls Tryz.prog 277 #[.int .i64 x] w fun e w'=>e=.returned (.bool false)∧w'=w:=by
 have h:(x != x)=false:=by simp
 go_enter Tryz.func277,Tryz.ntmps277
 go_wp2
 go_ret
 exact ⟨by simp,rfl⟩
set_option maxHeartbeats 400000 in
theorem zyo (x y:Int) (w:World):Calls Tryz.prog 249 #[.int .i64 x,.int .i64 y] w fun e w'=>e=.returned (.int .i64 (cmpI x y))∧w'=w:=by
 by_cases h1:x<y
 ·have e:Hid (cmpI x y=-1):=by unfold Hid cmpI;rw [if_pos h1]
  go_enter Tryz.func249,Tryz.ntmps249
  go_wp2_with (first|(go_at_call 277;refine (zte _ _).mono ?_;rintro e w' ⟨rfl,rfl⟩))
  go_ret
  exact ⟨zdi e.out.symm,rfl⟩
 ·by_cases h2:y<x
  ·have e:Hid (cmpI x y=1):=by unfold Hid cmpI;rw [if_neg h1,if_pos h2]
   go_enter Tryz.func249,Tryz.ntmps249
   go_wp2_with (first|(go_at_call 277;refine (zte _ _).mono ?_;rintro e w' ⟨rfl,rfl⟩))
   go_ret
   exact ⟨zdi e.out.symm,rfl⟩
  ·have e:Hid (cmpI x y=0):=by unfold Hid cmpI;rw [if_neg h1,if_neg h2]
   go_enter Tryz.func249,Tryz.ntmps249
   go_wp2_with (first|(go_at_call 277;refine (zte _ _).mono ?_;rintro e w' ⟨rfl,rfl⟩))
   go_ret
   exact ⟨zdi e.out.symm,rfl⟩
def cmpL:List Int→List Int→Int
 | x :: xs,y :: ys=>if cmpI x y=0 then cmpL xs ys else cmpI x y
 | _,_=>0
theorem zzy {xs ys:List Int} {k:Nat} (h1:k<xs.length) (h2:k<ys.length):cmpL (xs.drop k) (ys.drop k)=if cmpI (xs[k]?.getD 0) (ys[k]?.getD 0)=0 then cmpL (xs.drop (k+1)) (ys.drop (k+1)) else cmpI (xs[k]?.getD 0) (ys[k]?.getD 0):=by
 rw [List.drop_eq_getElem_cons h1,List.drop_eq_getElem_cons h2]
 simp [cmpL,h1,h2]
set_option maxHeartbeats 400000 in
theorem zl4 (v u:Value) (zs ys:List Int) (w:World) (hv:zbm w v zs) (hu:zbm w u ys) (hl:zs.length=ys.length) (hl2:zs.length≤1000000) :
  Calls Tryz.prog 215 #[v,u] w fun e w'=>e=.returned (.int .i64 (cmpL zs ys))∧w'=w:=by
 obtain ⟨a,cap,rfl,hc⟩:=hv
 obtain ⟨a',cap',rfl,hc'⟩:=hu
 have Hc:=hide hc
 have Hc':=hide hc'
 have g1:zs.length≤ys.length:=by omega
 have g2:ys.length≤zs.length:=by omega
 clear hc hc' hl
 go_enter Tryz.func215,Tryz.ntmps215
 go_wp2
 go_loop [11] (fun i=>∃ k:Nat,k≤zs.length∧i=.int .i64 k∧cmpL zs ys=cmpL (zs.drop k) (ys.drop k)) (fun i=>zs.length - (intOf i).toNat)
 case atStart=>exact ⟨0,Nat.zero_le _,rfl,by simp⟩
 case round =>
  obtain ⟨k,hk,rfl,hcm⟩:=hrel
  have Hcm:=hide hcm
  clear hcm
  by_cases hlt:k<zs.length
  ·obtain ⟨b,o,rfl,h1⟩:=(zaa Hc) k hlt
   obtain ⟨b',o',rfl,h2⟩:=(zaa Hc') k (by omega)
   have hlt':k<ys.length:=by omega
   have hst:=zzy hlt hlt'
   obtain ⟨z,hz⟩:∃ z,z=zs[k]?.getD 0:=⟨_,rfl⟩
   obtain ⟨y,hy⟩:∃ y,y=ys[k]?.getD 0:=⟨_,rfl⟩
   rw [← hz] at h1 hst
   rw [← hy] at h2 hst
   have Hst:=hide hst
   clear hz hy hst
   have hx:(k:Int)<(zs.length:Int):=by omega
   have hx':(k:Int)<(ys.length:Int):=by omega
   by_cases hq:cmpI z y=0
   ·have hqb:(cmpI z y != 0)=false:=by simp [hq]
    have Hr:Hid (cmpL zs ys=cmpL (zs.drop (k+1)) (ys.drop (k+1))):=by unfold Hid;rw [zaa Hcm,zaa Hst,if_pos hq]
    clear hq
    go_wp2_with (first|(go_at_call 249;refine (zyo _ _ _).mono ?_;rintro e w' ⟨rfl,rfl⟩))
    go_round
    case rel=>exact ⟨k+1,by omega,by go_num,zaa Hr⟩
    case measure=>simp [intOf];omega
   ·have hqb:(cmpI z y != 0)=true:=by simp [hq]
    have Hr:Hid (cmpL zs ys=cmpI z y):=by unfold Hid;rw [zaa Hcm,zaa Hst,if_neg hq]
    clear hq
    go_wp2_with (first|(go_at_call 249;refine (zyo _ _ _).mono ?_;rintro e w' ⟨rfl,rfl⟩))
    go_ret
    exact ⟨zdi (zaa Hr).symm,rfl⟩
  ·have Hr:Hid (cmpL zs ys=0):=by
    unfold Hid;rw [zaa Hcm,List.drop_eq_nil_of_le (by omega)];rfl
   go_wp2
   go_ret
   exact ⟨zdi (zaa Hr).symm,rfl⟩
end Go.Proofs.YtoifcnidhfnapaaGreatDoor
