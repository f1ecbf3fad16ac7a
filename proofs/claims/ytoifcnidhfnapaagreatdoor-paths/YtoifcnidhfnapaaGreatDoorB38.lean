import Derived.Test.YtoifcnidhfnapaaGreatDoorB01
import Derived.Test.YtoifcnidhfnapaaGreatDoorB05
import Derived.Test.YtoifcnidhfnapaaGreatDoorB10
set_option linter.unusedVariables false
set_option linter.unusedSimpArgs false
set_option maxRecDepth 100000
set_option maxHeartbeats 16000000
namespace Go.Proofs.YtoifcnidhfnapaaGreatDoor
namespace K
open Go.RowKit Go.Maps
def st3 (R S T:Rel):St:=zdo (zdo (zdo (fun _=>none) nmR R) nmS S) nmT T
theorem ybm (st:St) (nm:ByteArray) (R:Rel):zdo st nm R nm=some R:=by simp [zdo]
theorem yjy:nmR≠nmS:=by decide
theorem yjz:nmR≠nmT:=by decide
theorem yle:nmS≠nmT:=by decide
theorem zia (R S T:Rel):st3 R S T nmR=some R:=by simp [st3,zdo,yjy,yjz]
theorem zni (R S T:Rel):st3 R S T nmS=some S:=by simp [st3,zdo,yle]
theorem zp6 (R S T:Rel):st3 R S T nmT=some T:=by simp [st3,zdo]
theorem zh3 {R S T:Rel} {nm:ByteArray} (h1:nm≠nmR) (h2:nm≠nmS) (h3:nm≠nmT):st3 R S T nm=none:=by simp [st3,zdo,h1,h2,h3]
theorem zzh {R S T Q:Rel} {nm:ByteArray} (h:st3 R S T nm=some Q):(nm=nmR∧Q=R)∨(nm=nmS∧Q=S)∨(nm=nmT∧Q=T):=by
 by_cases h1:nm=nmR
 ·subst h1;rw [zia] at h;cases h;exact Or.inl ⟨rfl,rfl⟩
 ·by_cases h2:nm=nmS
  ·subst h2;rw [zni] at h;cases h;exact Or.inr (Or.inl ⟨rfl,rfl⟩)
  ·by_cases h3:nm=nmT
   ·subst h3;rw [zp6] at h;cases h;exact Or.inr (Or.inr ⟨rfl,rfl⟩)
   ·rw [zh3 h1 h2 h3] at h;cases h
theorem yi1:zfv nmR=true:=by decide
theorem yi2:zfv nmS=true:=by decide
theorem ydv:zfv nmT=true:=by decide
def zpr (R:Rel) (ar:Nat):Prop:=R.ar=ar∧R.n=0∧R.f=fun _=>0
theorem zin {w w':World} {S db:Nat} (h:w.grownBy w' (some db)) (hS:S≤db) (hSw:S≤w.heap.size):Below S w w':=(Below.refl _ _).grown h hSw (fun k e=>by cases e;exact hS)
theorem _root_.Go.Proofs.YtoifcnidhfnapaaGreatDoor.NoVs.grown {w w':World} {db:Nat} (h:NoVs w db) (hg:w.grownBy w' (some db)):NoVs w' db:=
 ⟨zau h.1 (hg.block _ h.1.lt (fun e=>by injection e;omega)),zau h.2 (hg.block _ h.2.lt (fun e=>by injection e;omega))⟩
theorem yce (w:World):Calls Tryz.prog 14 #[] w fun e w'=>∃ eb db R S T,e=.returned (.pointer (some ⟨eb,0,none⟩))∧za1 w' eb db 3 w.heap.size w'.heap.size (st3 R S T)∧NoVs w' db∧zpr R 2∧zpr S 2∧zpr T 1∧Below w.heap.size w w':=by
 go_enter Tryz.func14,Tryz.ntmps14
 go_wp2_with fail
 refine (yi4 _).mono ?_
 rintro e w1 ⟨rfl,hE1,hN1,hs1,hb1⟩
 have H1:=zac hE1
 have HN1:=zac hN1
 have Hb1:=zac hb1
 clear hE1 hb1 hN1
 go_wp2_with fail
 refine (zoh nmR 2 _ (zaa H1) yi1 (by omega) (by omega) rfl (by decide) (by omega)).mono ?_
 rintro e w2 ⟨rfl,⟨rb,mb,_,_,hE2⟩,hg2⟩
 have H2:=zac hE2
 have HN2:=zac ((zaa HN1).grown hg2)
 have Hb2:=zac ((zaa Hb1).trans (zin hg2 (Nat.le_refl _) (zaa Hb1).size))
 clear hE2 hg2
 go_wp2_with fail
 refine (zoh nmS 2 _ (zaa H2) yi2 (by omega) (by omega) (by simp [zdo,Ne.symm yjy]) (by decide) (by omega)).mono ?_
 rintro e w3 ⟨rfl,⟨rb',mb',_,_,hE3⟩,hg3⟩
 have H3:=zac hE3
 have HN3:=zac ((zaa HN2).grown hg3)
 have Hb3:=zac ((zaa Hb2).trans (zin hg3 (Nat.le_refl _) (zaa Hb2).size))
 clear hE3 hg3
 go_wp2_with fail
 refine (zoh nmT 1 _ (zaa H3) ydv (by omega) (by omega) (by simp [zdo,Ne.symm yjz,Ne.symm yle]) (by decide) (by omega)).mono ?_
 rintro e w4 ⟨rfl,⟨rb'',mb'',_,_,hE4⟩,hg4⟩
 have H4:=zac hE4
 have HN4:=zac ((zaa HN3).grown hg4)
 have Hb4:=zac ((zaa Hb3).trans (zin hg4 (Nat.le_refl _) (zaa Hb3).size))
 clear hE4 hg4
 go_wp2_with fail
 refine (zt7 nmT 1 _ (zaa H4) ydv (by omega) (by omega) (ybm _ _ _) (by decide)).mono ?_
 rintro e w5 ⟨rfl,rfl⟩
 go_wp2
 go_ret
 exact ⟨_,_,_,_,_,rfl,zaa H4,zaa HN4,⟨rfl,rfl,rfl⟩,⟨rfl,rfl,rfl⟩,⟨rfl,rfl,rfl⟩,zaa Hb4⟩
def zv5 (w:World) (B m:Nat) (v:Value) (es:List Ent):Prop:=
  ∃ g cap cur xs,v=.slice (some ⟨g,0,none⟩) xs.length cap∧B≤g∧g<m∧w.heap[g]? = some (.cells cur 64 (0,0))∧cur.toList.take (xs.length*3)=zh5 xs∧zkp w xs∧xs.map (·.1)=es∧∀ p∈xs,B≤p.2
def yj4 (w:World) (v:Value) (bs:List (List Ent)):Prop:=
  ∃ a cap,v=.slice a bs.length cap∧∀ i,i<bs.length→∃ b o sv,a=some ⟨b,o,none⟩∧w.cell? ⟨b,o+i,none⟩=some sv∧zf5 w sv (bs[i]?.getD [])
def zs5 (s:List (List Ent)×List Ent) (c:Int):List (List Ent)×List Ent:=
  if za3 (c.tdiv 7) 12<((s.2 ++ [zry c]).length:Int) then (s.1 ++ [s.2 ++ [zry c]],[]) else (s.1,s.2 ++ [zry c])
def ziv (codes:List Int):List (List Ent)×List Ent:=codes.foldl zs5 ([],[])
def zf6 (codes:List Int):List (List Ent):=if 0<(ziv (codes.take 400)).2.length then (ziv (codes.take 400)).1 ++ [(ziv (codes.take 400)).2] else (ziv (codes.take 400)).1
theorem zx2 {α:Type} {P:List α→Prop} (h0:P []) (hs:∀ l c,P l→P (l ++ [c])) (l:List α):P l:=by
  rw [← l.reverse_reverse]
  induction l.reverse with
  | nil=>exact h0
  | cons a t ih=>rw [List.reverse_cons];exact hs _ _ ih
theorem ziw (l:List Int) (c:Int):ziv (l ++ [c])=zs5 (ziv l) c:=by simp [ziv,List.foldl_append]
theorem zs1 (l:List Int):((ziv l).1.map List.length).sum+(ziv l).2.length=l.length∧(ziv l).1.length≤l.length:=by
  refine zx2 (P:=fun l=>((ziv l).1.map List.length).sum+(ziv l).2.length=l.length∧(ziv l).1.length≤l.length) (by simp [ziv]) (fun l c ih=>?_) l
  rw [ziw]
  unfold zs5
  split <;> simp at ih ⊢ <;> omega
def zv4 (wr:World) (B:Nat) (vo vl:Value) (s:List (List Ent)×List Ent):Prop:=
  ∃ m xs vos,s.2=xs.map (·.1)∧wr.ownsRow m 64 3 vl xs.length (zh5 xs)∧zkp wr xs∧(∀ p∈xs,B≤p.2)∧wr.ownsRow B 49 1 vo vos.length vos∧vos.length=s.1.length ∧
    (∀ j,j<vos.length→zv5 wr B m (vos[j]?.getD undef) (s.1[j]?.getD []))∧B≤m∧m≤wr.heap.size
theorem zv5.kept {w w':World} {B m:Nat} {v:Value} {es:List Ent} {row:Option Nat} (h:zv5 w B m v es) (hg:w.grownBy w' row)
    (hrow:∀ j,row=some j→∃ cur t,w.heap[j]? = some (.cells cur t (0,0))∧t≠2∧(t=64→m≤j)):zv5 w' B m v es:=by
  obtain ⟨g,cap,cur,xs,rfl,h1,h2,h3,h4,h5,h6,h7⟩:=h
  have hlt:g<w.heap.size:=(Array.getElem?_eq_some_iff.1 h3).1
  refine ⟨g,cap,cur,xs,rfl,h1,h2,?_,h4,h5.kept hg (fun j e=>by obtain ⟨c,t,a,b,_⟩:=hrow j e;exact ⟨c,t,a,b⟩),h6,h7⟩
  rw [hg.block g hlt (fun e=>?_)]
  · exact h3
  · obtain ⟨c,t,a,b,d⟩:=hrow g e.symm
    rw [h3] at a
    cases a
    have:=d rfl
    omega
theorem zv5.mono {w:World} {B m m':Nat} {v:Value} {es:List Ent} (h:zv5 w B m v es) (hm:m≤m'):zv5 w B m' v es:=by
  obtain ⟨g,cap,cur,xs,rfl,h1,h2,h3⟩:=h
  exact ⟨g,cap,cur,xs,rfl,h1,by omega,h3⟩
theorem zv4.below {w w':World} {B:Nat} {vo vl:Value} {s:List (List Ent)×List Ent} (h:zv4 w B vo vl s) (hb:Below w.heap.size w w'):zv4 w' B vo vl s:=by
  obtain ⟨m,xs,vos,h1,h2,h3,h4,h5,h6,h7,h8,h9⟩:=h
  have hg:=zc3 hb none
  exact ⟨m,xs,vos,h1,h2.kept hg (by cases hx:vl.ownBlock <;> simp),h3.kept hg (fun j e=>by cases e),h4,h5.kept hg (by cases hx:vo.ownBlock <;> simp),h6,fun j hj=>(h7 j hj).kept hg (fun j e=>by cases e),h8,Nat.le_trans h9 hb.size⟩
theorem zv4.more {w w':World} {B m:Nat} {vo vl vl':Value} {s:List (List Ent)×List Ent} {xs:List (Ent×Nat)} {vos:List Value} {x:Ent} {b:Nat}
    (h1:s.2=xs.map (·.1)) (h2:w.ownsRow m 64 3 vl xs.length (zh5 xs)) (h3:zkp w xs) (h4:∀ p∈xs,B≤p.2) (h5:w.ownsRow B 49 1 vo vos.length vos) (h6:vos.length=s.1.length)
    (h7:∀ j,j<vos.length→zv5 w B m (vos[j]?.getD undef) (s.1[j]?.getD [])) (h8:B≤m) (h9:m≤w.heap.size)
    (hb:w.heap[b]? = some (.cells (x.row.map (Value.int .i64)).toArray 2 (0,0))) (hbB:B≤b)
    (ho:w'.ownsRow m 64 3 vl' (xs.length+1) (zh5 xs ++ yio (x,b))) (hg:w.grownBy w' vl.ownBlock):zv4 w' B vo vl' (s.1,s.2 ++ [x]):=by
  have hrow:∀ j,vl.ownBlock=some j→∃ cur t,w.heap[j]? = some (.cells cur t (0,0))∧t≠2∧(t=64→m≤j):=fun j e=>by
    obtain ⟨a,cur,c⟩:=zel h2 j e
    exact ⟨cur,64,c,by decide,fun _=>a⟩
  have hrow2:∀ j,vl.ownBlock=some j→∃ cur t,w.heap[j]? = some (.cells cur t (0,0))∧t≠2:=fun j e=>by
    obtain ⟨cur,t,a,b,_⟩:=hrow j e
    exact ⟨cur,t,a,b⟩
  refine ⟨m,xs ++ [(x,b)],vos,by simp [h1],?_,?_,?_,?_,h6,fun j hj=>(h7 j hj).kept hg hrow,h8,Nat.le_trans h9 hg.size⟩
  · rw [zwn,List.length_append];exact ho
  · intro p hp
    rcases List.mem_append.1 hp with hp|hp
    · exact h3.kept hg hrow2 p hp
    · simp at hp;subst hp
      exact (show zkp w [(x,b)] from fun p hp=>by simp at hp;subst hp;exact hb).kept hg hrow2 (x,b) (by simp)
  · intro p hp
    rcases List.mem_append.1 hp with hp|hp
    · exact h4 p hp
    · simp at hp;subst hp;exact hbB
  · refine h5.kept hg ?_
    cases hvo:vo.ownBlock with
    | none=>exact Or.inl rfl
    | some j =>
      refine Or.inr (fun e=>?_)
      obtain ⟨_,cur,c⟩:=zel h5 j hvo
      obtain ⟨_,cur',c'⟩:=zel h2 j e.symm
      rw [c] at c'
      cases c'
theorem zv4.shut {w w':World} {B m:Nat} {vo vo' vl:Value} {s:List (List Ent)×List Ent} {xs:List (Ent×Nat)} {vos:List Value}
    (h1:s.2=xs.map (·.1)) (h2:w.ownsRow m 64 3 vl xs.length (zh5 xs)) (h3:zkp w xs) (h4:∀ p∈xs,B≤p.2) (h5:w.ownsRow B 49 1 vo vos.length vos) (h6:vos.length=s.1.length)
    (h7:∀ j,j<vos.length→zv5 w B m (vos[j]?.getD undef) (s.1[j]?.getD [])) (h8:B≤m) (h9:m≤w.heap.size) (hx:0<xs.length)
    (ho:w'.ownsRow B 49 1 vo' (vos.length+1) (vos ++ [vl])) (hg:w.grownBy w' vo.ownBlock):zv4 w' B vo' (.slice none 0 0) (s.1 ++ [s.2],[]):=by
  have hrow:∀ j,vo.ownBlock=some j→∃ cur t,w.heap[j]? = some (.cells cur t (0,0))∧t≠2∧(t=64→m≤j):=fun j e=>by
    obtain ⟨a,cur,c⟩:=zel h5 j e
    exact ⟨cur,49,c,by decide,fun e=>by cases e⟩
  have hrow3:∀ j,vo.ownBlock=some j→∃ cur t,w.heap[j]? = some (.cells cur t (0,0))∧t≠2∧(t=64→w.heap.size≤j):=fun j e=>by
    obtain ⟨a,cur,c⟩:=zel h5 j e
    exact ⟨cur,49,c,by decide,fun e=>by cases e⟩
  have hd:zv5 w B w.heap.size vl s.2:=by
    rcases h2.2 with ⟨_,h0⟩|⟨g,cap,cur,rfl,hb,hgh,_,_,_,ht⟩
    · omega
    · exact ⟨g,cap,cur,xs,rfl,by omega,(Array.getElem?_eq_some_iff.1 hgh).1,hgh,ht,h3,h1.symm,h4⟩
  refine ⟨w.heap.size,[],vos ++ [vl],rfl,World.ownsRow_nil _ _ _ _,fun p hp=>by simp at hp,fun p hp=>by simp at hp,by simpa using ho,by simp [h6],fun j hj=>?_,by omega,hg.size⟩
  by_cases e:j<vos.length
  · have h:=((h7 j e).mono h9).kept hg hrow3
    rw [List.getElem?_append_left e,List.getElem?_append_left (by omega)]
    exact h
  · have:j=vos.length:=by simp at hj;omega
    subst this
    rw [List.getElem?_append_right (Nat.le_refl _),h6,List.getElem?_append_right (Nat.le_refl _)]
    simp
    exact hd.kept hg hrow3
def ztf (w:World) (B:Nat) (v:Value) (bs:List (List Ent)):Prop:=
  ∃ a cap,v=.slice a bs.length cap∧bs.length≤cap∧∀ i,i<bs.length→∃ b sv m,a=some ⟨b,0,none⟩∧B≤b∧w.cell? ⟨b,i,none⟩=some sv∧zv5 w B m sv (bs[i]?.getD [])∧∃ cur,w.heap[b]? = some (.cells cur 49 (0,0))
theorem zv4.bats {w:World} {B:Nat} {vo vl:Value} {s:List (List Ent)×List Ent} (h:zv4 w B vo vl s):ztf w B vo s.1:=by
  obtain ⟨m,xs,vos,h1,h2,h3,h4,h5,h6,h7,h8,h9⟩:=h
  rcases h5.2 with ⟨rfl,h0⟩|⟨g,cap,cur,rfl,hb,hg,hcap,_,_,ht⟩
  · refine ⟨none,0,by rw [← h6,h0],by omega,fun i hi=>?_⟩
    omega
  · refine ⟨some ⟨g,0,none⟩,cap,by rw [h6],by omega,fun i hi=>?_⟩
    refine ⟨g,vos[i]?.getD undef,m,rfl,hb,?_,h7 i (by omega),cur,hg⟩
    have hi':i<vos.length:=by omega
    rw [zab hg]
    have:cur.toList[i]? = vos[i]?:=by rw [← ht,List.getElem?_take_of_lt (by omega)]
    rw [← Array.getElem?_toList,this]
    simp [hi']
theorem yjn (c:Int) (h1:-9223372036854775808≤c) (h2:c≤9223372036854775807):-9223372036854775808≤c.tdiv 7∧c.tdiv 7≤9223372036854775807:=by
  by_cases h:0≤c
  · rw [Int.tdiv_eq_ediv_of_nonneg h];omega
  · obtain ⟨d,rfl⟩:∃ d,c=-d:=⟨-c,by omega⟩
    rw [Int.neg_tdiv,Int.tdiv_eq_ediv_of_nonneg (by omega)];omega
theorem yeu {s:List (List Ent)×List Ent} {c:Int} {x:Ent} {n:Nat} (hx:x=zry c) (hn:s.2.length=n) (h:za3 (c.tdiv 7) 12<(n:Int)+1):zs5 s c=(s.1 ++ [s.2 ++ [x]],[]):=by
  unfold zs5
  rw [if_pos (by simp;omega),hx]
theorem yhh {s:List (List Ent)×List Ent} {c:Int} {x:Ent} {n:Nat} (hx:x=zry c) (hn:s.2.length=n) (h:¬ za3 (c.tdiv 7) 12<(n:Int)+1):zs5 s c=(s.1,s.2 ++ [x]):=by
  unfold zs5
  rw [if_neg (by simp;omega),hx]
theorem zrt (v:Value) (codes:List Int) (w:World) (hv:zbn w v codes) (hl:codes.length≤9223372036854775807) (hb:∀ c∈codes,-9223372036854775808≤c∧c≤9223372036854775807) :
    Calls Tryz.prog 18 #[v] w fun e w'=>∃ u,e=.returned u∧ztf w' w.heap.size u (zf6 codes)∧Below w.heap.size w w':=by
  obtain ⟨a,cap,rfl,hc⟩:=hv
  have Hc:=zac hc
  have Hb:=zac hb
  clear hc hb
  obtain ⟨i39,hi,hz0,hz1,hz2⟩:=info_parts Tryz.info64
  obtain ⟨i36,gi,gz0,gz1,gz2⟩:=info_parts Tryz.info49
  go_enter Tryz.func18,Tryz.ntmps18
  go_wp2
  go_loopw [3,4,5] (fun vo vl i wr=>∃ k:Nat,k≤codes.length∧k≤400∧i=.int .i64 k∧zv4 wr w.heap.size vo vl (ziv (codes.take k))∧Below w.heap.size w wr) (fun _ _ i _=>400 - (intOf i).toNat)
  case atStart =>
    exact ⟨0,Nat.zero_le _,Nat.zero_le _,rfl,⟨w.heap.size,[],[],rfl,World.ownsRow_nil _ _ _ _,fun p hp=>by simp at hp,fun p hp=>by simp at hp,World.ownsRow_nil _ _ _ _,rfl,fun j hj=>by simp at hj,Nat.le_refl _,Nat.le_refl _⟩,Below.refl _ _⟩
  case round =>
    obtain ⟨k,hk,hk4,rfl,hI,hB⟩:=hrel
    by_cases hlt:k<codes.length∧k<400
    · obtain ⟨hlt,hlt4⟩:=hlt
      obtain ⟨b,o,rfl,hcell⟩:=(zaa Hc) k hlt
      have hx:(k:Int)<(codes.length:Int):=by omega
      have hx4:(k:Int)<400:=by omega
      have hbl:b<w.heap.size:=World.block_lt_of_cell? w _ hcell
      obtain ⟨c,hce⟩:∃ c,c=codes[k]?.getD 0:=⟨_,rfl⟩
      rw [← hce] at hcell
      rw [← hB.cell (p:=⟨b,_,none⟩) hbl] at hcell
      have hcb:-9223372036854775808≤c∧c≤9223372036854775807:=by rw [hce];simp [hlt];exact (zaa Hb) _ (List.getElem_mem hlt)
      have htk:codes.take (k+1)=codes.take k ++ [c]:=by rw [List.take_succ_eq_append_getElem hlt,hce];simp [hlt]
      have Htk:=zac htk
      have HI:=zac hI
      have HB:=zac hB
      have hBs:=hB.size
      clear hce htk hI hB
      go_wp2_with fail
      refine (yc5 c _ hcb.1 hcb.2).mono ?_
      rintro e w1 ⟨rb,rfl,hrb,hrow,hb1⟩
      have hI1:=(zaa HI).below hb1
      have HB1:=zac ((zaa HB).trans (hb1.mono hBs))
      have hcell1:w1.cell? ⟨b,o+k,none⟩=some (.int .i64 c):=by rw [hb1.cell (p:=⟨b,_,none⟩) (show b<_ by omega)];exact hcell
      have hs1:=hb1.size
      have hcnt:=zs1 (codes.take k)
      have hkk:(codes.take k).length≤400:=by simp;omega
      obtain ⟨x,hxz⟩:∃ x,x=zry c:=⟨_,rfl⟩
      rw [← hxz] at hrow ⊢
      have Hx:=zac hxz
      clear hxz hcell
      obtain ⟨nm,row,wt⟩:=x
      rw [yf9]
      dsimp only at hrow ⊢
      have hI2:=(hI1.below ((Below.refl _ _).alloc (Nat.le_refl _) (.cells #[.string nm,.slice (some ⟨rb,0,none⟩) row.length row.length,.int .i64 wt] 64))).below ((Below.refl _ _).alloc (Nat.le_refl _) (.cells #[.string nm,.slice (some ⟨rb,0,none⟩) row.length row.length,.int .i64 wt] 64))
      obtain ⟨m,xs,vos,h1,h2,h3,h4,h5,h6,h7,h8,h9⟩:=hI2
      have hnew:=zqk (w1.alloc (.cells #[.string nm,.slice (some ⟨rb,0,none⟩) row.length row.length,.int .i64 wt] 64)) (.string nm) (.slice (some ⟨rb,0,none⟩) row.length row.length) (.int .i64 wt) 64
      rw [World.size_alloc] at hnew
      have hxl:xs.length≤400:=by
        have:=congrArg List.length h1
        simp at this
        omega
      have hvl:vos.length≤400:=by omega
      have hrb2:((w1.alloc (.cells #[.string nm,.slice (some ⟨rb,0,none⟩) row.length row.length,.int .i64 wt] 64)).alloc (.cells #[.string nm,.slice (some ⟨rb,0,none⟩) row.length row.length,.int .i64 wt] 64)).heap[rb]? = some (.cells (row.map (Value.int .i64)).toArray 2 (0,0)):=by
        have hlt:rb<w1.heap.size:=(Array.getElem?_eq_some_iff.1 hrow).1
        rw [Below.heap_alloc _ _ _ (by simp;omega),Below.heap_alloc _ _ _ hlt]
        exact hrow
      have hcell2:((w1.alloc (.cells #[.string nm,.slice (some ⟨rb,0,none⟩) row.length row.length,.int .i64 wt] 64)).alloc (.cells #[.string nm,.slice (some ⟨rb,0,none⟩) row.length row.length,.int .i64 wt] 64)).cell? ⟨b,o+k,none⟩=some (.int .i64 c):=by
        rw [World.cell?_of_block (a:=⟨b,o+k,none⟩) (Below.heap_alloc _ _ _ (show b<_ by simp;omega)),World.cell?_of_block (a:=⟨b,o+k,none⟩) (Below.heap_alloc _ _ _ (show b<_ by omega))]
        exact hcell1
      have H1:=zac h1
      have H2:=zac h2
      have H3:=zac h3
      have H4:=zac h4
      have H5:=zac h5
      have H6:=zac h6
      have H7:=zac h7
      have Hrb2:=zac hrb2
      have Hcell2:=zac hcell2
      clear h1 h3 h4 h5 h6 h7 hrow hI1 hcnt hkk hb1 hrb2 hcell1 hcell2
      go_wp2_with (first
        | (at_builtin;refine wpList_append_own_at _ rfl _ _ 49 rfl m 64 i39 _ 3 48 Tryz.underlying49 hi hz0 hz1 hz2 rfl (by decide) _ _ _ rfl (zaa H2) ⟨w1.heap.size+1,0,none⟩ 1 1 [.string nm,.slice (some ⟨rb,0,none⟩) row.length row.length,.int .i64 wt] rfl rfl hnew (by simp [Value.oneCell']) (by unfold maxLen;omega) (by omega) h9 ?_;intro vl' w2 ho hgr hnil hloc;obtain ⟨g',cap',rfl⟩:=zgr ho
           have hI3:=zv4.more (x:=⟨nm,row,wt⟩) (b:=rb) (zaa H1) (zaa H2) (zaa H3) (zaa H4) (zaa H5) (zaa H6) (zaa H7) h8 h9 (zaa Hrb2) (by omega) ho hgr
           have hcell3:w2.cell? ⟨b,o+k,none⟩=some (.int .i64 c):=(World.cell?_of_block (a:=⟨b,o+k,none⟩) (hgr.block b (show b<_ by simp;omega) (fun e=>by have:=(zel (zaa H2) b e.symm).1;omega))).trans (zaa Hcell2)
           have HI3:=zac hI3
           have HB3:=zac ((((zaa HB1).alloc (by omega) (.cells #[.string nm,.slice (some ⟨rb,0,none⟩) row.length row.length,.int .i64 wt] 64)).alloc (by simp;omega) (.cells #[.string nm,.slice (some ⟨rb,0,none⟩) row.length row.length,.int .i64 wt] 64)).grown hgr (by simp;omega) (fun j e=>by have:=(zel (zaa H2) j e).1;omega))
           have hsz3:=hgr.size
           clear hI3 ho hgr hnil hloc h2 hnew))
      have htd:=yjn c hcb.1 hcb.2
      have hpr:=zb5 (c.tdiv 7) 12 (by omega)
      refine (zfw _ 12 _ htd.1 htd.2 (by omega) (by omega)).mono ?_
      rintro e w2' ⟨rfl,hw2⟩
      subst hw2
      have hsl:(ziv (codes.take k)).2.length=xs.length:=by rw [zaa H1];simp
      obtain ⟨pq,hpq⟩:∃ pq,pq=za3 (c.tdiv 7) 12:=⟨_,rfl⟩
      rw [← hpq] at hpr ⊢
      have Hpq:=zac hpq
      clear hpq htd
      by_cases hlen:pq<(xs.length:Int)+1
      · have Hst:=zac (yeu (zaa Hx) hsl (by rw [← zaa Hpq];exact hlen))
        have hI4:=(zaa HI3).below ((Below.refl _ _).alloc (Nat.le_refl _) (.cells #[.slice (some ⟨g',0,none⟩) (xs.length+1) cap'] 49))
        have hnew4:=zg6 w2' (.slice (some ⟨g',0,none⟩) (xs.length+1) cap') 49
        have HB4:=zac ((zaa HB3).alloc (by have:=(zaa HB3).size;omega) (.cells #[.slice (some ⟨g',0,none⟩) (xs.length+1) cap'] 49))
        obtain ⟨m',xs',vos',k1,k2,k3,k4,k5,k6,k7,k8,k9⟩:=hI4
        have hxl':0<xs'.length:=by
          have:=congrArg List.length k1
          simp at this
          omega
        have hvl':vos'.length≤400:=by
          dsimp only at k6
          have:=zaa H6
          omega
        have K1:=zac k1
        have K2:=zac k2
        have K3:=zac k3
        have K4:=zac k4
        have K5:=zac k5
        have K6:=zac k6
        have K7:=zac k7
        clear k1 k2 k3 k4 k5 k6 k7
        go_wp2_with (first
          | (at_builtin;refine wpList_append_own_at _ rfl _ _ 32 rfl w.heap.size 49 i36 _ 1 24 Tryz.underlying32 gi gz0 gz1 gz2 rfl (by decide) _ _ _ rfl (zaa K5) ⟨w2'.heap.size,0,none⟩ 1 1 [.slice (some ⟨g',0,none⟩) (xs.length+1) cap'] rfl rfl hnew4 (by simp [Value.oneCell']) (by unfold maxLen;omega) (by omega) (by omega) ?_;intro vo' w5 ho5 hgr5 hnil5 hloc5))
        have hI5:=zv4.shut (s:=((ziv (codes.take k)).1,(ziv (codes.take k)).2 ++ [⟨nm,row,wt⟩])) (zaa K1) (zaa K2) (zaa K3) (zaa K4) (zaa K5) (zaa K6) (zaa K7) k8 k9 hxl' ho5 hgr5
        have HI5:=zac hI5
        have HB5:=zac ((zaa HB4).grown hgr5 (zaa HB4).size (fun j e=>(zel (zaa K5) j e).1))
        clear hI5 ho5 hgr5 hnil5 hloc5 hnew4
        go_wp2
        refine ⟨⟨k+1,by omega,by omega,by go_num,?_,zaa HB5⟩,by simp [intOf];omega⟩
        rw [zaa Htk,ziw,zaa Hst]
        exact zaa HI5
      · have Hst:=zac (yhh (zaa Hx) hsl (by rw [← zaa Hpq];exact hlen))
        go_wp2
        refine ⟨⟨k+1,by omega,by omega,by go_num,?_,zaa HB3⟩,by simp [intOf];omega⟩
        rw [zaa Htk,ziw,zaa Hst]
        exact zaa HI3
    · have htk:codes.take 400=codes.take k:=by
        by_cases h:k<codes.length
        · have:k=400:=by omega
          rw [this]
        · rw [List.take_of_length_le (by omega),List.take_of_length_le (by omega)]
      have Htk:=zac htk
      obtain ⟨m,xs,vos,h1,h2,h3,h4,h5,h6,h7,h8,h9⟩:=hI
      have hcnt:=zs1 (codes.take k)
      have hkk:(codes.take k).length≤400:=by simp;omega
      have hsl:(ziv (codes.take k)).2.length=xs.length:=by rw [h1];simp
      have hvl:vos.length≤400:=by omega
      have hxl:xs.length≤400:=by omega
      have hbs:=hB.size
      have HB:=zac hB
      obtain ⟨a4,cap4,rfl⟩:∃ a4 cap4,u4=.slice a4 xs.length cap4:=by
        rcases h2.2 with ⟨rfl,h0⟩|⟨g,cap,_,rfl,_⟩
        · exact ⟨none,0,by rw [h0]⟩
        · exact ⟨_,_,rfl⟩
      by_cases hx0:0<xs.length
      · have hz:Hid (zf6 codes=(ziv (codes.take k)).1 ++ [(ziv (codes.take k)).2]):=by
          unfold Hid zf6;rw [htk,if_pos (by omega)]
        have hI4:zv4 (wr.alloc (.cells #[.slice a4 xs.length cap4] 49)) w.heap.size u3 (.slice a4 xs.length cap4) (ziv (codes.take k)):=zv4.below ⟨m,xs,vos,h1,h2,h3,h4,h5,h6,h7,h8,h9⟩ ((Below.refl _ _).alloc (Nat.le_refl _) _)
        have hnew4:=zg6 wr (.slice a4 xs.length cap4) 49
        have HB4:=zac (hB.alloc hbs (.cells #[.slice a4 xs.length cap4] 49))
        obtain ⟨m',xs',vos',k1,k2,k3,k4,k5,k6,k7,k8,k9⟩:=hI4
        have hxl':0<xs'.length:=by
          have:=congrArg List.length k1
          simp at this
          omega
        have hvl':vos'.length≤400:=by omega
        have K1:=zac k1
        have K2:=zac k2
        have K3:=zac k3
        have K4:=zac k4
        have K5:=zac k5
        have K6:=zac k6
        have K7:=zac k7
        have hx0':(0:Int)<(xs.length:Int):=by omega
        clear k1 k2 k3 k4 k5 k6 k7 h1 h2 h3 h4 h5 h6 h7 hcnt hkk hsl htk hB hvl h8 h9
        have hcase:(codes.length:Int)≤k∨((k:Int)<codes.length∧(400:Int)≤k):=by omega
        rcases hcase with hc1|⟨hc1,hc2⟩
        all_goals
          go_wp2_with (first
            | (at_builtin;refine wpList_append_own_at _ rfl _ _ 32 rfl w.heap.size 49 i36 _ 1 24 Tryz.underlying32 gi gz0 gz1 gz2 rfl (by decide) _ _ _ rfl (zaa K5) ⟨wr.heap.size,0,none⟩ 1 1 [.slice a4 xs.length cap4] rfl rfl hnew4 (by simp [Value.oneCell']) (by unfold maxLen;omega) (by omega) (by simp;omega) ?_;intro vo' w5 ho5 hgr5 hnil5 hloc5))
          have hI5:=zv4.shut (zaa K1) (zaa K2) (zaa K3) (zaa K4) (zaa K5) (zaa K6) (zaa K7) k8 k9 hxl' ho5 hgr5
          have HI5:=zac hI5.bats
          have HB5:=zac ((zaa HB4).grown hgr5 (zaa HB4).size (fun j e=>(zel (zaa K5) j e).1))
          clear hI5 ho5 hgr5 hnil5 hloc5
          go_wp2
          go_ret
          refine ⟨vo',rfl,?_,zaa HB5⟩
          rw [zaa hz]
          exact zaa HI5
      · have hz:Hid (zf6 codes=(ziv (codes.take k)).1):=by
          unfold Hid zf6;rw [htk,if_neg (by omega)]
        have HI4:Hid (ztf wr w.heap.size u3 (ziv (codes.take k)).1):=zv4.bats ⟨m,xs,vos,h1,h2,h3,h4,h5,h6,h7,h8,h9⟩
        have hx0':¬ (0:Int)<(xs.length:Int):=by omega
        clear h1 h2 h3 h4 h5 h6 h7 hcnt hkk hsl htk hB hvl h8 h9
        have hcase:(codes.length:Int)≤k∨((k:Int)<codes.length∧(400:Int)≤k):=by omega
        rcases hcase with hc1|⟨hc1,hc2⟩
        all_goals
          go_wp2
          go_ret
          refine ⟨u3,rfl,?_,zaa HB⟩
          rw [zaa hz]
          exact zaa HI4
def zej:List Int:=[0,1,top,bot]
def zd9:List Row:=zej.flatMap fun a=>zej.map fun b=>(a,b,0)
def zjj:List Row:=zej.map fun a=>(a,0,0)
theorem zuf:zd9.length=16:=rfl
theorem ydc:zjj.length=4:=rfl
theorem zbv (c:Int):zdp c∈zej:=by
 unfold zdp numT zej
 split
 ·simp
 ·split
  ·simp
  ·split <;> simp
theorem zcf {a:Int} (h:a∈zej):wfI a:=by
 unfold zej top bot at h
 simp at h
 rcases h with rfl|rfl|rfl|rfl <;> (unfold wfI;decide)
theorem zcp:wfI 0:=by unfold wfI;decide
theorem zuv {a b:Int} (ha:a∈zej) (hb:b∈zej):((a,b,0):Row)∈zd9:=by
 unfold zd9
 exact List.mem_flatMap.2 ⟨a,ha,List.mem_map.2 ⟨b,hb,rfl⟩⟩
theorem yds {a:Int} (ha:a∈zej):((a,0,0):Row)∈zjj:=List.mem_map.2 ⟨a,ha,rfl⟩
structure Fine (x:Ent):Prop where
 name:(x.nm=nmR∧x.row.length=2∧zb7 x.row∈zd9)∨(x.nm=nmS∧x.row.length=2∧zb7 x.row∈zd9)∨(x.nm=nmT∧x.row.length=1∧zb7 x.row∈zjj)
 wf:zaw (zb7 x.row)
 lo:-2≤x.wt
 hi:x.wt≤2
theorem yc4 (c:Int):Fine (zry c):=by
 have h5:0≤zz5 c % 5∧zz5 c % 5<5:=⟨Int.emod_nonneg _ (by omega),Int.emod_lt_of_pos _ (by omega)⟩
 unfold zry
 split
 ·exact ⟨Or.inl ⟨rfl,rfl,zuv (zbv _) (zbv _)⟩,⟨zcf (zbv _),zcf (zbv _),zcp⟩,by dsimp only;omega,by dsimp only;omega⟩
 ·split
  ·exact ⟨Or.inr (Or.inl ⟨rfl,rfl,zuv (zbv _) (zbv _)⟩),⟨zcf (zbv _),zcf (zbv _),zcp⟩,by dsimp only;omega,by dsimp only;omega⟩
  ·exact ⟨Or.inr (Or.inr ⟨rfl,rfl,yds (zbv _)⟩),⟨zcf (zbv _),zcp,zcp⟩,by dsimp only;omega,by dsimp only;omega⟩
theorem Fine.good {x:Ent} (h:Fine x):znv x:=by
 refine ⟨?_,?_,h.wf,by have:=h.lo;omega,by have:=h.hi;omega⟩
 ·rcases h.name with ⟨e,_⟩|⟨e,_⟩|⟨e,_⟩ <;> (rw [e];decide)
 ·rcases h.name with ⟨_,e,_⟩|⟨_,e,_⟩|⟨_,e,_⟩ <;> omega
theorem zx7 (a b:List Ent) (nm:ByteArray) (r:Row):zcx (a ++ b) nm r=zcx a nm r+zcx b nm r:=by
 induction a with
 | nil=>simp [zcx]
 | cons x xs ih=>simp only [List.cons_append,zcx,ih];omega
theorem zrb {es:List Ent} (h:∀ x∈es,Fine x) (nm:ByteArray) (r:Row):-(2*(es.length:Int))≤zcx es nm r∧zcx es nm r≤2*(es.length:Int):=by
 induction es with
 | nil=>simp [zcx]
 | cons y ys ih =>
  have h1:=ih (fun x hx=>h x (List.mem_cons_of_mem _ hx))
  have h2:=(h y (List.mem_cons_self)).lo
  have h3:=(h y (List.mem_cons_self)).hi
  simp only [zcx,List.length_cons]
  split <;> omega
theorem yew {es:List Ent} {nm:ByteArray} {r:Row} (h:zcx es nm r≠0):∃ x∈es,x.nm=nm∧zb7 x.row=r:=by
 induction es with
 | nil=>simp [zcx] at h
 | cons y ys ih =>
  by_cases e:y.nm=nm∧zb7 y.row=r
  ·exact ⟨y,List.mem_cons_self,e⟩
  ·simp only [zcx,if_neg e] at h
   obtain ⟨x,hx,h2⟩:=ih (by omega)
   exact ⟨x,List.mem_cons_of_mem _ hx,h2⟩
theorem zhl {es:List Ent} (hf:∀ x∈es,Fine x) {nm:ByteArray} {r:Row} (h:zcx es nm r≠0):(nm=nmR→r∈zd9)∧(nm=nmS→r∈zd9)∧(nm=nmT→r∈zjj):=by
 obtain ⟨x,hx,hn,hr⟩:=yew h
 have hx:=(hf x hx).name
 rw [hn,hr] at hx
 refine ⟨fun e=>?_,fun e=>?_,fun e=>?_⟩
 ·subst e
  rcases hx with ⟨_,_,h⟩|⟨e,_⟩|⟨e,_⟩
  ·exact h
  ·exact absurd e yjy
  ·exact absurd e yjz
 ·subst e
  rcases hx with ⟨e,_⟩|⟨_,_,h⟩|⟨e,_⟩
  ·exact absurd e.symm yjy
  ·exact h
  ·exact absurd e yle
 ·subst e
  rcases hx with ⟨e,_⟩|⟨e,_⟩|⟨_,_,h⟩
  ·exact absurd e.symm yjz
  ·exact absurd e.symm yle
  ·exact h
structure zv8 (R:Rel) (ar cnt:Nat) (G:List Row):Prop where
 ar_:R.ar=ar
 n_:R.n≤2*cnt
 lo:∀ r,zaw r→-(2*(cnt:Int))≤R.f r
 hi:∀ r,zaw r→R.f r≤2*(cnt:Int)
 supp:∀ r,zaw r→R.f r≠0→r∈G
def zah (R:Rel) (es:List Ent) (nm:ByteArray):Rel:={ R with n:=R.n+2*es.length,f:=fun r=>R.f r+zcx es nm r }
theorem yet (R S T:Rel) (es:List Ent):zjk (st3 R S T) es=st3 (zah R es nmR) (zah S es nmS) (zah T es nmT):=by
 funext nm
 unfold zjk
 by_cases h1:nm=nmR
 ·subst h1;rw [zia,zia];rfl
 ·by_cases h2:nm=nmS
  ·subst h2;rw [zni,zni];rfl
  ·by_cases h3:nm=nmT
   ·subst h3;rw [zp6,zp6];rfl
   ·rw [zh3 h1 h2 h3,zh3 h1 h2 h3];rfl
theorem zv8.add {R:Rel} {ar cnt:Nat} {G:List Row} (h:zv8 R ar cnt G) {es:List Ent} (hf:∀ x∈es,Fine x) {nm:ByteArray} (hG:∀ r,zcx es nm r≠0→r∈G):zv8 (zah R es nm) ar (cnt+es.length) G:=by
 refine ⟨h.ar_,?_,fun r hr=>?_,fun r hr=>?_,fun r hr h0=>?_⟩
 ·have:=h.n_;simp only [zah];omega
 ·have h1:=h.lo r hr;have h2:=(zrb hf nm r).1;simp only [zah];push_cast;omega
 ·have h1:=h.hi r hr;have h2:=(zrb hf nm r).2;simp only [zah];push_cast;omega
 ·simp only [zah] at h0
  by_cases e:R.f r=0
  ·exact hG r (by omega)
  ·exact h.supp r hr e
theorem zv8.start {R:Rel} {ar:Nat} (h:zpr R ar) (G:List Row):zv8 R ar 0 G:=by
 obtain ⟨h1,h2,h3⟩:=h
 exact ⟨h1,by omega,fun r _=>by rw [h3];simp,fun r _=>by rw [h3];simp,fun r _ h0=>by rw [h3] at h0;exact absurd rfl h0⟩
theorem yeh (l:List Int):(ziv l).1.flatten ++ (ziv l).2=l.map zry:=by
 refine zx2 (P:=fun l=>(ziv l).1.flatten ++ (ziv l).2=l.map zry) (by simp [ziv]) (fun l c ih=>?_) l
 rw [ziw]
 unfold zs5
 split
 ·simp only [List.flatten_append,List.flatten_cons,List.flatten_nil,List.append_nil,List.map_append,List.map_cons,List.map_nil]
  rw [← List.append_assoc,ih]
 ·simp only [List.map_append,List.map_cons,List.map_nil]
  rw [← List.append_assoc,ih]
theorem ybe (l:List Int):(∀ b∈(ziv l).1,b.length≤12)∧(ziv l).2.length≤11:=by
 refine zx2 (P:=fun l=>(∀ b∈(ziv l).1,b.length≤12)∧(ziv l).2.length≤11) (by simp [ziv]) (fun l c ih=>?_) l
 rw [ziw]
 have hp:=zb5 (c.tdiv 7) 12 (by omega)
 unfold zs5
 split
 ·refine ⟨fun b hb=>?_,by simp⟩
  rcases List.mem_append.1 hb with hb|hb
  ·exact ih.1 b hb
  ·simp at hb;subst hb;simp;omega
 ·rename_i h
  refine ⟨ih.1,?_⟩
  simp at h ⊢
  omega
theorem zqg (codes:List Int):(zf6 codes).flatten=(codes.take 400).map zry:=by
 have h:=yeh (codes.take 400)
 unfold zf6
 split
 ·rw [← h];simp
 ·rename_i h0
  have:(ziv (codes.take 400)).2=[]:=List.eq_nil_of_length_eq_zero (by omega)
  rw [this] at h
  simpa using h
theorem zjz (codes:List Int):∀ b∈zf6 codes,b.length≤12:=by
 have h:=ybe (codes.take 400)
 unfold zf6
 split
 ·intro b hb
  rcases List.mem_append.1 hb with hb|hb
  ·exact h.1 b hb
  ·simp at hb;subst hb;omega
 ·exact h.1
theorem zlx (codes:List Int):∀ b∈zf6 codes,∀ x∈b,Fine x:=by
 intro b hb x hx
 have:x∈(zf6 codes).flatten:=List.mem_flatten.2 ⟨b,hb,hx⟩
 rw [zqg] at this
 obtain ⟨c,_,rfl⟩:=List.mem_map.1 this
 exact yc4 c
def ylc (ar:Nat) (y:Row):Prop:=zb7 (zcv ar y)=y
theorem yde {y:Row}:(y∈zd9→ylc 2 y)∧(y∈zjj→ylc 1 y):=by
 constructor
 ·intro h
  simp only [zd9,List.mem_flatMap,List.mem_map] at h
  obtain ⟨a,_,b,_,rfl⟩:=h
  rfl
 ·intro h
  simp only [zjj,List.mem_map] at h
  obtain ⟨a,_,rfl⟩:=h
  rfl
def zey (p:Nat→Bool):Nat→Nat
 | 0=>0
 | i+1=>zey p i+if p i then 1 else 0
theorem yhv:∀ y∈zjj,zaw y:=by
 intro y h
 simp only [zjj,List.mem_map] at h
 obtain ⟨a,ha,rfl⟩:=h
 exact ⟨zcf ha,zcp,zcp⟩
end K
end Go.Proofs.YtoifcnidhfnapaaGreatDoor
