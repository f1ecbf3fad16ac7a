import Derived.Test.YtoifcnidhfnapabGreatDoorB01
import Derived.Test.YtoifcnidhfnapabGreatDoorB05
import Derived.Test.YtoifcnidhfnapabGreatDoorB10
set_option linter.unusedVariables false
set_option linter.unusedSimpArgs false
set_option maxRecDepth 100000
set_option maxHeartbeats 16000000
namespace Go.Proofs.YtoifcnidhfnapabGreatDoor
namespace K
open Go.RowKit Go.Maps
def st3 (R S T:Rel):St:=zdq (zdq (zdq (fun _=>none) nmR R) nmS S) nmT T
theorem ybr (st:St) (nm:ByteArray) (R:Rel):zdq st nm R nm=some R:=by simp [zdq]
theorem yl8:nmR≠nmS:=by decide
theorem yl9:nmR≠nmT:=by decide
theorem ymo:nmS≠nmT:=by decide
theorem zlo (R S T:Rel):st3 R S T nmR=some R:=by simp [st3,zdq,yl8,yl9]
theorem zpn (R S T:Rel):st3 R S T nmS=some S:=by simp [st3,zdq,ymo]
theorem zpo (R S T:Rel):st3 R S T nmT=some T:=by simp [st3,zdq]
theorem zgg {R S T:Rel} {nm:ByteArray} (h1:nm≠nmR) (h2:nm≠nmS) (h3:nm≠nmT):st3 R S T nm=none:=by simp [st3,zdq,h1,h2,h3]
theorem zte {R S T Q:Rel} {nm:ByteArray} (h:st3 R S T nm=some Q):(nm=nmR∧Q=R)∨(nm=nmS∧Q=S)∨(nm=nmT∧Q=T):=by
 by_cases h1:nm=nmR
 ·subst h1;rw [zlo] at h;cases h;exact Or.inl ⟨rfl,rfl⟩
 ·by_cases h2:nm=nmS
  ·subst h2;rw [zpn] at h;cases h;exact Or.inr (Or.inl ⟨rfl,rfl⟩)
  ·by_cases h3:nm=nmT
   ·subst h3;rw [zpo] at h;cases h;exact Or.inr (Or.inr ⟨rfl,rfl⟩)
   ·rw [zgg h1 h2 h3] at h;cases h
theorem yju:zgj nmR=true:=by decide
theorem yjv:zgj nmS=true:=by decide
theorem yec:zgj nmT=true:=by decide
def zgi (R:Rel) (ar:Nat):Prop:=R.ar=ar∧R.n=0∧R.f=fun _=>0
theorem zif {w w':World} {S db:Nat} (h:w.grownBy w' (some db)) (hS:S≤db) (hSw:S≤w.heap.size):Below S w w':=(Below.refl _ _).grown h hSw (fun k e=>by cases e;exact hS)
theorem _root_.Go.Proofs.YtoifcnidhfnapabGreatDoor.NoVs.grown {w w':World} {db:Nat} (h:NoVs w db) (hg:w.grownBy w' (some db)):NoVs w' db:=
 ⟨zax h.1 (hg.block _ h.1.lt (fun e=>by injection e;omega)),zax h.2 (hg.block _ h.2.lt (fun e=>by injection e;omega))⟩
theorem ycq (w:World):Calls Tryz.prog 6 #[] w fun e w'=>∃ eb db R S T,e=.returned (.pointer (some ⟨eb,0,none⟩))∧za1 w' eb db 3 w.heap.size w'.heap.size (st3 R S T)∧NoVs w' db∧zgi R 2∧zgi S 2∧zgi T 1∧Below w.heap.size w w':=by
 go_enter Tryz.func6,Tryz.ntmps6
 go_wp2_with fail
 refine (yjw _).mono ?_
 rintro e w1 ⟨rfl,hE1,hN1,hs1,hb1⟩
 have H1:=zac hE1
 have HN1:=zac hN1
 have Hb1:=zac hb1
 clear hE1 hb1 hN1
 go_wp2_with fail
 refine (zou nmR 2 _ (zaa H1) yju (by omega) (by omega) rfl (by decide) (by omega)).mono ?_
 rintro e w2 ⟨rfl,⟨rb,mb,_,_,hE2⟩,hg2⟩
 have H2:=zac hE2
 have HN2:=zac ((zaa HN1).grown hg2)
 have Hb2:=zac ((zaa Hb1).trans (zif hg2 (Nat.le_refl _) (zaa Hb1).size))
 clear hE2 hg2
 go_wp2_with fail
 refine (zou nmS 2 _ (zaa H2) yjv (by omega) (by omega) (by simp [zdq,Ne.symm yl8]) (by decide) (by omega)).mono ?_
 rintro e w3 ⟨rfl,⟨rb',mb',_,_,hE3⟩,hg3⟩
 have H3:=zac hE3
 have HN3:=zac ((zaa HN2).grown hg3)
 have Hb3:=zac ((zaa Hb2).trans (zif hg3 (Nat.le_refl _) (zaa Hb2).size))
 clear hE3 hg3
 go_wp2_with fail
 refine (zou nmT 1 _ (zaa H3) yec (by omega) (by omega) (by simp [zdq,Ne.symm yl9,Ne.symm ymo]) (by decide) (by omega)).mono ?_
 rintro e w4 ⟨rfl,⟨rb'',mb'',_,_,hE4⟩,hg4⟩
 have H4:=zac hE4
 have HN4:=zac ((zaa HN3).grown hg4)
 have Hb4:=zac ((zaa Hb3).trans (zif hg4 (Nat.le_refl _) (zaa Hb3).size))
 clear hE4 hg4
 go_wp2_with fail
 refine (zui nmT 1 _ (zaa H4) yec (by omega) (by omega) (ybr _ _ _) (by decide)).mono ?_
 rintro e w5 ⟨rfl,rfl⟩
 go_wp2
 go_ret
 exact ⟨_,_,_,_,_,rfl,zaa H4,zaa HN4,⟨rfl,rfl,rfl⟩,⟨rfl,rfl,rfl⟩,⟨rfl,rfl,rfl⟩,zaa Hb4⟩
def zlz (w:World) (B m:Nat) (v:Value) (es:List Ent):Prop:=
  ∃ g cap cur xs,v=.slice (some ⟨g,0,none⟩) xs.length cap∧B≤g∧g<m∧w.heap[g]? = some (.cells cur 49 (0,0))∧cur.toList.take (xs.length*3)=zgr xs∧zh8 w xs∧xs.map (·.1)=es∧∀ p∈xs,B≤p.2
def zti (s:List (List Ent)×List Ent) (c:Int):List (List Ent)×List Ent:=
  if zbd (c.tdiv 7) 12<((s.2 ++ [zsa c]).length:Int) then (s.1 ++ [s.2 ++ [zsa c]],[]) else (s.1,s.2 ++ [zsa c])
def zio (codes:List Int):List (List Ent)×List Ent:=codes.foldl zti ([],[])
def zib (codes:List Int):List (List Ent):=if 0<(zio (codes.take 400)).2.length then (zio (codes.take 400)).1 ++ [(zio (codes.take 400)).2] else (zio (codes.take 400)).1
theorem zx2 {α:Type} {P:List α→Prop} (h0:P []) (hs:∀ l c,P l→P (l ++ [c])) (l:List α):P l:=by
  rw [← l.reverse_reverse]
  induction l.reverse with
  | nil=>exact h0
  | cons a t ih=>rw [List.reverse_cons];exact hs _ _ ih
theorem ziq (l:List Int) (c:Int):zio (l ++ [c])=zti (zio l) c:=by simp [zio,List.foldl_append]
theorem zta (l:List Int):((zio l).1.map List.length).sum+(zio l).2.length=l.length∧(zio l).1.length≤l.length:=by
  refine zx2 (P:=fun l=>((zio l).1.map List.length).sum+(zio l).2.length=l.length∧(zio l).1.length≤l.length) (by simp [zio]) (fun l c ih=>?_) l
  rw [ziq]
  unfold zti
  split <;> simp at ih ⊢ <;> omega
def zwb (wr:World) (B:Nat) (vo vl:Value) (s:List (List Ent)×List Ent):Prop:=
  ∃ m xs vos,s.2=xs.map (·.1)∧wr.ownsRow m 49 3 vl xs.length (zgr xs)∧zh8 wr xs∧(∀ p∈xs,B≤p.2)∧wr.ownsRow B 40 1 vo vos.length vos∧vos.length=s.1.length ∧
    (∀ j,j<vos.length→zlz wr B m (vos[j]?.getD undef) (s.1[j]?.getD []))∧B≤m∧m≤wr.heap.size
theorem zlz.kept {w w':World} {B m:Nat} {v:Value} {es:List Ent} {row:Option Nat} (h:zlz w B m v es) (hg:w.grownBy w' row)
    (hrow:∀ j,row=some j→∃ cur t,w.heap[j]? = some (.cells cur t (0,0))∧t≠2∧(t=49→m≤j)):zlz w' B m v es:=by
  obtain ⟨g,cap,cur,xs,rfl,h1,h2,h3,h4,h5,h6,h7⟩:=h
  have hlt:g<w.heap.size:=(Array.getElem?_eq_some_iff.1 h3).1
  refine ⟨g,cap,cur,xs,rfl,h1,h2,?_,h4,h5.kept hg (fun j e=>by obtain ⟨c,t,a,b,_⟩:=hrow j e;exact ⟨c,t,a,b⟩),h6,h7⟩
  rw [hg.block g hlt (fun e=>?_)]
  · exact h3
  · obtain ⟨c,t,a,b,d⟩:=hrow g e.symm
    rw [h3] at a
    cases a
    have:=d rfl
    omega
theorem zlz.mono {w:World} {B m m':Nat} {v:Value} {es:List Ent} (h:zlz w B m v es) (hm:m≤m'):zlz w B m' v es:=by
  obtain ⟨g,cap,cur,xs,rfl,h1,h2,h3⟩:=h
  exact ⟨g,cap,cur,xs,rfl,h1,by omega,h3⟩
theorem zwb.below {w w':World} {B:Nat} {vo vl:Value} {s:List (List Ent)×List Ent} (h:zwb w B vo vl s) (hb:Below w.heap.size w w'):zwb w' B vo vl s:=by
  obtain ⟨m,xs,vos,h1,h2,h3,h4,h5,h6,h7,h8,h9⟩:=h
  have hg:=za5 hb none
  exact ⟨m,xs,vos,h1,h2.kept hg (by cases hx:vl.ownBlock <;> simp),h3.kept hg (fun j e=>by cases e),h4,h5.kept hg (by cases hx:vo.ownBlock <;> simp),h6,fun j hj=>(h7 j hj).kept hg (fun j e=>by cases e),h8,Nat.le_trans h9 hb.size⟩
theorem zwb.more {w w':World} {B m:Nat} {vo vl vl':Value} {s:List (List Ent)×List Ent} {xs:List (Ent×Nat)} {vos:List Value} {x:Ent} {b:Nat}
    (h1:s.2=xs.map (·.1)) (h2:w.ownsRow m 49 3 vl xs.length (zgr xs)) (h3:zh8 w xs) (h4:∀ p∈xs,B≤p.2) (h5:w.ownsRow B 40 1 vo vos.length vos) (h6:vos.length=s.1.length)
    (h7:∀ j,j<vos.length→zlz w B m (vos[j]?.getD undef) (s.1[j]?.getD [])) (h8:B≤m) (h9:m≤w.heap.size)
    (hb:w.heap[b]? = some (.cells (x.row.map (Value.int .i64)).toArray 2 (0,0))) (hbB:B≤b)
    (ho:w'.ownsRow m 49 3 vl' (xs.length+1) (zgr xs ++ ygn (x,b))) (hg:w.grownBy w' vl.ownBlock):zwb w' B vo vl' (s.1,s.2 ++ [x]):=by
  have hrow:∀ j,vl.ownBlock=some j→∃ cur t,w.heap[j]? = some (.cells cur t (0,0))∧t≠2∧(t=49→m≤j):=fun j e=>by
    obtain ⟨a,cur,c⟩:=zcq h2 j e
    exact ⟨cur,49,c,by decide,fun _=>a⟩
  have hrow2:∀ j,vl.ownBlock=some j→∃ cur t,w.heap[j]? = some (.cells cur t (0,0))∧t≠2:=fun j e=>by
    obtain ⟨cur,t,a,b,_⟩:=hrow j e
    exact ⟨cur,t,a,b⟩
  refine ⟨m,xs ++ [(x,b)],vos,by simp [h1],?_,?_,?_,?_,h6,fun j hj=>(h7 j hj).kept hg hrow,h8,Nat.le_trans h9 hg.size⟩
  · rw [zom,List.length_append];exact ho
  · intro p hp
    rcases List.mem_append.1 hp with hp|hp
    · exact h3.kept hg hrow2 p hp
    · simp at hp;subst hp
      exact (show zh8 w [(x,b)] from fun p hp=>by simp at hp;subst hp;exact hb).kept hg hrow2 (x,b) (by simp)
  · intro p hp
    rcases List.mem_append.1 hp with hp|hp
    · exact h4 p hp
    · simp at hp;subst hp;exact hbB
  · refine h5.kept hg ?_
    cases hvo:vo.ownBlock with
    | none=>exact Or.inl rfl
    | some j =>
      refine Or.inr (fun e=>?_)
      obtain ⟨_,cur,c⟩:=zcq h5 j hvo
      obtain ⟨_,cur',c'⟩:=zcq h2 j e.symm
      rw [c] at c'
      cases c'
theorem zwb.shut {w w':World} {B m:Nat} {vo vo' vl:Value} {s:List (List Ent)×List Ent} {xs:List (Ent×Nat)} {vos:List Value}
    (h1:s.2=xs.map (·.1)) (h2:w.ownsRow m 49 3 vl xs.length (zgr xs)) (h3:zh8 w xs) (h4:∀ p∈xs,B≤p.2) (h5:w.ownsRow B 40 1 vo vos.length vos) (h6:vos.length=s.1.length)
    (h7:∀ j,j<vos.length→zlz w B m (vos[j]?.getD undef) (s.1[j]?.getD [])) (h8:B≤m) (h9:m≤w.heap.size) (hx:0<xs.length)
    (ho:w'.ownsRow B 40 1 vo' (vos.length+1) (vos ++ [vl])) (hg:w.grownBy w' vo.ownBlock):zwb w' B vo' (.slice none 0 0) (s.1 ++ [s.2],[]):=by
  have hrow:∀ j,vo.ownBlock=some j→∃ cur t,w.heap[j]? = some (.cells cur t (0,0))∧t≠2∧(t=49→m≤j):=fun j e=>by
    obtain ⟨a,cur,c⟩:=zcq h5 j e
    exact ⟨cur,40,c,by decide,fun e=>by cases e⟩
  have hrow3:∀ j,vo.ownBlock=some j→∃ cur t,w.heap[j]? = some (.cells cur t (0,0))∧t≠2∧(t=49→w.heap.size≤j):=fun j e=>by
    obtain ⟨a,cur,c⟩:=zcq h5 j e
    exact ⟨cur,40,c,by decide,fun e=>by cases e⟩
  have hd:zlz w B w.heap.size vl s.2:=by
    rcases h2.2 with ⟨_,h0⟩|⟨g,cap,cur,rfl,hb,hgh,_,_,_,ht⟩
    · omega
    · exact ⟨g,cap,cur,xs,rfl,by omega,(Array.getElem?_eq_some_iff.1 hgh).1,hgh,ht,h3,h1.symm,h4⟩
  refine ⟨w.heap.size,[],vos ++ [vl],rfl,World.ownsRow_nil _ _ _ _,fun p hp=>by simp at hp,fun p hp=>by simp at hp,by simpa using ho,by simp [h6],fun j hj=>?_,by omega,hg.size⟩
  by_cases e:j<vos.length
  · have h:=((h7 j e).mono h9).kept hg hrow3
    rw [List.getElem?_append_left e,List.getElem?_append_left (by omega)]
    exact h
  · have:j=vos.length:=by simp at hj;omega
    subst this
    rw [List.getElem?_append_right (Nat.le_refl _),h6,List.getElem?_append_right (Nat.le_refl _)]
    simp
    exact hd.kept hg hrow3
def zdd (w:World) (B:Nat) (v:Value) (bs:List (List Ent)):Prop:=
  ∃ a cap,v=.slice a bs.length cap∧bs.length≤cap∧∀ i,i<bs.length→∃ b sv m,a=some ⟨b,0,none⟩∧B≤b∧w.cell? ⟨b,i,none⟩=some sv∧zlz w B m sv (bs[i]?.getD [])∧∃ cur,w.heap[b]? = some (.cells cur 40 (0,0))
theorem zwb.bats {w:World} {B:Nat} {vo vl:Value} {s:List (List Ent)×List Ent} (h:zwb w B vo vl s):zdd w B vo s.1:=by
  obtain ⟨m,xs,vos,h1,h2,h3,h4,h5,h6,h7,h8,h9⟩:=h
  rcases h5.2 with ⟨rfl,h0⟩|⟨g,cap,cur,rfl,hb,hg,hcap,_,_,ht⟩
  · refine ⟨none,0,by rw [← h6,h0],by omega,fun i hi=>?_⟩
    omega
  · refine ⟨some ⟨g,0,none⟩,cap,by rw [h6],by omega,fun i hi=>?_⟩
    refine ⟨g,vos[i]?.getD undef,m,rfl,hb,?_,h7 i (by omega),cur,hg⟩
    have hi':i<vos.length:=by omega
    rw [zab hg]
    have:cur.toList[i]? = vos[i]?:=by rw [← ht,List.getElem?_take_of_lt (by omega)]
    rw [← Array.getElem?_toList,this]
    simp [hi']
theorem yke (c:Int) (h1:-9223372036854775808≤c) (h2:c≤9223372036854775807):-9223372036854775808≤c.tdiv 7∧c.tdiv 7≤9223372036854775807:=by
  by_cases h:0≤c
  · rw [Int.tdiv_eq_ediv_of_nonneg h];omega
  · obtain ⟨d,rfl⟩:∃ d,c=-d:=⟨-c,by omega⟩
    rw [Int.neg_tdiv,Int.tdiv_eq_ediv_of_nonneg (by omega)];omega
theorem yfd {s:List (List Ent)×List Ent} {c:Int} {x:Ent} {n:Nat} (hx:x=zsa c) (hn:s.2.length=n) (h:zbd (c.tdiv 7) 12<(n:Int)+1):zti s c=(s.1 ++ [s.2 ++ [x]],[]):=by
  unfold zti
  rw [if_pos (by simp;omega),hx]
theorem yh6 {s:List (List Ent)×List Ent} {c:Int} {x:Ent} {n:Nat} (hx:x=zsa c) (hn:s.2.length=n) (h:¬ zbd (c.tdiv 7) 12<(n:Int)+1):zti s c=(s.1,s.2 ++ [x]):=by
  unfold zti
  rw [if_neg (by simp;omega),hx]
theorem zr5 (v:Value) (codes:List Int) (w:World) (hv:zbu w v codes) (hl:codes.length≤9223372036854775807) (hb:∀ c∈codes,-9223372036854775808≤c∧c≤9223372036854775807) :
    Calls Tryz.prog 9 #[v] w fun e w'=>∃ u,e=.returned u∧zdd w' w.heap.size u (zib codes)∧Below w.heap.size w w':=by
  obtain ⟨a,cap,rfl,hc⟩:=hv
  have Hc:=zac hc
  have Hb:=zac hb
  clear hc hb
  obtain ⟨i39,hi,hz0,hz1,hz2⟩:=info_parts Tryz.info49
  obtain ⟨i36,gi,gz0,gz1,gz2⟩:=info_parts Tryz.info40
  go_enter Tryz.func9,Tryz.ntmps9
  go_wp2
  go_loopw [3,4,5] (fun vo vl i wr=>∃ k:Nat,k≤codes.length∧k≤400∧i=.int .i64 k∧zwb wr w.heap.size vo vl (zio (codes.take k))∧Below w.heap.size w wr) (fun _ _ i _=>400 - (intOf i).toNat)
  case atStart =>
    exact ⟨0,Nat.zero_le _,Nat.zero_le _,rfl,⟨w.heap.size,[],[],rfl,World.ownsRow_nil _ _ _ _,fun p hp=>by simp at hp,fun p hp=>by simp at hp,World.ownsRow_nil _ _ _ _,rfl,fun j hj=>by simp at hj,Nat.le_refl _,Nat.le_refl _⟩,Below.refl _ _⟩
  case round =>
    obtain ⟨k,hk,hk4,rfl,hI,hB⟩:=hrel
    by_cases hlt:k<codes.length∧k<400
    · obtain ⟨hlt,hlt4⟩:=hlt
      obtain ⟨b,o,rfl,hcell⟩:=(zaa Hc) k hlt
      have hx:(k:Int)<(codes.length:Int):=by omega
      have hx4:(k:Int)<400:=by omega
      have hbl:b<w.heap.size:=World.block_lt_of_cell? w _ hcell
      obtain ⟨c,hce⟩:∃ c,c=codes[k]?.getD 0:=⟨_,rfl⟩
      rw [← hce] at hcell
      rw [← hB.cell (p:=⟨b,_,none⟩) hbl] at hcell
      have hcb:-9223372036854775808≤c∧c≤9223372036854775807:=by rw [hce];simp [hlt];exact (zaa Hb) _ (List.getElem_mem hlt)
      have htk:codes.take (k+1)=codes.take k ++ [c]:=by rw [List.take_succ_eq_append_getElem hlt,hce];simp [hlt]
      have Htk:=zac htk
      have HI:=zac hI
      have HB:=zac hB
      have hBs:=hB.size
      clear hce htk hI hB
      go_wp2_with fail
      refine (ydh c _ hcb.1 hcb.2).mono ?_
      rintro e w1 ⟨rb,rfl,hrb,hrow,hb1⟩
      have hI1:=(zaa HI).below hb1
      have HB1:=zac ((zaa HB).trans (hb1.mono hBs))
      have hcell1:w1.cell? ⟨b,o+k,none⟩=some (.int .i64 c):=by rw [hb1.cell (p:=⟨b,_,none⟩) (show b<_ by omega)];exact hcell
      have hs1:=hb1.size
      have hcnt:=zta (codes.take k)
      have hkk:(codes.take k).length≤400:=by simp;omega
      obtain ⟨x,hxz⟩:∃ x,x=zsa c:=⟨_,rfl⟩
      rw [← hxz] at hrow ⊢
      have Hx:=zac hxz
      clear hxz hcell
      obtain ⟨nm,row,wt⟩:=x
      rw [ygo]
      dsimp only at hrow ⊢
      have hI2:=(hI1.below ((Below.refl _ _).alloc (Nat.le_refl _) (.cells #[.string nm,.slice (some ⟨rb,0,none⟩) row.length row.length,.int .i64 wt] 49))).below ((Below.refl _ _).alloc (Nat.le_refl _) (.cells #[.string nm,.slice (some ⟨rb,0,none⟩) row.length row.length,.int .i64 wt] 49))
      obtain ⟨m,xs,vos,h1,h2,h3,h4,h5,h6,h7,h8,h9⟩:=hI2
      have hnew:=zma (w1.alloc (.cells #[.string nm,.slice (some ⟨rb,0,none⟩) row.length row.length,.int .i64 wt] 49)) (.string nm) (.slice (some ⟨rb,0,none⟩) row.length row.length) (.int .i64 wt) 49
      rw [World.size_alloc] at hnew
      have hxl:xs.length≤400:=by
        have:=congrArg List.length h1
        simp at this
        omega
      have hvl:vos.length≤400:=by omega
      have hrb2:((w1.alloc (.cells #[.string nm,.slice (some ⟨rb,0,none⟩) row.length row.length,.int .i64 wt] 49)).alloc (.cells #[.string nm,.slice (some ⟨rb,0,none⟩) row.length row.length,.int .i64 wt] 49)).heap[rb]? = some (.cells (row.map (Value.int .i64)).toArray 2 (0,0)):=by
        have hlt:rb<w1.heap.size:=(Array.getElem?_eq_some_iff.1 hrow).1
        rw [Below.heap_alloc _ _ _ (by simp;omega),Below.heap_alloc _ _ _ hlt]
        exact hrow
      have hcell2:((w1.alloc (.cells #[.string nm,.slice (some ⟨rb,0,none⟩) row.length row.length,.int .i64 wt] 49)).alloc (.cells #[.string nm,.slice (some ⟨rb,0,none⟩) row.length row.length,.int .i64 wt] 49)).cell? ⟨b,o+k,none⟩=some (.int .i64 c):=by
        rw [World.cell?_of_block (a:=⟨b,o+k,none⟩) (Below.heap_alloc _ _ _ (show b<_ by simp;omega)),World.cell?_of_block (a:=⟨b,o+k,none⟩) (Below.heap_alloc _ _ _ (show b<_ by omega))]
        exact hcell1
      have H1:=zac h1
      have H2:=zac h2
      have H3:=zac h3
      have H4:=zac h4
      have H5:=zac h5
      have H6:=zac h6
      have H7:=zac h7
      have Hrb2:=zac hrb2
      have Hcell2:=zac hcell2
      clear h1 h3 h4 h5 h6 h7 hrow hI1 hcnt hkk hb1 hrb2 hcell1 hcell2
      go_wp2_with (first
        | (at_builtin;refine wpList_append_own_at _ rfl _ _ 40 rfl m 49 i39 _ 3 48 Tryz.underlying40 hi hz0 hz1 hz2 rfl (by decide) _ _ _ rfl (zaa H2) ⟨w1.heap.size+1,0,none⟩ 1 1 [.string nm,.slice (some ⟨rb,0,none⟩) row.length row.length,.int .i64 wt] rfl rfl hnew (by simp [Value.oneCell']) (by unfold maxLen;omega) (by omega) h9 ?_;intro vl' w2 ho hgr hnil hloc;obtain ⟨g',cap',rfl⟩:=zge ho
           have hI3:=zwb.more (x:=⟨nm,row,wt⟩) (b:=rb) (zaa H1) (zaa H2) (zaa H3) (zaa H4) (zaa H5) (zaa H6) (zaa H7) h8 h9 (zaa Hrb2) (by omega) ho hgr
           have hcell3:w2.cell? ⟨b,o+k,none⟩=some (.int .i64 c):=(World.cell?_of_block (a:=⟨b,o+k,none⟩) (hgr.block b (show b<_ by simp;omega) (fun e=>by have:=(zcq (zaa H2) b e.symm).1;omega))).trans (zaa Hcell2)
           have HI3:=zac hI3
           have HB3:=zac ((((zaa HB1).alloc (by omega) (.cells #[.string nm,.slice (some ⟨rb,0,none⟩) row.length row.length,.int .i64 wt] 49)).alloc (by simp;omega) (.cells #[.string nm,.slice (some ⟨rb,0,none⟩) row.length row.length,.int .i64 wt] 49)).grown hgr (by simp;omega) (fun j e=>by have:=(zcq (zaa H2) j e).1;omega))
           have hsz3:=hgr.size
           clear hI3 ho hgr hnil hloc h2 hnew))
      have htd:=yke c hcb.1 hcb.2
      have hpr:=zdm (c.tdiv 7) 12 (by omega)
      refine (zfm _ 12 _ htd.1 htd.2 (by omega) (by omega)).mono ?_
      rintro e w2' ⟨rfl,hw2⟩
      subst hw2
      have hsl:(zio (codes.take k)).2.length=xs.length:=by rw [zaa H1];simp
      obtain ⟨pq,hpq⟩:∃ pq,pq=zbd (c.tdiv 7) 12:=⟨_,rfl⟩
      rw [← hpq] at hpr ⊢
      have Hpq:=zac hpq
      clear hpq htd
      by_cases hlen:pq<(xs.length:Int)+1
      · have Hst:=zac (yfd (zaa Hx) hsl (by rw [← zaa Hpq];exact hlen))
        have hI4:=(zaa HI3).below ((Below.refl _ _).alloc (Nat.le_refl _) (.cells #[.slice (some ⟨g',0,none⟩) (xs.length+1) cap'] 40))
        have hnew4:=zfv w2' (.slice (some ⟨g',0,none⟩) (xs.length+1) cap') 40
        have HB4:=zac ((zaa HB3).alloc (by have:=(zaa HB3).size;omega) (.cells #[.slice (some ⟨g',0,none⟩) (xs.length+1) cap'] 40))
        obtain ⟨m',xs',vos',k1,k2,k3,k4,k5,k6,k7,k8,k9⟩:=hI4
        have hxl':0<xs'.length:=by
          have:=congrArg List.length k1
          simp at this
          omega
        have hvl':vos'.length≤400:=by
          dsimp only at k6
          have:=zaa H6
          omega
        have K1:=zac k1
        have K2:=zac k2
        have K3:=zac k3
        have K4:=zac k4
        have K5:=zac k5
        have K6:=zac k6
        have K7:=zac k7
        clear k1 k2 k3 k4 k5 k6 k7
        go_wp2_with (first
          | (at_builtin;refine wpList_append_own_at _ rfl _ _ 28 rfl w.heap.size 40 i36 _ 1 24 Tryz.underlying28 gi gz0 gz1 gz2 rfl (by decide) _ _ _ rfl (zaa K5) ⟨w2'.heap.size,0,none⟩ 1 1 [.slice (some ⟨g',0,none⟩) (xs.length+1) cap'] rfl rfl hnew4 (by simp [Value.oneCell']) (by unfold maxLen;omega) (by omega) (by omega) ?_;intro vo' w5 ho5 hgr5 hnil5 hloc5))
        have hI5:=zwb.shut (s:=((zio (codes.take k)).1,(zio (codes.take k)).2 ++ [⟨nm,row,wt⟩])) (zaa K1) (zaa K2) (zaa K3) (zaa K4) (zaa K5) (zaa K6) (zaa K7) k8 k9 hxl' ho5 hgr5
        have HI5:=zac hI5
        have HB5:=zac ((zaa HB4).grown hgr5 (zaa HB4).size (fun j e=>(zcq (zaa K5) j e).1))
        clear hI5 ho5 hgr5 hnil5 hloc5 hnew4
        go_wp2
        refine ⟨⟨k+1,by omega,by omega,by go_num,?_,zaa HB5⟩,by simp [intOf];omega⟩
        rw [zaa Htk,ziq,zaa Hst]
        exact zaa HI5
      · have Hst:=zac (yh6 (zaa Hx) hsl (by rw [← zaa Hpq];exact hlen))
        go_wp2
        refine ⟨⟨k+1,by omega,by omega,by go_num,?_,zaa HB3⟩,by simp [intOf];omega⟩
        rw [zaa Htk,ziq,zaa Hst]
        exact zaa HI3
    · have htk:codes.take 400=codes.take k:=by
        by_cases h:k<codes.length
        · have:k=400:=by omega
          rw [this]
        · rw [List.take_of_length_le (by omega),List.take_of_length_le (by omega)]
      have Htk:=zac htk
      obtain ⟨m,xs,vos,h1,h2,h3,h4,h5,h6,h7,h8,h9⟩:=hI
      have hcnt:=zta (codes.take k)
      have hkk:(codes.take k).length≤400:=by simp;omega
      have hsl:(zio (codes.take k)).2.length=xs.length:=by rw [h1];simp
      have hvl:vos.length≤400:=by omega
      have hxl:xs.length≤400:=by omega
      have hbs:=hB.size
      have HB:=zac hB
      obtain ⟨a4,cap4,rfl⟩:∃ a4 cap4,u4=.slice a4 xs.length cap4:=by
        rcases h2.2 with ⟨rfl,h0⟩|⟨g,cap,_,rfl,_⟩
        · exact ⟨none,0,by rw [h0]⟩
        · exact ⟨_,_,rfl⟩
      by_cases hx0:0<xs.length
      · have hz:Hid (zib codes=(zio (codes.take k)).1 ++ [(zio (codes.take k)).2]):=by
          unfold Hid zib;rw [htk,if_pos (by omega)]
        have hI4:zwb (wr.alloc (.cells #[.slice a4 xs.length cap4] 40)) w.heap.size u3 (.slice a4 xs.length cap4) (zio (codes.take k)):=zwb.below ⟨m,xs,vos,h1,h2,h3,h4,h5,h6,h7,h8,h9⟩ ((Below.refl _ _).alloc (Nat.le_refl _) _)
        have hnew4:=zfv wr (.slice a4 xs.length cap4) 40
        have HB4:=zac (hB.alloc hbs (.cells #[.slice a4 xs.length cap4] 40))
        obtain ⟨m',xs',vos',k1,k2,k3,k4,k5,k6,k7,k8,k9⟩:=hI4
        have hxl':0<xs'.length:=by
          have:=congrArg List.length k1
          simp at this
          omega
        have hvl':vos'.length≤400:=by omega
        have K1:=zac k1
        have K2:=zac k2
        have K3:=zac k3
        have K4:=zac k4
        have K5:=zac k5
        have K6:=zac k6
        have K7:=zac k7
        have hx0':(0:Int)<(xs.length:Int):=by omega
        clear k1 k2 k3 k4 k5 k6 k7 h1 h2 h3 h4 h5 h6 h7 hcnt hkk hsl htk hB hvl h8 h9
        have hcase:(codes.length:Int)≤k∨((k:Int)<codes.length∧(400:Int)≤k):=by omega
        rcases hcase with hc1|⟨hc1,hc2⟩
        all_goals
          go_wp2_with (first
            | (at_builtin;refine wpList_append_own_at _ rfl _ _ 28 rfl w.heap.size 40 i36 _ 1 24 Tryz.underlying28 gi gz0 gz1 gz2 rfl (by decide) _ _ _ rfl (zaa K5) ⟨wr.heap.size,0,none⟩ 1 1 [.slice a4 xs.length cap4] rfl rfl hnew4 (by simp [Value.oneCell']) (by unfold maxLen;omega) (by omega) (by simp;omega) ?_;intro vo' w5 ho5 hgr5 hnil5 hloc5))
          have hI5:=zwb.shut (zaa K1) (zaa K2) (zaa K3) (zaa K4) (zaa K5) (zaa K6) (zaa K7) k8 k9 hxl' ho5 hgr5
          have HI5:=zac hI5.bats
          have HB5:=zac ((zaa HB4).grown hgr5 (zaa HB4).size (fun j e=>(zcq (zaa K5) j e).1))
          clear hI5 ho5 hgr5 hnil5 hloc5
          go_wp2
          go_ret
          refine ⟨vo',rfl,?_,zaa HB5⟩
          rw [zaa hz]
          exact zaa HI5
      · have hz:Hid (zib codes=(zio (codes.take k)).1):=by
          unfold Hid zib;rw [htk,if_neg (by omega)]
        have HI4:Hid (zdd wr w.heap.size u3 (zio (codes.take k)).1):=zwb.bats ⟨m,xs,vos,h1,h2,h3,h4,h5,h6,h7,h8,h9⟩
        have hx0':¬ (0:Int)<(xs.length:Int):=by omega
        clear h1 h2 h3 h4 h5 h6 h7 hcnt hkk hsl htk hB hvl h8 h9
        have hcase:(codes.length:Int)≤k∨((k:Int)<codes.length∧(400:Int)≤k):=by omega
        rcases hcase with hc1|⟨hc1,hc2⟩
        all_goals
          go_wp2
          go_ret
          refine ⟨u3,rfl,?_,zaa HB⟩
          rw [zaa hz]
          exact zaa HI4
def zna:List Int:=[0,1,top,bot]
def zfj:List Row:=zna.flatMap fun a=>zna.map fun b=>(a,b,0)
def zhl:List Row:=zna.map fun a=>(a,0,0)
theorem zgv:zfj.length=16:=rfl
theorem zo0:zhl.length=4:=rfl
theorem ze1 (c:Int):ztq c∈zna:=by
 unfold ztq numT zna
 split
 ·simp
 ·split
  ·simp
  ·split <;> simp
theorem znf {a:Int} (h:a∈zna):wfI a:=by
 unfold zna top bot at h
 simp at h
 rcases h with rfl|rfl|rfl|rfl <;> (unfold wfI;decide)
theorem ziw:wfI 0:=by unfold wfI;decide
theorem zu4 {a b:Int} (ha:a∈zna) (hb:b∈zna):((a,b,0):Row)∈zfj:=by
 unfold zfj
 exact List.mem_flatMap.2 ⟨a,ha,List.mem_map.2 ⟨b,hb,rfl⟩⟩
theorem yd7 {a:Int} (ha:a∈zna):((a,0,0):Row)∈zhl:=List.mem_map.2 ⟨a,ha,rfl⟩
structure Fine (x:Ent):Prop where
 name:(x.nm=nmR∧x.row.length=2∧zc5 x.row∈zfj)∨(x.nm=nmS∧x.row.length=2∧zc5 x.row∈zfj)∨(x.nm=nmT∧x.row.length=1∧zc5 x.row∈zhl)
 wf:zaw (zc5 x.row)
 lo:-2≤x.wt
 hi:x.wt≤2
theorem ydg (c:Int):Fine (zsa c):=by
 have h5:0≤zz3 c % 5∧zz3 c % 5<5:=⟨Int.emod_nonneg _ (by omega),Int.emod_lt_of_pos _ (by omega)⟩
 unfold zsa
 split
 ·exact ⟨Or.inl ⟨rfl,rfl,zu4 (ze1 _) (ze1 _)⟩,⟨znf (ze1 _),znf (ze1 _),ziw⟩,by dsimp only;omega,by dsimp only;omega⟩
 ·split
  ·exact ⟨Or.inr (Or.inl ⟨rfl,rfl,zu4 (ze1 _) (ze1 _)⟩),⟨znf (ze1 _),znf (ze1 _),ziw⟩,by dsimp only;omega,by dsimp only;omega⟩
  ·exact ⟨Or.inr (Or.inr ⟨rfl,rfl,yd7 (ze1 _)⟩),⟨znf (ze1 _),ziw,ziw⟩,by dsimp only;omega,by dsimp only;omega⟩
theorem Fine.good {x:Ent} (h:Fine x):zn9 x:=by
 refine ⟨?_,?_,h.wf,by have:=h.lo;omega,by have:=h.hi;omega⟩
 ·rcases h.name with ⟨e,_⟩|⟨e,_⟩|⟨e,_⟩ <;> (rw [e];decide)
 ·rcases h.name with ⟨_,e,_⟩|⟨_,e,_⟩|⟨_,e,_⟩ <;> omega
theorem zf3 (a b:List Ent) (nm:ByteArray) (r:Row):zbr (a ++ b) nm r=zbr a nm r+zbr b nm r:=by
 induction a with
 | nil=>simp [zbr]
 | cons x xs ih=>simp only [List.cons_append,zbr,ih];omega
theorem zji {es:List Ent} (h:∀ x∈es,Fine x) (nm:ByteArray) (r:Row):-(2*(es.length:Int))≤zbr es nm r∧zbr es nm r≤2*(es.length:Int):=by
 induction es with
 | nil=>simp [zbr]
 | cons y ys ih =>
  have h1:=ih (fun x hx=>h x (List.mem_cons_of_mem _ hx))
  have h2:=(h y (List.mem_cons_self)).lo
  have h3:=(h y (List.mem_cons_self)).hi
  simp only [zbr,List.length_cons]
  split <;> omega
theorem yfh {es:List Ent} {nm:ByteArray} {r:Row} (h:zbr es nm r≠0):∃ x∈es,x.nm=nm∧zc5 x.row=r:=by
 induction es with
 | nil=>simp [zbr] at h
 | cons y ys ih =>
  by_cases e:y.nm=nm∧zc5 y.row=r
  ·exact ⟨y,List.mem_cons_self,e⟩
  ·simp only [zbr,if_neg e] at h
   obtain ⟨x,hx,h2⟩:=ih (by omega)
   exact ⟨x,List.mem_cons_of_mem _ hx,h2⟩
theorem zc6 {es:List Ent} (hf:∀ x∈es,Fine x) {nm:ByteArray} {r:Row} (h:zbr es nm r≠0):(nm=nmR→r∈zfj)∧(nm=nmS→r∈zfj)∧(nm=nmT→r∈zhl):=by
 obtain ⟨x,hx,hn,hr⟩:=yfh h
 have hx:=(hf x hx).name
 rw [hn,hr] at hx
 refine ⟨fun e=>?_,fun e=>?_,fun e=>?_⟩
 ·subst e
  rcases hx with ⟨_,_,h⟩|⟨e,_⟩|⟨e,_⟩
  ·exact h
  ·exact absurd e yl8
  ·exact absurd e yl9
 ·subst e
  rcases hx with ⟨e,_⟩|⟨_,_,h⟩|⟨e,_⟩
  ·exact absurd e.symm yl8
  ·exact h
  ·exact absurd e ymo
 ·subst e
  rcases hx with ⟨e,_⟩|⟨e,_⟩|⟨_,_,h⟩
  ·exact absurd e.symm yl9
  ·exact absurd e.symm ymo
  ·exact h
structure ztn (R:Rel) (ar cnt:Nat) (G:List Row):Prop where
 ar_:R.ar=ar
 n_:R.n≤2*cnt
 lo:∀ r,zaw r→-(2*(cnt:Int))≤R.f r
 hi:∀ r,zaw r→R.f r≤2*(cnt:Int)
 supp:∀ r,zaw r→R.f r≠0→r∈G
def zah (R:Rel) (es:List Ent) (nm:ByteArray):Rel:={ R with n:=R.n+2*es.length,f:=fun r=>R.f r+zbr es nm r }
theorem zpp (R S T:Rel) (es:List Ent):znt (st3 R S T) es=st3 (zah R es nmR) (zah S es nmS) (zah T es nmT):=by
 funext nm
 unfold znt
 by_cases h1:nm=nmR
 ·subst h1;rw [zlo,zlo];rfl
 ·by_cases h2:nm=nmS
  ·subst h2;rw [zpn,zpn];rfl
  ·by_cases h3:nm=nmT
   ·subst h3;rw [zpo,zpo];rfl
   ·rw [zgg h1 h2 h3,zgg h1 h2 h3];rfl
theorem ztn.add {R:Rel} {ar cnt:Nat} {G:List Row} (h:ztn R ar cnt G) {es:List Ent} (hf:∀ x∈es,Fine x) {nm:ByteArray} (hG:∀ r,zbr es nm r≠0→r∈G):ztn (zah R es nm) ar (cnt+es.length) G:=by
 refine ⟨h.ar_,?_,fun r hr=>?_,fun r hr=>?_,fun r hr h0=>?_⟩
 ·have:=h.n_;simp only [zah];omega
 ·have h1:=h.lo r hr;have h2:=(zji hf nm r).1;simp only [zah];push_cast;omega
 ·have h1:=h.hi r hr;have h2:=(zji hf nm r).2;simp only [zah];push_cast;omega
 ·simp only [zah] at h0
  by_cases e:R.f r=0
  ·exact hG r (by omega)
  ·exact h.supp r hr e
theorem ztn.start {R:Rel} {ar:Nat} (h:zgi R ar) (G:List Row):ztn R ar 0 G:=by
 obtain ⟨h1,h2,h3⟩:=h
 exact ⟨h1,by omega,fun r _=>by rw [h3];simp,fun r _=>by rw [h3];simp,fun r _ h0=>by rw [h3] at h0;exact absurd rfl h0⟩
theorem yex (l:List Int):(zio l).1.flatten ++ (zio l).2=l.map zsa:=by
 refine zx2 (P:=fun l=>(zio l).1.flatten ++ (zio l).2=l.map zsa) (by simp [zio]) (fun l c ih=>?_) l
 rw [ziq]
 unfold zti
 split
 ·simp only [List.flatten_append,List.flatten_cons,List.flatten_nil,List.append_nil,List.map_append,List.map_cons,List.map_nil]
  rw [← List.append_assoc,ih]
 ·simp only [List.map_append,List.map_cons,List.map_nil]
  rw [← List.append_assoc,ih]
theorem ybh (l:List Int):(∀ b∈(zio l).1,b.length≤12)∧(zio l).2.length≤11:=by
 refine zx2 (P:=fun l=>(∀ b∈(zio l).1,b.length≤12)∧(zio l).2.length≤11) (by simp [zio]) (fun l c ih=>?_) l
 rw [ziq]
 have hp:=zdm (c.tdiv 7) 12 (by omega)
 unfold zti
 split
 ·refine ⟨fun b hb=>?_,by simp⟩
  rcases List.mem_append.1 hb with hb|hb
  ·exact ih.1 b hb
  ·simp at hb;subst hb;simp;omega
 ·rename_i h
  refine ⟨ih.1,?_⟩
  simp at h ⊢
  omega
theorem zqz (codes:List Int):(zib codes).flatten=(codes.take 400).map zsa:=by
 have h:=yex (codes.take 400)
 unfold zib
 split
 ·rw [← h];simp
 ·rename_i h0
  have:(zio (codes.take 400)).2=[]:=List.eq_nil_of_length_eq_zero (by omega)
  rw [this] at h
  simpa using h
theorem zj1 (codes:List Int):∀ b∈zib codes,b.length≤12:=by
 have h:=ybh (codes.take 400)
 unfold zib
 split
 ·intro b hb
  rcases List.mem_append.1 hb with hb|hb
  ·exact h.1 b hb
  ·simp at hb;subst hb;omega
 ·exact h.1
theorem zl6 (codes:List Int):∀ b∈zib codes,∀ x∈b,Fine x:=by
 intro b hb x hx
 have:x∈(zib codes).flatten:=List.mem_flatten.2 ⟨b,hb,hx⟩
 rw [zqz] at this
 obtain ⟨c,_,rfl⟩:=List.mem_map.1 this
 exact ydg c
def InAr (ar:Nat) (y:Row):Prop:=zc5 (za0 ar y)=y
theorem ymz {y:Row}:(y∈zfj→InAr 2 y)∧(y∈zhl→InAr 1 y):=by
 constructor
 ·intro h
  simp only [zfj,List.mem_flatMap,List.mem_map] at h
  obtain ⟨a,_,b,_,rfl⟩:=h
  rfl
 ·intro h
  simp only [zhl,List.mem_map] at h
  obtain ⟨a,_,rfl⟩:=h
  rfl
def zkz (p:Nat→Bool):Nat→Nat
 | 0=>0
 | i+1=>zkz p i+if p i then 1 else 0
theorem ztm:∀ y∈zhl,zaw y:=by
 intro y h
 simp only [zhl,List.mem_map] at h
 obtain ⟨a,ha,rfl⟩:=h
 exact ⟨znf ha,ziw,ziw⟩
def zkf:Int→ByteArray
 | 0=>⟨#[40,88,44,90,41,58,45,114,40,88,44,89,41,44,115,40,89,44,90,41]⟩
 | 1=>⟨#[40,88,41,58,45,114,40,88,44,88,41,44,116,40,88,41]⟩
 | 2=>⟨#[40,88,44,89,44,90,41,58,45,114,40,88,44,89,41,44,114,40,89,44,90,41,44,115,40,90,44,88,41]⟩
 | 3=>⟨#[40,41,58,45,114,40,88,44,89,41,44,116,40,89,41]⟩
 | 4=>⟨#[40,89,44,89,41,58,45,115,40,49,44,89,41,44,116,40,90,41,44,114,40,90,44,89,41]⟩
 | 5=>⟨#[40,32,88,32,41,32,58,45,32,114,40,88,44,32,89,41,44,32,115,40,90,44,32,89,41,44,32,116,40,48,41]⟩
 | 6=>⟨#[40,88,44,89,41,58,45,114,40,88,44,90,41,44,114,40,90,44,89,41,44,114,40,89,44,88,41,44,116,40,90,41]⟩
 | _=>⟨#[40,41,58,45,116,40,49,41,44,114,40,48,44,45,48,41]⟩
def yba:Int→ByteArray
 | 0=>⟨#[88,89,90]⟩
 | 1=>⟨#[88]⟩
 | 2=>⟨#[88,89,90]⟩
 | 3=>⟨#[88,89]⟩
 | 4=>⟨#[89,90]⟩
 | 5=>⟨#[88,89,90]⟩
 | 6=>⟨#[88,89,90]⟩
 | _=>⟨#[]⟩
theorem zg7 (c:Int) (W:World) (hc:-9223372036854775808≤c) (hc2:c≤9223372036854775807) :
  Calls Tryz.prog 8 #[.int .i64 c] W fun e w'=>e=.returned (.tuple #[.string (zkf (zbd c 8)),.string (yba (zbd c 8))])∧w'=W:=by
 obtain ⟨k,hk⟩:∃ k,k=zbd c 8:=⟨_,rfl⟩
 have hr:=zdm c 8 (by omega)
 rw [← hk] at hr ⊢
 have HK:Hid (k=zbd c 8):=hk
 clear hk
 have hcase:k=0∨k=1∨k=2∨k=3∨k=4∨k=5∨k=6∨k=7:=by omega
 rcases hcase with rfl|rfl|rfl|rfl|rfl|rfl|rfl|rfl
 all_goals
  go_enter Tryz.func8,Tryz.ntmps8
  go_wp2_with (first|(go_at_call 18;refine (zfm _ 8 _ hc hc2 (by omega) (by omega)).mono ?_;rintro e w1 ⟨rfl,hw⟩;replace hw:=hw.symm;subst hw;rw [← HK.out]))
  go_ret2
  exact ⟨rfl,rfl⟩
end K
end Go.Proofs.YtoifcnidhfnapabGreatDoor
