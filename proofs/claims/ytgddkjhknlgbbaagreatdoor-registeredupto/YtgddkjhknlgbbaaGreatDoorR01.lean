import Derived.Test.YtgddkjhknlgbbaaGreatDoorM18
import Derived.Test.YtgddkjhknlgbbaaGreatDoorM21
set_option linter.unusedVariables false
set_option linter.unusedSimpArgs false

set_option linter.unusedVariables false
set_option linter.unusedSimpArgs false

namespace Go.Proofs.YtgddkjhknlgbbaaGreatDoor
set_option linter.unusedVariables false
set_option linter.unusedSimpArgs false
open Go.RowKit Go.Maps

/-- What both sides keep of an engine. -/
structure ZOk (zs:List ZRel):Prop where
 len:zs.length≤6
 nd:zs.Pairwise fun a b=>a.nm≠b.nm
 each:∀ z∈zs,nameB z.nm=true∧1≤z.ar∧z.ar≤3∧Sor z.ar z.L∧z.L.length≤16∧∀ p∈z.L,p.2≠0∧-1000≤p.2∧p.2≤1000

/-- The first relation of that name. -/
def findZ (zs:List ZRel) (nm:ByteArray):Option ZRel:=zs.find? fun z=>decide (z.nm=nm)

theorem findZ_none {zs:List ZRel} {nm:ByteArray}:findZ zs nm=none↔∀ z∈zs,z.nm≠nm:=by simp [findZ]

theorem findZ_some {zs:List ZRel} {nm:ByteArray} {z:ZRel} (h:findZ zs nm=some z):z∈zs∧z.nm=nm:=by
 unfold findZ at h
 exact ⟨List.mem_of_find?_eq_some h,by simpa using List.find?_some h⟩

/-- What is wrong with an entry. -/
def entryC (zs:List ZRel) (x:Ent):Int:=
 match findZ zs x.nm with
 | none=>6
 | some z=>if x.row.length≠z.ar then 2 else if x.wt < -1000∨1000<x.wt then 9 else 0

/-- What Apply answers,and what is there behind it. -/
def ApplyRes (zs:List ZRel) (es:List Ent) (c k:Int) (z:List ZRel):Prop:=
 (64<es.length∧c=4∧k=0∧z=zs) ∨
 (∃ j:Nat,es.length≤64∧j<es.length∧(∀ i,i<j→entryC zs (es[i]?.getD zeroEnt)=0)∧entryC zs (es[j]?.getD zeroEnt)≠0∧c=entryC zs (es[j]?.getD zeroEnt)∧k=j∧z=zs) ∨
 (es.length≤64∧(∀ i,i<es.length→entryC zs (es[i]?.getD zeroEnt)=0)∧(∃ i,i<zs.length∧BadW (midZ es zs i))∧c=9∧k=0∧z=zs) ∨
 (es.length≤64∧(∀ i,i<es.length→entryC zs (es[i]?.getD zeroEnt)=0)∧(∀ i,i<zs.length→¬ BadW (midZ es zs i))∧(∃ i,i<zs.length∧16<(thereZ (midZ es zs i)).length)∧c=10∧k=0∧z=zs) ∨
 (es.length≤64∧(∀ i,i<es.length→entryC zs (es[i]?.getD zeroEnt)=0)∧(∀ i,i<zs.length→¬ BadW (midZ es zs i))∧(∀ i,i<zs.length→(thereZ (midZ es zs i)).length≤16)∧c=0∧k=0∧z=zs.map (endZ es))
theorem ApplyRes.long {zs:List ZRel} {es:List Ent} (h:64<es.length):ApplyRes zs es 4 0 zs:=.inl ⟨h,rfl,rfl,rfl⟩
theorem ApplyRes.bad {zs:List ZRel} {es:List Ent} (k:Nat) (h1:es.length≤64) (h2:k<es.length) (h3:∀ i,i<k→entryC zs (es[i]?.getD zeroEnt)=0) (h4:entryC zs (es[k]?.getD zeroEnt)≠0):ApplyRes zs es (entryC zs (es[k]?.getD zeroEnt)) k zs:=.inr (.inl ⟨k,h1,h2,h3,h4,rfl,rfl,rfl⟩)
theorem ApplyRes.wts {zs:List ZRel} {es:List Ent} (h1:es.length≤64) (h2:∀ i,i<es.length→entryC zs (es[i]?.getD zeroEnt)=0) (h3:∃ i,i<zs.length∧BadW (midZ es zs i)):ApplyRes zs es 9 0 zs:=.inr (.inr (.inl ⟨h1,h2,h3,rfl,rfl,rfl⟩))
theorem ApplyRes.rws {zs:List ZRel} {es:List Ent} (h1:es.length≤64) (h2:∀ i,i<es.length→entryC zs (es[i]?.getD zeroEnt)=0) (h3:∀ i,i<zs.length→¬ BadW (midZ es zs i)) (h4:∃ i,i<zs.length∧16<(thereZ (midZ es zs i)).length):ApplyRes zs es 10 0 zs:=.inr (.inr (.inr (.inl ⟨h1,h2,h3,h4,rfl,rfl,rfl⟩)))
theorem ApplyRes.ok {zs:List ZRel} {es:List Ent} (h1:es.length≤64) (h2:∀ i,i<es.length→entryC zs (es[i]?.getD zeroEnt)=0) (h3:∀ i,i<zs.length→¬ BadW (midZ es zs i)) (h4:∀ i,i<zs.length→(thereZ (midZ es zs i)).length≤16):ApplyRes zs es 0 0 (zs.map (endZ es)):=.inr (.inr (.inr (.inr ⟨h1,h2,h3,h4,rfl,rfl,rfl⟩)))

theorem ApplyRes.unique {zs:List ZRel} {es:List Ent} {c c' k k':Int} {z z':List ZRel} (h:ApplyRes zs es c k z) (h':ApplyRes zs es c' k' z'):c=c'∧k=k'∧z=z':=by
 rcases h with ⟨hl,rfl,rfl,rfl⟩|⟨i,h1,h2,h3,h4,rfl,rfl,rfl⟩|⟨h1,h2,h3,rfl,rfl,rfl⟩|⟨h1,h2,h3,h4,rfl,rfl,rfl⟩|⟨h1,h2,h3,h4,rfl,rfl,rfl⟩
 ·rcases h' with ⟨_,rfl,rfl,rfl⟩|⟨j,g1,_⟩|⟨g1,_⟩|⟨g1,_⟩|⟨g1,_⟩
  ·exact ⟨rfl,rfl,rfl⟩
  ·omega
  ·omega
  ·omega
  ·omega
 ·rcases h' with ⟨hl,_⟩|⟨j,g1,g2,g3,g4,rfl,rfl,rfl⟩|⟨g1,g2,_⟩|⟨g1,g2,_⟩|⟨g1,g2,_⟩
  ·omega
  ·have e:i=j:=by
    rcases Nat.lt_trichotomy i j with h|h|h
    ·exact absurd (g3 i h) h4
    ·exact h
    ·exact absurd (h3 j h) g4
   subst e;exact ⟨rfl,rfl,rfl⟩
  ·exact absurd (g2 i h2) h4
  ·exact absurd (g2 i h2) h4
  ·exact absurd (g2 i h2) h4
 ·rcases h' with ⟨hl,_⟩|⟨j,g1,g2,g3,g4,_⟩|⟨_,_,_,rfl,rfl,rfl⟩|⟨_,_,g3,_⟩|⟨_,_,g3,_⟩
  ·omega
  ·exact absurd (h2 j g2) g4
  ·exact ⟨rfl,rfl,rfl⟩
  ·obtain ⟨i,hi,hb⟩:=h3;exact absurd hb (g3 i hi)
  ·obtain ⟨i,hi,hb⟩:=h3;exact absurd hb (g3 i hi)
 ·rcases h' with ⟨hl,_⟩|⟨j,g1,g2,g3,g4,_⟩|⟨_,_,g3,_⟩|⟨_,_,_,_,rfl,rfl,rfl⟩|⟨_,_,_,g4,_⟩
  ·omega
  ·exact absurd (h2 j g2) g4
  ·obtain ⟨i,hi,hb⟩:=g3;exact absurd hb (h3 i hi)
  ·exact ⟨rfl,rfl,rfl⟩
  ·obtain ⟨i,hi,hb⟩:=h4;have:=g4 i hi;omega
 ·rcases h' with ⟨hl,_⟩|⟨j,g1,g2,g3,g4,_⟩|⟨_,_,g3,_⟩|⟨_,_,_,g4,_⟩|⟨_,_,_,_,rfl,rfl,rfl⟩
  ·omega
  ·exact absurd (h2 j g2) g4
  ·obtain ⟨i,hi,hb⟩:=g3;exact absurd hb (h3 i hi)
  ·obtain ⟨i,hi,hb⟩:=g4;have:=h4 i hi;omega
  ·exact ⟨rfl,rfl,rfl⟩

/-- The numbers of every entry are numbers of the machine. -/
def WfEs (es:List Ent):Prop:=∀ x∈es,WfRow (padRow x.row)

theorem entry_ok {zs:List ZRel} {x:Ent} (h:entryC zs x=0):∃ z∈zs,z.nm=x.nm∧x.row.length=z.ar∧-1000≤x.wt∧x.wt≤1000:=by
 unfold entryC at h
 cases e:findZ zs x.nm with
 | none=>rw [e] at h;simp at h
 | some z =>
  rw [e] at h
  dsimp only at h
  obtain ⟨h1,h2⟩:=findZ_some e
  by_cases e1:x.row.length≠z.ar
  ·rw [if_pos e1] at h;omega
  ·rw [if_neg e1] at h
   by_cases e2:x.wt < -1000∨1000<x.wt
   ·rw [if_pos e2] at h;omega
   ·exact ⟨z,h1,h2,by simpa using e1,by omega,by omega⟩

theorem all_entries {zs:List ZRel} {es:List Ent} (h:∀ i,i<es.length→entryC zs (es[i]?.getD zeroEnt)=0):∀ x∈es,entryC zs x=0:=fun x hx=>by
 obtain ⟨i,hi,rfl⟩:=List.getElem_of_mem hx
 have:=h i hi
 simpa [hi] using this

theorem nd_eq {zs:List ZRel} (h:zs.Pairwise fun a b=>a.nm≠b.nm) {a b:ZRel} (ha:a∈zs) (hb:b∈zs) (e:a.nm=b.nm):a=b:=by
 obtain ⟨i,hi,rfl⟩:=List.getElem_of_mem ha
 obtain ⟨j,hj,rfl⟩:=List.getElem_of_mem hb
 rw [List.pairwise_iff_getElem] at h
 rcases Nat.lt_trichotomy i j with hij|hij|hij
 ·exact absurd e (h i j hi hj hij)
 ·subst hij;rfl
 ·exact absurd e.symm (h j i hj hi hij)

/-- A relation behind the batch is in order. -/
theorem mid_sor {zs:List ZRel} (hz:ZOk zs) {es:List Ent} (hw:WfEs es) (he:∀ x∈es,entryC zs x=0) {z:ZRel} (hm:z∈zs):Sor z.ar (putAll z.nm es z.L):=by
 refine (hz.each z hm).2.2.2.1.putAll (fun x hx e=>⟨?_,hw x hx⟩)
 obtain ⟨z',h1,h2,h3,_⟩:=entry_ok (he x hx)
 have:=nd_eq hz.nd h1 hm (h2.trans e)
 rw [h3,this]

theorem badW_iff {zs:List ZRel} (hz:ZOk zs) {es:List Ent} (hw:WfEs es) (he:∀ x∈es,entryC zs x=0) {z:ZRel} (hm:z∈zs) {f:Row→Int} (hf:∀ r,WfRow r→f r=fOf z.L r):FitsW f (sumE es z.nm)↔¬ BadW (putAll z.nm es z.L):=by
 have hS:=mid_sor hz hw he hm
 have h3:=(hz.each z hm).2.2.1
 constructor
 ·rintro hF ⟨p,hp,hb⟩
  have h1:=fOf_mem h3 hS p hp
  rw [fOf_putAll] at h1
  have hwf:=hS.wf p hp
  have h2:=hF _ hwf
  rw [hf _ hwf] at h2
  by_cases h0:sumE es z.nm (padRow p.1)=0
  ·rw [h0] at h1
   have hL:=(hz.each z hm).2.2.2.1
   rcases fOf_cases h3 hL (padRow p.1) with ⟨h4,_⟩|⟨q,hq,_,h4⟩
   ·omega
   ·have:=((hz.each z hm).2.2.2.2.2 q hq).2
    omega
  ·have:=h2 h0
   omega
 ·intro hB r hr h0
  rw [hf r hr]
  have h1:=fOf_putAll z.nm r es z.L
  rcases fOf_cases h3 hS r with ⟨h4,_⟩|⟨q,hq,_,h4⟩
  ·omega
  ·have:¬ (q.2 < -1000∨1000<q.2):=fun h=>hB ⟨q,hq,h⟩
   omega

theorem there_rows {ar:Nat} (h3:ar≤3) {M:List RowZ} (h:Sor ar M):((thereZ M).map fun p=>padRow p.1).Pairwise (·≠·):=by
 rw [List.pairwise_map]
 exact h.there.apart h3

theorem rows_iff {zs:List ZRel} (hz:ZOk zs) {es:List Ent} (hw:WfEs es) (he:∀ x∈es,entryC zs x=0) {z:ZRel} (hm:z∈zs) {f:Row→Int} (hf:∀ r,WfRow r→f r=fOf z.L r):FitsR' es z.nm f↔(thereZ (putAll z.nm es z.L)).length≤16:=by
 have hS:=mid_sor hz hw he hm
 have h3:=(hz.each z hm).2.2.1
 have hval:∀ r,WfRow r→f r+sumE es z.nm r=fOf (thereZ (putAll z.nm es z.L)) r:=fun r hr=>by rw [hf r hr,fOf_there,fOf_putAll]
 constructor
 ·intro hF
  by_cases hx:∃ x∈es,x.nm=z.nm
  ·obtain ⟨G,hG1,hG2⟩:=hF hx
   have h1:=length_le_of_apart ((thereZ (putAll z.nm es z.L)).map fun p=>padRow p.1) G (there_rows h3 hS) (fun r hr=>by
    obtain ⟨p,hp,rfl⟩:=List.mem_map.1 hr
    have hwf:=hS.there.wf p hp
    refine hG2 _ hwf ?_
    rw [hval _ hwf,fOf_mem h3 hS.there p hp]
    have:=(List.mem_filter.1 hp).2
    simpa using this)
   simp at h1
   omega
  ·have hno:∀ x∈es,x.nm≠z.nm:=fun x h1 h2=>hx ⟨x,h1,h2⟩
   have e:putAll z.nm es z.L=z.L:=by
    clear hF hval hS hw he
    induction es with
    | nil=>rfl
    | cons y ys ih =>
     simp only [putAll]
     rw [if_neg (hno y List.mem_cons_self)]
     exact ih (fun ⟨x,h1,h2⟩=>hx ⟨x,List.mem_cons_of_mem _ h1,h2⟩) (fun x h1=>hno x (List.mem_cons_of_mem _ h1))
   rw [e]
   have:=List.length_filter_le (fun p:RowZ=>decide (p.2≠0)) z.L
   have h16:=(hz.each z hm).2.2.2.2.1
   unfold thereZ
   omega
 ·intro hl _
  refine ⟨(thereZ (putAll z.nm es z.L)).map fun p=>padRow p.1,by simpa using hl,fun r hr h0=>?_⟩
  rw [hval r hr] at h0
  rcases fOf_cases h3 hS.there r with ⟨h4,_⟩|⟨q,hq,hqr,_⟩
  ·exact absurd h4 h0
  ·exact List.mem_map.2 ⟨q,hq,hqr⟩

/-- Behind a batch that was taken,all is as it should be. -/
theorem ZOk.applied {zs:List ZRel} (hz:ZOk zs) {es:List Ent} (hw:WfEs es) (he:∀ x∈es,entryC zs x=0) (hB:∀ i,i<zs.length→¬ BadW (midZ es zs i)) (hR:∀ i,i<zs.length→(thereZ (midZ es zs i)).length≤16):ZOk (zs.map (endZ es)):=by
 have hidx:∀ z∈zs,∃ i,i<zs.length∧midZ es zs i=putAll z.nm es z.L:=fun z hm=>by
  obtain ⟨i,hi,rfl⟩:=List.getElem_of_mem hm
  exact ⟨i,hi,by simp [midZ,hi]⟩
 refine ⟨by simpa using hz.len,?_,fun z' hz'=>?_⟩
 ·rw [List.pairwise_map];exact hz.nd
 ·obtain ⟨z,hm,rfl⟩:=List.mem_map.1 hz'
  obtain ⟨i,hi,hmi⟩:=hidx z hm
  have hS:=mid_sor hz hw he hm
  obtain ⟨h1,h2,h3,_⟩:=hz.each z hm
  refine ⟨h1,h2,h3,hS.there,by have:=hR i hi;rw [hmi] at this;exact this,fun p hp=>?_⟩
  have h4:=List.mem_filter.1 hp
  have h5:=hB i hi
  rw [hmi] at h5
  have h6:¬ (p.2 < -1000∨1000<p.2):=fun h=>h5 ⟨p,h4.1,h⟩
  exact ⟨by simpa using h4.2,by omega,by omega⟩

end Go.Proofs.YtgddkjhknlgbbaaGreatDoor

namespace Go.Proofs.YtgddkjhknlgbbaaGreatDoor
set_option linter.unusedVariables false
set_option linter.unusedSimpArgs false
open Go.RowKit Go.Maps

set_option maxRecDepth 100000 in
set_option maxHeartbeats 1000000 in
/-- Create,where there are as many relations as may be. -/
theorem create_limit (s:ByteArray) (ar:Nat) (w:World) {eb db nD S E:Nat} {st:St} (hE:EngRep w eb db nD S E st) (hs:nameB s=true) (h1:1≤ar) (h2:ar≤3) (hR:st s=none) (hn:s.size≤1000) (hnD:6≤nD) (hnD2:nD≤1000) :
  Calls Tryz.prog 12 #[.pointer (some ⟨eb,0,none⟩),.string s,.int .i64 ar] w fun e w'=>e=.returned (.int .i64 4)∧w'=w:=by
 have hsz:s.size≤maxLen:=Nat.le_trans hn (by unfold maxLen;omega)
 have hrun:=hE.miss hsz hR
 have c0:w.cell? ⟨eb,0,none⟩=some (.map (some db)):=hE.c0
 obtain ⟨D,hown,hsz0,hhas,hat⟩:=hE.dir
 have Hs:=hide hs
 have t1:¬ (ar:Int)<1:=by omega
 have t2:¬ 3<(ar:Int):=by omega
 have t3:6≤(Maps.size D:Int):=by omega
 clear hE hs hR hhas hat
 go_enter Tryz.func12,Tryz.ntmps12
 go_wp2_with (first
  | (go_at_call 27;refine (isName_any s _ (by omega)).mono ?_;rintro e w1 ⟨rfl,rfl⟩;rw [unhide Hs])
  | (at_len;refine wpList_len_own _ rfl _ 60 rfl 9 65 Tryz.underlying60 _ db nD D rfl hown ?_))
 go_ret
 exact ⟨rfl,rfl⟩

/-- The program's engine: its blocks are T's. -/
structure EngSide (T:Nat→Prop) (W:World) (eb:Nat) (zs:List ZRel) (N:Nat):Prop where
 ex:∃ db E st,EngRep W eb db zs.length 0 E st∧T eb∧T db∧(∀ nm R,st nm=some R→T R.rb∧T R.mb)∧(∀ nm,st nm=none↔∀ z∈zs,z.nm≠nm) ∧
  ∀ z∈zs,∃ R,st z.nm=some R∧R.ar=z.ar∧R.n≤N∧∀ r,WfRow r→R.f r=fOf z.L r

theorem EngRep.keptT {w w':World} {eb db nD S E:Nat} {st:St} (h:EngRep w eb db nD S E st) (hs:w.heap.size≤w'.heap.size) (he:w'.heap[eb]? = w.heap[eb]?) (hd:w'.heap[db]? = w.heap[db]?) (hr:∀ nm R,st nm=some R→w'.heap[R.rb]? = w.heap[R.rb]?∧w'.heap[R.mb]? = w.heap[R.mb]?):EngRep w' eb db nD S E st:=by
 obtain ⟨⟨xe,e,e0⟩,⟨D,⟨es,clock,h1,h2⟩,hD⟩,r,ap,inn,inr,top⟩:=h
 exact ⟨⟨xe,he.trans e,e0⟩,⟨D,⟨es,clock,hd.trans h1,h2⟩,hD⟩,fun nm R hR=>⟨(hr nm R hR).1.trans (r nm R hR).1,(r nm R hR).2.kept (hr nm R hR).2⟩,ap,inn,inr,Nat.le_trans top hs⟩

theorem EngRep.top' {w:World} {eb db nD S E:Nat} {st:St} (h:EngRep w eb db nD S E st):EngRep w eb db nD S w.heap.size st:=by
 obtain ⟨e,d,r,ap,inn,inr,top⟩:=h
 exact ⟨e,d,r,ap,⟨inn.1,by omega,inn.2.2.1,by omega⟩,fun nm R hR=>by have:=inr nm R hR;omega,Nat.le_refl _⟩

theorem EngSide.kept {T:Nat→Prop} {W W':World} {eb:Nat} {zs:List ZRel} {N:Nat} (h:EngSide T W eb zs N) (hs:W.heap.size≤W'.heap.size) (hk:∀ b,T b→b<W.heap.size→W'.heap[b]? = W.heap[b]?):EngSide T W' eb zs N:=by
 obtain ⟨db,E,st,hE,h1,h2,h3,h4,h5⟩:=h.ex
 have ht:=hE.top
 have hi:=hE.inn
 exact ⟨db,E,st,hE.keptT hs (hk eb h1 (by omega)) (hk db h2 (by omega)) (fun nm R hR=>by
  have:=hE.inr nm R hR
  exact ⟨hk _ (h3 nm R hR).1 (by omega),hk _ (h3 nm R hR).2 (by omega)⟩),h1,h2,h3,h4,h5⟩

theorem EngSide.imp {T T':Nat→Prop} {W:World} {eb:Nat} {zs:List ZRel} {N N':Nat} (h:EngSide T W eb zs N) (hT:∀ b,T b→T' b) (hN:N≤N'):EngSide T' W eb zs N':=by
 obtain ⟨db,E,st,hE,h1,h2,h3,h4,h5⟩:=h.ex
 exact ⟨db,E,st,hE,hT _ h1,hT _ h2,fun nm R hR=>⟨hT _ (h3 nm R hR).1,hT _ (h3 nm R hR).2⟩,h4,fun z hz=>by obtain ⟨R,a,b,c,d⟩:=h5 z hz;exact ⟨R,a,b,by omega,d⟩⟩

/-- What Create answers. -/
def createC (zs:List ZRel) (nm:ByteArray) (ar:Int):Int:=
 if nameB nm=false then 1 else if ar<1∨3<ar then 2 else if (findZ zs nm).isSome=true then 3 else if 6≤zs.length then 4 else 0
def createS (zs:List ZRel) (nm:ByteArray) (ar:Int):List ZRel:=if createC zs nm ar=0 then zs ++ [⟨nm,ar.toNat,[]⟩] else zs

theorem createC_zero {zs:List ZRel} {nm:ByteArray} {ar:Int} (h:createC zs nm ar=0):nameB nm=true∧1≤ar∧ar≤3∧(∀ z∈zs,z.nm≠nm)∧zs.length<6:=by
 unfold createC at h
 by_cases h1:nameB nm=false
 ·rw [if_pos h1] at h;omega
 ·rw [if_neg h1] at h
  by_cases h2:ar<1∨3<ar
  ·rw [if_pos h2] at h;omega
  ·rw [if_neg h2] at h
   by_cases h3:(findZ zs nm).isSome=true
   ·rw [if_pos h3] at h;omega
   ·rw [if_neg h3] at h
    by_cases h4:6≤zs.length
    ·rw [if_pos h4] at h;omega
    ·exact ⟨by simpa using h1,by omega,by omega,findZ_none.1 (by simpa using h3),by omega⟩

theorem ZOk.created {zs:List ZRel} (h:ZOk zs) (nm:ByteArray) (ar:Int):ZOk (createS zs nm ar):=by
 unfold createS
 by_cases e:createC zs nm ar=0
 ·rw [if_pos e]
  obtain ⟨h1,h2,h3,h4,h5⟩:=createC_zero e
  refine ⟨by simp;omega,List.pairwise_append.2 ⟨h.nd,List.pairwise_singleton _ _,fun a ha b hb=>?_⟩,fun z hz=>?_⟩
  ·simp at hb;subst hb;exact h4 a ha
  ·rcases List.mem_append.1 hz with hz|hz
   ·exact h.each z hz
   ·simp at hz;subst hz
    exact ⟨h1,by show 1≤ar.toNat;omega,by show ar.toNat≤3;omega,⟨fun p hp=>by simp at hp,fun p hp=>by simp at hp,List.Pairwise.nil⟩,by simp,fun p hp=>by simp at hp⟩
 ·rw [if_neg e];exact h

theorem name_size {nm:ByteArray} (h:nameB nm=true):nm.size≤8:=by
 unfold nameB at h
 simp at h
 exact h.1.2

theorem EngRep.ne_dir {w:World} {eb db nD S E:Nat} {st:St} (h:EngRep w eb db nD S E st):eb≠db:=fun e=>by
 obtain ⟨xs,h1,_⟩:=h.eng
 obtain ⟨D,⟨es,clock,h2,_⟩,_⟩:=h.dir
 rw [e,h2] at h1
 cases h1
theorem EngRep.ne_map {w:World} {eb db nD S E:Nat} {st:St} (h:EngRep w eb db nD S E st) {nm:ByteArray} {R:Rel} (hR:st nm=some R):eb≠R.mb:=fun e=>by
 obtain ⟨xs,h1,_⟩:=h.eng
 obtain ⟨D,⟨es,clock,h2,_⟩,_⟩:=(h.rel nm R hR).2
 rw [e,h2] at h1
 cases h1
theorem engCreate (T:Nat→Prop) (W:World) (eb:Nat) (zs:List ZRel) (N:Nat) (nm:ByteArray) (ar:Int) (h:EngSide T W eb zs N) (hz:ZOk zs) (hn:nm.size≤9223372036854775807) :
  Calls Tryz.prog 12 #[.pointer (some ⟨eb,0,none⟩),.string nm,.int .i64 ar] W fun e w'=>e=.returned (.int .i64 (createC zs nm ar))∧EngSide (fun b=>T b∨W.heap.size≤b∧b<w'.heap.size) w' eb (createS zs nm ar) N∧Mid T W w'∧w'.heap[eb]? = W.heap[eb]?:=by
 have hsame:createC zs nm ar≠0→EngSide (fun b=>T b∨W.heap.size≤b∧b<W.heap.size) W eb (createS zs nm ar) N:=fun hc=>by
  unfold createS;rw [if_neg hc]
  exact h.imp (fun b hb=>.inl hb) (Nat.le_refl _)
 by_cases h1:nameB nm=false
 ·have hc:createC zs nm ar=1:=by unfold createC;rw [if_pos h1]
  refine (create_name (some ⟨eb,0,none⟩) nm ar W h1 hn).mono ?_
  rintro e w' ⟨rfl,rfl⟩
  exact ⟨by rw [hc],hsame (by omega),Mid.refl _ _,rfl⟩
 ·have h1':nameB nm=true:=by simpa using h1
  by_cases h2:ar<1∨3<ar
  ·have hc:createC zs nm ar=2:=by unfold createC;rw [if_neg h1,if_pos h2]
   refine (create_arity (some ⟨eb,0,none⟩) nm ar W h1' hn h2).mono ?_
   rintro e w' ⟨rfl,rfl⟩
   exact ⟨by rw [hc],hsame (by omega),Mid.refl _ _,rfl⟩
  ·obtain ⟨a,rfl⟩:∃ a:Nat,ar=a:=⟨ar.toNat,by omega⟩
   have ha1:1≤a:=by omega
   have ha2:a≤3:=by omega
   have hs8:=name_size h1'
   obtain ⟨db,E,st,hE,t1,t2,t3,t4,t5⟩:=h.ex
   by_cases h3:(findZ zs nm).isSome=true
   ·have hc:createC zs nm a=3:=by unfold createC;rw [if_neg h1,if_neg h2,if_pos h3]
    obtain ⟨z,hz'⟩:=Option.isSome_iff_exists.1 h3
    obtain ⟨hm,hnm⟩:=findZ_some hz'
    obtain ⟨R,hR,_⟩:=t5 z hm
    rw [hnm] at hR
    refine (create_taken nm a W hE h1' ha1 ha2 hR (by omega)).mono ?_
    rintro e w' ⟨rfl,rfl⟩
    exact ⟨by rw [hc],hsame (by omega),Mid.refl _ _,rfl⟩
   ·have hno:∀ z∈zs,z.nm≠nm:=findZ_none.1 (by simpa using h3)
    have hR:st nm=none:=(t4 nm).2 hno
    by_cases h4:6≤zs.length
    ·have hc:createC zs nm a=4:=by unfold createC;rw [if_neg h1,if_neg h2,if_neg h3,if_pos h4]
     refine (create_limit nm a W hE h1' ha1 ha2 hR (by omega) h4 (by have:=hz.len;omega)).mono ?_
     rintro e w' ⟨rfl,rfl⟩
     exact ⟨by rw [hc],hsame (by omega),Mid.refl _ _,rfl⟩
    ·have hc:createC zs nm a=0:=by unfold createC;rw [if_neg h1,if_neg h2,if_neg h3,if_neg h4]
     refine (create_ok nm a W hE h1' ha1 ha2 hR (by omega) (by omega)).mono ?_
     rintro e w' ⟨rfl,⟨rb,mb,hrb,hmb,hE'⟩,hg⟩
     refine ⟨by rw [hc],?_,Mid.of_grown hg t2,hg.block eb (by have:=hE.inn;have:=hE.top;omega) (fun e=>hE.ne_dir (Option.some.inj e))⟩
     have hS:createS zs nm a=zs ++ [⟨nm,a,[]⟩]:=by unfold createS;rw [if_pos hc];simp
     rw [hS]
     have hin:=hE'.inr nm ⟨rb,mb,a,0,fun _=>0⟩ (by simp [stSet])
     refine ⟨db,w'.heap.size,_,by simpa using hE',.inl t1,.inl t2,fun m R hm=>?_,fun m=>?_,fun z hz'=>?_⟩
     ·unfold stSet at hm
      by_cases e:m=nm
      ·simp [e] at hm;subst hm
       exact ⟨.inr ⟨hrb,hin.2.1⟩,.inr ⟨hmb,hin.2.2.2.1⟩⟩
      ·simp [e] at hm
       exact ⟨.inl (t3 m R hm).1,.inl (t3 m R hm).2⟩
     ·unfold stSet
      by_cases e:m=nm
      ·subst e
       rw [if_pos rfl]
       exact ⟨fun h=>(by cases h),fun h=>absurd rfl (h ⟨m,a,[]⟩ (by simp))⟩
      ·simp only [e,if_false,t4 m]
       constructor
       ·intro h z hz'
        rcases List.mem_append.1 hz' with hz'|hz'
        ·exact h z hz'
        ·simp at hz';subst hz';exact fun x=>e x.symm
       ·exact fun h z hz'=>h z (List.mem_append_left _ hz')
     ·rcases List.mem_append.1 hz' with hz'|hz'
      ·obtain ⟨R,a1,a2,a3,a4⟩:=t5 z hz'
       exact ⟨R,by unfold stSet;simp [hno z hz',a1],a2,a3,a4⟩
      ·simp at hz';subst hz'
       exact ⟨⟨rb,mb,a,0,fun _=>0⟩,by simp [stSet],rfl,Nat.zero_le _,fun r _=>rfl⟩

end Go.Proofs.YtgddkjhknlgbbaaGreatDoor

namespace Go.Proofs.YtgddkjhknlgbbaaGreatDoor
set_option linter.unusedVariables false
set_option linter.unusedSimpArgs false
open Go.RowKit Go.Maps

/-- What the program finds wrong with an entry. -/
theorem chk_of {zs:List ZRel} {st:St} (hst:∀ nm,st nm=none↔∀ z∈zs,z.nm≠nm) (hrel:∀ z∈zs,∃ R,st z.nm=some R∧R.ar=z.ar) (har:∀ z∈zs,z.ar≤3) {x:Ent} (hn:x.nm.size≤maxLen) (hl:x.row.length≤1000000000):Chk st x (entryC zs x):=by
 unfold entryC
 cases e:findZ zs x.nm with
 | none=>exact chk_miss hn ((hst x.nm).2 (findZ_none.1 e))
 | some z =>
  obtain ⟨hm,hnm⟩:=findZ_some e
  obtain ⟨R,hR,hRa⟩:=hrel z hm
  rw [hnm] at hR
  have h3:=har z hm
  dsimp only
  by_cases e1:x.row.length≠z.ar
  ·rw [if_pos e1]
   exact chk_arity hn hR hl (by rw [hRa];exact e1) (by omega)
  ·rw [if_neg e1]
   have e1':x.row.length=R.ar:=by rw [hRa];simpa using e1
   by_cases e2:x.wt < -1000∨1000<x.wt
   ·rw [if_pos e2];exact chk_weight hn hR hl e1' e2
   ·rw [if_neg e2];exact chk_ok hn hR hl e1' (by omega)

/-- A batch as it may be: what the machine can hold. -/
structure FineB (es:List Ent):Prop where
 wf:WfEs es
 nm:∀ x∈es,x.nm.size≤10000000
 row:∀ x∈es,x.row.length≤10000000
 len:es.length≤10000000

theorem first_bad (zs:List ZRel) (es:List Ent):(∀ i,i<es.length→entryC zs (es[i]?.getD zeroEnt)=0)∨∃ k,k<es.length∧(∀ i,i<k→entryC zs (es[i]?.getD zeroEnt)=0)∧entryC zs (es[k]?.getD zeroEnt)≠0:=by
 have key:∀ n,n≤es.length→(∀ i,i<n→entryC zs (es[i]?.getD zeroEnt)=0)∨∃ k,k<es.length∧(∀ i,i<k→entryC zs (es[i]?.getD zeroEnt)=0)∧entryC zs (es[k]?.getD zeroEnt)≠0:=by
  intro n
  induction n with
  | zero=>exact fun _=>.inl (fun i hi=>absurd hi (Nat.not_lt_zero _))
  | succ n ih =>
   intro hn
   rcases ih (by omega) with h|h
   ·by_cases e:entryC zs (es[n]?.getD zeroEnt)=0
    ·refine .inl (fun i hi=>?_)
     by_cases e':i=n
     ·rw [e'];exact e
     ·exact h i (by omega)
    ·exact .inr ⟨n,by omega,h,e⟩
   ·exact .inr h
 exact key es.length (Nat.le_refl _)

theorem engApply (T:Nat→Prop) (W:World) (eb:Nat) (zs:List ZRel) (N:Nat) (bv:Value) (es:List Ent) (h:EngSide T W eb zs N) (hz:ZOk zs) (hv:EntsAt W bv es) (hF:FineB es) (hN:N≤900000000) :
  Calls Tryz.prog 15 #[.pointer (some ⟨eb,0,none⟩),bv] W fun e w'=>∃ c k zs',e=.returned (.tuple #[.int .i64 c,.int .i64 k])∧ApplyRes zs es c k zs'∧EngSide T w' eb zs' (N+128)∧Mid T W w'∧w'.heap[eb]? = W.heap[eb]?:=by
 obtain ⟨db,E,st,hE,t1,t2,t3,t4,t5⟩:=h.ex
 have helt:eb<W.heap.size:=by have:=hE.inn;have:=hE.top;omega
 have hsame:EngSide T W eb zs (N+128):=h.imp (fun b hb=>hb) (by omega)
 have hbelow:∀ w',Below W.heap.size W w'→EngSide T w' eb zs (N+128):=fun w' hb=>hsame.kept hb.size (fun b _ hlt=>hb.block b hlt)
 have hrel:∀ z∈zs,∃ R,st z.nm=some R∧R.ar=z.ar:=fun z hm=>by obtain ⟨R,a,b,_⟩:=t5 z hm;exact ⟨R,a,b⟩
 have har:∀ z∈zs,z.ar≤3:=fun z hm=>(hz.each z hm).2.2.1
 have hchk:∀ x∈es,Chk st x (entryC zs x):=fun x hx=>chk_of t4 hrel har (Nat.le_trans (hF.nm x hx) (by unfold maxLen;omega)) (by have:=hF.row x hx;omega)
 have hmem:∀ i,i<es.length→es[i]?.getD zeroEnt∈es:=fun i hi=>by simp [hi]
 by_cases hl:64<es.length
 ·obtain ⟨a,cap,rfl,_⟩:=hv
  refine (apply_long (some ⟨eb,0,none⟩) a es.length cap W hl).mono ?_
  rintro e w' ⟨rfl,rfl⟩
  exact ⟨4,0,zs,rfl,.long hl,hsame,Mid.refl _ _,rfl⟩
 ·have hl':es.length≤64:=by omega
  rcases first_bad zs es with hall|⟨k,hk,hk1,hk2⟩
  ·have hall':=all_entries hall
   have hg:∀ x∈es,GoodEnt x:=fun x hx=>by
    obtain ⟨z,h1,h2,h3,h4,h5⟩:=entry_ok (hall' x hx)
    have h6:=name_size (hz.each z h1).1
    have h7:=har z h1
    rw [h2] at h6
    exact ⟨by omega,by omega,hF.wf x hx,h4,h5⟩
   have hkn:∀ x∈es,st x.nm≠none:=fun x hx e=>by
    obtain ⟨z,h1,h2,_⟩:=entry_ok (hall' x hx)
    exact (t4 x.nm).1 e z h1 h2
   have hback:∀ nm R,st nm=some R→∃ z∈zs,z.nm=nm∧R.n≤N∧∀ r,WfRow r→R.f r=fOf z.L r:=fun nm R hR=>by
    by_cases e:∀ z∈zs,z.nm≠nm
    ·rw [(t4 nm).2 e] at hR;cases hR
    ·obtain ⟨z,hzz⟩:=Classical.not_forall.1 e
     obtain ⟨h1,h2⟩:=Classical.not_imp.1 hzz
     have h2:z.nm=nm:=Classical.not_not.1 h2
     obtain ⟨R',a,_,b,c⟩:=t5 z h1
     rw [h2,hR] at a
     cases a
     exact ⟨z,h1,h2,b,c⟩
   have hfit:∀ nm R,st nm=some R→R.n+2*es.length≤1000000000∧(∀ r,WfRow r→-1000≤R.f r∧R.f r≤1000):=fun nm R hR=>by
    obtain ⟨z,h1,h2,h3,h4⟩:=hback nm R hR
    refine ⟨by omega,fun r hr=>?_⟩
    rw [h4 r hr]
    obtain ⟨_,_,g3,g4,_,g6⟩:=hz.each z h1
    rcases fOf_cases g3 g4 r with ⟨h5,_⟩|⟨q,hq,_,h5⟩
    ·omega
    ·have:=g6 q hq;omega
   have hWi:(∀ nm R,st nm=some R→FitsW R.f (sumE es nm))↔∀ i,i<zs.length→¬ BadW (midZ es zs i):=by
    constructor
    ·intro hA i hi
     have hm:=zmem hi
     obtain ⟨R,a,_,_,c⟩:=t5 _ hm
     exact (badW_iff hz hF.wf hall' hm c).1 (hA _ R a)
    ·intro hA nm R hR
     obtain ⟨z,h1,h2,_,h4⟩:=hback nm R hR
     obtain ⟨i,hi,hzi⟩:=List.getElem_of_mem h1
     have:=hA i hi
     have e:midZ es zs i=putAll z.nm es z.L:=by unfold midZ;simp [hi,hzi]
     rw [e] at this
     rw [← h2]
     exact (badW_iff hz hF.wf hall' h1 h4).2 this
   have hRi:(∀ nm R,st nm=some R→FitsR' es nm R.f)↔∀ i,i<zs.length→(thereZ (midZ es zs i)).length≤16:=by
    constructor
    ·intro hA i hi
     have hm:=zmem hi
     obtain ⟨R,a,_,_,c⟩:=t5 _ hm
     exact (rows_iff hz hF.wf hall' hm c).1 (hA _ R a)
    ·intro hA nm R hR
     obtain ⟨z,h1,h2,_,h4⟩:=hback nm R hR
     obtain ⟨i,hi,hzi⟩:=List.getElem_of_mem h1
     have:=hA i hi
     have e:midZ es zs i=putAll z.nm es z.L:=by unfold midZ;simp [hi,hzi]
     rw [e] at this
     rw [← h2]
     exact (rows_iff hz hF.wf hall' h1 h4).2 this
   have hok:∀ i,i<es.length→Chk st (es[i]?.getD zeroEnt) 0:=fun i hi=>by
    have:=hchk _ (hmem i hi)
    rw [hall i hi] at this
    exact this
   refine (apply_gen bv es W hE hv hl' hg hok hkn hfit).mono ?_
   rintro e w' ⟨c,rfl,hM,hc⟩
   have hMT:Mid T W w':=hM.imp (fun k ⟨nm,R,h1,h2⟩=>by rw [← h2];exact (t3 nm R h1).2)
   have hkeb:w'.heap[eb]? = W.heap[eb]?:=hM.block eb helt (fun ⟨nm,R,h1,h2⟩=>hE.ne_map h1 h2.symm)
   rcases hc with ⟨rfl,hw,hb⟩|⟨rfl,hw,hr,hb⟩|⟨rfl,hw,hr,hE'⟩
   ·rw [hWi] at hw
    obtain ⟨i,hi⟩:=Classical.not_forall.1 hw
    obtain ⟨hi1,hi2⟩:=Classical.not_imp.1 hi
    exact ⟨9,0,zs,rfl,.wts hl' hall ⟨i,hi1,Classical.not_not.1 hi2⟩,hbelow w' hb,hMT,hkeb⟩
   ·rw [hWi] at hw
    rw [hRi] at hr
    obtain ⟨i,hi⟩:=Classical.not_forall.1 hr
    obtain ⟨hi1,hi2⟩:=Classical.not_imp.1 hi
    exact ⟨10,0,zs,rfl,.rws hl' hall hw ⟨i,hi1,by omega⟩,hbelow w' hb,hMT,hkeb⟩
   ·rw [hWi] at hw
    rw [hRi] at hr
    refine ⟨0,0,zs.map (endZ es),rfl,.ok hl' hall hw hr,⟨db,E,stSum st es,by simpa using hE',t1,t2,fun nm R hR=>?_,fun nm=>?_,fun z' hz'=>?_⟩,hMT,hkeb⟩
    ·unfold stSum at hR
     obtain ⟨R0,hR0,rfl⟩:=Option.map_eq_some_iff.1 hR
     exact t3 nm R0 hR0
    ·unfold stSum
     rw [Option.map_eq_none_iff,t4 nm]
     constructor
     ·intro h z' hz'
      obtain ⟨z,hm,rfl⟩:=List.mem_map.1 hz'
      exact h z hm
     ·intro h z hm
      exact h (endZ es z) (List.mem_map_of_mem hm)
    ·obtain ⟨z,hm,rfl⟩:=List.mem_map.1 hz'
     obtain ⟨R,a1,a2,a3,a4⟩:=t5 z hm
     refine ⟨{ R with n:=R.n+2*es.length,f:=fun r=>R.f r+sumE es z.nm r },by unfold stSum;show (st z.nm).map _=some _;rw [a1];rfl,a2,by show R.n+2*es.length≤N+128;omega,fun r hr=>?_⟩
     show R.f r+sumE es z.nm r=fOf (thereZ (putAll z.nm es z.L)) r
     rw [a4 r hr,fOf_there,fOf_putAll]
  ·have hb:Chk st (es[k]?.getD zeroEnt) (entryC zs (es[k]?.getD zeroEnt)):=hchk _ (hmem k hk)
   refine (apply_bad bv es k _ W hE hv hl' hk (fun i hi=>by have:=hchk _ (hmem i (by omega));rw [hk1 i hi] at this;exact this) hb hk2).mono ?_
   rintro e w' ⟨rfl,hb'⟩
   exact ⟨_,k,zs,rfl,.bad k hl' hk hk1 hk2,hbelow w' hb',Mid.of_below hb',hb'.block eb helt⟩

/-- The program's Rows. -/
theorem engRows (T:Nat→Prop) (W:World) (eb:Nat) (zs:List ZRel) (N:Nat) (nm:ByteArray) (z:ZRel) (h:EngSide T W eb zs N) (hz:ZOk zs) (hf:findZ zs nm=some z) (hN:N≤900000000) :
  Calls Tryz.prog 52 #[.pointer (some ⟨eb,0,none⟩),.string nm] W fun e w'=>∃ v rsx,e=.returned (.tuple #[v,.int .i64 0])∧w'.ownsRow W.heap.size 86 2 v rsx.length (rawCells rsx)∧RowsAt w' v z.L∧rsx.length≤16 ∧
   (∀ r∈rsx,∃ xs,w'.ownsRow W.heap.size 2 1 (valS r) r.n xs∧r.n≤3)∧(rsx.Pairwise fun r r'=>∀ g,(valS r).ownBlock=some g→(valS r').ownBlock≠some g)∧Below W.heap.size W w':=by
 obtain ⟨db,E,st,hE,t1,t2,t3,t4,t5⟩:=h.ex
 obtain ⟨hm,hnm⟩:=findZ_some hf
 obtain ⟨R,a1,a2,a3,a4⟩:=t5 z hm
 rw [hnm] at a1
 obtain ⟨g1,g2,g3,g4,g5,g6⟩:=hz.each z hm
 have hs8:=name_size g1
 rw [hnm] at hs8
 refine (relRows_own nm W hE (by unfold maxLen;omega) a1 (by omega) (by omega)).mono ?_
 rintro e w' ⟨v,ys,xs,rfl,hro,hmz,ho,hv,hb⟩
 have hR2:RowsF R.f (z.L.map fun p=>padRow p.1):=by
  have h1:=rowsF_of g3 g4 (fun p hp=>(g6 p hp).1)
  exact ⟨h1.rising,h1.wf,fun r hr=>by rw [a4 r hr];exact h1.mem r hr⟩
 have hys:ys=z.L.map fun p=>padRow p.1:=hro.unique hR2
 have hzL:rowsZ R.ar R.f ys=z.L:=by
  rw [a2,hys]
  have h1:=rowsZ_of g3 g4
  have h2:rowsZ z.ar R.f (z.L.map fun p=>padRow p.1)=rowsZ z.ar (fOf z.L) (z.L.map fun p=>padRow p.1):=by
   unfold rowsZ
   refine List.map_congr_left (fun y hy=>?_)
   rw [a4 y (hR2.wf y hy)]
  rw [h2,h1]
 obtain ⟨rsx,hrsx⟩:∃ rsx:List Raw,rsx=xs.map fun p=>⟨some ⟨p.2,0,none⟩,R.ar,R.ar,p.1.2⟩:=⟨_,rfl⟩
 have hcells:rawCells rsx=cellsV R.ar xs:=by
  rw [hrsx];unfold rawCells cellsV
  rw [List.flatMap_map]
  rfl
 have hlen:rsx.length=xs.length:=by rw [hrsx];simp
 have hxl:xs.length=z.L.length:=by have:=congrArg List.length hmz;rw [hzL] at this;simpa using this
 refine ⟨v,rsx,rfl,by rw [hlen,hcells];exact ho,?_,by omega,fun r hr=>?_,?_,hb⟩
 ·have:=rows_of_own (by omega) ho hv
  rw [hmz,hzL] at this
  exact this
 ·rw [hrsx] at hr
  obtain ⟨p,hp,rfl⟩:=List.mem_map.1 hr
  obtain ⟨h1,h2⟩:=hv.2 p hp
  have hl3:(valsR R.ar p.1.1).length=R.ar:=by simp [valsR,encR];omega
  refine ⟨valsR R.ar p.1.1,⟨by rw [hl3];simp,.inr ⟨p.2,R.ar,(valsR R.ar p.1.1).toArray,rfl,h2,h1,Nat.le_refl _,by show R.ar≤maxLen;unfold maxLen;omega,by simp [hl3],?_⟩⟩,by show R.ar≤3;omega⟩
  rw [List.take_of_length_le (by show (valsR R.ar p.1.1).toArray.toList.length≤R.ar*1;simp [hl3])]
 ·rw [hrsx,List.pairwise_map]
  exact hv.1.imp (fun {p q} h g e1 e2=>by simp [valS,Value.ownBlock] at e1 e2;omega)

theorem engRows_miss (T:Nat→Prop) (W:World) (eb:Nat) (zs:List ZRel) (N:Nat) (nm:ByteArray) (h:EngSide T W eb zs N) (hf:findZ zs nm=none) (hn:nm.size≤maxLen) :
  Calls Tryz.prog 52 #[.pointer (some ⟨eb,0,none⟩),.string nm] W fun e w'=>e=.returned (.tuple #[.slice none 0 0,.int .i64 6])∧Below W.heap.size W w':=by
 obtain ⟨db,E,st,hE,t1,t2,t3,t4,t5⟩:=h.ex
 have hrun:=hE.miss hn ((t4 nm).2 (findZ_none.1 hf))
 have c0:W.cell? ⟨eb,0,none⟩=some (.map (some db)):=hE.c0
 clear hE t4 t5 t3 h
 go_enter Tryz.func52,Tryz.ntmps52
 go_wp2
 go_ret2
 first
  | exact ⟨rfl,Below.refl _ _⟩
  | exact ⟨rfl,(Below.refl _ _).alloc (Nat.le_refl _) _⟩
  | exact ⟨rfl,((Below.refl _ _).alloc (Nat.le_refl _) _).alloc (by simp) _⟩

end Go.Proofs.YtgddkjhknlgbbaaGreatDoor

namespace Go.Proofs.YtgddkjhknlgbbaaGreatDoor
set_option linter.unusedVariables false
set_option linter.unusedSimpArgs false
open Go.RowKit Go.Maps

set_option maxRecDepth 100000 in
set_option maxHeartbeats 1000000 in
theorem refCreate_own (fb base:Nat) (v vw:Value) (rs:List RRel) (nm:ByteArray) (ar:Int) (w:World) (hbox:w.heap[fb]? = some (.cells #[v,vw] 41 (0,0))) (hown:w.ownsRow base 72 3 v rs.length (cellsRR rs)) (hbase:base≤w.heap.size) (hn:nm.size≤9223372036854775807) (hb:createZ rs nm ar=0) :
  Calls Tryz.prog 13 #[.pointer (some ⟨fb,0,none⟩),.string nm,.int .i64 ar] w fun e w'=>∃ v' w1,e=.returned (.int .i64 0)∧w1.ownsRow base 72 3 v' (rs.length+1) (cellsRR (rs ++ [⟨nm,ar,.slice none 0 0⟩]))∧w.grownBy w1 v.ownBlock∧(v'.ownBlock=v.ownBlock∨∀ g,v'.ownBlock=some g→w.heap.size≤g)∧w'=w1.setCell ⟨fb,0,none⟩ v':=by
 have hz:=hb
 unfold createZ at hz
 have h1:nameB nm=true:=by
  by_cases h:nameB nm=false
  ·rw [if_pos h] at hz;omega
  ·simpa using h
 rw [if_neg (by simp [h1])] at hz
 have h2:¬ (ar<1∨3<ar):=fun h=>by rw [if_pos h] at hz;omega
 rw [if_neg h2] at hz
 have h3:¬ 0≤placeZ rs nm 0:=fun h=>by rw [if_pos h] at hz;omega
 rw [if_neg h3] at hz
 have h4:¬ 6≤rs.length:=fun h=>by rw [if_pos h] at hz;omega
 have c0:w.cell? ⟨fb,0,none⟩=some v:=cell_of_heap hbox 0
 have H1:=hide (refName_any nm w hn)
 have H2:=hide (relation_any fb v v rs nm w c0 (rels_of_own hown) (by omega))
 have hne:some fb≠v.ownBlock:=fun e=>by
  obtain ⟨_,cur,hc⟩:=own_block hown fb e.symm
  rw [hbox] at hc
  simp at hc
 obtain ⟨a,cap,rfl⟩:∃ a cap,v=.slice a rs.length cap:=by
  rcases hown.2 with ⟨rfl,h0⟩|⟨g,cap,cur,rfl,_⟩
  ·exact ⟨none,0,by rw [h0]⟩
  ·exact ⟨_,_,rfl⟩
 obtain ⟨i71,hi,hz0,hz1,hz2⟩:=info_parts Tryz.info72
 have hx2:¬ ar<1:=by omega
 have hx3:¬ 3<ar:=by omega
 have hx6:¬ (6:Int)≤(rs.length:Int):=by omega
 have Hown:=hide hown
 clear hz hb h2 hown
 go_enter Tryz.func13,Tryz.ntmps13
 go_wp2_with fail
 refine (unhide H1).mono ?_
 rintro e w1 ⟨rfl,hw1⟩
 replace hw1:=hw1.symm
 subst hw1
 rw [h1]
 go_wp2_with fail
 refine (unhide H2).mono ?_
 rintro e w1 ⟨rfl,hw1⟩
 replace hw1:=hw1.symm
 subst hw1
 clear H1 H2 h1
 go_wp2_with (first
  | (at_builtin;refine wpList_append_own_at _ rfl _ _ 38 rfl base 72 i71 _ 3 48 Tryz.underlying38 hi hz0 hz1 hz2 rfl (by decide) _ _ _ rfl ((unhide Hown).alloc _) ⟨w.heap.size,0,none⟩ 1 1 [.string nm,.int .i64 ar,.slice none 0 0] rfl rfl (cells3_new w _ _ _ 72) (by simp [Value.oneCell']) (by unfold maxLen;omega) (by omega) (by simp;omega) ?_;intro v' w2 ho hgr _ hat;have Hat:=hide hat;clear hat;have hbox2:w2.heap[fb]? = _:=(hgr.block fb (by have:=(Array.getElem?_eq_some_iff.1 hbox).1;simp;omega) hne).trans ((Below.heap_alloc _ _ _ (Array.getElem?_eq_some_iff.1 hbox).1).trans hbox);have cf:=cell_of_heap hbox2 0;have ff:=frozen_of_heap hbox2 0;obtain ⟨g',cap',rfl⟩:=own_succ ho;have Ho:=hide ho;have Hgr:=hide hgr;clear ho hgr hbox2))
 go_ret
 refine ⟨_,w2,rfl,?_,?_,?_,rfl⟩
 ·have e:cellsRR (rs ++ [⟨nm,ar,.slice none 0 0⟩])=cellsRR rs ++ [.string nm,.int .i64 ar,.slice none 0 0]:=by simp [cellsRR]
  rw [e]
  exact unhide Ho
 ·exact (World.grownBy_alloc _ _ _).trans (unhide Hgr)
 ·rcases unhide Hat with h|h
  ·exact .inl h
  ·right;intro g hg;rw [h] at hg;cases hg;simp

def RefSide (T:Nat→Prop) (W:World) (fb:Nat) (zs:List ZRel):Prop:=∃ v rs,RefRep T W fb v rs zs

theorem NumT.fit {T:Nat→Prop} {W:World} {v:Value} {xs:List Int} (h:NumT T W v xs):NumT (fun b=>T b∧b<W.heap.size) W v xs:=⟨h.1,fun g hg=>⟨h.2 g hg,by obtain ⟨⟨base,ho⟩,_⟩:=h;obtain ⟨cur,hc⟩:=own_type ho hg;exact heap_lt hc⟩⟩

theorem RefRep.fit {T:Nat→Prop} {W:World} {fb:Nat} {v:Value} {rs:List RRel} {zs:List ZRel} (h:RefRep T W fb v rs zs):RefRep (fun b=>T b∧b<W.heap.size) W fb v rs zs:=by
 obtain ⟨⟨vw,h1⟩,h2,h3,h4,h5⟩:=h
 refine ⟨⟨vw,h1⟩,⟨h2,heap_lt h1⟩,⟨h3.1,fun g hg=>⟨h3.2 g hg,by obtain ⟨⟨base,ho⟩,_⟩:=h3;obtain ⟨cur,hc⟩:=own_type ho hg;exact heap_lt hc⟩⟩,h4,fun i hi=>?_⟩
 obtain ⟨a,b,base,rsx,hr⟩:=h5 i hi
 exact ⟨a,b,base,rsx,⟨hr.own,fun g hg=>⟨hr.inT g hg,by obtain ⟨cur,hc⟩:=own_type hr.own hg;exact heap_lt hc⟩,hr.len,fun j hj=>(hr.num j hj).fit,hr.wt⟩⟩

theorem RefRep.imp {T T':Nat→Prop} {W:World} {fb:Nat} {v:Value} {rs:List RRel} {zs:List ZRel} (h:RefRep T W fb v rs zs) (hT:∀ b,T b→T' b):RefRep T' W fb v rs zs:=by
 obtain ⟨h1,h2,h3,h4,h5⟩:=h
 exact ⟨h1,hT _ h2,h3.imp hT,h4,fun i hi=>by obtain ⟨a,b,base,rsx,hr⟩:=h5 i hi;exact ⟨a,b,base,rsx,hr.imp hT⟩⟩

theorem RefRep.kept {T:Nat→Prop} {W W':World} {fb:Nat} {v:Value} {rs:List RRel} {zs:List ZRel} (h:RefRep T W fb v rs zs) (hk:∀ b,T b→b<W.heap.size→W'.heap[b]? = W.heap[b]?):RefRep T W' fb v rs zs:=by
 obtain ⟨⟨vw,h1⟩,h2,h3,h4,h5⟩:=h
 exact ⟨⟨vw,(hk fb h2 (heap_lt h1)).trans h1⟩,h2,h3.kept (fun g cur hT hg=>hk g hT (heap_lt hg)),h4,fun i hi=>by
  obtain ⟨a,b,base,rsx,hr⟩:=h5 i hi
  exact ⟨a,b,base,rsx,hr.kept (fun g cur t hT _ hg=>hk g hT (heap_lt hg))⟩⟩

theorem RefSide.kept {T:Nat→Prop} {W W':World} {fb:Nat} {zs:List ZRel} (h:RefSide T W fb zs) (hk:∀ b,T b→b<W.heap.size→W'.heap[b]? = W.heap[b]?):RefSide T W' fb zs:=by
 obtain ⟨v,rs,h⟩:=h;exact ⟨v,rs,h.kept hk⟩
theorem RefSide.imp {T T':Nat→Prop} {W:World} {fb:Nat} {zs:List ZRel} (h:RefSide T W fb zs) (hT:∀ b,T b→T' b):RefSide T' W fb zs:=by
 obtain ⟨v,rs,h⟩:=h;exact ⟨v,rs,h.imp hT⟩

theorem place_find (nm:ByteArray):∀ (rs:List RRel) (zs:List ZRel) (i:Int),0≤i→rs.map (·.nm)=zs.map (·.nm)→(placeZ rs nm i=-1∧findZ zs nm=none)∨∃ k:Nat,k<rs.length∧placeZ rs nm i=i+k∧findZ zs nm=some (zs[k]?.getD zeroZR)
 | [],[],i,_,_=>.inl ⟨rfl,rfl⟩
 | [],_ :: _,_,_,h=>by simp at h
 | _ :: _,[],_,_,h=>by simp at h
 | r :: rs,z :: zs,i,hi,h=>by
  simp only [List.map_cons,List.cons.injEq] at h
  by_cases e:r.nm=nm
  ·refine .inr ⟨0,by simp,by simp [placeZ,e],?_⟩
   have e2:z.nm=nm:=by rw [← h.1];exact e
   simp [findZ,e2]
  ·have e2:z.nm≠nm:=by rw [← h.1];exact e
   have hf:findZ (z :: zs) nm=findZ zs nm:=by simp [findZ,e2]
   rw [hf]
   have hp:placeZ (r :: rs) nm i=placeZ rs nm (i+1):=by simp [placeZ,e]
   rw [hp]
   rcases place_find nm rs zs (i+1) (by omega) h.2 with ⟨h1,h2⟩|⟨k,h1,h2,h3⟩
   ·exact .inl ⟨h1,h2⟩
   ·exact .inr ⟨k+1,by simp;omega,by rw [h2];push_cast;omega,by simpa using h3⟩

theorem RefRep.names {T:Nat→Prop} {W:World} {fb:Nat} {v:Value} {rs:List RRel} {zs:List ZRel} (h:RefRep T W fb v rs zs):rs.map (·.nm)=zs.map (·.nm):=by
 apply List.ext_getElem (by simp [h.len])
 intro i h1 h2
 have hi:i<rs.length:=by simpa using h1
 have hi2:i<zs.length:=by simpa using h2
 have:=(h.each i hi).1
 simp [hi,hi2] at this
 simp [this]

theorem entry_eq {T:Nat→Prop} {W:World} {fb:Nat} {v:Value} {rs:List RRel} {zs:List ZRel} (h:RefRep T W fb v rs zs) (x:Ent):entryZ rs x=entryC zs x:=by
 unfold entryZ entryC
 rcases place_find x.nm rs zs 0 (Int.le_refl _) h.names with ⟨h1,h2⟩|⟨k,h1,h2,h3⟩
 ·rw [if_pos h1,h2]
 ·rw [Int.zero_add] at h2
  rw [if_neg (by omega),h3,h2]
  have:=(h.each k h1).2.1
  have e9:((x.row.length:Int)≠(rs[((k:Int)).toNat]?.getD zeroRR).ar)↔(x.row.length≠(zs[k]?.getD zeroZR).ar):=by rw [Int.toNat_natCast,this];omega
  dsimp only
  by_cases e:x.row.length≠(zs[k]?.getD zeroZR).ar
  ·rw [if_pos (e9.2 e),if_pos e]
  ·rw [if_neg (fun h=>e (e9.1 h)),if_neg e]

theorem create_eq {T:Nat→Prop} {W:World} {fb:Nat} {v:Value} {rs:List RRel} {zs:List ZRel} (h:RefRep T W fb v rs zs) (nm:ByteArray) (ar:Int):createZ rs nm ar=createC zs nm ar:=by
 unfold createZ createC
 rcases place_find nm rs zs 0 (Int.le_refl _) h.names with ⟨h1,h2⟩|⟨k,h1,h2,h3⟩
 ·rw [h1,h2,h.len];simp
 ·rw [h2,h3,h.len];simp

theorem refCreate (T:Nat→Prop) (W:World) (fb:Nat) (zs:List ZRel) (nm:ByteArray) (ar:Int) (h:RefSide T W fb zs) (hz:ZOk zs) (hn:nm.size≤9223372036854775807) :
  Calls Tryz.prog 13 #[.pointer (some ⟨fb,0,none⟩),.string nm,.int .i64 ar] W fun e w'=>e=.returned (.int .i64 (createC zs nm ar))∧RefSide (fun b=>T b∨W.heap.size≤b∧b<w'.heap.size) w' fb (createS zs nm ar)∧Mid T W w'∧w'.cell? ⟨fb,1,none⟩=W.cell? ⟨fb,1,none⟩:=by
 obtain ⟨v,rs,hR⟩:=h
 have hce:=create_eq hR nm ar
 obtain ⟨vw,hbox⟩:=hR.box
 obtain ⟨⟨base,hown⟩,hTv⟩:=hR.own
 have c0:W.cell? ⟨fb,0,none⟩=some v:=cell_of_heap hbox 0
 have hl6:=hz.len
 have hlr:=hR.len
 by_cases hc:createC zs nm ar=0
 ·refine (refCreate_own fb 0 v vw rs nm ar W hbox (own_lower hown (Nat.zero_le _)) (Nat.zero_le _) hn (by rw [hce];exact hc)).mono ?_
  rintro e w' ⟨v',w1,rfl,ho1,hg1,hat,hw'⟩
  obtain ⟨_,h2,h3,hno,_⟩:=createC_zero hc
  have hfbne:∀ g,v.ownBlock=some g→g≠fb:=fun g hg e=>by
   obtain ⟨cur,h⟩:=own_type hown hg
   rw [e] at h
   exact absurd (type_ne h hbox) (by decide)
  have hbox1:w1.heap[fb]? = some (Obj.cells #[v,vw] 41 (0,0)):=(hg1.block fb (heap_lt hbox) (fun e=>hfbne fb e.symm rfl)).trans hbox
  have hg1':w1.grownBy w' (some fb):=by rw [hw'];exact grownBy_setCell' w1 fb v'
  have hrow1:∀ g,some fb=some g→∃ cur:Array Value,w1.heap[g]? = some (Obj.cells cur 41 (0,0)):=fun g e=>by cases e;exact ⟨_,hbox1⟩
  have ho2:w'.ownsRow 0 72 3 v' (rs.length+1) (cellsRR (rs ++ [⟨nm,ar,.slice none 0 0⟩])):=own_grown ho1 hg1' (other_type hrow1 (by decide))
  have hS:createS zs nm ar=zs ++ [⟨nm,ar.toNat,[]⟩]:=by unfold createS;rw [if_pos hc]
  have hbox':w'.heap[fb]? = some (Obj.cells #[v',vw] 41 (0,0)):=by rw [hw',heap_setCell_same w1 fb 0 _ 41 _ hbox1];rfl
  have hmid:Mid T W w':=by
   refine ⟨hg1'.os.trans hg1.os,hg1'.tape.trans hg1.tape,hg1'.output.trans hg1.output,Nat.le_trans hg1.size hg1'.size,fun k hk hq=>(hg1'.block k (Nat.lt_of_lt_of_le hk hg1.size) (fun e=>by cases e;exact hq hR.tfb)).trans (hg1.block k hk (fun e=>hq (hTv k e.symm)))⟩
  refine ⟨by rw [hc],⟨v',rs ++ [⟨nm,ar,.slice none 0 0⟩],?_⟩,hmid,(cell_of_heap hbox' 1).trans (cell_of_heap hbox 1).symm⟩
  rw [hS]
  refine ⟨⟨vw,?_⟩,.inl hR.tfb,⟨⟨0,by simpa using ho2⟩,fun g hg=>?_⟩,by simp [hlr],fun i hi=>?_⟩
  ·exact hbox'
  ·rcases hat with h|h
   ·rw [h] at hg;exact .inl (hTv g hg)
   ·right
    obtain ⟨cur,hc'⟩:=own_type ho2 hg
    exact ⟨h g hg,heap_lt hc'⟩
  ·by_cases e:i<rs.length
   ·have e2:i<zs.length:=by omega
    rw [List.getElem?_append_left e,List.getElem?_append_left e2]
    obtain ⟨a1,a2,base',rsx,hr⟩:=hR.each i e
    refine ⟨a1,a2,base',rsx,?_⟩
    have q1:=hr.grown hg1 (t:=72) (fun g hg=>own_type hown hg) (by decide) (by decide)
    exact (q1.grown hg1' hrow1 (by decide) (by decide)).imp (fun b hb=>.inl hb)
   ·have e2:i=rs.length:=by simp at hi;omega
    subst e2
    have e3:(zs ++ [(⟨nm,ar.toNat,[]⟩:ZRel)])[rs.length]?.getD zeroZR=⟨nm,ar.toNat,[]⟩:=by rw [hlr];simp
    rw [e3]
    simp only [List.getElem?_concat_length,Option.getD_some]
    exact ⟨by first|rfl|trivial,by show ar=((ar.toNat:Nat):Int);omega,0,[],⟨World.ownsRow_nil _ _ _ _,fun g hg=>(by cases hg),rfl,fun i hi=>by simp at hi,fun i hi=>by simp at hi⟩⟩
 ·refine (refCreate_bad fb v rs nm ar W c0 (rels_of_own hown) (by omega) hn (by rw [hce];exact hc)).mono ?_
  rintro e w' ⟨rfl,rfl⟩
  refine ⟨by rw [hce],?_,Mid.refl _ _,rfl⟩
  unfold createS;rw [if_neg hc]
  exact ⟨v,rs,hR.imp (fun b hb=>.inl hb)⟩

theorem refApply (T:Nat→Prop) (W:World) (fb:Nat) (zs:List ZRel) (bv:Value) (es:List Ent) (h:RefSide T W fb zs) (hz:ZOk zs) (hv:EntsAt W bv es) (hnil:EntsNil W bv) (hF:FineB es) :
  Calls Tryz.prog 16 #[.pointer (some ⟨fb,0,none⟩),bv] W fun e w'=>∃ c k zs',e=.returned (.tuple #[.int .i64 c,.int .i64 k])∧ApplyRes zs es c k zs'∧RefSide (fun b=>T b∨W.heap.size≤b∧b<w'.heap.size) w' fb zs'∧Mid T W w'∧w'.cell? ⟨fb,1,none⟩=W.cell? ⟨fb,1,none⟩:=by
 obtain ⟨v,rs,hR⟩:=h
 obtain ⟨vw,hbox⟩:=hR.box
 obtain ⟨⟨base,hown⟩,hTv⟩:=hR.own
 have c0:W.cell? ⟨fb,0,none⟩=some v:=cell_of_heap hbox 0
 have hl6:=hz.len
 have hfbne:∀ g,v.ownBlock=some g→g≠fb:=fun g hg e=>by
  obtain ⟨cur,h⟩:=own_type hown hg
  rw [e] at h
  exact absurd (type_ne h hbox) (by decide)
 have hlr:=hR.len
 have hsame:∀ w',Below W.heap.size W w'→RefSide (fun b=>T b∨W.heap.size≤b∧b<w'.heap.size) w' fb zs:=fun w' hb=>⟨v,rs,(hR.kept0 hb).imp (fun b hb=>.inl hb)⟩
 by_cases hl:64<es.length
 ·obtain ⟨a,cap,rfl,_⟩:=hv
  refine (refApply_long (some ⟨fb,0,none⟩) a es.length cap W hl).mono ?_
  rintro e w' ⟨rfl,rfl⟩
  exact ⟨4,0,zs,rfl,.long hl,hsame _ (Below.refl _ _),Mid.refl _ _,rfl⟩
 ·have hl':es.length≤64:=by omega
  rcases first_bad zs es with hall|⟨k,hk,hk1,hk2⟩
  ·have hall':=all_entries hall
   have hG:GoodB zs es:=⟨hl',fun x hx=>by obtain ⟨z,_,_,_,h4,h5⟩:=entry_ok (hall' x hx);exact ⟨h4,h5⟩,fun x hx=>by
    obtain ⟨z,h1,_,h3,_⟩:=entry_ok (hall' x hx)
    have:=(hz.each z h1).2.2.1
    omega,hl6,fun z hm=>by
    obtain ⟨_,_,g3,g4,g5,g6⟩:=hz.each z hm
    exact ⟨g5,fun p hp=>⟨by rw [g4.len p hp];exact g3,(g6 p hp).2⟩⟩⟩
   refine (refApply_gen T fb v bv rs zs es W hR hv hG hnil (fun i hi=>by rw [entry_eq hR];exact hall i hi)).mono ?_
   rintro e w' ⟨c,rfl,hc⟩
   rcases hc with ⟨rfl,hw,hb⟩|⟨rfl,hw,hr,hb⟩|⟨rfl,hw,hr,⟨rs',hR'⟩,hg⟩
   ·exact ⟨9,0,zs,rfl,.wts hl' hall hw,hsame w' hb,Mid.of_below hb,hb.cell (p:=⟨fb,1,none⟩) (heap_lt hbox)⟩
   ·exact ⟨10,0,zs,rfl,.rws hl' hall hw hr,hsame w' hb,Mid.of_below hb,hb.cell (p:=⟨fb,1,none⟩) (heap_lt hbox)⟩
   ·refine ⟨0,0,_,rfl,.ok hl' hall hw hr,⟨v,rs',hR'.fit.imp (fun b hb=>hb.1.imp id (fun h=>⟨h,hb.2⟩))⟩,⟨hg.os,hg.tape,hg.output,hg.size,fun k hk hq=>hg.block k hk (fun e=>hq (hTv k e.symm))⟩,(cell_of_heap ((hg.block fb (heap_lt hbox) (fun e=>hfbne fb e.symm rfl)).trans hbox) 1).trans (cell_of_heap hbox 1).symm⟩
  ·refine (refApply_bad fb v bv rs es k W c0 (rels_of_own hown) (by omega) hv hl' hk (fun i hi=>by rw [entry_eq hR];exact hk1 i hi) (by rw [entry_eq hR];exact hk2) (fun i hi=>by
    have:=hF.row (es[i]?.getD zeroEnt) (by simp [hi])
    omega)).mono ?_
   rintro e w' ⟨rfl,hb⟩
   rw [entry_eq hR]
   exact ⟨_,k,zs,rfl,.bad k hl' hk hk1 hk2,hsame w' hb,Mid.of_below hb,hb.cell (p:=⟨fb,1,none⟩) (heap_lt hbox)⟩

theorem rowsT_at {T:Nat→Prop} {W:World} {base:Nat} {u:Value} {rsx:List Raw} {L:List RowZ} (h:RowsT T W base u rsx L):RowsAt W u L:=by
 obtain ⟨p,cap,rfl,hc⟩:=raw_of_own h.own
 rw [← h.len] at hc ⊢
 refine ⟨p,cap,rfl,fun i hi=>?_⟩
 obtain ⟨b,o,hp,h1,h2⟩:=hc i hi
 have hi':i<rsx.length:=by rw [← h.len];exact hi
 obtain ⟨⟨base',hn⟩,_⟩:=h.num i hi'
 exact ⟨b,o,_,hp,h1,ints_of_own hn,by rw [h2,h.wt i hi']⟩

theorem refRows (T:Nat→Prop) (W:World) (fb:Nat) (zs:List ZRel) (nm:ByteArray) (z:ZRel) (h:RefSide T W fb zs) (hz:ZOk zs) (hf:findZ zs nm=some z) :
  Calls Tryz.prog 53 #[.pointer (some ⟨fb,0,none⟩),.string nm] W fun e w'=>∃ v,e=.returned (.tuple #[v,.int .i64 0])∧RowsAt W v z.L∧w'=W:=by
 obtain ⟨v,rs,hR⟩:=h
 obtain ⟨vw,hbox⟩:=hR.box
 obtain ⟨⟨base,hown⟩,hTv⟩:=hR.own
 have c0:W.cell? ⟨fb,0,none⟩=some v:=cell_of_heap hbox 0
 have hl6:=hz.len
 have hlr:=hR.len
 rcases place_find nm rs zs 0 (Int.le_refl _) hR.names with ⟨h1,h2⟩|⟨k,h1,h2,h3⟩
 ·rw [h2] at hf;cases hf
 ·rw [h3] at hf
  injection hf with hf
  obtain ⟨_,_,base',rsx,hr⟩:=hR.each k h1
  obtain ⟨p,c,hpe,_⟩:=own_form hr.own
  refine (refRows_hit fb v rs nm k p rsx.length c W c0 (rels_of_own hown) (by omega) h1 (by omega) hpe).mono ?_
  rintro e w' ⟨rfl,rfl⟩
  refine ⟨_,rfl,?_,rfl⟩
  rw [← hpe,← hf]
  exact rowsT_at hr

theorem refRows_none (T:Nat→Prop) (W:World) (fb:Nat) (zs:List ZRel) (nm:ByteArray) (h:RefSide T W fb zs) (hz:ZOk zs) (hf:findZ zs nm=none) :
  Calls Tryz.prog 53 #[.pointer (some ⟨fb,0,none⟩),.string nm] W fun e w'=>e=.returned (.tuple #[.slice none 0 0,.int .i64 6])∧w'=W:=by
 obtain ⟨v,rs,hR⟩:=h
 obtain ⟨vw,hbox⟩:=hR.box
 obtain ⟨⟨base,hown⟩,hTv⟩:=hR.own
 have c0:W.cell? ⟨fb,0,none⟩=some v:=cell_of_heap hbox 0
 have hl6:=hz.len
 have hlr:=hR.len
 rcases place_find nm rs zs 0 (Int.le_refl _) hR.names with ⟨h1,h2⟩|⟨k,h1,h2,h3⟩
 ·exact refRows_miss fb v rs nm W c0 (rels_of_own hown) (by omega) h1
 ·rw [h3] at hf;cases hf

end Go.Proofs.YtgddkjhknlgbbaaGreatDoor
