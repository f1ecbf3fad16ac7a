import Derived.Test.YtoifcnidhfnapabGreatDoorB30
set_option linter.unusedVariables false
set_option linter.unusedSimpArgs false
set_option maxRecDepth 100000
set_option maxHeartbeats 16000000
namespace Go.Proofs.YtoifcnidhfnapabGreatDoor
open Go.RowKit Go.Maps Go.Sort Go.Shelf
theorem yhe {vs:List Nat} {a:za7} (h:(zfw a.ts vs).length=3):(yd0 vs a).length=4:=by simp [yd0,h]
theorem zy5 {α:Type} (c:α→List Value):∀ (xs:List α) (hc:∀ x∈xs,(c x).length=4) (i j:Nat) (hi:i<xs.length),j<4→(xs.flatMap c)[i*4+j]? = (c xs[i])[j]?
 | [],_,i,j,hi,_=>by simp at hi
 | x :: xs,hc,0,j,_,hj=>by
  rw [List.flatMap_cons,Nat.zero_mul,Nat.zero_add,List.getElem?_append_left (by rw [hc x (List.mem_cons_self ..)];exact hj)]
  rfl
 | x :: xs,hc,i+1,j,hi,hj=>by
  rw [List.flatMap_cons,List.getElem?_append_right (by rw [hc x (List.mem_cons_self ..)];omega),hc x (List.mem_cons_self ..)]
  have:(i+1)*4+j - 4=i*4+j:=by omega
  rw [this,zy5 c xs (fun y hy=>hc y (List.mem_cons_of_mem _ hy)) i j (by simpa using hi) hj]
  rfl
def yce (w:World) (v:Value) (vs:List Nat) (B:List za7):Prop:=
 ∃ a cap,v=.slice a B.length cap∧∀ i,i<B.length→∃ b,a=some ⟨b,0,none⟩∧∀ j,j<4→w.cell? ⟨b,i*4+j,none⟩=(yd0 vs (B[i]?.getD zat))[j]?
theorem zw8 {w:World} {base:Nat} {v:Value} {vs:List Nat} {B:List za7} (hc:∀ a∈B,(zfw a.ts vs).length=3) (h:w.ownsRow base 132 4 v B.length (zsm vs B)):yce w v vs B:=by
 obtain ⟨p,c,rfl,hle,hn,hs⟩:=zan h
 refine ⟨p,c,rfl,fun i hi=>?_⟩
 cases p with
 | none=>have:=(hn rfl).1;omega
 | some ad =>
  obtain ⟨g,rfl,_,_,hcell⟩:=hs ad rfl
  refine ⟨g,rfl,fun j hj=>?_⟩
  rw [hcell _ (by omega),show zsm vs B=B.flatMap (yd0 vs) from rfl,zy5 (yd0 vs) B (fun a ha=>yhe (hc a ha)) i j hi hj]
  simp [hi]
theorem zd9.planAt {W:World} {base PB:Nat} {H:List Nat} {B:List za7} {vs:List Nat} (h:zd9 W base PB H (B.map (·.ts)) B B vs vs) (hO:zwd (B.map (·.ts)) vs) (h4:H.length≤4) (hb4:B.length≤4):zjm W PB B.length ((B.map (·.ts)).map zco) (vs.map (zfp (B.map (·.ts)) H)):=by
 obtain ⟨ha,kv,nv,sv,nvals,svals,h1,h2,h3,h5,h6,h7⟩:=h
 obtain ⟨ka,kc,rfl,_⟩:=zan h2
 refine ⟨⟨ka,kc,nv,sv,h1,?_,?_⟩,by simp,hb4,?_⟩
 ·obtain ⟨p,c,rfl,hle,hn,hs⟩:=zan h3
  refine ⟨p,c,by simp,fun j hj=>?_⟩
  have hj':j<B.length:=by simpa using hj
  cases p with
  | none=>have:=(hn rfl).1;omega
  | some ad =>
   obtain ⟨g,rfl,_,_,hcell⟩:=hs ad rfl
   obtain ⟨v,hv1,hv2⟩:=h5.2 j hj'
   obtain ⟨va,vc,rfl,hv3⟩:=zxo hv2
   have e:((B.map (·.ts)).map zco)[j]?.getD []=zco (B[j]?.getD zat).ts:=by simp [hj']
   rw [e]
   exact ⟨g,0,va,vc,rfl,by rw [Nat.zero_add,hcell _ (by omega)];exact hv1,hv3⟩
 ·obtain ⟨p,c,rfl,hle,hn,hs⟩:=zan h6
  refine ⟨p,c,by simp,by simpa using hle,fun j hj=>?_⟩
  have hj':j<vs.length:=by simpa using hj
  cases p with
  | none=>have:=(hn rfl).1;omega
  | some ad =>
   obtain ⟨g,rfl,_,_,hcell⟩:=hs ad rfl
   obtain ⟨u,q,hv1,hu,hq⟩:=h7.2 j hj'
   have hus:=zya hu
   obtain ⟨ua,uc,rfl,_⟩:=id hus
   obtain ⟨qa,qc,rfl,hq3⟩:=zs3 hq
   have e:(vs.map (zfp (B.map (·.ts)) H))[j]?.getD ⟨[],[]⟩=zfp (B.map (·.ts)) H (vs[j]?.getD 0):=by simp [hj']
   rw [e]
   have hsl:j<svals.length:=by rw [h7.1];exact hj'
   have e2:svals[j]=(.slice ua (zcf (B.map (·.ts)) (vs[j]?.getD 0)).length uc,.slice qa (zbn H (vs[j]?.getD 0)).length qc):=by
    rw [List.getElem?_eq_getElem hsl] at hv1
    exact Option.some.inj hv1
   have p0:=zle (fun p:Value×Value=>[p.1,p.2]) (fun _=>rfl) svals j 0 hsl (by omega)
   have p1:=zle (fun p:Value×Value=>[p.1,p.2]) (fun _=>rfl) svals j 1 hsl (by omega)
   rw [e2] at p0 p1
   refine ⟨g,0,ua,uc,qa,qc,rfl,?_,?_,hus,hq3⟩
   ·rw [Nat.zero_add,hcell _ (by omega)]
    exact p0
   ·rw [Nat.zero_add,hcell _ (by omega)]
    exact p1
 ·intro st hst
  obtain ⟨v,hv,rfl⟩:=List.mem_map.1 hst
  have:=zn2 (H:=H) (hO.inb v hv) h4
  simpa using this
end Go.Proofs.YtoifcnidhfnapabGreatDoor
namespace Go.Proofs.YtoifcnidhfnapabGreatDoor
open Go.RowKit Go.Maps
structure zhb where
 nm:ByteArray
 c0:Nat
 c1:Nat
 c2:Nat
def yd1 (k:zhb):Value:=.agg #[.string k.nm,.int .i64 k.c0,.int .i64 k.c1,.int .i64 k.c2]
def WfK (k:zhb):Prop:=k.nm.size≤1000∧k.c0<3∧k.c1<3∧k.c2<3
theorem Tryz.cellsK:Tryz.prog.cellsOf 132=4:=by kernel_rfl
theorem Tryz.cells94:Tryz.prog.cellsOf 130=3:=by kernel_rfl
theorem Tryz.cells9:Tryz.prog.cellsOf 9=1:=by kernel_rfl
theorem Tryz.cells3':Tryz.prog.cellsOf 3=1:=by kernel_rfl
theorem Tryz.keyTypeK:Tryz.prog.keyType 132=true:=by kernel_rfl
theorem kl3 (d:Nat) {x:Int} (h:wfI x):Tryz.prog.keyLits (d+1) 3 [.int .i64 x]=some [.int .i64 x]:=by
 unfold wfI at h
 unfold Program.keyLits
 rw [Tryz.underlying3]
 simp [h]
theorem zw9 (d:Nat) {v:Value} {ls:List Lit} (h:Tryz.prog.keyLits (d+1) 3 [v]=some ls):∃ x,wfI x∧v=.int .i64 x∧ls=[.int .i64 x]:=by
 unfold Program.keyLits at h
 simp only [Tryz.underlying3] at h
 cases v <;> simp at h
 obtain ⟨⟨rfl,hw⟩,rfl⟩:=h
 exact ⟨_,hw,rfl,rfl⟩
theorem kl94 (d:Nat) (a b c:Value):Tryz.prog.keyLits (d+2) 130 [a,b,c]=(do
  let x ← Tryz.prog.keyLits (d+1) 3 [a]
  let y ← Tryz.prog.keyLits (d+1) 3 [b]
  let z ← Tryz.prog.keyLits (d+1) 3 [c]
  pure (x ++ (y ++ z))):=by
 conv=>lhs;unfold Program.keyLits
 rw [Tryz.underlying130]
 simp only [Tryz.cells94,Tryz.cells3',List.length_cons,List.length_nil,Nat.zero_add,Nat.reduceAdd,if_true]
 simp only [show List.range 3=[0,1,2] from rfl,List.mapM_cons,List.mapM_nil]
 simp only [Nat.zero_mul,Nat.one_mul,Nat.reduceMul,List.drop_zero,List.drop_succ_cons,List.take_succ_cons,List.take_zero]
 generalize Tryz.prog.keyLits (d+1) 3 [a]=A
 generalize Tryz.prog.keyLits (d+1) 3 [b]=B
 generalize Tryz.prog.keyLits (d+1) 3 [c]=C
 cases A <;> cases B <;> cases C <;> simp [List.flatten]
theorem klK (d:Nat) (a b c e:Value):Tryz.prog.keyLits (d+2) 132 [a,b,c,e]=(do
  let x ← Tryz.prog.keyLits (d+1) 9 [a]
  let y ← Tryz.prog.keyLits (d+1) 130 [b,c,e]
  pure (x ++ y)):=by
 conv=>lhs;unfold Program.keyLits
 rw [Tryz.underlying132]
 simp [Tryz.cellsK,Tryz.cells9,Tryz.cells94]
 generalize Tryz.prog.keyLits (d+1) 9 [a]=A
 generalize Tryz.prog.keyLits (d+1) 130 [b,c,e]=B
 cases A <;> cases B <;> simp [List.flatten]
theorem kl9 (d:Nat) {s:ByteArray} (h:s.size≤maxLen):Tryz.prog.keyLits (d+1) 9 [.string s]=some [.string s.data.toList]:=by
 unfold Program.keyLits
 rw [Tryz.underlying9]
 simp [h]
theorem yjq (d:Nat) {v:Value} {ls:List Lit} (h:Tryz.prog.keyLits (d+1) 9 [v]=some ls):∃ s:ByteArray,v=.string s:=by
 unfold Program.keyLits at h
 simp only [Tryz.underlying9] at h
 cases v <;> simp at h
 exact ⟨_,rfl⟩
def zbl (k:zhb):Lit:=.string (keyBytes [.string k.nm.data.toList,.int .i64 k.c0,.int .i64 k.c1,.int .i64 k.c2])
theorem zp2 {x:Nat} (h:x<1000):wfI (x:Int):=zdo (by omega)
theorem zgy {k:zhb} (h:WfK k):keyOf Tryz.prog 132 (yd1 k)=some (zbl k):=by
 obtain ⟨h0,h1,h2,h3⟩:=h
 unfold keyOf
 rw [Tryz.underlying132]
 simp only [Tryz.keyTypeK,yd1,Value.formed,Tryz.underlying132,Tryz.cellsK,Value.cells,Tryz.size]
 have e1:=klK 375 (.string k.nm) (.int .i64 k.c0) (.int .i64 k.c1) (.int .i64 k.c2)
 have e2:=kl94 374 (.int .i64 k.c0) (.int .i64 k.c1) (.int .i64 k.c2)
 rw [kl3 374 (zp2 (by omega)),kl3 374 (zp2 (by omega)),kl3 374 (zp2 (by omega))] at e2
 rw [kl9 375 (Nat.le_trans h0 (by unfold maxLen;omega)),e2] at e1
 simp only [show (376+1:Nat)=375+2 from rfl]
 rw [e1]
 rfl
theorem zsk {v:Value} {l:Lit} (h:keyOf Tryz.prog 132 v=some l):∃ s x y z,v=.agg #[.string s,.int .i64 x,.int .i64 y,.int .i64 z]:=by
 unfold keyOf at h
 simp only [Tryz.underlying132,Tryz.keyTypeK,Tryz.size] at h
 cases v <;> simp [Value.formed,Tryz.underlying132,Tryz.cellsK] at h
 rename_i cs
 obtain ⟨hs,ls,hls,rfl⟩:=h
 obtain ⟨cs⟩:=cs
 obtain ⟨a,b,c,d,rfl⟩:=len4 (by simpa using hs)
 simp only [Value.cells] at hls
 have e:(377:Nat)=375+2:=rfl
 rw [e,klK] at hls
 cases hA:Tryz.prog.keyLits (375+1) 9 [a] with
 | none=>simp [hA] at hls
 | some A =>
  obtain ⟨s,rfl⟩:=yjq _ hA
  cases hB:Tryz.prog.keyLits (375+1) 130 [b,c,d] with
  | none=>simp [hA,hB] at hls
  | some B =>
   have e':(375+1:Nat)=374+2:=rfl
   rw [e',kl94] at hB
   cases h1:Tryz.prog.keyLits (374+1) 3 [b] with
   | none=>simp [h1] at hB
   | some x =>
    cases h2:Tryz.prog.keyLits (374+1) 3 [c] with
    | none=>simp [h1,h2] at hB
    | some y =>
     cases h3:Tryz.prog.keyLits (374+1) 3 [d] with
     | none=>simp [h1,h2,h3] at hB
     | some z =>
      obtain ⟨x,_,rfl,_⟩:=zw9 _ h1
      obtain ⟨y,_,rfl,_⟩:=zw9 _ h2
      obtain ⟨z,_,rfl,_⟩:=zw9 _ h3
      exact ⟨s,x,y,z,rfl⟩
theorem zmk {k k':zhb} (h:WfK k) (h':WfK k') (e:zbl k=zbl k'):k=k':=by
 have:=yhg.inj (zgy h) (e ▸ zgy h')
 simp [yd1] at this
 obtain ⟨h1,h2,h3,h4⟩:=this
 cases k;cases k'
 simp at *
 exact ⟨h1,by omega,by omega,by omega⟩
end Go.Proofs.YtoifcnidhfnapabGreatDoor
namespace Go.Proofs.YtoifcnidhfnapabGreatDoor
open Go.RowKit Go.Maps Go.Sort Go.Shelf
def zh1 (T:Nat→Prop) (P:World→Prop) (W:World):Prop:=∀ W',(∀ k,T k→W'.heap[k]? = W.heap[k]?)→P W'
theorem zh1.now {T:Nat→Prop} {P:World→Prop} {W:World} (h:zh1 T P W):P W:=h W fun _ _=>rfl
theorem zh1.keep {T:Nat→Prop} {P:World→Prop} {W W':World} (h:zh1 T P W) (hk:∀ k,T k→W'.heap[k]? = W.heap[k]?):zh1 T P W':=fun W'' h2=>h W'' fun k hT=>(h2 k hT).trans (hk k hT)
theorem zh1.imp {T T':Nat→Prop} {P:World→Prop} {W:World} (h:zh1 T P W) (hT:∀ k,T k→T' k):zh1 T' P W:=fun W' h2=>h W' fun k hk=>h2 k (hT k hk)
theorem zt8 {α:Type} {l m:List α} (h:l.Perm m) (f:α→B64):zby l f=zby m f:=by
 induction h with
 | nil=>rfl
 | cons a _ ih=>simp only [zby,ih]
 | swap a b l=>simp only [zby];grind
 | trans _ _ ih1 ih2=>exact ih1.trans ih2
theorem Eqv.of_perm {l m:List zai} (h:l.Perm m):Eqv l m:=fun ψ=>zt8 h _
structure znl where
 XB:Nat
 rv:Value
 rs:List (List zai)
structure zda where
 VB:Nat
 PB:Nat
 mb:Nat
 n:Nat
 H:List (Nat×Nat)
 B:List za7
 vs:List Nat
 xs:List Nat
 f:H4→Int
abbrev IxS:=zhb→Option znl
abbrev VwS:=ByteArray→Option zda
def zhc (vs:List Nat) (a:za7):zhb:=⟨a.nm,(zfw a.ts vs)[0]?.getD 0,(zfw a.ts vs)[1]?.getD 0,(zfw a.ts vs)[2]?.getD 0⟩
def znn (f:Row→Int) (l:List zai):Prop:=∃ xs,zl0 f xs∧l=zbf f xs
structure zdt (st:St) (H:List (Nat×Nat)) (B:List za7):Prop where
 ok:zqb H B
 ne:B≠[]
 nm:∀ a∈B,a.nm.size≤8
 rel:∀ a∈B,∃ R,st a.nm=some R∧a.ts.length=R.ar
 head:∀ x∈H,x.1≠0∧zh3 (B.map (·.ts)) x.1
structure zwc (W:World) (N:Nat) (f:Row→Int) (k:zhb) (x:znl) (es:List zai):Prop where
 io:zp6 W x.XB (.int .i64 k.c0) (.int .i64 k.c1) (.int .i64 k.c2) x.rv x.rs es
 good:znj x.rs
 cols:zni k.c0 k.c1 k.c2
 tot:zg9 x.rs≤N
 arr:∃ xs,zl0 f xs∧Eqv x.rs.flatten ((zbf f xs).map (zkw k.c0 k.c1 k.c2))
structure zqc (W:World) (fix:Nat→Prop) (st:St) (ixs:IxS) (v:zda):Prop where
 blk:∃ iv,W.heap[v.VB]? = some (.cells #[.pointer (some ⟨v.PB,0,none⟩),iv,.int .i64 v.H.length,.map (some v.mb)] 68 (0,0))∧zh1 fix (fun w=>zjn w iv v.xs) W
 fixed:fix v.VB
 plan:∃ base,zh1 fix (fun w=>zd9 w base v.PB (v.H.map (·.1)) (v.B.map (·.ts)) v.B v.B v.vs v.vs) W
 ord:v.vs.Perm (zbs (v.B.map (·.ts)))
 fit:zdt st v.H v.B
 len:v.xs.length=v.B.length
 idx:∀ i,i<v.B.length→∃ x,ixs (zhc v.vs (v.B[i]?.getD zat))=some x∧v.xs[i]?.getD 0=x.XB
 map:zeo W v.mb v.n v.f
 mfix:¬ fix v.mb
def ycc (st:St) (v:zda):Prop:=∀ L:Nat→List zai,(∀ i,i<v.B.length→∃ R,st (v.B[i]?.getD zat).nm=some R∧znn R.f (L i))→∀ h,BitVec.ofInt 64 (v.f h)=zts (v.B.map (·.ts)) (v.H.map (·.1)) L h
structure EngV (W:World) (fix:Nat→Prop) (eb db nD nI nV N:Nat) (st:St) (ixs:IxS) (vws:VwS):Prop where
 rep:za1 W eb db nD 0 W.heap.size st
 flt:∀ k,fix k→k<W.heap.size
 feb:fix eb
 frb:∀ nm R,st nm=some R→fix R.rb∧¬ fix R.mb
 fdb:¬ fix db∧¬ fix (db+1)∧¬ fix (db+2)
 imap:∃ D,W.ownsMap Tryz.prog 132 zav (db+1) nI D∧(∀ k,WfK k→Maps.has D (zbl k)=(ixs k).isSome)∧(∀ k x,ixs k=some x→WfK k∧∀ zd,D.atKey (zbl k) zd=.lit (.int .i64 x.XB))∧∀ l,Maps.has D l=true→∃ k x,ixs k=some x∧l=zbl k
 idx:∀ k x,ixs k=some x→¬ fix x.XB∧(∀ g,x.rv.ownBlock=some g→¬ fix g)∧∃ R,st k.nm=some R∧zwc W N R.f k x []
 iap:∀ k k' x x',ixs k=some x→ixs k'=some x'→k≠k'→x.XB≠x'.XB∧∀ g,x.rv.ownBlock=some g→x'.rv.ownBlock≠some g
 vmap:∃ D,W.ownsMap Tryz.prog 9 zav (db+2) nV D∧Maps.size D=nV∧(∀ nm,nm.size≤maxLen→Maps.has D (zau nm)=(vws nm).isSome)∧∀ nm v,vws nm=some v→nm.size≤8∧∀ zd,D.atKey (zau nm) zd=.lit (.int .i64 v.VB)
 vw:∀ nm v,vws nm=some v→zqc W fix st ixs v∧ycc st v
 vap:∀ nm nm' v v',vws nm=some v→vws nm'=some v'→nm≠nm'→v.mb≠v'.mb∧v.VB≠v'.VB
 vrel:∀ nm v,vws nm=some v→v.mb≠db∧v.mb≠db+1∧v.mb≠db+2∧∀ m R,st m=some R→v.mb≠R.mb
theorem zp6.kept {W W':World} {XB:Nat} {x0 x1 x2 rv:Value} {rs:List (List zai)} {es:List zai} (h:zp6 W XB x0 x1 x2 rv rs es) {X:Nat→Prop} (hk:KeepX X W W') (hE:∀ k,X k→¬ zc2 W k) (hX:¬ X XB) (hr:∀ g,rv.ownBlock=some g→¬ X g):zp6 W' XB x0 x1 x2 rv rs es:=by
 obtain ⟨⟨bv,h1,h2⟩,vals,h3,h4⟩:=h
 exact ⟨⟨bv,(hk.blk XB (Array.getElem?_eq_some_iff.1 h1).1 hX).trans h1,h2.keepT hk hE⟩,vals,zca h3 hk hr,h4.keepT hk hE⟩
theorem zwc.kept {W W':World} {N:Nat} {f:Row→Int} {k:zhb} {x:znl} {es:List zai} (h:zwc W N f k x es) {X:Nat→Prop} (hk:KeepX X W W') (hE:∀ k,X k→¬ zc2 W k) (hX:¬ X x.XB) (hr:∀ g,x.rv.ownBlock=some g→¬ X g):zwc W' N f k x es:=
 ⟨h.io.kept hk hE hX hr,h.good,h.cols,h.tot,h.arr⟩
theorem zeo.kept {w w':World} {b n:Nat} {f:H4→Int} (h:zeo w b n f) (hb:w'.heap[b]? = w.heap[b]?):zeo w' b n f:=by
 obtain ⟨D,h1,h2⟩:=h
 exact ⟨D,zax h1 hb,h2⟩
theorem zqc.kept {W W':World} {fix:Nat→Prop} {st:St} {ixs:IxS} {v:zda} (h:zqc W fix st ixs v) (hf:∀ k,fix k→W'.heap[k]? = W.heap[k]?) (hm:W'.heap[v.mb]? = W.heap[v.mb]?):zqc W' fix st ixs v:=by
 obtain ⟨⟨iv,h1,h2⟩,h3,⟨base,h4⟩,h5,h6,h7,h8,h9,h10⟩:=h
 exact ⟨⟨iv,(hf _ h3).trans h1,h2.keep hf⟩,h3,⟨base,h4.keep hf⟩,h5,h6,h7,h8,h9.kept hm,h10⟩
theorem za1.topW {w:World} {eb db nD S E:Nat} {st:St} (h:za1 w eb db nD S E st):za1 w eb db nD S w.heap.size st:=by
 obtain ⟨e,d,r,ap,inn,inr,top⟩:=h
 exact ⟨e,d,r,ap,⟨inn.1,by omega,inn.2.2.1,by omega⟩,fun nm R hR=>by have:=inr nm R hR;omega,Nat.le_refl _⟩
theorem za1.keptW {w w':World} {eb db nD S E:Nat} {st:St} (h:za1 w eb db nD S E st) (hs:w.heap.size≤w'.heap.size) (he:w'.heap[eb]? = w.heap[eb]?) (hd:w'.heap[db]? = w.heap[db]?) (hr:∀ nm R,st nm=some R→w'.heap[R.rb]? = w.heap[R.rb]?∧w'.heap[R.mb]? = w.heap[R.mb]?):za1 w' eb db nD S E st:=by
 obtain ⟨⟨xe,e,e0,nv⟩,⟨D,⟨es,clock,h1,h2⟩,hD⟩,r,ap,inn,inr,top⟩:=h
 exact ⟨⟨xe,he.trans e,e0,nv.1,nv.2.1,trivial,trivial,nv.2.2.2.2⟩,⟨D,⟨es,clock,hd.trans h1,h2⟩,hD⟩,fun nm R hR=>⟨(hr nm R hR).1.trans (r nm R hR).1,(r nm R hR).2.kept (hr nm R hR).2⟩,ap,inn,inr,Nat.le_trans top hs⟩
theorem EngV.below {W W':World} {fix:Nat→Prop} {eb db nD nI nV N:Nat} {st:St} {ixs:IxS} {vws:VwS} (h:EngV W fix eb db nD nI nV N st ixs vws) (hb:Below W.heap.size W W'):EngV W' fix eb db nD nI nV N st ixs vws:=by
 have hf:∀ k,fix k→W'.heap[k]? = W.heap[k]?:=fun k hk=>hb.block k (h.flt k hk)
 have hk:KeepX (fun _=>False) W W':=KeepX.ofBelow hb
 refine ⟨(h.rep.below hb).topW,fun k hk=>Nat.lt_of_lt_of_le (h.flt k hk) hb.size,h.feb,h.frb,h.fdb,?_,fun k x hx=>?_,h.iap,?_,fun nm v hv=>?_,h.vap,h.vrel⟩
 ·obtain ⟨D,h1,h2⟩:=h.imap
  exact ⟨D,zax h1 (hb.block _ h1.lt),h2⟩
 ·obtain ⟨a,b,R,c,d⟩:=h.idx k x hx
  exact ⟨a,b,R,c,d.kept hk (fun _ h=>h.elim) (fun h=>h) (fun _ _ h=>h)⟩
 ·obtain ⟨D,h1,h2⟩:=h.vmap
  exact ⟨D,zax h1 (hb.block _ h1.lt),h2⟩
 ·obtain ⟨a,b⟩:=h.vw nm v hv
  exact ⟨a.kept hf (hb.block _ a.map.lt),b⟩
theorem yix:∀ w,(zeroValue 133).run Tryz.prog w=.ok (.pointer none) w:=Tryz.zeroValue133
section
variable {W:World} {fix:Nat→Prop} {eb db nD nI nV N:Nat} {st:St} {ixs:IxS} {vws:VwS}
theorem EngV.c1 (h:EngV W fix eb db nD nI nV N st ixs vws):W.cell? ⟨eb,1,none⟩=some (.map (some (db+1))):=by
 obtain ⟨xs,h1,h2,nv⟩:=h.rep.eng
 exact (zab h1 1).trans nv.1
theorem EngV.c2 (h:EngV W fix eb db nD nI nV N st ixs vws):W.cell? ⟨eb,2,none⟩=some (.map (some (db+2))):=by
 obtain ⟨xs,h1,h2,nv⟩:=h.rep.eng
 exact (zab h1 2).trans nv.2.1
theorem EngV.eb3 (h:EngV W fix eb db nD nI nV N st ixs vws):db+3=eb:=by
 obtain ⟨xs,h1,h2,nv⟩:=h.rep.eng
 exact nv.2.2.2.2.1
theorem EngV.imiss (h:EngV W fix eb db nD nI nV N st ixs vws) {k:zhb} (hk:WfK k) (hx:ixs k=none) :
  (Instr.lookup 58 (.map (some (db+1))) (yd1 k) true).run Tryz.prog W=.ok (.tuple #[.pointer none,.bool false]) W:=by
 obtain ⟨D,hown,hhas,hat,_⟩:=h.imap
 obtain ⟨v,ps,hrun,hv⟩:=hown.look_ok yhg Tryz.underlying58 (yix _) (zd:=.lit (.int .i64 (-1))) (zp:=[]) rfl (zgy hk)
 have h0:Maps.has D (zbl k)=false:=by rw [hhas k hk,hx];rfl
 rw [atKey_of_not_has h0] at hv
 rw [zim hv,h0] at hrun
 exact hrun
theorem EngV.ihit (h:EngV W fix eb db nD nI nV N st ixs vws) {k:zhb} {x:znl} (hx:ixs k=some x) :
  (Instr.lookup 58 (.map (some (db+1))) (yd1 k) true).run Tryz.prog W=.ok (.tuple #[.pointer (some ⟨x.XB,0,none⟩),.bool true]) W:=by
 obtain ⟨D,hown,hhas,hat,_⟩:=h.imap
 obtain ⟨hk,hat⟩:=hat k x hx
 obtain ⟨v,ps,hrun,hv⟩:=hown.look_ok yhg Tryz.underlying58 (yix _) (zd:=.lit (.int .i64 (-1))) (zp:=[]) rfl (zgy hk)
 have h0:Maps.has D (zbl k)=true:=by rw [hhas k hk,hx];rfl
 rw [hat] at hv
 rw [zez hv,h0] at hrun
 exact hrun
end
def decK (a b:zhb):Decidable (a=b):=if h:a.nm=b.nm∧a.c0=b.c0∧a.c1=b.c1∧a.c2=b.c2 then isTrue (by cases a;cases b;simp_all) else isFalse (fun e=>h (by rw [e];exact ⟨rfl,rfl,rfl,rfl⟩))
def zsj (ixs:IxS) (k:zhb) (x:znl):IxS:=fun k'=>@ite (Option znl) (k'=k) (decK k' k) (some x) (ixs k')
theorem zb8 (ixs:IxS) (k:zhb) (x:znl):zsj ixs k x k=some x:=by simp [zsj]
theorem zbh {ixs:IxS} {k k':zhb} {x:znl} (h:k'≠k):zsj ixs k x k'=ixs k':=by simp [zsj,h]
theorem zmj {ixs:IxS} {k:zhb} {x:znl} (hn:ixs k=none) {k':zhb} {y:znl} (h:ixs k'=some y):zsj ixs k x k'=some y:=by
 rw [zbh,h]
 intro e
 rw [e,hn] at h
 cases h
theorem zwm (q:Nat) (w:World):Below w.heap.size w (w.drewN q):=⟨rfl,rfl,rfl,Nat.le_refl _,fun _ _=>rfl⟩
theorem zw4 (W:World) {fix:Nat→Prop} {eb db nD nI nV N:Nat} {st:St} {ixs:IxS} {vws:VwS} (hE:EngV W fix eb db nD nI nV N st ixs vws) (k:zhb) (x:znl) (hx:ixs k=some x) :
  Calls Tryz.prog 59 #[.pointer (some ⟨eb,0,none⟩),yd1 k] W fun e w'=>e=.returned (.pointer (some ⟨x.XB,0,none⟩))∧Below W.heap.size W w':=by
 obtain ⟨nm,c0,c1,c2⟩:=k
 obtain ⟨W1,hW1⟩:∃ W1,W1=W.alloc (.cells #[.string nm,.int .i64 c0,.int .i64 c1,.int .i64 c2] 132):=⟨_,rfl⟩
 have hb1:Below W.heap.size W W1:=by rw [hW1];exact (Below.refl _ _).alloc (Nat.le_refl _) _
 have hE1:=hE.below hb1
 have hrun:∀ n,(Instr.lookup 58 (.map (some (db+1))) (.agg #[.string nm,.int .i64 c0,.int .i64 c1,.int .i64 c2]) true).run Tryz.prog (W1.drewN n)=.ok (.tuple #[.pointer (some ⟨x.XB,0,none⟩),.bool true]) (W1.drewN n):=fun n=>(hE1.below (zwm n _)).ihit hx
 have d1:=hE1.c1
 have g1:W1.heap[W.heap.size]? = some (.cells #[.string nm,.int .i64 c0,.int .i64 c1,.int .i64 c2] 132 (0,0)):=by rw [hW1];exact zae _ _ _ rfl
 have k0:W1.cell? ⟨W.heap.size,0,none⟩=some (.string nm):=zab g1 0
 have k1:W1.cell? ⟨W.heap.size,1,none⟩=some (.int .i64 c0):=zab g1 1
 have k2:W1.cell? ⟨W.heap.size,2,none⟩=some (.int .i64 c1):=zab g1 2
 have k3:W1.cell? ⟨W.heap.size,3,none⟩=some (.int .i64 c2):=zab g1 3
 have Hb1:=zac hb1
 clear hE hE1 hb1 g1
 unfold yd1
 dsimp only
 go_enter Tryz.func59,Tryz.ntmps59
 go_wp2_with fail
 rw [← hW1]
 clear hW1
 go_quiet (fail)
 go_wp2
 go_ret
 exact ⟨rfl,(zaa Hb1).trans (ycs _ _ _)⟩
theorem zii (k:zhb):WideAt.IsKeyLit (zbl k):=trivial
theorem EngV.withIdx {W w1 w4:World} {fix:Nat→Prop} {eb db nD nI nV N:Nat} {st:St} {ixs:IxS} {vws:VwS} (h:EngV W fix eb db nD nI nV N st ixs vws) {k:zhb} {x:znl} {R:Rel} {D:DataW Unit} (hk:WfK k) (hn:ixs k=none) (hR:st k.nm=some R)
  (hb1:Below W.heap.size W w1) (hX:zwc w1 N R.f k x []) (hXB:W.heap.size≤x.XB) (hrv:∀ g,x.rv.ownBlock=some g→W.heap.size≤g)
  (hD:W.ownsMap Tryz.prog 132 zav (db+1) nI D) (hhas:∀ k,WfK k→Maps.has D (zbl k)=(ixs k).isSome) (hat:∀ k x,ixs k=some x→WfK k∧∀ zd,D.atKey (zbl k) zd=.lit (.int .i64 x.XB)) (hall:∀ l,Maps.has D l=true→∃ k x,ixs k=some x∧l=zbl k)
  (hown:w4.ownsMap Tryz.prog 132 zav (db+1) (nI+1) (D.put (zbl k) (.lit (.int .i64 x.XB)))) (hg:w1.grownBy w4 (some (db+1))):EngV w4 fix eb db nD (nI+1) nV N st (zsj ixs k x) vws∧KeepX (fun q=>q=db+1) W w4:=by
 have hk4:KeepX (fun q=>q=db+1) W w4:=(KeepX.ofBelow hb1).trans ⟨hg.os,hg.tape,hg.output,hg.size,fun q hq hx=>hg.block q hq (fun e=>hx (Option.some.inj e))⟩
 have hkw:KeepX (fun q=>q=db+1) w1 w4:=⟨hg.os,hg.tape,hg.output,hg.size,fun q hq hx=>hg.block q hq (fun e=>hx (Option.some.inj e))⟩
 have hdl:db+1<W.heap.size:=hD.lt
 have hnE:∀ q,q=db+1→¬ zc2 W q:=by
  rintro q rfl ⟨cs,hcs⟩
  obtain ⟨es,cl,hm,_⟩:=hD
  rw [hm] at hcs
  cases hcs
 have hnE1:∀ q,q=db+1→¬ zc2 w1 q:=by
  rintro q rfl ⟨cs,hcs⟩
  rw [hb1.block _ hdl] at hcs
  exact hnE _ rfl ⟨cs,hcs⟩
 have hf:∀ q,fix q→w4.heap[q]? = W.heap[q]?:=fun q hq=>hk4.blk q (h.flt q hq) (fun e=>h.fdb.2.1 (e ▸ hq))
 have he3:=h.eb3
 have hinn:=h.rep.inn
 have hrel:∀ nm R,st nm=some R→w4.heap[R.rb]? = W.heap[R.rb]?∧w4.heap[R.mb]? = W.heap[R.mb]?:=fun nm R hR=>by
  have h1:=h.rep.inr nm R hR
  obtain ⟨_,_,_,nv⟩:=h.rep.eng
  have h2:=nv.2.2.2.2.2 nm R hR
  exact ⟨hf _ (h.frb nm R hR).1,hk4.blk _ (by omega) (by omega)⟩
 refine ⟨⟨(h.rep.keptW hk4.size (hf _ h.feb) (hk4.blk db (by omega) (by omega)) hrel).topW,fun q hq=>Nat.lt_of_lt_of_le (h.flt q hq) hk4.size,h.feb,h.frb,h.fdb,⟨_,hown,fun k' hk'=>?_,fun k' x' hx'=>?_,fun l hl=>?_⟩,fun k' x' hx'=>?_,fun k1 k2 x1 x2 h1 h2 hne=>?_,?_,fun nm v hv=>?_,h.vap,h.vrel⟩,hk4⟩
 ·by_cases e:k'=k
  ·subst e;rw [has_put_same hD.isMap (zii _),zb8];rfl
  ·rw [has_put_other (fun e'=>e (zmk hk' hk e')),hhas k' hk',zbh e]
 ·by_cases e:k'=k
  ·subst e
   rw [zb8] at hx'
   cases hx'
   exact ⟨hk,fun zd=>atKey_put_same hD.isMap (zii _) _ _⟩
  ·rw [zbh e] at hx'
   obtain ⟨hw,ha⟩:=hat k' x' hx'
   exact ⟨hw,fun zd=>by rw [atKey_put_other (fun e'=>e (zmk hw hk e'))];exact ha zd⟩
 ·by_cases e:l=zbl k
  ·exact ⟨k,x,zb8 _ _ _,e⟩
  ·rw [has_put_other e] at hl
   obtain ⟨k',x',h1,h2⟩:=hall l hl
   exact ⟨k',x',zmj hn h1,h2⟩
 ·by_cases e:k'=k
  ·subst e
   rw [zb8] at hx'
   cases hx'
   exact ⟨fun hq=>by have:=h.flt _ hq;omega,fun g hg' hq=>by have:=h.flt _ hq;have:=hrv g hg';omega,R,hR,hX.kept hkw hnE1 (by omega) (fun g hg'=>by have:=hrv g hg';omega)⟩
  ·rw [zbh e] at hx'
   obtain ⟨a,b,R',c,d⟩:=h.idx k' x' hx'
   obtain ⟨⟨bv,hb,_⟩,vals,hv,_⟩:=d.io
   refine ⟨a,b,R',c,d.kept hk4 hnE (fun e'=>?_) (fun g hg' e'=>?_)⟩
   ·obtain ⟨es,cl,hm,_⟩:=hD
    rw [e',hm] at hb
    cases hb
   ·obtain ⟨cur,hc⟩:=zdc hv hg'
    obtain ⟨es,cl,hm,_⟩:=hD
    rw [e',hm] at hc
    cases hc
 ·have old:∀ k' x',ixs k'=some x'→x'.XB<W.heap.size∧∀ g,x'.rv.ownBlock=some g→g<W.heap.size:=fun k' x' hx'=>by
   obtain ⟨a,b,R',c,d⟩:=h.idx k' x' hx'
   obtain ⟨⟨bv,hb,_⟩,vals,hv,_⟩:=d.io
   exact ⟨(Array.getElem?_eq_some_iff.1 hb).1,fun g hg'=>zu8 hv hg'⟩
  by_cases e1:k1=k
  ·subst e1
   rw [zb8] at h1
   cases h1
   rw [zbh (fun e=>hne e.symm)] at h2
   have:=old k2 x2 h2
   exact ⟨by omega,fun g hg' e=>by have:=hrv g hg';have:=this;have:=(old k2 x2 h2).2 g e;omega⟩
  ·rw [zbh e1] at h1
   by_cases e2:k2=k
   ·subst e2
    rw [zb8] at h2
    cases h2
    have:=old k1 x1 h1
    exact ⟨by omega,fun g hg' e=>by have:=this.2 g hg';have:=hrv g e;omega⟩
   ·rw [zbh e2] at h2
    exact h.iap k1 k2 x1 x2 h1 h2 hne
 ·obtain ⟨Dv,hv1,hv2⟩:=h.vmap
  exact ⟨Dv,zax hv1 (hk4.blk _ hv1.lt (by omega)),hv2⟩
 ·obtain ⟨a,b⟩:=h.vw nm v hv
  have hvr:=h.vrel nm v hv
  obtain ⟨a1,a2,a3,a4,a5,a6,a7,a8,a9⟩:=a.kept hf (hk4.blk _ a.map.lt hvr.2.1)
  exact ⟨⟨a1,a2,a3,a4,a5,a6,fun i hi=>by obtain ⟨y,y1,y2⟩:=a7 i hi;exact ⟨y,zmj hn y1,y2⟩,a8,a9⟩,b⟩
theorem zw5 (W:World) {fix:Nat→Prop} {eb db nD nI nV N:Nat} {st:St} {ixs:IxS} {vws:VwS} (hE:EngV W fix eb db nD nI nV N st ixs vws) (k:zhb) (R:Rel) (hk:WfK k) (hx:ixs k=none) (hR:st k.nm=some R) (hc:zni k.c0 k.c1 k.c2) (hRn:R.n≤N) (hN:N≤1000000) (hnI:nI≤1000000) :
  Calls Tryz.prog 59 #[.pointer (some ⟨eb,0,none⟩),yd1 k] W fun e w'=>∃ x,e=.returned (.pointer (some ⟨x.XB,0,none⟩))∧EngV w' fix eb db nD (nI+1) nV N st (zsj ixs k x) vws∧KeepX (fun q=>q=db+1) W w'∧W.heap.size≤x.XB∧∀ g,x.rv.ownBlock=some g→W.heap.size≤g:=by
 obtain ⟨nm,c0,c1,c2⟩:=k
 dsimp only at hR hc
 obtain ⟨W1,hW1⟩:∃ W1,W1=W.alloc (.cells #[.string nm,.int .i64 c0,.int .i64 c1,.int .i64 c2] 132):=⟨_,rfl⟩
 have hb1:Below W.heap.size W W1:=by rw [hW1];exact (Below.refl _ _).alloc (Nat.le_refl _) _
 have hE1:=hE.below hb1
 have hrun:∀ n,(Instr.lookup 58 (.map (some (db+1))) (.agg #[.string nm,.int .i64 c0,.int .i64 c1,.int .i64 c2]) true).run Tryz.prog (W1.drewN n)=.ok (.tuple #[.pointer none,.bool false]) (W1.drewN n):=fun n=>(hE1.below (zwm n _)).imiss hk hx
 have d1:=hE1.c1
 have g1:W1.heap[W.heap.size]? = some (.cells #[.string nm,.int .i64 c0,.int .i64 c1,.int .i64 c2] 132 (0,0)):=by rw [hW1];exact zae _ _ _ rfl
 have k0:W1.cell? ⟨W.heap.size,0,none⟩=some (.string nm):=zab g1 0
 have k1:W1.cell? ⟨W.heap.size,1,none⟩=some (.int .i64 c0):=zab g1 1
 have k2:W1.cell? ⟨W.heap.size,2,none⟩=some (.int .i64 c1):=zab g1 2
 have k3:W1.cell? ⟨W.heap.size,3,none⟩=some (.int .i64 c2):=zab g1 3
 have hebl:eb<W.heap.size:=by have:=hE.rep.inn;omega
 have Hb1:=zac hb1
 have HE:=zac hE
 have HE1:=zac hE1
 have G1:=zac g1
 clear hE hE1 hb1 g1
 unfold yd1
 dsimp only
 go_enter Tryz.func59,Tryz.ntmps59
 go_wp2_with fail
 rw [← hW1]
 clear hW1
 go_quiet (fail)
 have hE2:=(zaa HE1).below (zwm nq W1)
 have hb2:Below W.heap.size W (W1.drewN nq):=(zaa Hb1).trans (ycs _ _ _)
 have g2:(W1.drewN nq).heap[W.heap.size]? = some (.cells #[.string nm,.int .i64 c0,.int .i64 c1,.int .i64 c2] 132 (0,0)):=zaa G1
 clear hrun d1 k0 k1 k2 k3 HE1 Hb1
 generalize W1.drewN nq=W2 at *
 have k0:W2.cell? ⟨W.heap.size,0,none⟩=some (.string nm):=zab g2 0
 have k1:W2.cell? ⟨W.heap.size,1,none⟩=some (.int .i64 c0):=zab g2 1
 have k2:W2.cell? ⟨W.heap.size,2,none⟩=some (.int .i64 c1):=zab g2 2
 have k3:W2.cell? ⟨W.heap.size,3,none⟩=some (.int .i64 c2):=zab g2 3
 have e0:W2.cell? ⟨eb,0,none⟩=some (.map (some db)):=hE2.rep.c0
 have hlk:(Instr.lookup 57 (.map (some db)) (.string nm) false).run Tryz.prog W2.drew=.ok (.pointer (some ⟨R.rb,0,none⟩)) W2.drew:=(hE2.below (zar _ _)).rep.get (Nat.le_trans hk.1 (by unfold maxLen;omega)) hR
 have hRb:=(hE2.rep.rel nm R hR)
 have hsz2:=hb2.size
 obtain ⟨w3,hw3⟩:∃ w3,w3=W2.drew.alloc (.cells #[.map (some R.mb)] 102):=⟨_,rfl⟩
 have hb3:Below W2.heap.size W2 w3:=by rw [hw3];exact (zar _ _).trans ((Below.refl W2.drew.heap.size W2.drew).alloc (Nat.le_refl _) _)
 have hall:=yi7 R.rb R.ar R.mb W2.drew hRb.1
 rw [← hw3] at hall
 have hall2:Calls Tryz.prog 91 #[.pointer (some ⟨R.rb,0,none⟩)] W2.drew fun e w'=>e=.returned (.func (.func 153) #[] #[.pointer (some ⟨W2.heap.size,0,none⟩)])∧w'=w3:=hall
 have g3:=zao hb3 g2
 have m0:w3.cell? ⟨W.heap.size,0,none⟩=some (.string nm):=zab g3 0
 have m1:w3.cell? ⟨W.heap.size,1,none⟩=some (.int .i64 c0):=zab g3 1
 have m2:w3.cell? ⟨W.heap.size,2,none⟩=some (.int .i64 c1):=zab g3 2
 have m3:w3.cell? ⟨W.heap.size,3,none⟩=some (.int .i64 c2):=zab g3 3
 have gB:w3.heap[W2.heap.size]? = some (.cells #[.map (some R.mb)] 102 (0,0)):=by rw [hw3];exact zae _ _ _ rfl
 have hWM:ze9 w3 R.mb R.n R.f:=hRb.2.kept (hb3.block R.mb hRb.2.lt)
 have hnew:=yaj c0 c1 c2 153 R.n hc #[.pointer (some ⟨W2.heap.size,0,none⟩)] R.f w3 (enters_of Tryz.func153 (by kernel_rfl) rfl) (by omega) (yhr gB hWM (Nat.le_refl _) (by omega))
 have Hall:=zac hall2
 have Hnew:=zac hnew
 have HE2:=zac hE2
 have Hb2:=zac hb2
 have Hb3:=zac hb3
 have G2:=zac g2
 clear hall hall2 hnew hE2 hb2 hb3 g2 g3 gB hWM hRb hw3
 go_wp2_with fail
 go_region_with (first
  | (go_at_call 91;refine (zaa Hall).mono ?_;rintro e wx ⟨rfl,hwx⟩;rw [hwx];clear hwx)
  | (go_at_call 90;refine (zaa Hnew).mono ?_;rintro e w4 ⟨XB,rv,rs,es,rfl,hXB,hIO,hG,hA,hEq,htot,hb4,hrv⟩))
 all_goals
  have hbW4:Below W.heap.size W w4:=((zaa Hb2).trans ((zaa Hb3).mono (zaa Hb2).size)).trans (hb4.mono (Nat.le_trans (zaa Hb2).size (zaa Hb3).size))
  have hE4:=(zaa HE).below hbW4
  have hs3:=(zaa Hb3).size
  obtain ⟨D,hD,hhas,hat,hall9⟩:=(zaa HE).imap
  have hD4:w4.drew.ownsMap Tryz.prog 132 zav (db+1) nI D:=zax hD (hbW4.block _ hD.lt)
  obtain ⟨w5,hup,hown5,hg5⟩:=hD4.update yhg Tryz.underlying58 (by unfold maxLen;omega) (zgy hk) (val:=.pointer (some ⟨XB,0,none⟩)) (d:=.lit (.int .i64 XB)) (ps:=[]) rfl
  replace hup:(Instr.mapUpdate 58 (.map (some (db+1))) (.agg #[.string nm,.int .i64 c0,.int .i64 c1,.int .i64 c2]) (.pointer (some ⟨XB,0,none⟩))).run Tryz.prog w4.drew=.ok () w5:=hup
  have hIV:zwc w4.drew N R.f ⟨nm,c0,c1,c2⟩ ⟨XB,rv,rs⟩ []:=⟨hIO.kept (X:=fun _=>False) (KeepX.ofBelow (zar _ _)) (fun _ h=>h.elim) (fun h=>h) (fun _ _ h=>h),hG,hc,by show zg9 rs≤N;omega,by obtain ⟨xs,hx1,hp1⟩:=hA.rows;exact ⟨xs,hx1,hEq.trans (Eqv.of_perm hp1)⟩⟩
  obtain ⟨hEF,hKF⟩:=(zaa HE).withIdx (w1:=w4.drew) (w4:=w5) (x:=⟨XB,rv,rs⟩) hk hx hR (hbW4.trans (zar _ _)) hIV (by show W.heap.size≤XB;omega) (fun g hg=>by have:=hrv g hg;omega) hD hhas hat hall9 hown5 hg5
  have g4:=zao (((zaa Hb3).trans (hb4.mono (zaa Hb3).size))) (zaa G2)
  have p0:w4.cell? ⟨W.heap.size,0,none⟩=some (.string nm):=zab g4 0
  have p1:w4.cell? ⟨W.heap.size,1,none⟩=some (.int .i64 c0):=zab g4 1
  have p2:w4.cell? ⟨W.heap.size,2,none⟩=some (.int .i64 c1):=zab g4 2
  have p3:w4.cell? ⟨W.heap.size,3,none⟩=some (.int .i64 c2):=zab g4 3
  have p4:=hE4.c1
  have HF:=zac (And.intro hEF (And.intro hKF (And.intro (show W.heap.size≤XB by omega) (show ∀ g,rv.ownBlock=some g→W.heap.size≤g from fun g hg=>by have:=hrv g hg;omega))))
  clear hEF hKF hIV hown5 hg5 hD4 hD hhas hat hall9 hE4 hbW4 g4 hIO hG hA hEq htot hb4 hrv m0 m1 m2 m3 k0 k1 k2 k3 e0 hlk
  go_wp2_with fail
  go_region_with fail
  all_goals
   go_wp2
   go_ret
   exact ⟨⟨XB,rv,rs⟩,rfl,(zaa HF).1,(zaa HF).2.1,(zaa HF).2.2.1,(zaa HF).2.2.2⟩
end Go.Proofs.YtoifcnidhfnapabGreatDoor
