import Derived.Test.YtoifcnidhfnapaaGreatDoorB31
set_option linter.unusedVariables false
set_option linter.unusedSimpArgs false
set_option maxRecDepth 100000
set_option maxHeartbeats 16000000
namespace Go.Proofs.YtoifcnidhfnapaaGreatDoor
open Go.RowKit Go.Maps Go.Sort Go.Shelf
theorem ygp {vs:List Nat} {a:zbb} (h:(zf7 a.ts vs).length=3):(ydl vs a).length=4:=by simp [ydl,h]
theorem zzb {α:Type} (c:α→List Value):∀ (xs:List α) (hc:∀ x∈xs,(c x).length=4) (i j:Nat) (hi:i<xs.length),j<4→(xs.flatMap c)[i*4+j]? = (c xs[i])[j]?
 | [],_,i,j,hi,_=>by simp at hi
 | x :: xs,hc,0,j,_,hj=>by
  rw [List.flatMap_cons,Nat.zero_mul,Nat.zero_add,List.getElem?_append_left (by rw [hc x (List.mem_cons_self ..)];exact hj)]
  rfl
 | x :: xs,hc,i+1,j,hi,hj=>by
  rw [List.flatMap_cons,List.getElem?_append_right (by rw [hc x (List.mem_cons_self ..)];omega),hc x (List.mem_cons_self ..)]
  have:(i+1)*4+j - 4=i*4+j:=by omega
  rw [this,zzb c xs (fun y hy=>hc y (List.mem_cons_of_mem _ hy)) i j (by simpa using hi) hj]
  rfl
def yb3 (w:World) (v:Value) (vs:List Nat) (B:List zbb):Prop:=
 ∃ a cap,v=.slice a B.length cap∧∀ i,i<B.length→∃ b,a=some ⟨b,0,none⟩∧∀ j,j<4→w.cell? ⟨b,i*4+j,none⟩=(ydl vs (B[i]?.getD zat))[j]?
theorem zw8 {w:World} {base:Nat} {v:Value} {vs:List Nat} {B:List zbb} (hc:∀ a∈B,(zf7 a.ts vs).length=3) (h:w.ownsRow base 96 4 v B.length (zr9 vs B)):yb3 w v vs B:=by
 obtain ⟨p,c,rfl,hle,hn,hs⟩:=zak h
 refine ⟨p,c,rfl,fun i hi=>?_⟩
 cases p with
 | none=>have:=(hn rfl).1;omega
 | some ad =>
  obtain ⟨g,rfl,_,_,hcell⟩:=hs ad rfl
  refine ⟨g,rfl,fun j hj=>?_⟩
  rw [hcell _ (by omega),show zr9 vs B=B.flatMap (ydl vs) from rfl,zzb (ydl vs) B (fun a ha=>ygp (hc a ha)) i j hi hj]
  simp [hi]
theorem zd8.planAt {W:World} {base PB:Nat} {H:List Nat} {B:List zbb} {vs:List Nat} (h:zd8 W base PB H (B.map (·.ts)) B B vs vs) (hO:zv7 (B.map (·.ts)) vs) (h4:H.length≤4) (hb4:B.length≤4):zjl W PB B.length ((B.map (·.ts)).map zcr) (vs.map (zfy (B.map (·.ts)) H)):=by
 obtain ⟨ha,kv,nv,sv,nvals,svals,h1,h2,h3,h5,h6,h7⟩:=h
 obtain ⟨ka,kc,rfl,_⟩:=zak h2
 refine ⟨⟨ka,kc,nv,sv,h1,?_,?_⟩,by simp,hb4,?_⟩
 ·obtain ⟨p,c,rfl,hle,hn,hs⟩:=zak h3
  refine ⟨p,c,by simp,fun j hj=>?_⟩
  have hj':j<B.length:=by simpa using hj
  cases p with
  | none=>have:=(hn rfl).1;omega
  | some ad =>
   obtain ⟨g,rfl,_,_,hcell⟩:=hs ad rfl
   obtain ⟨v,hv1,hv2⟩:=h5.2 j hj'
   obtain ⟨va,vc,rfl,hv3⟩:=zxm hv2
   have e:((B.map (·.ts)).map zcr)[j]?.getD []=zcr (B[j]?.getD zat).ts:=by simp [hj']
   rw [e]
   exact ⟨g,0,va,vc,rfl,by rw [Nat.zero_add,hcell _ (by omega)];exact hv1,hv3⟩
 ·obtain ⟨p,c,rfl,hle,hn,hs⟩:=zak h6
  refine ⟨p,c,by simp,by simpa using hle,fun j hj=>?_⟩
  have hj':j<vs.length:=by simpa using hj
  cases p with
  | none=>have:=(hn rfl).1;omega
  | some ad =>
   obtain ⟨g,rfl,_,_,hcell⟩:=hs ad rfl
   obtain ⟨u,q,hv1,hu,hq⟩:=h7.2 j hj'
   have hus:=zya hu
   obtain ⟨ua,uc,rfl,_⟩:=id hus
   obtain ⟨qa,qc,rfl,hq3⟩:=zsq hq
   have e:(vs.map (zfy (B.map (·.ts)) H))[j]?.getD ⟨[],[]⟩=zfy (B.map (·.ts)) H (vs[j]?.getD 0):=by simp [hj']
   rw [e]
   have hsl:j<svals.length:=by rw [h7.1];exact hj'
   have e2:svals[j]=(.slice ua (zci (B.map (·.ts)) (vs[j]?.getD 0)).length uc,.slice qa (zbq H (vs[j]?.getD 0)).length qc):=by
    rw [List.getElem?_eq_getElem hsl] at hv1
    exact Option.some.inj hv1
   have p0:=zk8 (fun p:Value×Value=>[p.1,p.2]) (fun _=>rfl) svals j 0 hsl (by omega)
   have p1:=zk8 (fun p:Value×Value=>[p.1,p.2]) (fun _=>rfl) svals j 1 hsl (by omega)
   rw [e2] at p0 p1
   refine ⟨g,0,ua,uc,qa,qc,rfl,?_,?_,hus,hq3⟩
   ·rw [Nat.zero_add,hcell _ (by omega)]
    exact p0
   ·rw [Nat.zero_add,hcell _ (by omega)]
    exact p1
 ·intro st hst
  obtain ⟨v,hv,rfl⟩:=List.mem_map.1 hst
  have:=zns (H:=H) (hO.inb v hv) h4
  simpa using this
end Go.Proofs.YtoifcnidhfnapaaGreatDoor
namespace Go.Proofs.YtoifcnidhfnapaaGreatDoor
open Go.RowKit Go.Maps
structure zg2 where
 nm:ByteArray
 c0:Nat
 c1:Nat
 c2:Nat
def ydm (k:zg2):Value:=.agg #[.string k.nm,.int .i64 k.c0,.int .i64 k.c1,.int .i64 k.c2]
def WfK (k:zg2):Prop:=k.nm.size≤1000∧k.c0<3∧k.c1<3∧k.c2<3
theorem Tryz.cellsK:Tryz.prog.cellsOf 96=4:=by kernel_rfl
theorem Tryz.cells94:Tryz.prog.cellsOf 94=3:=by kernel_rfl
theorem Tryz.cells9:Tryz.prog.cellsOf 9=1:=by kernel_rfl
theorem Tryz.cells3':Tryz.prog.cellsOf 3=1:=by kernel_rfl
theorem Tryz.keyTypeK:Tryz.prog.keyType 96=true:=by kernel_rfl
theorem kl3 (d:Nat) {x:Int} (h:wfI x):Tryz.prog.keyLits (d+1) 3 [.int .i64 x]=some [.int .i64 x]:=by
 unfold wfI at h
 unfold Program.keyLits
 rw [Tryz.underlying3]
 simp [h]
theorem zw9 (d:Nat) {v:Value} {ls:List Lit} (h:Tryz.prog.keyLits (d+1) 3 [v]=some ls):∃ x,wfI x∧v=.int .i64 x∧ls=[.int .i64 x]:=by
 unfold Program.keyLits at h
 simp only [Tryz.underlying3] at h
 cases v <;> simp at h
 obtain ⟨⟨rfl,hw⟩,rfl⟩:=h
 exact ⟨_,hw,rfl,rfl⟩
theorem kl94 (d:Nat) (a b c:Value):Tryz.prog.keyLits (d+2) 94 [a,b,c]=(do
  let x ← Tryz.prog.keyLits (d+1) 3 [a]
  let y ← Tryz.prog.keyLits (d+1) 3 [b]
  let z ← Tryz.prog.keyLits (d+1) 3 [c]
  pure (x ++ (y ++ z))):=by
 conv=>lhs;unfold Program.keyLits
 rw [Tryz.underlying94]
 simp only [Tryz.cells94,Tryz.cells3',List.length_cons,List.length_nil,Nat.zero_add,Nat.reduceAdd,if_true]
 simp only [show List.range 3=[0,1,2] from rfl,List.mapM_cons,List.mapM_nil]
 simp only [Nat.zero_mul,Nat.one_mul,Nat.reduceMul,List.drop_zero,List.drop_succ_cons,List.take_succ_cons,List.take_zero]
 generalize Tryz.prog.keyLits (d+1) 3 [a]=A
 generalize Tryz.prog.keyLits (d+1) 3 [b]=B
 generalize Tryz.prog.keyLits (d+1) 3 [c]=C
 cases A <;> cases B <;> cases C <;> simp [List.flatten]
theorem klK (d:Nat) (a b c e:Value):Tryz.prog.keyLits (d+2) 96 [a,b,c,e]=(do
  let x ← Tryz.prog.keyLits (d+1) 9 [a]
  let y ← Tryz.prog.keyLits (d+1) 94 [b,c,e]
  pure (x ++ y)):=by
 conv=>lhs;unfold Program.keyLits
 rw [Tryz.underlying96]
 simp [Tryz.cellsK,Tryz.cells9,Tryz.cells94]
 generalize Tryz.prog.keyLits (d+1) 9 [a]=A
 generalize Tryz.prog.keyLits (d+1) 94 [b,c,e]=B
 cases A <;> cases B <;> simp [List.flatten]
theorem kl9 (d:Nat) {s:ByteArray} (h:s.size≤maxLen):Tryz.prog.keyLits (d+1) 9 [.string s]=some [.string s.data.toList]:=by
 unfold Program.keyLits
 rw [Tryz.underlying9]
 simp [h]
theorem yix (d:Nat) {v:Value} {ls:List Lit} (h:Tryz.prog.keyLits (d+1) 9 [v]=some ls):∃ s:ByteArray,v=.string s:=by
 unfold Program.keyLits at h
 simp only [Tryz.underlying9] at h
 cases v <;> simp at h
 exact ⟨_,rfl⟩
def za9 (k:zg2):Lit:=.string (keyBytes [.string k.nm.data.toList,.int .i64 k.c0,.int .i64 k.c1,.int .i64 k.c2])
theorem zpl {x:Nat} (h:x<1000):wfI (x:Int):=zbm (by omega)
theorem zhd {k:zg2} (h:WfK k):keyOf Tryz.prog 96 (ydm k)=some (za9 k):=by
 obtain ⟨h0,h1,h2,h3⟩:=h
 unfold keyOf
 rw [Tryz.underlying96]
 simp only [Tryz.keyTypeK,ydm,Value.formed,Tryz.underlying96,Tryz.cellsK,Value.cells,Tryz.size]
 have e1:=klK 445 (.string k.nm) (.int .i64 k.c0) (.int .i64 k.c1) (.int .i64 k.c2)
 have e2:=kl94 444 (.int .i64 k.c0) (.int .i64 k.c1) (.int .i64 k.c2)
 rw [kl3 444 (zpl (by omega)),kl3 444 (zpl (by omega)),kl3 444 (zpl (by omega))] at e2
 rw [kl9 445 (Nat.le_trans h0 (by unfold maxLen;omega)),e2] at e1
 simp only [show (446+1:Nat)=445+2 from rfl]
 rw [e1]
 rfl
theorem zr7 {v:Value} {l:Lit} (h:keyOf Tryz.prog 96 v=some l):∃ s x y z,v=.agg #[.string s,.int .i64 x,.int .i64 y,.int .i64 z]:=by
 unfold keyOf at h
 simp only [Tryz.underlying96,Tryz.keyTypeK,Tryz.size] at h
 cases v <;> simp [Value.formed,Tryz.underlying96,Tryz.cellsK] at h
 rename_i cs
 obtain ⟨hs,ls,hls,rfl⟩:=h
 obtain ⟨cs⟩:=cs
 obtain ⟨a,b,c,d,rfl⟩:=len4 (by simpa using hs)
 simp only [Value.cells] at hls
 have e:(447:Nat)=445+2:=rfl
 rw [e,klK] at hls
 cases hA:Tryz.prog.keyLits (445+1) 9 [a] with
 | none=>simp [hA] at hls
 | some A =>
  obtain ⟨s,rfl⟩:=yix _ hA
  cases hB:Tryz.prog.keyLits (445+1) 94 [b,c,d] with
  | none=>simp [hA,hB] at hls
  | some B =>
   have e':(445+1:Nat)=444+2:=rfl
   rw [e',kl94] at hB
   cases h1:Tryz.prog.keyLits (444+1) 3 [b] with
   | none=>simp [h1] at hB
   | some x =>
    cases h2:Tryz.prog.keyLits (444+1) 3 [c] with
    | none=>simp [h1,h2] at hB
    | some y =>
     cases h3:Tryz.prog.keyLits (444+1) 3 [d] with
     | none=>simp [h1,h2,h3] at hB
     | some z =>
      obtain ⟨x,_,rfl,_⟩:=zw9 _ h1
      obtain ⟨y,_,rfl,_⟩:=zw9 _ h2
      obtain ⟨z,_,rfl,_⟩:=zw9 _ h3
      exact ⟨s,x,y,z,rfl⟩
theorem zmc {k k':zg2} (h:WfK k) (h':WfK k') (e:za9 k=za9 k'):k=k':=by
 have:=ydn.inj (zhd h) (e ▸ zhd h')
 simp [ydm] at this
 obtain ⟨h1,h2,h3,h4⟩:=this
 cases k;cases k'
 simp at *
 exact ⟨h1,by omega,by omega,by omega⟩
end Go.Proofs.YtoifcnidhfnapaaGreatDoor
namespace Go.Proofs.YtoifcnidhfnapaaGreatDoor
open Go.RowKit Go.Maps Go.Sort Go.Shelf
def zic (T:Nat→Prop) (P:World→Prop) (W:World):Prop:=∀ W',(∀ k,T k→W'.heap[k]? = W.heap[k]?)→P W'
theorem zic.now {T:Nat→Prop} {P:World→Prop} {W:World} (h:zic T P W):P W:=h W fun _ _=>rfl
theorem zic.keep {T:Nat→Prop} {P:World→Prop} {W W':World} (h:zic T P W) (hk:∀ k,T k→W'.heap[k]? = W.heap[k]?):zic T P W':=fun W'' h2=>h W'' fun k hT=>(h2 k hT).trans (hk k hT)
theorem zic.imp {T T':Nat→Prop} {P:World→Prop} {W:World} (h:zic T P W) (hT:∀ k,T k→T' k):zic T' P W:=fun W' h2=>h W' fun k hk=>h2 k (hT k hk)
theorem ztw {α:Type} {l m:List α} (h:l.Perm m) (f:α→B64):zbz l f=zbz m f:=by
 induction h with
 | nil=>rfl
 | cons a _ ih=>simp only [zbz,ih]
 | swap a b l=>simp only [zbz];grind
 | trans _ _ ih1 ih2=>exact ih1.trans ih2
theorem Eqv.of_perm {l m:List zaj} (h:l.Perm m):Eqv l m:=fun ψ=>ztw h _
structure zmr where
 XB:Nat
 rv:Value
 rs:List (List zaj)
structure zec where
 VB:Nat
 PB:Nat
 mb:Nat
 n:Nat
 H:List (Nat×Nat)
 B:List zbb
 vs:List Nat
 xs:List Nat
 f:H4→Int
abbrev IxS:=zg2→Option zmr
abbrev VwS:=ByteArray→Option zec
def zhp (vs:List Nat) (a:zbb):zg2:=⟨a.nm,(zf7 a.ts vs)[0]?.getD 0,(zf7 a.ts vs)[1]?.getD 0,(zf7 a.ts vs)[2]?.getD 0⟩
def zpu (f:Row→Int) (l:List zaj):Prop:=∃ xs,zkq f xs∧l=za6 f xs
structure zdq (st:St) (H:List (Nat×Nat)) (B:List zbb):Prop where
 ok:zpt H B
 ne:B≠[]
 nm:∀ a∈B,a.nm.size≤8
 rel:∀ a∈B,∃ R,st a.nm=some R∧a.ts.length=R.ar
 head:∀ x∈H,x.1≠0∧zie (B.map (·.ts)) x.1
structure zv6 (W:World) (N:Nat) (f:Row→Int) (k:zg2) (x:zmr) (es:List zaj):Prop where
 io:znb W x.XB (.int .i64 k.c0) (.int .i64 k.c1) (.int .i64 k.c2) x.rv x.rs es
 good:zjw x.rs
 cols:zm9 k.c0 k.c1 k.c2
 tot:ze6 x.rs≤N
 arr:∃ xs,zkq f xs∧Eqv x.rs.flatten ((za6 f xs).map (zku k.c0 k.c1 k.c2))
structure zpw (W:World) (fix:Nat→Prop) (st:St) (ixs:IxS) (v:zec):Prop where
 blk:∃ iv,W.heap[v.VB]? = some (.cells #[.pointer (some ⟨v.PB,0,none⟩),iv,.int .i64 v.H.length,.map (some v.mb)] 89 (0,0))∧zic fix (fun w=>zjm w iv v.xs) W
 fixed:fix v.VB
 plan:∃ base,zic fix (fun w=>zd8 w base v.PB (v.H.map (·.1)) (v.B.map (·.ts)) v.B v.B v.vs v.vs) W
 ord:v.vs.Perm (zbl (v.B.map (·.ts)))
 fit:zdq st v.H v.B
 len:v.xs.length=v.B.length
 idx:∀ i,i<v.B.length→∃ x,ixs (zhp v.vs (v.B[i]?.getD zat))=some x∧v.xs[i]?.getD 0=x.XB
 map:zgv W v.mb v.n v.f
 mfix:¬ fix v.mb
def yb0 (st:St) (v:zec):Prop:=∀ L:Nat→List zaj,(∀ i,i<v.B.length→∃ R,st (v.B[i]?.getD zat).nm=some R∧zpu R.f (L i))→∀ h,BitVec.ofInt 64 (v.f h)=zpj (v.B.map (·.ts)) (v.H.map (·.1)) L h
structure EngV (W:World) (fix:Nat→Prop) (eb db nD nI nV N:Nat) (st:St) (ixs:IxS) (vws:VwS):Prop where
 rep:za1 W eb db nD 0 W.heap.size st
 flt:∀ k,fix k→k<W.heap.size
 feb:fix eb
 frb:∀ nm R,st nm=some R→fix R.rb∧¬ fix R.mb
 fdb:¬ fix db∧¬ fix (db+1)∧¬ fix (db+2)
 imap:∃ D,W.ownsMap Tryz.prog 96 zap (db+1) nI D∧(∀ k,WfK k→Maps.has D (za9 k)=(ixs k).isSome)∧(∀ k x,ixs k=some x→WfK k∧∀ zd,D.atKey (za9 k) zd=.lit (.int .i64 x.XB))∧∀ l,Maps.has D l=true→∃ k x,ixs k=some x∧l=za9 k
 idx:∀ k x,ixs k=some x→¬ fix x.XB∧(∀ g,x.rv.ownBlock=some g→¬ fix g)∧∃ R,st k.nm=some R∧zv6 W N R.f k x []
 iap:∀ k k' x x',ixs k=some x→ixs k'=some x'→k≠k'→x.XB≠x'.XB∧∀ g,x.rv.ownBlock=some g→x'.rv.ownBlock≠some g
 vmap:∃ D,W.ownsMap Tryz.prog 9 zap (db+2) nV D∧Maps.size D=nV∧(∀ nm,nm.size≤maxLen→Maps.has D (zas nm)=(vws nm).isSome)∧∀ nm v,vws nm=some v→nm.size≤8∧∀ zd,D.atKey (zas nm) zd=.lit (.int .i64 v.VB)
 vw:∀ nm v,vws nm=some v→zpw W fix st ixs v∧yb0 st v
 vap:∀ nm nm' v v',vws nm=some v→vws nm'=some v'→nm≠nm'→v.mb≠v'.mb∧v.VB≠v'.VB
 vrel:∀ nm v,vws nm=some v→v.mb≠db∧v.mb≠db+1∧v.mb≠db+2∧∀ m R,st m=some R→v.mb≠R.mb
theorem znb.kept {W W':World} {XB:Nat} {x0 x1 x2 rv:Value} {rs:List (List zaj)} {es:List zaj} (h:znb W XB x0 x1 x2 rv rs es) {X:Nat→Prop} (hk:KeepX X W W') (hE:∀ k,X k→¬ zct W k) (hX:¬ X XB) (hr:∀ g,rv.ownBlock=some g→¬ X g):znb W' XB x0 x1 x2 rv rs es:=by
 obtain ⟨⟨bv,h1,h2⟩,vals,h3,h4⟩:=h
 exact ⟨⟨bv,(hk.blk XB (Array.getElem?_eq_some_iff.1 h1).1 hX).trans h1,h2.keepT hk hE⟩,vals,zcc h3 hk hr,h4.keepT hk hE⟩
theorem zv6.kept {W W':World} {N:Nat} {f:Row→Int} {k:zg2} {x:zmr} {es:List zaj} (h:zv6 W N f k x es) {X:Nat→Prop} (hk:KeepX X W W') (hE:∀ k,X k→¬ zct W k) (hX:¬ X x.XB) (hr:∀ g,x.rv.ownBlock=some g→¬ X g):zv6 W' N f k x es:=
 ⟨h.io.kept hk hE hX hr,h.good,h.cols,h.tot,h.arr⟩
theorem zgv.kept {w w':World} {b n:Nat} {f:H4→Int} (h:zgv w b n f) (hb:w'.heap[b]? = w.heap[b]?):zgv w' b n f:=by
 obtain ⟨D,h1,h2⟩:=h
 exact ⟨D,zau h1 hb,h2⟩
theorem zpw.kept {W W':World} {fix:Nat→Prop} {st:St} {ixs:IxS} {v:zec} (h:zpw W fix st ixs v) (hf:∀ k,fix k→W'.heap[k]? = W.heap[k]?) (hm:W'.heap[v.mb]? = W.heap[v.mb]?):zpw W' fix st ixs v:=by
 obtain ⟨⟨iv,h1,h2⟩,h3,⟨base,h4⟩,h5,h6,h7,h8,h9,h10⟩:=h
 exact ⟨⟨iv,(hf _ h3).trans h1,h2.keep hf⟩,h3,⟨base,h4.keep hf⟩,h5,h6,h7,h8,h9.kept hm,h10⟩
theorem za1.topW {w:World} {eb db nD S E:Nat} {st:St} (h:za1 w eb db nD S E st):za1 w eb db nD S w.heap.size st:=by
 obtain ⟨e,d,r,ap,inn,inr,top⟩:=h
 exact ⟨e,d,r,ap,⟨inn.1,by omega,inn.2.2.1,by omega⟩,fun nm R hR=>by have:=inr nm R hR;omega,Nat.le_refl _⟩
theorem za1.keptW {w w':World} {eb db nD S E:Nat} {st:St} (h:za1 w eb db nD S E st) (hs:w.heap.size≤w'.heap.size) (he:w'.heap[eb]? = w.heap[eb]?) (hd:w'.heap[db]? = w.heap[db]?) (hr:∀ nm R,st nm=some R→w'.heap[R.rb]? = w.heap[R.rb]?∧w'.heap[R.mb]? = w.heap[R.mb]?):za1 w' eb db nD S E st:=by
 obtain ⟨⟨xe,e,e0,nv⟩,⟨D,⟨es,clock,h1,h2⟩,hD⟩,r,ap,inn,inr,top⟩:=h
 exact ⟨⟨xe,he.trans e,e0,nv.1,nv.2.1,trivial,trivial,nv.2.2.2.2⟩,⟨D,⟨es,clock,hd.trans h1,h2⟩,hD⟩,fun nm R hR=>⟨(hr nm R hR).1.trans (r nm R hR).1,(r nm R hR).2.kept (hr nm R hR).2⟩,ap,inn,inr,Nat.le_trans top hs⟩
theorem EngV.below {W W':World} {fix:Nat→Prop} {eb db nD nI nV N:Nat} {st:St} {ixs:IxS} {vws:VwS} (h:EngV W fix eb db nD nI nV N st ixs vws) (hb:Below W.heap.size W W'):EngV W' fix eb db nD nI nV N st ixs vws:=by
 have hf:∀ k,fix k→W'.heap[k]? = W.heap[k]?:=fun k hk=>hb.block k (h.flt k hk)
 have hk:KeepX (fun _=>False) W W':=KeepX.ofBelow hb
 refine ⟨(h.rep.below hb).topW,fun k hk=>Nat.lt_of_lt_of_le (h.flt k hk) hb.size,h.feb,h.frb,h.fdb,?_,fun k x hx=>?_,h.iap,?_,fun nm v hv=>?_,h.vap,h.vrel⟩
 ·obtain ⟨D,h1,h2⟩:=h.imap
  exact ⟨D,zau h1 (hb.block _ h1.lt),h2⟩
 ·obtain ⟨a,b,R,c,d⟩:=h.idx k x hx
  exact ⟨a,b,R,c,d.kept hk (fun _ h=>h.elim) (fun h=>h) (fun _ _ h=>h)⟩
 ·obtain ⟨D,h1,h2⟩:=h.vmap
  exact ⟨D,zau h1 (hb.block _ h1.lt),h2⟩
 ·obtain ⟨a,b⟩:=h.vw nm v hv
  exact ⟨a.kept hf (hb.block _ a.map.lt),b⟩
theorem yh8:∀ w,(zeroValue 97).run Tryz.prog w=.ok (.pointer none) w:=Tryz.zeroValue97
section
variable {W:World} {fix:Nat→Prop} {eb db nD nI nV N:Nat} {st:St} {ixs:IxS} {vws:VwS}
theorem EngV.c1 (h:EngV W fix eb db nD nI nV N st ixs vws):W.cell? ⟨eb,1,none⟩=some (.map (some (db+1))):=by
 obtain ⟨xs,h1,h2,nv⟩:=h.rep.eng
 exact (zab h1 1).trans nv.1
theorem EngV.c2 (h:EngV W fix eb db nD nI nV N st ixs vws):W.cell? ⟨eb,2,none⟩=some (.map (some (db+2))):=by
 obtain ⟨xs,h1,h2,nv⟩:=h.rep.eng
 exact (zab h1 2).trans nv.2.1
theorem EngV.eb3 (h:EngV W fix eb db nD nI nV N st ixs vws):db+3=eb:=by
 obtain ⟨xs,h1,h2,nv⟩:=h.rep.eng
 exact nv.2.2.2.2.1
theorem EngV.imiss (h:EngV W fix eb db nD nI nV N st ixs vws) {k:zg2} (hk:WfK k) (hx:ixs k=none) :
  (Instr.lookup 69 (.map (some (db+1))) (ydm k) true).run Tryz.prog W=.ok (.tuple #[.pointer none,.bool false]) W:=by
 obtain ⟨D,hown,hhas,hat,_⟩:=h.imap
 obtain ⟨v,ps,hrun,hv⟩:=hown.look_ok ydn Tryz.underlying69 (yh8 _) (zd:=.lit (.int .i64 (-1))) (zp:=[]) rfl (zhd hk)
 have h0:Maps.has D (za9 k)=false:=by rw [hhas k hk,hx];rfl
 rw [atKey_of_not_has h0] at hv
 rw [zit hv,h0] at hrun
 exact hrun
theorem EngV.ihit (h:EngV W fix eb db nD nI nV N st ixs vws) {k:zg2} {x:zmr} (hx:ixs k=some x) :
  (Instr.lookup 69 (.map (some (db+1))) (ydm k) true).run Tryz.prog W=.ok (.tuple #[.pointer (some ⟨x.XB,0,none⟩),.bool true]) W:=by
 obtain ⟨D,hown,hhas,hat,_⟩:=h.imap
 obtain ⟨hk,hat⟩:=hat k x hx
 obtain ⟨v,ps,hrun,hv⟩:=hown.look_ok ydn Tryz.underlying69 (yh8 _) (zd:=.lit (.int .i64 (-1))) (zp:=[]) rfl (zhd hk)
 have h0:Maps.has D (za9 k)=true:=by rw [hhas k hk,hx];rfl
 rw [hat] at hv
 rw [zdz hv,h0] at hrun
 exact hrun
end
def dcK (a b:zg2):Decidable (a=b):=if h:a.nm=b.nm∧a.c0=b.c0∧a.c1=b.c1∧a.c2=b.c2 then isTrue (by cases a;cases b;simp_all) else isFalse (fun e=>h (by rw [e];exact ⟨rfl,rfl,rfl,rfl⟩))
def zpy (ixs:IxS) (k:zg2) (x:zmr):IxS:=fun k'=>@ite (Option zmr) (k'=k) (dcK k' k) (some x) (ixs k')
theorem zb3 (ixs:IxS) (k:zg2) (x:zmr):zpy ixs k x k=some x:=by simp [zpy]
theorem za8 {ixs:IxS} {k k':zg2} {x:zmr} (h:k'≠k):zpy ixs k x k'=ixs k':=by simp [zpy,h]
theorem zmb {ixs:IxS} {k:zg2} {x:zmr} (hn:ixs k=none) {k':zg2} {y:zmr} (h:ixs k'=some y):zpy ixs k x k'=some y:=by
 rw [za8,h]
 intro e
 rw [e,hn] at h
 cases h
theorem zwj (q:Nat) (w:World):Below w.heap.size w (w.drewN q):=⟨rfl,rfl,rfl,Nat.le_refl _,fun _ _=>rfl⟩
theorem zw3 (W:World) {fix:Nat→Prop} {eb db nD nI nV N:Nat} {st:St} {ixs:IxS} {vws:VwS} (hE:EngV W fix eb db nD nI nV N st ixs vws) (k:zg2) (x:zmr) (hx:ixs k=some x) :
  Calls Tryz.prog 107 #[.pointer (some ⟨eb,0,none⟩),ydm k] W fun e w'=>e=.returned (.pointer (some ⟨x.XB,0,none⟩))∧Below W.heap.size W w':=by
 obtain ⟨nm,c0,c1,c2⟩:=k
 obtain ⟨W1,hW1⟩:∃ W1,W1=W.alloc (.cells #[.string nm,.int .i64 c0,.int .i64 c1,.int .i64 c2] 96):=⟨_,rfl⟩
 have hb1:Below W.heap.size W W1:=by rw [hW1];exact (Below.refl _ _).alloc (Nat.le_refl _) _
 have hE1:=hE.below hb1
 have hrun:∀ n,(Instr.lookup 69 (.map (some (db+1))) (.agg #[.string nm,.int .i64 c0,.int .i64 c1,.int .i64 c2]) true).run Tryz.prog (W1.drewN n)=.ok (.tuple #[.pointer (some ⟨x.XB,0,none⟩),.bool true]) (W1.drewN n):=fun n=>(hE1.below (zwj n _)).ihit hx
 have d1:=hE1.c1
 have g1:W1.heap[W.heap.size]? = some (.cells #[.string nm,.int .i64 c0,.int .i64 c1,.int .i64 c2] 96 (0,0)):=by rw [hW1];exact zae _ _ _ rfl
 have k0:W1.cell? ⟨W.heap.size,0,none⟩=some (.string nm):=zab g1 0
 have k1:W1.cell? ⟨W.heap.size,1,none⟩=some (.int .i64 c0):=zab g1 1
 have k2:W1.cell? ⟨W.heap.size,2,none⟩=some (.int .i64 c1):=zab g1 2
 have k3:W1.cell? ⟨W.heap.size,3,none⟩=some (.int .i64 c2):=zab g1 3
 have Hb1:=zac hb1
 clear hE hE1 hb1 g1
 unfold ydm
 dsimp only
 go_enter Tryz.func107,Tryz.ntmps107
 go_wp2_with fail
 rw [← hW1]
 clear hW1
 go_quiet (fail)
 go_wp2
 go_ret
 exact ⟨rfl,(zaa Hb1).trans (ycg _ _ _)⟩
theorem zio (k:zg2):WideAt.IsKeyLit (za9 k):=trivial
theorem EngV.withIdx {W w1 w4:World} {fix:Nat→Prop} {eb db nD nI nV N:Nat} {st:St} {ixs:IxS} {vws:VwS} (h:EngV W fix eb db nD nI nV N st ixs vws) {k:zg2} {x:zmr} {R:Rel} {D:DataW Unit} (hk:WfK k) (hn:ixs k=none) (hR:st k.nm=some R)
  (hb1:Below W.heap.size W w1) (hX:zv6 w1 N R.f k x []) (hXB:W.heap.size≤x.XB) (hrv:∀ g,x.rv.ownBlock=some g→W.heap.size≤g)
  (hD:W.ownsMap Tryz.prog 96 zap (db+1) nI D) (hhas:∀ k,WfK k→Maps.has D (za9 k)=(ixs k).isSome) (hat:∀ k x,ixs k=some x→WfK k∧∀ zd,D.atKey (za9 k) zd=.lit (.int .i64 x.XB)) (hall:∀ l,Maps.has D l=true→∃ k x,ixs k=some x∧l=za9 k)
  (hown:w4.ownsMap Tryz.prog 96 zap (db+1) (nI+1) (D.put (za9 k) (.lit (.int .i64 x.XB)))) (hg:w1.grownBy w4 (some (db+1))):EngV w4 fix eb db nD (nI+1) nV N st (zpy ixs k x) vws∧KeepX (fun q=>q=db+1) W w4:=by
 have hk4:KeepX (fun q=>q=db+1) W w4:=(KeepX.ofBelow hb1).trans ⟨hg.os,hg.tape,hg.output,hg.size,fun q hq hx=>hg.block q hq (fun e=>hx (Option.some.inj e))⟩
 have hkw:KeepX (fun q=>q=db+1) w1 w4:=⟨hg.os,hg.tape,hg.output,hg.size,fun q hq hx=>hg.block q hq (fun e=>hx (Option.some.inj e))⟩
 have hdl:db+1<W.heap.size:=hD.lt
 have hnE:∀ q,q=db+1→¬ zct W q:=by
  rintro q rfl ⟨cs,hcs⟩
  obtain ⟨es,cl,hm,_⟩:=hD
  rw [hm] at hcs
  cases hcs
 have hnE1:∀ q,q=db+1→¬ zct w1 q:=by
  rintro q rfl ⟨cs,hcs⟩
  rw [hb1.block _ hdl] at hcs
  exact hnE _ rfl ⟨cs,hcs⟩
 have hf:∀ q,fix q→w4.heap[q]? = W.heap[q]?:=fun q hq=>hk4.blk q (h.flt q hq) (fun e=>h.fdb.2.1 (e ▸ hq))
 have he3:=h.eb3
 have hinn:=h.rep.inn
 have hrel:∀ nm R,st nm=some R→w4.heap[R.rb]? = W.heap[R.rb]?∧w4.heap[R.mb]? = W.heap[R.mb]?:=fun nm R hR=>by
  have h1:=h.rep.inr nm R hR
  obtain ⟨_,_,_,nv⟩:=h.rep.eng
  have h2:=nv.2.2.2.2.2 nm R hR
  exact ⟨hf _ (h.frb nm R hR).1,hk4.blk _ (by omega) (by omega)⟩
 refine ⟨⟨(h.rep.keptW hk4.size (hf _ h.feb) (hk4.blk db (by omega) (by omega)) hrel).topW,fun q hq=>Nat.lt_of_lt_of_le (h.flt q hq) hk4.size,h.feb,h.frb,h.fdb,⟨_,hown,fun k' hk'=>?_,fun k' x' hx'=>?_,fun l hl=>?_⟩,fun k' x' hx'=>?_,fun k1 k2 x1 x2 h1 h2 hne=>?_,?_,fun nm v hv=>?_,h.vap,h.vrel⟩,hk4⟩
 ·by_cases e:k'=k
  ·subst e;rw [has_put_same hD.isMap (zio _),zb3];rfl
  ·rw [has_put_other (fun e'=>e (zmc hk' hk e')),hhas k' hk',za8 e]
 ·by_cases e:k'=k
  ·subst e
   rw [zb3] at hx'
   cases hx'
   exact ⟨hk,fun zd=>atKey_put_same hD.isMap (zio _) _ _⟩
  ·rw [za8 e] at hx'
   obtain ⟨hw,ha⟩:=hat k' x' hx'
   exact ⟨hw,fun zd=>by rw [atKey_put_other (fun e'=>e (zmc hw hk e'))];exact ha zd⟩
 ·by_cases e:l=za9 k
  ·exact ⟨k,x,zb3 _ _ _,e⟩
  ·rw [has_put_other e] at hl
   obtain ⟨k',x',h1,h2⟩:=hall l hl
   exact ⟨k',x',zmb hn h1,h2⟩
 ·by_cases e:k'=k
  ·subst e
   rw [zb3] at hx'
   cases hx'
   exact ⟨fun hq=>by have:=h.flt _ hq;omega,fun g hg' hq=>by have:=h.flt _ hq;have:=hrv g hg';omega,R,hR,hX.kept hkw hnE1 (by omega) (fun g hg'=>by have:=hrv g hg';omega)⟩
  ·rw [za8 e] at hx'
   obtain ⟨a,b,R',c,d⟩:=h.idx k' x' hx'
   obtain ⟨⟨bv,hb,_⟩,vals,hv,_⟩:=d.io
   refine ⟨a,b,R',c,d.kept hk4 hnE (fun e'=>?_) (fun g hg' e'=>?_)⟩
   ·obtain ⟨es,cl,hm,_⟩:=hD
    rw [e',hm] at hb
    cases hb
   ·obtain ⟨cur,hc⟩:=zde hv hg'
    obtain ⟨es,cl,hm,_⟩:=hD
    rw [e',hm] at hc
    cases hc
 ·have old:∀ k' x',ixs k'=some x'→x'.XB<W.heap.size∧∀ g,x'.rv.ownBlock=some g→g<W.heap.size:=fun k' x' hx'=>by
   obtain ⟨a,b,R',c,d⟩:=h.idx k' x' hx'
   obtain ⟨⟨bv,hb,_⟩,vals,hv,_⟩:=d.io
   exact ⟨(Array.getElem?_eq_some_iff.1 hb).1,fun g hg'=>zu1 hv hg'⟩
  by_cases e1:k1=k
  ·subst e1
   rw [zb3] at h1
   cases h1
   rw [za8 (fun e=>hne e.symm)] at h2
   have:=old k2 x2 h2
   exact ⟨by omega,fun g hg' e=>by have:=hrv g hg';have:=this;have:=(old k2 x2 h2).2 g e;omega⟩
  ·rw [za8 e1] at h1
   by_cases e2:k2=k
   ·subst e2
    rw [zb3] at h2
    cases h2
    have:=old k1 x1 h1
    exact ⟨by omega,fun g hg' e=>by have:=this.2 g hg';have:=hrv g e;omega⟩
   ·rw [za8 e2] at h2
    exact h.iap k1 k2 x1 x2 h1 h2 hne
 ·obtain ⟨Dv,hv1,hv2⟩:=h.vmap
  exact ⟨Dv,zau hv1 (hk4.blk _ hv1.lt (by omega)),hv2⟩
 ·obtain ⟨a,b⟩:=h.vw nm v hv
  have hvr:=h.vrel nm v hv
  obtain ⟨a1,a2,a3,a4,a5,a6,a7,a8,a9⟩:=a.kept hf (hk4.blk _ a.map.lt hvr.2.1)
  exact ⟨⟨a1,a2,a3,a4,a5,a6,fun i hi=>by obtain ⟨y,y1,y2⟩:=a7 i hi;exact ⟨y,zmb hn y1,y2⟩,a8,a9⟩,b⟩
theorem zw4 (W:World) {fix:Nat→Prop} {eb db nD nI nV N:Nat} {st:St} {ixs:IxS} {vws:VwS} (hE:EngV W fix eb db nD nI nV N st ixs vws) (k:zg2) (R:Rel) (hk:WfK k) (hx:ixs k=none) (hR:st k.nm=some R) (hc:zm9 k.c0 k.c1 k.c2) (hRn:R.n≤N) (hN:N≤1000000) (hnI:nI≤1000000) :
  Calls Tryz.prog 107 #[.pointer (some ⟨eb,0,none⟩),ydm k] W fun e w'=>∃ x,e=.returned (.pointer (some ⟨x.XB,0,none⟩))∧EngV w' fix eb db nD (nI+1) nV N st (zpy ixs k x) vws∧KeepX (fun q=>q=db+1) W w'∧W.heap.size≤x.XB∧∀ g,x.rv.ownBlock=some g→W.heap.size≤g:=by
 obtain ⟨nm,c0,c1,c2⟩:=k
 dsimp only at hR hc
 obtain ⟨W1,hW1⟩:∃ W1,W1=W.alloc (.cells #[.string nm,.int .i64 c0,.int .i64 c1,.int .i64 c2] 96):=⟨_,rfl⟩
 have hb1:Below W.heap.size W W1:=by rw [hW1];exact (Below.refl _ _).alloc (Nat.le_refl _) _
 have hE1:=hE.below hb1
 have hrun:∀ n,(Instr.lookup 69 (.map (some (db+1))) (.agg #[.string nm,.int .i64 c0,.int .i64 c1,.int .i64 c2]) true).run Tryz.prog (W1.drewN n)=.ok (.tuple #[.pointer none,.bool false]) (W1.drewN n):=fun n=>(hE1.below (zwj n _)).imiss hk hx
 have d1:=hE1.c1
 have g1:W1.heap[W.heap.size]? = some (.cells #[.string nm,.int .i64 c0,.int .i64 c1,.int .i64 c2] 96 (0,0)):=by rw [hW1];exact zae _ _ _ rfl
 have k0:W1.cell? ⟨W.heap.size,0,none⟩=some (.string nm):=zab g1 0
 have k1:W1.cell? ⟨W.heap.size,1,none⟩=some (.int .i64 c0):=zab g1 1
 have k2:W1.cell? ⟨W.heap.size,2,none⟩=some (.int .i64 c1):=zab g1 2
 have k3:W1.cell? ⟨W.heap.size,3,none⟩=some (.int .i64 c2):=zab g1 3
 have hebl:eb<W.heap.size:=by have:=hE.rep.inn;omega
 have Hb1:=zac hb1
 have HE:=zac hE
 have HE1:=zac hE1
 have G1:=zac g1
 clear hE hE1 hb1 g1
 unfold ydm
 dsimp only
 go_enter Tryz.func107,Tryz.ntmps107
 go_wp2_with fail
 rw [← hW1]
 clear hW1
 go_quiet (fail)
 have hE2:=(zaa HE1).below (zwj nq W1)
 have hb2:Below W.heap.size W (W1.drewN nq):=(zaa Hb1).trans (ycg _ _ _)
 have g2:(W1.drewN nq).heap[W.heap.size]? = some (.cells #[.string nm,.int .i64 c0,.int .i64 c1,.int .i64 c2] 96 (0,0)):=zaa G1
 clear hrun d1 k0 k1 k2 k3 HE1 Hb1
 generalize W1.drewN nq=W2 at *
 have k0:W2.cell? ⟨W.heap.size,0,none⟩=some (.string nm):=zab g2 0
 have k1:W2.cell? ⟨W.heap.size,1,none⟩=some (.int .i64 c0):=zab g2 1
 have k2:W2.cell? ⟨W.heap.size,2,none⟩=some (.int .i64 c1):=zab g2 2
 have k3:W2.cell? ⟨W.heap.size,3,none⟩=some (.int .i64 c2):=zab g2 3
 have e0:W2.cell? ⟨eb,0,none⟩=some (.map (some db)):=hE2.rep.c0
 have hlk:(Instr.lookup 68 (.map (some db)) (.string nm) false).run Tryz.prog W2.drew=.ok (.pointer (some ⟨R.rb,0,none⟩)) W2.drew:=(hE2.below (zav _ _)).rep.get (Nat.le_trans hk.1 (by unfold maxLen;omega)) hR
 have hRb:=(hE2.rep.rel nm R hR)
 have hsz2:=hb2.size
 obtain ⟨w3,hw3⟩:∃ w3,w3=W2.drew.alloc (.cells #[.map (some R.mb)] 127):=⟨_,rfl⟩
 have hb3:Below W2.heap.size W2 w3:=by rw [hw3];exact (zav _ _).trans ((Below.refl W2.drew.heap.size W2.drew).alloc (Nat.le_refl _) _)
 have hall:=yca R.rb R.ar R.mb W2.drew hRb.1
 rw [← hw3] at hall
 have hall2:Calls Tryz.prog 38 #[.pointer (some ⟨R.rb,0,none⟩)] W2.drew fun e w'=>e=.returned (.func (.func 111) #[] #[.pointer (some ⟨W2.heap.size,0,none⟩)])∧w'=w3:=hall
 have g3:=zan hb3 g2
 have m0:w3.cell? ⟨W.heap.size,0,none⟩=some (.string nm):=zab g3 0
 have m1:w3.cell? ⟨W.heap.size,1,none⟩=some (.int .i64 c0):=zab g3 1
 have m2:w3.cell? ⟨W.heap.size,2,none⟩=some (.int .i64 c1):=zab g3 2
 have m3:w3.cell? ⟨W.heap.size,3,none⟩=some (.int .i64 c2):=zab g3 3
 have gB:w3.heap[W2.heap.size]? = some (.cells #[.map (some R.mb)] 127 (0,0)):=by rw [hw3];exact zae _ _ _ rfl
 have hWM:zfk w3 R.mb R.n R.f:=hRb.2.kept (hb3.block R.mb hRb.2.lt)
 have hnew:=yak c0 c1 c2 111 R.n hc #[.pointer (some ⟨W2.heap.size,0,none⟩)] R.f w3 (enters_of Tryz.func111 (by kernel_rfl) rfl) (by omega) (yg4 gB hWM (Nat.le_refl _) (by omega))
 have Hall:=zac hall2
 have Hnew:=zac hnew
 have HE2:=zac hE2
 have Hb2:=zac hb2
 have Hb3:=zac hb3
 have G2:=zac g2
 clear hall hall2 hnew hE2 hb2 hb3 g2 g3 gB hWM hRb hw3
 go_wp2_with fail
 go_region_with (first
  | (go_at_call 38;refine (zaa Hall).mono ?_;rintro e wx ⟨rfl,hwx⟩;rw [hwx];clear hwx)
  | (go_at_call 154;refine (zaa Hnew).mono ?_;rintro e w4 ⟨XB,rv,rs,es,rfl,hXB,hIO,hG,hA,hEq,htot,hb4,hrv⟩))
 all_goals
  have hbW4:Below W.heap.size W w4:=((zaa Hb2).trans ((zaa Hb3).mono (zaa Hb2).size)).trans (hb4.mono (Nat.le_trans (zaa Hb2).size (zaa Hb3).size))
  have hE4:=(zaa HE).below hbW4
  have hs3:=(zaa Hb3).size
  obtain ⟨D,hD,hhas,hat,hall9⟩:=(zaa HE).imap
  have hD4:w4.drew.ownsMap Tryz.prog 96 zap (db+1) nI D:=zau hD (hbW4.block _ hD.lt)
  obtain ⟨w5,hup,hown5,hg5⟩:=hD4.update ydn Tryz.underlying69 (by unfold maxLen;omega) (zhd hk) (val:=.pointer (some ⟨XB,0,none⟩)) (d:=.lit (.int .i64 XB)) (ps:=[]) rfl
  replace hup:(Instr.mapUpdate 69 (.map (some (db+1))) (.agg #[.string nm,.int .i64 c0,.int .i64 c1,.int .i64 c2]) (.pointer (some ⟨XB,0,none⟩))).run Tryz.prog w4.drew=.ok () w5:=hup
  have hIV:zv6 w4.drew N R.f ⟨nm,c0,c1,c2⟩ ⟨XB,rv,rs⟩ []:=⟨hIO.kept (X:=fun _=>False) (KeepX.ofBelow (zav _ _)) (fun _ h=>h.elim) (fun h=>h) (fun _ _ h=>h),hG,hc,by show ze6 rs≤N;omega,by obtain ⟨xs,hx1,hp1⟩:=hA.rows;exact ⟨xs,hx1,hEq.trans (Eqv.of_perm hp1)⟩⟩
  obtain ⟨hEF,hKF⟩:=(zaa HE).withIdx (w1:=w4.drew) (w4:=w5) (x:=⟨XB,rv,rs⟩) hk hx hR (hbW4.trans (zav _ _)) hIV (by show W.heap.size≤XB;omega) (fun g hg=>by have:=hrv g hg;omega) hD hhas hat hall9 hown5 hg5
  have g4:=zan (((zaa Hb3).trans (hb4.mono (zaa Hb3).size))) (zaa G2)
  have p0:w4.cell? ⟨W.heap.size,0,none⟩=some (.string nm):=zab g4 0
  have p1:w4.cell? ⟨W.heap.size,1,none⟩=some (.int .i64 c0):=zab g4 1
  have p2:w4.cell? ⟨W.heap.size,2,none⟩=some (.int .i64 c1):=zab g4 2
  have p3:w4.cell? ⟨W.heap.size,3,none⟩=some (.int .i64 c2):=zab g4 3
  have p4:=hE4.c1
  have HF:=zac (And.intro hEF (And.intro hKF (And.intro (show W.heap.size≤XB by omega) (show ∀ g,rv.ownBlock=some g→W.heap.size≤g from fun g hg=>by have:=hrv g hg;omega))))
  clear hEF hKF hIV hown5 hg5 hD4 hD hhas hat hall9 hE4 hbW4 g4 hIO hG hA hEq htot hb4 hrv m0 m1 m2 m3 k0 k1 k2 k3 e0 hlk
  go_wp2_with fail
  go_region_with fail
  all_goals
   go_wp2
   go_ret
   exact ⟨⟨XB,rv,rs⟩,rfl,(zaa HF).1,(zaa HF).2.1,(zaa HF).2.2.1,(zaa HF).2.2.2⟩
end Go.Proofs.YtoifcnidhfnapaaGreatDoor
