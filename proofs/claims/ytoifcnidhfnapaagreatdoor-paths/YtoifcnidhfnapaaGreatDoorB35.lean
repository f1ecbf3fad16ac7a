import Derived.Test.YtoifcnidhfnapaaGreatDoorB34
set_option linter.unusedVariables false
set_option linter.unusedSimpArgs false
set_option maxRecDepth 100000
set_option maxHeartbeats 16000000
namespace Go.Proofs.YtoifcnidhfnapaaGreatDoor
open Go.RowKit Go.Maps Go.Sort Go.Shelf
theorem ztv {L U:List Row} (hL:L.Nodup) (hU:U.Nodup) (hs:∀ r∈L,r∈U) (F:Row→B64) (h0:∀ r∈U,r ∉ L→F r=0#64):zbz L F=zbz U F:=by
 have hp:(U.filter fun r=>decide (r∈L)).Perm L:=(List.perm_ext_iff_of_nodup (hU.filter _) hL).2 fun r=>by
  rw [List.mem_filter,decide_eq_true_eq]
  exact ⟨fun h=>h.2,fun h=>⟨hs r h,h⟩⟩
 rw [← ztw hp,zj1]
 refine zax fun r hr=>?_
 by_cases h:r∈L
 ·simp [h]
 ·simp [h,h0 r hr h]
theorem zzd {f g:Row→Int} {xs ys:List Row} (hx:zkq f xs) (hy:zkq g ys) (c0 c1 c2:Nat):∃ zs,zkq (fun r=>f r+g r) zs∧Eqv ((za6 f xs).map (zku c0 c1 c2) ++ (za6 g ys).map (zku c0 c1 c2)) ((za6 (fun r=>f r+g r) zs).map (zku c0 c1 c2)):=by
 obtain ⟨U,hUd⟩:∃ U,U=xs ++ ys.filter (fun y=>decide (y ∉ xs)):=⟨_,rfl⟩
 have hU:U.Nodup:=by
  rw [hUd,List.nodup_append]
  refine ⟨hx.apart,hy.apart.filter _,fun a ha b hb e=>?_⟩
  subst e
  have:=(List.mem_filter.1 hb).2
  simp at this
  exact this ha
 have hUm:∀ r,r∈U↔r∈xs∨r∈ys:=fun r=>by
  rw [hUd,List.mem_append,List.mem_filter,decide_eq_true_eq]
  constructor
  ·rintro (h|h)
   ·exact .inl h
   ·exact .inr h.1
  ·rintro (h|h)
   ·exact .inl h
   ·by_cases h':r∈xs
    ·exact .inl h'
    ·exact .inr ⟨h,h'⟩
 have hUw:∀ r∈U,zaw r:=fun r hr=>((hUm r).1 hr).elim (hx.wf r) (hy.wf r)
 refine ⟨U.filter (fun r=>decide (f r+g r≠0)),⟨fun r hr=>hUw r (List.mem_filter.1 hr).1,hU.filter _,fun r hr=>?_⟩,fun ψ=>?_⟩
 ·rw [List.mem_filter,decide_eq_true_eq,hUm]
  refine ⟨fun h=>h.2,fun h=>⟨?_,h⟩⟩
  by_cases h1:f r=0
  ·exact .inr ((hy.mem r hr).2 (fun h2=>h (by omega)))
  ·exact .inl ((hx.mem r hr).2 h1)
 ·have hmap:∀ (q:Row→Int) (l:List Row),zbz ((za6 q l).map (zku c0 c1 c2)) (fun e=>ψ e.1*wtB e)=zbz l (fun r=>ψ (zpx c0 c1 c2 r)*BitVec.ofInt 64 (q r)):=fun q l=>by
   unfold za6
   rw [ze5,ze5]
   rfl
  rw [zbf,hmap,hmap,hmap]
  rw [ztv hx.apart hU (fun r h=>(hUm r).2 (.inl h)) _ (fun r hr h=>by
   have:f r=0:=by
    by_cases h1:f r=0
    ·exact h1
    ·exact absurd ((hx.mem r (hUw r hr)).2 h1) h
   rw [this];simp)]
  rw [ztv hy.apart hU (fun r h=>(hUm r).2 (.inr h)) _ (fun r hr h=>by
   have:g r=0:=by
    by_cases h1:g r=0
    ·exact h1
    ·exact absurd ((hy.mem r (hUw r hr)).2 h1) h
   rw [this];simp)]
  rw [← znk,zj1]
  refine zax fun r _=>?_
  by_cases h:f r+g r=0
  ·have e:BitVec.ofInt 64 (f r)+BitVec.ofInt 64 (g r)=0#64:=by rw [← BitVec.ofInt_add,h];rfl
   simp only [h,ne_eq,not_true,decide_false,Bool.false_eq_true,if_false]
   rw [← BitVec.mul_add,e]
   simp
  ·simp only [h,ne_eq,not_false_eq_true,decide_true,if_true]
   rw [BitVec.ofInt_add,BitVec.mul_add]
theorem yaf {rs:List (List zaj)} {es:List zaj} (h:zjw rs) (hr:zgh es) (hw:∀ e∈es,zaw e.1):zjw (zh9 rs es):=by
 unfold zh9
 split
 ·exact h
 ·rename_i hne
  refine ⟨fun r hr'=>?_,fun r hr'=>?_,fun r hr'=>?_⟩
  all_goals (rcases List.mem_append.1 hr' with h1|h1)
  ·exact h.full r h1
  ·simp at h1;subst h1;exact hne
  ·exact h.rise r h1
  ·simp at h1;subst h1;exact hr
  ·exact h.wf r h1
  ·simp at h1;subst h1;exact hw
theorem yae {es:List zaj} (hr:zgh es) (hw:∀ e∈es,zaw e.1):zjw (zeh [es]):=by
 unfold zeh
 cases es with
 | nil=>exact ⟨fun r h=>by simp at h,fun r h=>by simp at h,fun r h=>by simp at h⟩
 | cons e es =>
  refine ⟨fun r h=>?_,fun r h=>?_,fun r h=>?_⟩ <;> (simp at h;subst h)
  ·simp
  ·exact hr
  ·exact hw
theorem ye2 (rs:List (List zaj)) (es:List zaj):ze6 (zh9 rs es)≤ze6 rs+es.length:=by
 rw [← ziy,zmd,List.length_append,ziy]
 exact Nat.le_refl _
theorem ye1 (es:List zaj):ze6 (zeh [es])≤es.length:=by
 rw [← ziy,zqo]
 exact Nat.le_refl _
structure IdxW (W:World) (N M:Nat) (f g:Row→Int) (k:zg2) (x:zmr) (es:List zaj):Prop where
 v:zv6 W N f k x es
 arr:zrk k.c0 k.c1 k.c2 g es
 len:es.length≤M
section
variable {st:St} {H:List (Nat×Nat)} {B:List zbb} {vs:List Nat} {W:World} {N M:Nat} {ix:Nat→List (List zaj)×List zaj} {chf:ByteArray→Row→Int}
def IxW (W:World) (N M:Nat) (st:St) (chf:ByteArray→Row→Int) (B:List zbb) (vs:List Nat) (ix:Nat→List (List zaj)×List zaj):Prop:=
 ∀ i,i<B.length→∃ R x es,st (B[i]?.getD zat).nm=some R∧IdxW W N M R.f (chf (B[i]?.getD zat).nm) (zhp vs (B[i]?.getD zat)) x es∧ix i=(x.rs,es)
theorem IxW.pok (h:IxW W N M st chf B vs ix) (hF:zdq st H B) (hp:vs.Perm (zbl (B.map (·.ts)))) (hN:N+M≤100000000) {S:Nat→Src} (hS:∀ i,i<B.length→(S i=⟨zh9 (ix i).1 (ix i).2,0⟩∨S i=⟨zeh [(ix i).2],0⟩∨S i=⟨(ix i).1,0⟩)) (hS0:∀ i,B.length≤i→S i=⟨[],0⟩) :
  POK B.length ((B.map (·.ts)).map zcr) (vs.map (zfy (B.map (·.ts)) (H.map (·.1)))) S∧∀ i,i<B.length→ze6 (S i).rs≤N+M:=by
 have h3:∀ ts∈B.map (·.ts),ts.length≤3:=fun ts hts=>by obtain ⟨a,ha,rfl⟩:=List.mem_map.1 hts;exact hF.ok.t3 a ha
 have key:∀ i,i<B.length→(S i).c=0∧zjw (S i).rs∧ze6 (S i).rs≤N+M:=fun i hi=>by
  obtain ⟨R,x,es,_,hx,e⟩:=h i hi
  have h1:=hx.v.tot
  have h2:=hx.len
  rcases hS i hi with e'|e'|e' <;> rw [e',e]
  ·exact ⟨rfl,yaf hx.v.good hx.arr.rise hx.arr.wf,by have:=ye2 x.rs es;show ze6 (zh9 x.rs es)≤_;omega⟩
  ·exact ⟨rfl,yae hx.arr.rise hx.arr.wf,by have:=ye1 es;show ze6 (zeh [es])≤_;omega⟩
  ·exact ⟨rfl,hx.v.good,by show ze6 x.rs≤_;omega⟩
 have:=yed (H:=H.map (·.1)) (zv7.of_perm hp) h3 (S:=S) hN (fun i hi=>key i (by simpa using hi)) (fun i hi=>by rw [hS0 i (by simpa using hi)])
 rw [List.length_map] at this
 exact ⟨this,fun i hi=>(key i hi).2.2⟩
theorem IxW.new (h:IxW W N M st chf B vs ix) (hF:zdq st H B) (hp:vs.Perm (zbl (B.map (·.ts)))) (hN:N+M≤100000000):POK B.length ((B.map (·.ts)).map zcr) (vs.map (zfy (B.map (·.ts)) (H.map (·.1)))) (yaw ix B.length):=
 (h.pok hF hp hN (fun i hi=>.inl (by unfold yaw;rw [if_pos hi])) (fun i hi=>by unfold yaw;rw [if_neg (by omega)])).1
theorem IxW.old (h:IxW W N M st chf B vs ix) (hF:zdq st H B) (hp:vs.Perm (zbl (B.map (·.ts)))) (hN:N+M≤100000000):POK B.length ((B.map (·.ts)).map zcr) (vs.map (zfy (B.map (·.ts)) (H.map (·.1)))) (ya1 ix B.length):=
 (h.pok hF hp hN (fun i hi=>.inr (.inr (by unfold ya1;rw [if_pos hi]))) (fun i hi=>by unfold ya1;rw [if_neg (by omega)])).1
theorem IxW.around (h:IxW W N M st chf B vs ix) (hF:zdq st H B) (hp:vs.Perm (zbl (B.map (·.ts)))) (hN:N+M≤100000000) (a:Nat):POK B.length ((B.map (·.ts)).map zcr) (vs.map (zfy (B.map (·.ts)) (H.map (·.1)))) (zbe ix B.length a)∧∀ i,i<B.length→ze6 (zbe ix B.length a i).rs≤N+M:=
 h.pok hF hp hN (fun i hi=>by
  unfold zbe
  rw [if_pos hi]
  by_cases h1:i<a
  ·rw [if_pos h1];exact .inl rfl
  ·rw [if_neg h1]
   by_cases h2:i=a
   ·rw [if_pos h2];exact .inr (.inl rfl)
   ·rw [if_neg h2];exact .inr (.inr rfl)) (fun i hi=>by unfold zbe;rw [if_neg (by omega)])
theorem yac (h:IxW W N M st chf B vs ix) (hF:zdq st H B) (hp:vs.Perm (zbl (B.map (·.ts)))) (hN:N+M≤100000000) {f f':H4→Int}
  (hold:∀ L:Nat→List zaj,(∀ i,i<B.length→∃ R,st (B[i]?.getD zat).nm=some R∧zpu R.f (L i))→∀ h,BitVec.ofInt 64 (f h)=zpj (B.map (·.ts)) (H.map (·.1)) L h)
  (hf:∀ h,BitVec.ofInt 64 (f' h)=BitVec.ofInt 64 (f h)+zee B.length ((B.map (·.ts)).map zcr) (vs.map (zfy (B.map (·.ts)) (H.map (·.1)))) ix B.length h)
  (L:Nat→List zaj) (hL:∀ i,i<B.length→∃ R,st (B[i]?.getD zat).nm=some R∧zpu (fun r=>R.f r+chf (B[i]?.getD zat).nm r) (L i)) (q:H4):BitVec.ofInt 64 (f' q)=zpj (B.map (·.ts)) (H.map (·.1)) L q:=by
 have hO:=zv7.of_perm hp
 have hat:∀ i,i<B.length→(B.map (·.ts))[i]?.getD []=(B[i]?.getD zat).ts:=fun i hi=>by simp [hi]
 obtain ⟨L0,hL0⟩:∃ L0:Nat→List zaj,∀ i,i<B.length→∃ R,st (B[i]?.getD zat).nm=some R∧zpu R.f (L0 i):=by
  have:∀ i,∃ l:List zaj,i<B.length→∃ R,st (B[i]?.getD zat).nm=some R∧zpu R.f l:=fun i=>by
   by_cases hi:i<B.length
   ·obtain ⟨R,x,es,hR,hx,_⟩:=h i hi
    obtain ⟨l,hl⟩:=hx.v.rows
    exact ⟨l,fun _=>⟨R,hR,hl⟩⟩
   ·exact ⟨[],fun h=>absurd h hi⟩
  exact ⟨fun i=>Classical.choose (this i),fun i=>Classical.choose_spec (this i)⟩
 have hcols:∀ i,i<(B.map (·.ts)).length→zf7 ((B.map (·.ts))[i]?.getD []) vs=[(zhp vs (B[i]?.getD zat)).c0,(zhp vs (B[i]?.getD zat)).c1,(zhp vs (B[i]?.getD zat)).c2]:=fun i hi=>by
  have hi':i<B.length:=by simpa using hi
  rw [hat i hi']
  have hm:B[i]?.getD zat∈B:=by simp [hi']
  refine (zon (hF.ok.t3 _ hm) hO.nd hO.nz fun j hj h0=>?_).1
  have:=hO.all i hi j (by rw [hat i hi'];exact hj) (by rw [hat i hi'];exact h0)
  rwa [hat i hi'] at this
 have hhd:∀ v∈H.map (·.1),v∈vs:=fun v hv=>by
  obtain ⟨x,hx,rfl⟩:=List.mem_map.1 hv
  exact hp.mem_iff.2 (zdm.2 (hF.head x hx))
 have e4:(H.map (·.1)).length≤4:=by simpa using hF.ok.h4
 have hlen:(B.map (·.ts)).length=B.length:=by simp
 have hn:=h.new hF hp hN
 have ho:=h.old hF hp hN
 have p1:=zo2 hO e4 hhd (cols:=fun i=>((zhp vs (B[i]?.getD zat)).c0,(zhp vs (B[i]?.getD zat)).c1,(zhp vs (B[i]?.getD zat)).c2)) hcols (S:=yaw ix B.length) (by rw [hlen];exact hn) (fun i=>by unfold yaw;split <;> rfl) (L:=L) (fun i hi=>by
  have hi':i<B.length:=by simpa using hi
  obtain ⟨R,x,es,hR,hx,e⟩:=h i hi'
  obtain ⟨R',hR',zs,hz,hl⟩:=hL i hi'
  rw [hR] at hR'
  cases hR'
  unfold zcn yaw
  rw [if_pos hi',e]
  show Eqv (zh9 x.rs es).flatten _
  rw [zmd,hl]
  obtain ⟨xs,hxs,he⟩:=hx.v.arr
  obtain ⟨ys,hys,hpy⟩:=hx.arr.rows
  obtain ⟨zs',hz',hez⟩:=zzd hxs hys (zhp vs (B[i]?.getD zat)).c0 (zhp vs (B[i]?.getD zat)).c1 (zhp vs (B[i]?.getD zat)).c2
  exact (he.append (Eqv.of_perm hpy)).trans (hez.trans (Eqv.of_perm (((zq7 hz' hz).map _).map _)))) q
 have p0:=zo2 hO e4 hhd (cols:=fun i=>((zhp vs (B[i]?.getD zat)).c0,(zhp vs (B[i]?.getD zat)).c1,(zhp vs (B[i]?.getD zat)).c2)) hcols (S:=ya1 ix B.length) (by rw [hlen];exact ho) (fun i=>by unfold ya1;split <;> rfl) (L:=L0) (fun i hi=>by
  have hi':i<B.length:=by simpa using hi
  obtain ⟨R,x,es,hR,hx,e⟩:=h i hi'
  obtain ⟨R',hR',hl⟩:=hL0 i hi'
  rw [hR] at hR'
  cases hR'
  unfold zcn ya1
  rw [if_pos hi',e]
  exact hx.v.eqv hl) q
 rw [hf q,hold L0 hL0 q,← p0,← p1,hlen]
 exact (zwl (by simp) hn ho (fun a _=>(h.around hF hp hN a).1) q).symm
end
structure IkQ where
 N:Nat
 f:Row→Int
 es:List zaj
abbrev IkS:=zg2→IkQ
def zr4 (ik:IkS) (k:zg2) (y:IkQ):IkS:=fun k'=>@ite IkQ (k'=k) (dcK k' k) y (ik k')
theorem zha (ik:IkS) (k:zg2) (y:IkQ):zr4 ik k y k=y:=by simp [zr4]
theorem zga {ik:IkS} {k k':zg2} {y:IkQ} (h:k'≠k):zr4 ik k y k'=ik k':=by simp [zr4,h]
def zib (vws:VwS) (nm:ByteArray) (v:zec):VwS:=fun m=>if m=nm then some v else vws m
theorem za7 (vws:VwS) (nm:ByteArray) (v:zec):zib vws nm v nm=some v:=by simp [zib]
theorem zbh {vws:VwS} {nm m:ByteArray} {v:zec} (h:m≠nm):zib vws nm v m=vws m:=by simp [zib,h]
structure zgk (W:World) (fix:Nat→Prop) (eb db nD nI nV:Nat) (DI DV:DataW Unit) (st:St) (ixs:IxS) (vws:VwS) (ik:IkS):Prop where
 rep:za1 W eb db nD 0 W.heap.size st
 flt:∀ k,fix k→k<W.heap.size
 feb:fix eb
 frb:∀ nm R,st nm=some R→fix R.rb∧¬ fix R.mb
 fdb:¬ fix db∧¬ fix (db+1)∧¬ fix (db+2)
 imap:W.ownsMap Tryz.prog 96 zap (db+1) nI DI
 idx:∀ k x,ixs k=some x→¬ fix x.XB∧(∀ g,x.rv.ownBlock=some g→¬ fix g)∧zv6 W (ik k).N (ik k).f k x (ik k).es
 iap:∀ k k' x x',ixs k=some x→ixs k'=some x'→k≠k'→x.XB≠x'.XB∧∀ g,x.rv.ownBlock=some g→x'.rv.ownBlock≠some g
 vmap:W.ownsMap Tryz.prog 9 zap (db+2) nV DV
 vw:∀ nm v,vws nm=some v→zpw W fix st ixs v
 vap:∀ nm nm' v v',vws nm=some v→vws nm'=some v'→nm≠nm'→v.mb≠v'.mb∧v.VB≠v'.VB
 vrel:∀ nm v,vws nm=some v→v.mb≠db∧v.mb≠db+1∧v.mb≠db+2∧∀ m R,st m=some R→v.mb≠R.mb
def zfm (W:World) (q:Nat):Prop:=∃ cs t p,W.heap[q]? = some (.cells cs t p)
theorem zfm.ne {W:World} {q:Nat} (h:zfm W q) {k:TypeId} {R:Value→Option (DataW Unit×List MemPlace)} {b n:Nat} {D:DataW Unit} (hm:W.ownsMap Tryz.prog k R b n D):q≠b:=by
 rintro rfl
 obtain ⟨cs,t,p,h1⟩:=h
 obtain ⟨es,cl,h2,_⟩:=hm
 rw [h1] at h2
 cases h2
theorem zfm.neH {W:World} {q:Nat} (h:zfm W q) {b n:Nat} {f:H4→Int} (hm:zgv W b n f):q≠b:=by
 obtain ⟨D,h1,_⟩:=hm
 exact h.ne h1
theorem zfm.neW {W:World} {q:Nat} (h:zfm W q) {b n:Nat} {f:Row→Int} (hm:zfk W b n f):q≠b:=by
 obtain ⟨D,h1,_⟩:=hm
 exact h.ne h1
theorem znb.cellsX {W:World} {XB:Nat} {x0 x1 x2 rv:Value} {rs:List (List zaj)} {es:List zaj} (h:znb W XB x0 x1 x2 rv rs es):∀ q,zlr XB rv q→zfm W q:=by
 obtain ⟨⟨bv,h1,_⟩,vals,h3,_⟩:=h
 rintro q (rfl|hq)
 ·exact ⟨_,_,_,h1⟩
 ·rcases h3.2 with ⟨rfl,_⟩|⟨g,cap,cur,rfl,_,hgh,_⟩
  ·simp [Value.ownBlock] at hq
  ·simp only [Value.ownBlock] at hq
   injection hq with hq
   exact ⟨_,_,_,hq ▸ hgh⟩
theorem zfm.lt {W:World} {q:Nat} (h:zfm W q):q<W.heap.size:=by
 obtain ⟨cs,t,p,h1⟩:=h
 exact (Array.getElem?_eq_some_iff.1 h1).1
theorem znb.ownNe {W:World} {XB XB':Nat} {x0 x1 x2 rv y0 y1 y2 rv':Value} {rs rs':List (List zaj)} {es es':List zaj} (h:znb W XB x0 x1 x2 rv rs es) (h':znb W XB' y0 y1 y2 rv' rs' es'):rv'.ownBlock≠some XB:=by
 obtain ⟨⟨bv,h1,_⟩,_⟩:=h
 obtain ⟨_,vals,h3,_⟩:=h'
 rcases h3.2 with ⟨rfl,_⟩|⟨g,cap,cur,rfl,_,hgh,_⟩
 ·simp [Value.ownBlock]
 ·simp only [Value.ownBlock]
  intro e
  injection e with e
  rw [e,h1] at hgh
  simp at hgh
theorem zfe {P:Program} {k:TypeId} {R:Value→Option (DataW Unit×List MemPlace)} {w w':World} {b r n:Nat} {D:DataW Unit} {left:Lit→Bool} {cnt:Nat} (h:w.ranges P k R b r n D left cnt) {X:Nat→Prop} (hk:KeepX X w w') (hb:¬ X b) (hr:¬ X r):w'.ranges P k R b r n D left cnt:=by
 obtain ⟨es,clock,since,seen,c0,h1,h2,h3,h4,h5,h6⟩:=h
 exact ⟨es,clock,since,seen,c0,(hk.blk b (Array.getElem?_eq_some_iff.1 h1).1 hb).trans h1,h2,h3,h4,(hk.blk r (Array.getElem?_eq_some_iff.1 h5).1 hr).trans h5,h6⟩
section
variable {W W':World} {fix:Nat→Prop} {eb db nD nI nV:Nat} {DI DV:DataW Unit} {st:St} {ixs ixs':IxS} {vws vws':VwS} {ik ik':IkS}
theorem zgk.keep (h:zgk W fix eb db nD nI nV DI DV st ixs vws ik) {X:Nat→Prop} (hk:KeepX X W W') (hX:∀ q,X q→¬ fix q∧q≠db∧q≠db+1∧q≠db+2∧∀ nm R,st nm=some R→q≠R.mb)
  (hi:∀ k x,ixs' k=some x→¬ fix x.XB∧(∀ g,x.rv.ownBlock=some g→¬ fix g)∧zv6 W' (ik' k).N (ik' k).f k x (ik' k).es)
  (hia:∀ k k' x x',ixs' k=some x→ixs' k'=some x'→k≠k'→x.XB≠x'.XB∧∀ g,x.rv.ownBlock=some g→x'.rv.ownBlock≠some g)
  (hv:∀ nm v,vws' nm=some v→zpw W' fix st ixs' v)
  (hva:∀ nm nm' v v',vws' nm=some v→vws' nm'=some v'→nm≠nm'→v.mb≠v'.mb∧v.VB≠v'.VB)
  (hvr:∀ nm v,vws' nm=some v→v.mb≠db∧v.mb≠db+1∧v.mb≠db+2∧∀ m R,st m=some R→v.mb≠R.mb):zgk W' fix eb db nD nI nV DI DV st ixs' vws' ik':=by
 have hf:∀ q,fix q→W'.heap[q]? = W.heap[q]?:=fun q hq=>hk.blk q (h.flt q hq) (fun e=>(hX q e).1 hq)
 have hinn:=h.rep.inn
 refine ⟨(h.rep.keptW hk.size (hf _ h.feb) (hk.blk db (by omega) (fun e=>(hX _ e).2.1 rfl)) (fun nm R hR=>?_)).topW,fun q hq=>Nat.lt_of_lt_of_le (h.flt q hq) hk.size,h.feb,h.frb,h.fdb,zau h.imap (hk.blk _ h.imap.lt (fun e=>(hX _ e).2.2.1 rfl)),hi,hia,zau h.vmap (hk.blk _ h.vmap.lt (fun e=>(hX _ e).2.2.2.1 rfl)),hv,hva,hvr⟩
 have h1:=h.rep.inr nm R hR
 exact ⟨hf _ (h.frb nm R hR).1,hk.blk _ (by omega) (fun e=>(hX _ e).2.2.2.2 nm R hR rfl)⟩
theorem zgk.idxX (h:zgk W fix eb db nD nI nV DI DV st ixs vws ik) {k:zg2} {x:zmr} (hx:ixs k=some x):∀ q,zlr x.XB x.rv q→zfm W q∧(¬ fix q∧q≠db∧q≠db+1∧q≠db+2∧∀ nm R,st nm=some R→q≠R.mb)∧∀ nm v,vws nm=some v→q≠v.mb:=by
 intro q hq
 obtain ⟨h1,h2,h3⟩:=h.idx k x hx
 have hc:=h3.io.cellsX q hq
 obtain ⟨D,hD,_⟩:=h.rep.dir
 refine ⟨hc,⟨?_,hc.ne hD,hc.ne h.imap,hc.ne h.vmap,fun nm R hR=>hc.neW (h.rep.rel nm R hR).2⟩,fun nm v hv=>hc.neH (h.vw nm v hv).map⟩
 rcases hq with rfl|hq
 ·exact h1
 ·exact h2 q hq
theorem zgk.idxAp (h:zgk W fix eb db nD nI nV DI DV st ixs vws ik) {k k':zg2} {x x':zmr} (hx:ixs k=some x) (hx':ixs k'=some x') (hne:k'≠k):(¬ zlr x.XB x.rv x'.XB)∧∀ g,x'.rv.ownBlock=some g→¬ zlr x.XB x.rv g:=by
 have h1:=(h.idx k x hx).2.2.io
 have h2:=(h.idx k' x' hx').2.2.io
 have h3:=h.iap k k' x x' hx hx' (Ne.symm hne)
 refine ⟨?_,fun g hg=>?_⟩
 ·rintro (e|e)
  ·exact h3.1 e.symm
  ·exact h2.ownNe h1 e
 ·rintro (e|e)
  ·exact h1.ownNe h2 (e ▸ hg)
  ·exact h3.2 g e hg
theorem zgk.brought (h:zgk W fix eb db nD nI nV DI DV st ixs vws ik) {k:zg2} {x:zmr} (hx:ixs k=some x) (hk:KeepX (fun q=>q=x.XB) W W') {es':List zaj} (hX:znb W' x.XB (.int .i64 k.c0) (.int .i64 k.c1) (.int .i64 k.c2) x.rv x.rs es'):zgk W' fix eb db nD nI nV DI DV st ixs vws (zr4 ik k ⟨(ik k).N,(ik k).f,es'⟩):=by
 have hi:=h.idx k x hx
 have hf:∀ q,fix q→W'.heap[q]? = W.heap[q]?:=fun q hq=>hk.blk q (h.flt q hq) (fun e=>hi.1 (e ▸ hq))
 refine h.keep hk (fun q hq=>(h.idxX hx q (.inl hq)).2.1) (fun k' x' hx'=>?_) h.iap (fun nm v hv=>?_) h.vap h.vrel
 ·by_cases e:k'=k
  ·subst e
   rw [hx] at hx'
   cases hx'
   rw [zha]
   exact ⟨hi.1,hi.2.1,hX,hi.2.2.good,hi.2.2.cols,hi.2.2.tot,hi.2.2.arr⟩
  ·rw [zga e]
   have h':=h.idx k' x' hx'
   have ha:=h.idxAp hx hx' e
   exact ⟨h'.1,h'.2.1,h'.2.2.kept hk (fun q e=>hi.2.2.io.notE q (.inl e)) (fun e=>ha.1 (.inl e)) (fun g hg e=>ha.2 g hg (.inl e))⟩
 ·exact (h.vw nm v hv).kept hf (hk.blk _ (h.vw nm v hv).map.lt (fun e=>(h.idxX hx _ (.inl rfl)).2.2 nm v hv e.symm))
theorem zgk.gained (h:zgk W fix eb db nD nI nV DI DV st ixs vws ik) {nm:ByteArray} {v:zec} (hv:vws nm=some v) (hk:KeepX (fun q=>q=v.mb) W W') {n':Nat} {f':H4→Int} (hM:zgv W' v.mb n' f'):zgk W' fix eb db nD nI nV DI DV st ixs (zib vws nm { v with n:=n',f:=f' }) ik:=by
 have hV:=h.vw nm v hv
 have hr:=h.vrel nm v hv
 have hf:∀ q,fix q→W'.heap[q]? = W.heap[q]?:=fun q hq=>hk.blk q (h.flt q hq) (fun e=>hV.mfix (e ▸ hq))
 have hnE:∀ q,q=v.mb→¬ zct W q:=by
  rintro q rfl ⟨cs,hcs⟩
  obtain ⟨D,⟨es,cl,hm,_⟩,_⟩:=hV.map
  rw [hm] at hcs
  cases hcs
 refine h.keep hk (fun q hq=>hq ▸ ⟨hV.mfix,hr.1,hr.2.1,hr.2.2.1,hr.2.2.2⟩) (fun k x hx=>?_) h.iap (fun m u hu=>?_) (fun m m' u u' hu hu' hne=>?_) (fun m u hu=>?_)
 ·have h':=h.idx k x hx
  exact ⟨h'.1,h'.2.1,h'.2.2.kept hk hnE (fun e=>(h.idxX hx _ (.inl rfl)).2.2 nm v hv e) (fun g hg e=>(h.idxX hx g (.inr hg)).2.2 nm v hv e)⟩
 ·by_cases e:m=nm
  ·subst e
   rw [za7] at hu
   cases hu
   obtain ⟨⟨iv,h1,h2⟩,h3,⟨base,h4⟩,h5,h6,h7,h8,h9,h10⟩:=hV
   exact ⟨⟨iv,(hf _ h3).trans h1,h2.keep hf⟩,h3,⟨base,h4.keep hf⟩,h5,h6,h7,h8,hM,h10⟩
  ·rw [zbh e] at hu
   exact (h.vw m u hu).kept hf (hk.blk _ (h.vw m u hu).map.lt (h.vap m nm u v hu hv e).1)
 ·have hh:∀ m u,zib vws nm { v with n:=n',f:=f' } m=some u→∃ u0,vws m=some u0∧u.mb=u0.mb∧u.VB=u0.VB:=fun m u hu=>by
   by_cases e:m=nm
   ·subst e;rw [za7] at hu;cases hu;exact ⟨v,hv,rfl,rfl⟩
   ·rw [zbh e] at hu;exact ⟨u,hu,rfl,rfl⟩
  obtain ⟨u0,a1,a2,a3⟩:=hh m u hu
  obtain ⟨u0',b1,b2,b3⟩:=hh m' u' hu'
  rw [a2,a3,b2,b3]
  exact h.vap m m' u0 u0' a1 b1 hne
 ·by_cases e:m=nm
  ·subst e;rw [za7] at hu;cases hu;exact hr
  ·rw [zbh e] at hu;exact h.vrel m u hu
theorem zgk.settled (h:zgk W fix eb db nD nI nV DI DV st ixs vws ik) {k:zg2} {x:zmr} (hx:ixs k=some x) {rv':Value} {rs':List (List zaj)} (hk:KeepX (zlr x.XB x.rv) W W') {N':Nat} {f':Row→Int} (hX:zv6 W' N' f' k ⟨x.XB,rv',rs'⟩ []) (hrv:∀ g,rv'.ownBlock=some g→x.rv.ownBlock=some g∨W.heap.size≤g) :
  zgk W' fix eb db nD nI nV DI DV st (zpy ixs k ⟨x.XB,rv',rs'⟩) vws (zr4 ik k ⟨N',f',[]⟩):=by
 have hi:=h.idx k x hx
 have hf:∀ q,fix q→W'.heap[q]? = W.heap[q]?:=fun q hq=>hk.blk q (h.flt q hq) (fun e=>(h.idxX hx q e).2.1.1 hq)
 have hlt:∀ k x g,ixs k=some x→x.rv.ownBlock=some g→g<W.heap.size:=fun k x g hx hg=>((h.idx k x hx).2.2.io.cellsX g (.inr hg)).lt
 refine h.keep hk (fun q hq=>(h.idxX hx q hq).2.1) (fun k' x' hx'=>?_) (fun k1 k2 x1 x2 h1 h2 hne=>?_) (fun nm v hv=>?_) h.vap h.vrel
 ·by_cases e:k'=k
  ·subst e
   rw [zb3] at hx'
   cases hx'
   rw [zha]
   refine ⟨hi.1,fun g hg=>?_,hX⟩
   rcases hrv g hg with h1|h1
   ·exact hi.2.1 g h1
   ·intro h2
    have:=h.flt g h2
    omega
  ·rw [za8 e] at hx'
   rw [zga e]
   have h':=h.idx k' x' hx'
   have ha:=h.idxAp hx hx' e
   exact ⟨h'.1,h'.2.1,h'.2.2.kept hk hi.2.2.io.notE ha.1 ha.2⟩
 ·by_cases e1:k1=k
  ·subst e1
   rw [zb3] at h1
   cases h1
   rw [za8 (Ne.symm hne)] at h2
   have:=h.iap _ _ _ _ hx h2 hne
   refine ⟨this.1,fun g hg=>?_⟩
   rcases hrv g hg with h3|h3
   ·exact this.2 g h3
   ·intro h4
    have:=hlt _ _ g h2 h4
    omega
  ·rw [za8 e1] at h1
   by_cases e2:k2=k
   ·subst e2
    rw [zb3] at h2
    cases h2
    have:=h.iap _ _ _ _ h1 hx hne
    refine ⟨this.1,fun g hg h4=>?_⟩
    rcases hrv g h4 with h3|h3
    ·exact this.2 g hg h3
    ·have:=hlt _ _ g h1 hg
     omega
   ·rw [za8 e2] at h2
    exact h.iap _ _ _ _ h1 h2 hne
 ·obtain ⟨⟨iv,h1,h2⟩,h3,⟨base,h4⟩,h5,h6,h7,h8,h9,h10⟩:=h.vw nm v hv
  refine ⟨⟨iv,(hf _ h3).trans h1,h2.keep hf⟩,h3,⟨base,h4.keep hf⟩,h5,h6,h7,fun i hi'=>?_,h9.kept (hk.blk _ h9.lt (fun e=>(h.idxX hx _ e).2.2 nm v hv rfl)),h10⟩
  obtain ⟨y,hy,e⟩:=h8 i hi'
  by_cases ek:zhp v.vs (v.B[i]?.getD zat)=k
  ·rw [ek,hx] at hy
   cases hy
   exact ⟨⟨x.XB,rv',rs'⟩,by rw [ek];exact zb3 _ _ _,e⟩
  ·exact ⟨y,by rw [za8 ek];exact hy,e⟩
theorem zdq.set {H:List (Nat×Nat)} {B:List zbb} (h:zdq st H B) {nm:ByteArray} {R R':Rel} (hR:st nm=some R) (ha:R'.ar=R.ar):zdq (zdo st nm R') H B:=by
 refine ⟨h.ok,h.ne,h.nm,fun a hm=>?_,h.head⟩
 obtain ⟨Q,h1,h2⟩:=h.rel a hm
 by_cases e:a.nm=nm
 ·rw [e,hR] at h1
  cases h1
  exact ⟨R',by unfold zdo;rw [if_pos e],by rw [ha];exact h2⟩
 ·exact ⟨Q,by unfold zdo;rw [if_neg e];exact h1,h2⟩
theorem zgk.related (h:zgk W fix eb db nD nI nV DI DV st ixs vws ik) {nm:ByteArray} {R:Rel} (hR:st nm=some R) (hg:W.grownBy W' (some R.mb)) {n':Nat} {g:Row→Int} (hW:zfk W' R.mb n' g):zgk W' fix eb db nD nI nV DI DV (zdo st nm { R with n:=n',f:=g }) ixs vws ik:=by
 have hk:KeepX (fun q=>q=R.mb) W W':=⟨hg.os,hg.tape,hg.output,hg.size,fun q hq hx=>hg.block q hq (fun e=>hx (Option.some.inj e))⟩
 have hmf:=(h.frb nm R hR).2
 have hf:∀ q,fix q→W'.heap[q]? = W.heap[q]?:=fun q hq=>hk.blk q (h.flt q hq) (fun e=>hmf (e ▸ hq))
 have hmw:=(h.rep.rel nm R hR).2
 have hnE:∀ q,q=R.mb→¬ zct W q:=by
  rintro q rfl ⟨cs,hcs⟩
  obtain ⟨D,⟨es,cl,hm,_⟩,_⟩:=hmw
  rw [hm] at hcs
  cases hcs
 have hin:=h.rep.inr nm R hR
 obtain ⟨_,_,_,nv⟩:=h.rep.eng
 have hmb:=nv.2.2.2.2.2 nm R hR
 have he3:=nv.2.2.2.2.1
 have back:∀ m Q,zdo st nm { R with n:=n',f:=g } m=some Q→∃ Q0,st m=some Q0∧Q.rb=Q0.rb∧Q.mb=Q0.mb:=fun m Q hQ=>by
  unfold zdo at hQ
  by_cases e:m=nm
  ·rw [if_pos e] at hQ;cases hQ;exact ⟨R,e ▸ hR,rfl,rfl⟩
  ·rw [if_neg e] at hQ;exact ⟨Q,hQ,rfl,rfl⟩
 refine ⟨(h.rep.added hR hg hW).topW,fun q hq=>Nat.lt_of_lt_of_le (h.flt q hq) hk.size,h.feb,fun m Q hQ=>?_,h.fdb,zau h.imap (hk.blk _ h.imap.lt (by omega)),fun k x hx=>?_,h.iap,zau h.vmap (hk.blk _ h.vmap.lt (by omega)),fun m v hv=>?_,h.vap,fun m v hv=>?_⟩
 ·obtain ⟨Q0,a,b,c⟩:=back m Q hQ
  rw [b,c];exact h.frb m Q0 a
 ·have h':=h.idx k x hx
  exact ⟨h'.1,h'.2.1,h'.2.2.kept hk hnE (fun e=>(h.idxX hx _ (.inl rfl)).2.1.2.2.2.2 nm R hR e) (fun g hg e=>(h.idxX hx g (.inr hg)).2.1.2.2.2.2 nm R hR e)⟩
 ·obtain ⟨⟨iv,h1,h2⟩,h3,⟨base,h4⟩,h5,h6,h7,h8,h9,h10⟩:=(h.vw m v hv).kept hf (hk.blk _ (h.vw m v hv).map.lt ((h.vrel m v hv).2.2.2 nm R hR))
  exact ⟨⟨iv,h1,h2⟩,h3,⟨base,h4⟩,h5,h6.set hR rfl,h7,h8,h9,h10⟩
 ·have:=h.vrel m v hv
  refine ⟨this.1,this.2.1,this.2.2.1,fun m' Q hQ=>?_⟩
  obtain ⟨Q0,a,b,c⟩:=back m' Q hQ
  rw [c];exact this.2.2.2 m' Q0 a
end
end Go.Proofs.YtoifcnidhfnapaaGreatDoor
