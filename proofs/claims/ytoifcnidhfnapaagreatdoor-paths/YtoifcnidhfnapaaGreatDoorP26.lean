import Derived.Test.YtoifcnidhfnapaaGreatDoorP13
import Derived.BigRegion
import Derived.Test.YtoifcnidhfnapaaGreatDoorP22
import Derived.Test.YtoifcnidhfnapaaGreatDoorP23
import Derived.Test.YtoifcnidhfnapaaGreatDoorP25
import Derived.Lib.SliceRun
set_option linter.unusedVariables false
set_option linter.unusedSimpArgs false
namespace Go.Proofs.YtoifcnidhfnapaaGreatDoor
open Go.RowKit Go.Maps
theorem zk5 {P:Program} (w:World) (base:Nat) (t ty e:TypeId) (i:TypeInfo) (z:Value) (size bytes:Nat) (ht:P.underlying t=some (.slice e)) (hi:P.info? e=some i) (hz:i.zero=some z)
  (hsize:i.size=size) (hby:i.bytes=bytes) (hzs:z.cells.size=size) (hsz:0<size)
  (v:Value) (n:Nat) (xs:List Value) (hown:w.ownsRow base e size v n xs)
  (a:Addr) (m c:Nat) (news:List Value) (hl:news.length=m*size) (hnews:∀ j u,news[j]? = some u→w.cell? (a.add j)=some u) (h1:∀ u∈news,u.oneCell'=true)
  (h63:n+m≤maxLen) (hbytes:(n+m)*bytes≤140737488355328) (hbase:base≤w.heap.size) (hm:0<m) :
  ∃ v' w',(Builtin.append_ #[t,t] ty #[v,.slice (some a) m c]).run P w=.ok v' w'∧w'.ownsRow base e size v' (n+m) (xs ++ news)∧w.grownBy w' v.ownBlock ∧
   (v'.ownBlock=v.ownBlock∨w.grownBy w' none∧v'.ownBlock=some w.heap.size):=by
 obtain ⟨v',w',hr,h2,h3,h4,h5⟩:=run_append_own_at (P:=P) w base t ty e i z size bytes ht hi hz hsize hby hzs hsz v n xs hown a m c news hl hnews h1 h63 hbytes hbase
 refine ⟨v',w',hr,h2,h3,?_⟩
 subst hsize
 subst hby
 have hsmall:n+m≤9223372036854775807:=by simp only [maxLen] at h63;omega
 rcases hown.2 with ⟨rfl,rfl⟩|⟨g,cap,cur,rfl,hbg,hg,hnc,hcm,hcs,htake⟩
 ·rcases h5 with h5|h5
  ·exact .inl h5
  ·exact .inr ⟨h3,h5⟩
 ·by_cases hroom:n+m≤cap
  ·have hfit:n*i.size+news.length≤cur.size:=by rw [hl,hcs,← Nat.add_mul];exact Nat.mul_le_mul_right _ hroom
   have hr2:=run_append_room (P:=P) w t ty e i ht hi g n cap cur hg a m c news hl hnews h1 hroom hfit
   rw [hr2] at hr
   injection hr with hv hw
   rw [← hv]
   exact .inl rfl
  ·have holds:∀ j u,xs[j]? = some u→w.cell? ((⟨g,0,none⟩:Addr).add j)=some u:=hown.cells (g:=g) rfl
   have hr2:=run_append_grow (P:=P) w t ty e i z ht hi hz ⟨g,0,none⟩ n cap xs hown.1 holds a m c news hl hnews (by omega) (by omega) (growslice_fits (by omega) hbytes)
   rw [hr2] at hr
   injection hr with hv hw
   refine .inr ⟨?_,by rw [← hv];rfl⟩
   rw [← hw]
   exact ⟨rfl,rfl,rfl,by simp,fun k hk _=>Below.heap_alloc w.drew _ k hk⟩
theorem zbn {P:Program} (w:World) {ops:Array Oper} {rest:List Oper} {o:Oper} {a:Act} {Q:Exit→Act→World→Prop} (hgd:o.guard=none) (s x:Operand) (t:TypeId)
  (ho:o.op=.call { callee:=.builtin .append,args:=#[s,x],argTypes:=#[t,t] })
  (base:Nat) (e:TypeId) (i:TypeInfo) (z:Value) (size bytes:Nat) (ht:P.underlying t=some (.slice e)) (hi:P.info? e=some i) (hz:i.zero=some z)
  (hsize:i.size=size) (hby:i.bytes=bytes) (hzs:z.cells.size=size) (hsz:0<size)
  (v:Value) (n:Nat) (xs:List Value) (hs:a.eval s=v) (hown:w.ownsRow base e size v n xs)
  (ad:Addr) (c:Nat) (news:List Value) (hx:a.eval x=.slice (some ad) 1 c) (hl:news.length=1*size) (hnews:∀ j u,news[j]? = some u→w.cell? (ad.add j)=some u) (h1:∀ u∈news,u.oneCell'=true)
  (h63:n+1≤maxLen) (hbytes:(n+1)*bytes≤140737488355328) (hbase:base≤w.heap.size)
  (h:∀ v' w',w'.ownsRow base e size v' (n+1) (xs ++ news)→w.grownBy w' v.ownBlock→(v'.ownBlock=v.ownBlock∨w.grownBy w' none∧v'.ownBlock=some w.heap.size)→wpList P ops Q rest (a.put o.dst v') w') :
  wpList P ops Q (o :: rest) a w:=by
 refine wpList_plain hgd fun K hK=>?_
 obtain ⟨v',w',hr,h2,h3,h4⟩:=zk5 (P:=P) w base t o.type e i z size bytes ht hi hz hsize hby hzs hsz v n xs hown ad 1 c news hl hnews h1 h63 hbytes hbase (by omega)
 unfold Oper.wp execOp
 simp only [ho,resolve,invoke,builtin,Sem.run_bind,Sem.run_pure,Result.andThen_ok,List.map_toArray,List.map_cons,List.map_nil,hs,hx,hr]
 exact hK _ _ (h v' w' h2 h3 h4)
end Go.Proofs.YtoifcnidhfnapaaGreatDoor
namespace Go.Proofs.YtoifcnidhfnapaaGreatDoor
open Go.RowKit Go.Maps Go.Sort Go.Shelf
theorem zbq.keepT {X:Nat→Prop} {W W':World} {v:Value} {es:List REnt} (h:zbq W v es) (hk:KeepX X W W') (hN:∀ k,X k→¬ zcy W k):zbq W' v es:=by
 obtain ⟨a,cap,rfl,hc,hx⟩:=h
 refine ⟨a,cap,rfl,hc,fun i hi=>?_⟩
 obtain ⟨b,o,rfl,h0,h1,h2,h3,hE⟩:=hx i hi
 have hb:b<W.heap.size:=World.block_lt_of_cell? W _ h0
 have hn:¬ X b:=fun h=>hN b h hE
 have key:∀ q,W'.cell? ⟨b,q,none⟩=W.cell? ⟨b,q,none⟩:=fun q=>hk.cell (p:=⟨b,q,none⟩) hb hn
 obtain ⟨cs,h4⟩:=hE
 exact ⟨b,o,rfl,(key _).trans h0,(key _).trans h1,(key _).trans h2,(key _).trans h3,cs,(hk.blk b hb hn).trans h4⟩
theorem RunN.keepT {X:Nat→Prop} {W W':World} {v:Value} {es:List REnt} (h:RunN W v es) (hk:KeepX X W W') (hN:∀ k,X k→¬ zcy W k):RunN W' v es:=by
 obtain ⟨a,cap,e,h1,h2⟩:=h
 exact ⟨a,cap,e,h1.keepT hk hN,h2⟩
structure zh1 (w:World) (vals:List Value) (rs:List (List REnt)):Prop where
 len:vals.length=rs.length
 at_:∀ i,i<rs.length→∃ b o cp,vals[i]? = some (.slice (some ⟨b,o,none⟩) (rs[i]?.getD []).length cp)∧zbq w (.slice (some ⟨b,o,none⟩) (rs[i]?.getD []).length cp) (rs[i]?.getD [])
theorem zh1.keepT {X:Nat→Prop} {W W':World} {vals:List Value} {rs:List (List REnt)} (h:zh1 W vals rs) (hk:KeepX X W W') (hN:∀ k,X k→¬ zcy W k):zh1 W' vals rs:=
 ⟨h.len,fun i hi=>by obtain ⟨b,o,cp,h1,h2⟩:=h.at_ i hi;exact ⟨b,o,cp,h1,h2.keepT hk hN⟩⟩
theorem zh1.runsAt {W:World} {rv:Value} {vals:List Value} {rs:List (List REnt)} (h:zh1 W vals rs) (ho:W.ownsRow 0 141 1 rv vals.length vals):zau W rv rs:=by
 rcases ho.2 with ⟨rfl,h0⟩|⟨g,cap,cur,rfl,_,hg,hle,_,_,ht⟩
 ·have:rs=[]:=List.eq_nil_of_length_eq_zero (by rw [← h.len];exact h0)
  subst this
  exact ⟨none,0,rfl,fun i hi=>by simp at hi⟩
 ·refine ⟨some ⟨g,0,none⟩,cap,by rw [h.len],fun i hi=>?_⟩
  obtain ⟨b,o,cp,h1,h2⟩:=h.at_ i hi
  refine ⟨g,0,b,o,cp,rfl,?_,h2⟩
  rw [zab hg,Nat.zero_add,← h1,← ht,List.getElem?_take_of_lt (by rw [h.len];omega)]
  simp
theorem zag (W:World) (b o:Nat) (v:Value):W.grownBy (W.setCell ⟨b,o,none⟩ v) (some b):=
 ⟨rfl,rfl,rfl,(KeepsWalks.setCell W _ v).size,fun k _ hk=>Below.heap_setCell _ _ _ k (fun e=>hk (by rw [e]))⟩
theorem zjd {w:World} {B:Nat} {x0 x1 x2 x3 x4 v:Value} {t:TypeId} (h:w.heap[B]? = some (.cells #[x0,x1,x2,x3,x4] t (0,0))):(w.setCell ⟨B,3,none⟩ v).heap[B]? = some (.cells #[x0,x1,x2,v,x4] t (0,0)):=by
 simp only [World.setCell]
 rw [Array.getElem?_modify,if_pos rfl,h]
 rfl
theorem zh7 {w:World} {B:Nat} {x0 x1 x2 x3 x4 v:Value} {t:TypeId} (h:w.heap[B]? = some (.cells #[x0,x1,x2,x3,x4] t (0,0))):(w.setCell ⟨B,4,none⟩ v).heap[B]? = some (.cells #[x0,x1,x2,x3,v] t (0,0)):=by
 simp only [World.setCell]
 rw [Array.getElem?_modify,if_pos rfl,h]
 rfl
theorem zjx {w:World} {base B n:Nat} {sv:Value} {xs:List Value} {cs:Array Value} (h:w.ownsRow base 141 1 sv n xs) (hB:w.heap[B]? = some (.cells cs 144 (0,0))):sv.ownBlock≠some B:=by
 rcases h.2 with ⟨h,_⟩|⟨g,cap,cur,h,_,hgh,_⟩
 ·rw [h];simp [Value.ownBlock]
 ·rw [h]
  simp only [Value.ownBlock]
  intro e
  injection e with e
  rw [e,hB] at hgh
  simp at hgh
def IdxX (XB:Nat) (rv:Value) (k:Nat):Prop:=k=XB∨rv.ownBlock=some k
theorem zlf {W:World} {XB n:Nat} {rv:Value} {xs:List Value} {cs:Array Value} (hX:W.heap[XB]? = some (.cells cs 144 (0,0))) (ho:W.ownsRow 0 141 1 rv n xs):∀ k,IdxX XB rv k→¬ zcy W k:=by
 rintro k (rfl|hk) ⟨es,he⟩
 ·rw [hX] at he;simp at he
 ·rcases ho.2 with ⟨rfl,_⟩|⟨g,cap,cur,rfl,_,hgh,_⟩
  ·simp [Value.ownBlock] at hk
  ·simp only [Value.ownBlock] at hk
   injection hk with hk
   rw [hk,he] at hgh
   simp at hgh
set_option maxRecDepth 100000 in
set_option maxHeartbeats 2000000 in
theorem iadd_any (XB:Nat) (x0 x1 x2 rv bv:Value) (vals:List Value) (a:Option Addr) (n cp:Nat) (W:World) (hX:W.heap[XB]? = some (.cells #[x0,x1,x2,rv,bv] 144 (0,0))) (ho:W.ownsRow 0 141 1 rv vals.length vals) (hl:vals.length≤1000000000) (hn:n≤1000000000000) :
  Calls Tryz.prog 72 #[.pointer (some ⟨XB,0,none⟩),.slice a n cp] W fun e w'=>e=.returned (.tuple #[])∧∃ rv',w'.heap[XB]? = some (.cells #[x0,x1,x2,rv',bv] 144 (0,0)) ∧
   w'.ownsRow 0 141 1 rv' (addV vals n (.slice a n cp)).length (addV vals n (.slice a n cp))∧KeepX (IdxX XB rv) W w'∧(∀ g,rv'.ownBlock=some g→rv.ownBlock=some g∨W.heap.size≤g):=by
 obtain ⟨i,hi,hz0,hz1,hz2⟩:=info_parts Tryz.info141
 have hBl:XB<W.heap.size:=(Array.getElem?_eq_some_iff.1 hX).1
 have c0:W.cell? ⟨XB,3,none⟩=some rv:=zab hX 3
 by_cases hz:n=0
 ·subst hz
  have HX:=hide hX
  have Ho:=hide ho
  clear hX ho
  go_enter Tryz.func72,Tryz.ntmps72
  go_wp2
  go_end0
  exact ⟨rfl,rv,zaa HX,by simpa [addV] using zaa Ho,KeepX.refl _ _,fun g hg=>.inl hg⟩
 ·have hn0:(0:Int)<(n:Int):=by omega
  have hBA:(W.alloc (.cells #[.slice a n cp] 141)).heap[XB]? = some (.cells #[x0,x1,x2,rv,bv] 144 (0,0)):=(Below.heap_alloc _ _ _ hBl).trans hX
  have cA:(W.alloc (.cells #[.slice a n cp] 141)).cell? ⟨XB,3,none⟩=some rv:=zab hBA 3
  have hoA:=ho.alloc (.cells #[.slice a n cp] 141)
  have hne:=zjx hoA hBA
  have hnew:∀ j u,[Value.slice a n cp][j]? = some u→(W.alloc (.cells #[.slice a n cp] 141)).cell? ((⟨W.heap.size,0,none⟩:Addr).add j)=some u:=by
   intro j u hj
   match j,hj with
   | 0,hj=>cases hj;exact zab (zad _ _ _ rfl) 0
  have HBA:=hide hBA
  have HoA:=hide hoA
  have Hnew:=hide hnew
  have Hne:=hide hne
  clear hX ho hoA hBA hnew hne
  go_enter Tryz.func72,Tryz.ntmps72
  go_wp2_with (first
   | (refine zbn _ rfl (.tmp 11) (.tmp 13) 142 rfl 0 141 i _ 1 24 Tryz.underlying142 hi hz0 hz1 hz2 rfl (by decide) rv vals.length vals rfl (zaa HoA) ⟨W.heap.size,0,none⟩ 1 [.slice a n cp] rfl rfl (zaa Hnew) (by simp [Value.oneCell']) (by unfold maxLen;omega) (by omega) (Nat.zero_le _) ?_;intro sv' w3 hrow3 hg3 hsh3;have hB3:=(hg3.block XB (by simp;omega) (fun e=>(zaa Hne) e.symm)).trans (zaa HBA);have c3:w3.cell? ⟨XB,3,none⟩=some rv:=zab hB3 3;have f3:w3.frozen? ⟨XB,3,none⟩=false:=zac hB3 3;have Hrow3:=hide hrow3;have Hg3:=hide hg3;have HB3:=hide hB3;have Hsh3:=hide hsh3;obtain ⟨a',cap',rfl⟩:=zd0 hrow3;clear hrow3 hg3 hB3 hsh3))
  go_end0
  have hC:=zag w3 XB 3 (.slice a' (vals.length+1) cap')
  have hne3:=zjx (zaa Hrow3) (zaa HB3)
  have e:addV vals n (.slice a n cp)=vals ++ [.slice a n cp]:=by unfold addV;rw [if_neg hz]
  refine ⟨rfl,_,zjd (zaa HB3),?_,⟨hC.os.trans (zaa Hg3).os,hC.tape.trans (zaa Hg3).tape,hC.output.trans (zaa Hg3).output,?_,fun k hk hx=>?_⟩,fun g hg=>?_⟩
  ·rw [e]
   have:=(zaa Hrow3).kept hC (.inr hne3)
   simpa using this
  ·have h1:=(zaa Hg3).size
   have h2:=hC.size
   simp at h1
   omega
  ·have h1:k≠XB:=fun e=>hx (.inl e)
   have h2:rv.ownBlock≠some k:=fun e=>hx (.inr e)
   exact (hC.block k (by have:=(zaa Hg3).size;simp at this;omega) (by simp;exact h1)).trans (((zaa Hg3).block k (by simp;omega) (fun e=>h2 e.symm)).trans (Below.heap_alloc _ _ _ hk))
  ·rcases zaa Hsh3 with h|⟨_,h⟩
   ·exact .inl (h.symm.trans hg)
   ·rw [h] at hg
    injection hg with hg
    simp at hg
    right
    omega
set_option maxRecDepth 100000 in
theorem dsl1 (g k cap:Nat) (h:k+1≤cap) (hc:cap≤9223372036854775807) (q:World):(Instr.sliceAt 142 (.slice (some ⟨g,0,none⟩) (k+1) cap) (some (.int .i64 k)) (some (.int .i64 (k+1))) (some (.int .i64 (k+1)))).run Tryz.prog q=.ok (.slice (some ⟨g,k,none⟩) 1 1) q:=by
 have h1:(k:Int)+1≤(cap:Int):=by omega
 have h2:(k:Int)≤(k:Int)+1:=by omega
 have h3:((k:Int)+1 - k)=1:=by omega
 have h4:((k:Int)+1).toNat - k=1:=by omega
 go_simp
set_option maxRecDepth 100000 in
theorem dsl2 (g k cap:Nat) (h:k+1≤cap) (hc:cap≤9223372036854775807) (q:World):(Instr.sliceAt 142 (.slice (some ⟨g,0,none⟩) (k+1) cap) none (some (.int .i64 k)) none).run Tryz.prog q=.ok (.slice (some ⟨g,0,none⟩) k cap) q:=by
 have h1:(k:Int)+1≤(cap:Int):=by omega
 have h2:(k:Int)≤(cap:Int):=by omega
 have h3:¬ cap=0:=by omega
 go_simp
set_option maxRecDepth 100000 in
theorem dsl3 (g k cap:Nat) (h:k+1≤cap) (hc:cap≤9223372036854775807):∃ A:Addr,∀ q,(Instr.sliceAt 142 (.slice (some ⟨g,0,none⟩) (k+1) cap) (some (.int .i64 (k+1))) none none).run Tryz.prog q=.ok (.slice (some A) 0 (cap - (k+1))) q:=by
 have h1:(k:Int)+1≤(cap:Int):=by omega
 by_cases hz:cap=k+1
 ·refine ⟨⟨g,0,none⟩,fun q=>?_⟩
  subst hz
  go_simp
  intro hn
  omega
 ·refine ⟨⟨g,k+1,none⟩,fun q=>?_⟩
  have h4:((k:Int)+1).toNat=k+1:=by omega
  go_simp
  intro hn
  omega
set_option maxRecDepth 100000 in
theorem dsl4 (g k cap:Nat) (h:k+1≤cap) (hc:cap≤9223372036854775807) (q:World):(Instr.sliceAt 142 (.slice (some ⟨g,0,none⟩) k cap) (some (.int .i64 k)) (some (.int .i64 (k+1))) none).run Tryz.prog q=.ok (.slice (some ⟨g,k,none⟩) 1 (cap - k)) q:=by
 have h1:(k:Int)+1≤(cap:Int):=by omega
 have h2:(k:Int)≤(k:Int)+1:=by omega
 have h4:((k:Int)+1).toNat - k=1:=by omega
 have h5:¬ cap=k:=by omega
 go_simp
theorem apNone {w:World} {g k cap:Nat} {vals:List Value} (A:Addr) (c:Nat) (hrow:w.ownsRow 0 141 1 (.slice (some ⟨g,0,none⟩) k cap) k vals) (hroom:k≤cap) :
  ∃ w3,(zig #[142,142] 142 #[.slice (some ⟨g,0,none⟩) k cap,.slice (some A) 0 c]).run Tryz.prog w=.ok (.slice (some ⟨g,0,none⟩) k cap) w3∧w3.ownsRow 0 141 1 (.slice (some ⟨g,0,none⟩) k cap) k vals∧w.grownBy w3 (some g):=by
 obtain ⟨i62,hi,hz0,hz1,hz2⟩:=info_parts Tryz.info141
 obtain ⟨w3,hrun,r1,r2⟩:=run_append_fits (P:=Tryz.prog) w 0 142 142 141 i62 1 Tryz.underlying142 hi hz1 g k cap vals hrow A 0 c [] rfl (fun j u hu=>by simp at hu) (by simp) (by omega)
 exact ⟨w3,hrun,by simpa using r1,r2⟩
theorem own_take {w:World} {g k cap:Nat} {vals:List Value} (h:w.ownsRow 0 141 1 (.slice (some ⟨g,0,none⟩) (k+1) cap) (k+1) vals):w.ownsRow 0 141 1 (.slice (some ⟨g,0,none⟩) k cap) k (vals.take k)∧(∃ cur:Array Value,w.heap[g]? = some (.cells cur 141 (0,0))∧cur.size=cap)∧k+1≤cap∧cap≤maxLen:=by
 obtain ⟨h1,h2⟩:=h
 rcases h2 with ⟨h2,_⟩|⟨g',cap',cur,e,hb,hg,hle,hm,hs,ht⟩
 ·cases h2
 ·injection e with e1 e2 e3
  injection e1 with e1
  injection e1 with e1
  subst e1 e3
  refine ⟨⟨by simp;omega,.inr ⟨g,cap,cur,rfl,hb,hg,by omega,hm,hs,?_⟩⟩,⟨cur,hg,by omega⟩,hle,hm⟩
  rw [← ht,List.take_take]
  congr 1
  omega
theorem ybi {w:World} {g k cap:Nat} {vals:List Value} (z:Value) (h:w.ownsRow 0 141 1 (.slice (some ⟨g,0,none⟩) k cap) k vals):(w.setCells g k [z]).ownsRow 0 141 1 (.slice (some ⟨g,0,none⟩) k cap) k vals:=by
 obtain ⟨h1,h2⟩:=h
 rcases h2 with ⟨h2,_⟩|⟨g',cap',cur,e,hb,hg,hle,hm,hs,ht⟩
 ·cases h2
 ·injection e with e1 e2 e3
  injection e1 with e1
  injection e1 with e1
  subst e1 e3
  refine ⟨h1,.inr ⟨g,cap,cur.setIfInBounds k z,rfl,hb,?_,hle,hm,by simpa using hs,?_⟩⟩
  ·simp only [World.setCells,World.setCell]
   rw [Array.getElem?_modify,if_pos rfl,hg]
   rfl
  ·rw [← ht,Nat.mul_one]
   rw [Array.toList_setIfInBounds]
   exact List.take_set_of_le (by omega)
section
attribute [local go_sem] Oper.semAt_some
attribute [local go_sem ↓] zkw
set_option maxRecDepth 100000 in
set_option maxHeartbeats 4000000 in
theorem sdel_any (g k cap:Nat) (vals:List Value) (W:World) (ho:W.ownsRow 0 141 1 (.slice (some ⟨g,0,none⟩) (k+1) cap) (k+1) vals) :
  Calls Tryz.prog 169 #[.slice (some ⟨g,0,none⟩) (k+1) cap,.int .i64 k,.int .i64 (k+1)] W fun e w'=>e=.returned (.slice (some ⟨g,0,none⟩) k cap)∧w'.ownsRow 0 141 1 (.slice (some ⟨g,0,none⟩) k cap) k (vals.take k)∧KeepX (fun q=>q=g) W w':=by
 obtain ⟨ho2,⟨cur,hg,hcs⟩,hk,hm⟩:=own_take ho
 have hm':cap≤9223372036854775807:=by unfold maxLen at hm;omega
 have s1:=dsl1 g k cap hk hm'
 have s2:=dsl2 g k cap hk hm'
 obtain ⟨A,s3⟩:=dsl3 g k cap hk hm'
 have s4:=dsl4 g k cap hk hm'
 obtain ⟨w3,hap,hown3,hg3⟩:=apNone (w:=W.drew) A (cap - (k+1)) ho2 (by omega)
 have hne:¬ (k:Int)=(k:Int)+1:=by omega
 obtain ⟨cur3,hg3b,hcs3⟩:∃ cur3:Array Value,w3.heap[g]? = some (.cells cur3 141 (0,0))∧cur3.size=cap:=by
  rcases hown3.2 with ⟨h2,_⟩|⟨g',cap',cur,e,hb,hg,hle,hm,hs,ht⟩
  ·cases h2
  ·injection e with e1 e2 e3
   injection e1 with e1
   injection e1 with e1
   subst e1 e3
   exact ⟨cur,hg,by omega⟩
 have hcl:=Lib.run_clear_slice (P:=Tryz.prog) w3 142 141 0 (.slice none 0 0) Tryz.underlying142 Tryz.zeroValue141 rfl rfl g k 1 (cap - k) (by omega) (fun j hj=>by rw [zab hg3b];simp;omega) (fun j hj=>zac hg3b _)
 have Hown3:=hide hown3
 have Hg3:=hide hg3
 clear hown3 hg3 ho ho2 hg hcs hg3b hcs3
 refine (callsIn_wide (n:=9)).1 (callsIn_of_wp Tryz.func169 rfl trivial ?_ rfl)
 simp only [Tryz.ntmps169,List.size_toArray,List.length_cons,List.length_nil,Nat.reduceAdd,Nat.reduceSub,Array.replicate_succ,Array.replicate_zero,List.push_toArray,List.append_toArray,List.nil_append,List.cons_append]
 gi_wp2_with fail
 gi_region_with fail
 all_goals gi_wp2
 all_goals
  go_ret
  have hC:=zag w3 g k (.slice none 0 0)
  have h3:=zaa Hg3
  refine ⟨rfl,ybi _ (zaa Hown3),⟨hC.os.trans h3.os,hC.tape.trans h3.tape,hC.output.trans h3.output,Nat.le_trans h3.size hC.size,fun q hq hx=>?_⟩⟩
  exact (hC.block q (Nat.lt_of_lt_of_le hq h3.size) (fun e=>hx (by injection e))).trans (h3.block q hq (fun e=>hx (by injection e)))
end
end Go.Proofs.YtoifcnidhfnapaaGreatDoor
