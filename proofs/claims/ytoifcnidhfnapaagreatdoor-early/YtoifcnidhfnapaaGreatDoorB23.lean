import Derived.Test.YtoifcnidhfnapaaGreatDoorB10
import Derived.BigRegion
import Derived.Test.YtoifcnidhfnapaaGreatDoorB19
import Derived.Test.YtoifcnidhfnapaaGreatDoorB20
import Derived.Test.YtoifcnidhfnapaaGreatDoorB22
import Derived.Lib.SliceRun
set_option linter.unusedVariables false
set_option linter.unusedSimpArgs false
set_option maxRecDepth 100000
set_option maxHeartbeats 16000000
namespace Go.Proofs.YtoifcnidhfnapaaGreatDoor
open Go.RowKit Go.Maps
theorem znh {P:Program} (w:World) (base:Nat) (t ty e:TypeId) (i:TypeInfo) (z:Value) (size bytes:Nat) (ht:P.underlying t=some (.slice e)) (hi:P.info? e=some i) (hz:i.zero=some z)
  (hsize:i.size=size) (hby:i.bytes=bytes) (hzs:z.cells.size=size) (hsz:0<size)
  (v:Value) (n:Nat) (xs:List Value) (hown:w.ownsRow base e size v n xs)
  (a:Addr) (m c:Nat) (news:List Value) (hl:news.length=m*size) (hnews:∀ j u,news[j]? = some u→w.cell? (a.add j)=some u) (h1:∀ u∈news,u.oneCell'=true)
  (h63:n+m≤maxLen) (hbytes:(n+m)*bytes≤140737488355328) (hbase:base≤w.heap.size) (hm:0<m) :
  ∃ v' w',(Builtin.append_ #[t,t] ty #[v,.slice (some a) m c]).run P w=.ok v' w'∧w'.ownsRow base e size v' (n+m) (xs ++ news)∧w.grownBy w' v.ownBlock ∧
   (v'.ownBlock=v.ownBlock∨w.grownBy w' none∧v'.ownBlock=some w.heap.size):=by
 obtain ⟨v',w',hr,h2,h3,h4,h5⟩:=run_append_own_at (P:=P) w base t ty e i z size bytes ht hi hz hsize hby hzs hsz v n xs hown a m c news hl hnews h1 h63 hbytes hbase
 refine ⟨v',w',hr,h2,h3,?_⟩
 subst hsize
 subst hby
 have hsmall:n+m≤9223372036854775807:=by simp only [maxLen] at h63;omega
 rcases hown.2 with ⟨rfl,rfl⟩|⟨g,cap,cur,rfl,hbg,hg,hnc,hcm,hcs,htake⟩
 ·rcases h5 with h5|h5
  ·exact .inl h5
  ·exact .inr ⟨h3,h5⟩
 ·by_cases hroom:n+m≤cap
  ·have hfit:n*i.size+news.length≤cur.size:=by rw [hl,hcs,← Nat.add_mul];exact Nat.mul_le_mul_right _ hroom
   have hr2:=run_append_room (P:=P) w t ty e i ht hi g n cap cur hg a m c news hl hnews h1 hroom hfit
   rw [hr2] at hr
   injection hr with hv hw
   rw [← hv]
   exact .inl rfl
  ·have holds:∀ j u,xs[j]? = some u→w.cell? ((⟨g,0,none⟩:Addr).add j)=some u:=hown.cells (g:=g) rfl
   have hr2:=run_append_grow (P:=P) w t ty e i z ht hi hz ⟨g,0,none⟩ n cap xs hown.1 holds a m c news hl hnews (by omega) (by omega) (growslice_fits (by omega) hbytes)
   rw [hr2] at hr
   injection hr with hv hw
   refine .inr ⟨?_,by rw [← hv];rfl⟩
   rw [← hw]
   exact ⟨rfl,rfl,rfl,by simp,fun k hk _=>Below.heap_alloc w.drew _ k hk⟩
theorem zby {P:Program} (w:World) {ops:Array Oper} {rest:List Oper} {o:Oper} {a:Act} {Q:Exit→Act→World→Prop} (hgd:o.guard=none) (s x:Operand) (t:TypeId)
  (ho:o.op=.call { callee:=.builtin .append,args:=#[s,x],argTypes:=#[t,t] })
  (base:Nat) (e:TypeId) (i:TypeInfo) (z:Value) (size bytes:Nat) (ht:P.underlying t=some (.slice e)) (hi:P.info? e=some i) (hz:i.zero=some z)
  (hsize:i.size=size) (hby:i.bytes=bytes) (hzs:z.cells.size=size) (hsz:0<size)
  (v:Value) (n:Nat) (xs:List Value) (hs:a.eval s=v) (hown:w.ownsRow base e size v n xs)
  (ad:Addr) (c:Nat) (news:List Value) (hx:a.eval x=.slice (some ad) 1 c) (hl:news.length=1*size) (hnews:∀ j u,news[j]? = some u→w.cell? (ad.add j)=some u) (h1:∀ u∈news,u.oneCell'=true)
  (h63:n+1≤maxLen) (hbytes:(n+1)*bytes≤140737488355328) (hbase:base≤w.heap.size)
  (h:∀ v' w',w'.ownsRow base e size v' (n+1) (xs ++ news)→w.grownBy w' v.ownBlock→(v'.ownBlock=v.ownBlock∨w.grownBy w' none∧v'.ownBlock=some w.heap.size)→wpList P ops Q rest (a.put o.dst v') w') :
  wpList P ops Q (o :: rest) a w:=by
 refine wpList_plain hgd fun K hK=>?_
 obtain ⟨v',w',hr,h2,h3,h4⟩:=znh (P:=P) w base t o.type e i z size bytes ht hi hz hsize hby hzs hsz v n xs hown ad 1 c news hl hnews h1 h63 hbytes hbase (by omega)
 unfold Oper.wp execOp
 simp only [ho,resolve,invoke,builtin,Sem.run_bind,Sem.run_pure,Result.andThen_ok,List.map_toArray,List.map_cons,List.map_nil,hs,hx,hr]
 exact hK _ _ (h v' w' h2 h3 h4)
end Go.Proofs.YtoifcnidhfnapaaGreatDoor
namespace Go.Proofs.YtoifcnidhfnapaaGreatDoor
open Go.RowKit Go.Maps Go.Sort Go.Shelf
theorem zb1.keepT {X:Nat→Prop} {W W':World} {v:Value} {es:List zaj} (h:zb1 W v es) (hk:KeepX X W W') (hN:∀ k,X k→¬ zct W k):zb1 W' v es:=by
 obtain ⟨a,cap,rfl,hc,hx⟩:=h
 refine ⟨a,cap,rfl,hc,fun i hi=>?_⟩
 obtain ⟨b,o,rfl,h0,h1,h2,h3,hE⟩:=hx i hi
 have hb:b<W.heap.size:=World.block_lt_of_cell? W _ h0
 have hn:¬ X b:=fun h=>hN b h hE
 have key:∀ q,W'.cell? ⟨b,q,none⟩=W.cell? ⟨b,q,none⟩:=fun q=>hk.cell (p:=⟨b,q,none⟩) hb hn
 obtain ⟨cs,h4⟩:=hE
 exact ⟨b,o,rfl,(key _).trans h0,(key _).trans h1,(key _).trans h2,(key _).trans h3,cs,(hk.blk b hb hn).trans h4⟩
theorem zro.keepT {X:Nat→Prop} {W W':World} {v:Value} {es:List zaj} (h:zro W v es) (hk:KeepX X W W') (hN:∀ k,X k→¬ zct W k):zro W' v es:=by
 obtain ⟨a,cap,e,h1,h2⟩:=h
 exact ⟨a,cap,e,h1.keepT hk hN,h2⟩
structure zij (w:World) (vals:List Value) (rs:List (List zaj)):Prop where
 len:vals.length=rs.length
 at_:∀ i,i<rs.length→∃ b o cp,vals[i]? = some (.slice (some ⟨b,o,none⟩) (rs[i]?.getD []).length cp)∧zb1 w (.slice (some ⟨b,o,none⟩) (rs[i]?.getD []).length cp) (rs[i]?.getD [])
theorem zij.keepT {X:Nat→Prop} {W W':World} {vals:List Value} {rs:List (List zaj)} (h:zij W vals rs) (hk:KeepX X W W') (hN:∀ k,X k→¬ zct W k):zij W' vals rs:=
 ⟨h.len,fun i hi=>by obtain ⟨b,o,cp,h1,h2⟩:=h.at_ i hi;exact ⟨b,o,cp,h1,h2.keepT hk hN⟩⟩
theorem zij.runsAt {W:World} {rv:Value} {vals:List Value} {rs:List (List zaj)} (h:zij W vals rs) (ho:W.ownsRow 0 141 1 rv vals.length vals):zay W rv rs:=by
 rcases ho.2 with ⟨rfl,h0⟩|⟨g,cap,cur,rfl,_,hg,hle,_,_,ht⟩
 ·have:rs=[]:=List.eq_nil_of_length_eq_zero (by rw [← h.len];exact h0)
  subst this
  exact ⟨none,0,rfl,fun i hi=>by simp at hi⟩
 ·refine ⟨some ⟨g,0,none⟩,cap,by rw [h.len],fun i hi=>?_⟩
  obtain ⟨b,o,cp,h1,h2⟩:=h.at_ i hi
  refine ⟨g,0,b,o,cp,rfl,?_,h2⟩
  rw [zab hg,Nat.zero_add,← h1,← ht,List.getElem?_take_of_lt (by rw [h.len];omega)]
  simp
theorem zai (W:World) (b o:Nat) (v:Value):W.grownBy (W.setCell ⟨b,o,none⟩ v) (some b):=
 ⟨rfl,rfl,rfl,(KeepsWalks.setCell W _ v).size,fun k _ hk=>Below.heap_setCell _ _ _ k (fun e=>hk (by rw [e]))⟩
theorem zh1 {w:World} {B:Nat} {x0 x1 x2 x3 x4 v:Value} {t:TypeId} (h:w.heap[B]? = some (.cells #[x0,x1,x2,x3,x4] t (0,0))):(w.setCell ⟨B,3,none⟩ v).heap[B]? = some (.cells #[x0,x1,x2,v,x4] t (0,0)):=by
 simp only [World.setCell]
 rw [Array.getElem?_modify,if_pos rfl,h]
 rfl
theorem zju {w:World} {B:Nat} {x0 x1 x2 x3 x4 v:Value} {t:TypeId} (h:w.heap[B]? = some (.cells #[x0,x1,x2,x3,x4] t (0,0))):(w.setCell ⟨B,4,none⟩ v).heap[B]? = some (.cells #[x0,x1,x2,x3,v] t (0,0)):=by
 simp only [World.setCell]
 rw [Array.getElem?_modify,if_pos rfl,h]
 rfl
theorem zmi {w:World} {base B n:Nat} {sv:Value} {xs:List Value} {cs:Array Value} (h:w.ownsRow base 141 1 sv n xs) (hB:w.heap[B]? = some (.cells cs 144 (0,0))):sv.ownBlock≠some B:=by
 rcases h.2 with ⟨h,_⟩|⟨g,cap,cur,h,_,hgh,_⟩
 ·rw [h];simp [Value.ownBlock]
 ·rw [h]
  simp only [Value.ownBlock]
  intro e
  injection e with e
  rw [e,hB] at hgh
  simp at hgh
def zlr (XB:Nat) (rv:Value) (k:Nat):Prop:=k=XB∨rv.ownBlock=some k
theorem zky {W:World} {XB n:Nat} {rv:Value} {xs:List Value} {cs:Array Value} (hX:W.heap[XB]? = some (.cells cs 144 (0,0))) (ho:W.ownsRow 0 141 1 rv n xs):∀ k,zlr XB rv k→¬ zct W k:=by
 rintro k (rfl|hk) ⟨es,he⟩
 ·rw [hX] at he;simp at he
 ·rcases ho.2 with ⟨rfl,_⟩|⟨g,cap,cur,rfl,_,hgh,_⟩
  ·simp [Value.ownBlock] at hk
  ·simp only [Value.ownBlock] at hk
   injection hk with hk
   rw [hk,he] at hgh
   simp at hgh
theorem zy0 (XB:Nat) (x0 x1 x2 rv bv:Value) (vals:List Value) (a:Option Addr) (n cp:Nat) (W:World) (hX:W.heap[XB]? = some (.cells #[x0,x1,x2,rv,bv] 144 (0,0))) (ho:W.ownsRow 0 141 1 rv vals.length vals) (hl:vals.length≤1000000000) (hn:n≤1000000000000) :
  Calls Tryz.prog 72 #[.pointer (some ⟨XB,0,none⟩),.slice a n cp] W fun e w'=>e=.returned (.tuple #[])∧∃ rv',w'.heap[XB]? = some (.cells #[x0,x1,x2,rv',bv] 144 (0,0)) ∧
   w'.ownsRow 0 141 1 rv' (zrq vals n (.slice a n cp)).length (zrq vals n (.slice a n cp))∧KeepX (zlr XB rv) W w'∧(∀ g,rv'.ownBlock=some g→rv.ownBlock=some g∨W.heap.size≤g):=by
 obtain ⟨i,hi,hz0,hz1,hz2⟩:=info_parts Tryz.info141
 have hBl:XB<W.heap.size:=(Array.getElem?_eq_some_iff.1 hX).1
 have c0:W.cell? ⟨XB,3,none⟩=some rv:=zab hX 3
 by_cases hz:n=0
 ·subst hz
  have HX:=zac hX
  have Ho:=zac ho
  clear hX ho
  go_enter Tryz.func72,Tryz.ntmps72
  go_wp2
  go_end0
  exact ⟨rfl,rv,zaa HX,by simpa [zrq] using zaa Ho,KeepX.refl _ _,fun g hg=>.inl hg⟩
 ·have hn0:(0:Int)<(n:Int):=by omega
  have hBA:(W.alloc (.cells #[.slice a n cp] 141)).heap[XB]? = some (.cells #[x0,x1,x2,rv,bv] 144 (0,0)):=(Below.heap_alloc _ _ _ hBl).trans hX
  have cA:(W.alloc (.cells #[.slice a n cp] 141)).cell? ⟨XB,3,none⟩=some rv:=zab hBA 3
  have hoA:=ho.alloc (.cells #[.slice a n cp] 141)
  have hne:=zmi hoA hBA
  have hnew:∀ j u,[Value.slice a n cp][j]? = some u→(W.alloc (.cells #[.slice a n cp] 141)).cell? ((⟨W.heap.size,0,none⟩:Addr).add j)=some u:=by
   intro j u hj
   match j,hj with
   | 0,hj=>cases hj;exact zab (zae _ _ _ rfl) 0
  have HBA:=zac hBA
  have HoA:=zac hoA
  have Hnew:=zac hnew
  have Hne:=zac hne
  clear hX ho hoA hBA hnew hne
  go_enter Tryz.func72,Tryz.ntmps72
  go_wp2_with (first
   | (refine zby _ rfl (.tmp 11) (.tmp 13) 142 rfl 0 141 i _ 1 24 Tryz.underlying142 hi hz0 hz1 hz2 rfl (by decide) rv vals.length vals rfl (zaa HoA) ⟨W.heap.size,0,none⟩ 1 [.slice a n cp] rfl rfl (zaa Hnew) (by simp [Value.oneCell']) (by unfold maxLen;omega) (by omega) (Nat.zero_le _) ?_;intro sv' w3 hrow3 hg3 hsh3;have hB3:=(hg3.block XB (by simp;omega) (fun e=>(zaa Hne) e.symm)).trans (zaa HBA);have c3:w3.cell? ⟨XB,3,none⟩=some rv:=zab hB3 3;have f3:w3.frozen? ⟨XB,3,none⟩=false:=zad hB3 3;have Hrow3:=zac hrow3;have Hg3:=zac hg3;have HB3:=zac hB3;have Hsh3:=zac hsh3;obtain ⟨a',cap',rfl⟩:=zen hrow3;clear hrow3 hg3 hB3 hsh3))
  go_end0
  have hC:=zai w3 XB 3 (.slice a' (vals.length+1) cap')
  have hne3:=zmi (zaa Hrow3) (zaa HB3)
  have e:zrq vals n (.slice a n cp)=vals ++ [.slice a n cp]:=by unfold zrq;rw [if_neg hz]
  refine ⟨rfl,_,zh1 (zaa HB3),?_,⟨hC.os.trans (zaa Hg3).os,hC.tape.trans (zaa Hg3).tape,hC.output.trans (zaa Hg3).output,?_,fun k hk hx=>?_⟩,fun g hg=>?_⟩
  ·rw [e]
   have:=(zaa Hrow3).kept hC (.inr hne3)
   simpa using this
  ·have h1:=(zaa Hg3).size
   have h2:=hC.size
   simp at h1
   omega
  ·have h1:k≠XB:=fun e=>hx (.inl e)
   have h2:rv.ownBlock≠some k:=fun e=>hx (.inr e)
   exact (hC.block k (by have:=(zaa Hg3).size;simp at this;omega) (by simp;exact h1)).trans (((zaa Hg3).block k (by simp;omega) (fun e=>h2 e.symm)).trans (Below.heap_alloc _ _ _ hk))
  ·rcases zaa Hsh3 with h|⟨_,h⟩
   ·exact .inl (h.symm.trans hg)
   ·rw [h] at hg
    injection hg with hg
    simp at hg
    right
    omega
theorem dsl1 (g k cap:Nat) (h:k+1≤cap) (hc:cap≤9223372036854775807) (q:World):(Instr.sliceAt 142 (.slice (some ⟨g,0,none⟩) (k+1) cap) (some (.int .i64 k)) (some (.int .i64 (k+1))) (some (.int .i64 (k+1)))).run Tryz.prog q=.ok (.slice (some ⟨g,k,none⟩) 1 1) q:=by
 have h1:(k:Int)+1≤(cap:Int):=by omega
 have h2:(k:Int)≤(k:Int)+1:=by omega
 have h3:((k:Int)+1 - k)=1:=by omega
 have h4:((k:Int)+1).toNat - k=1:=by omega
 go_simp
theorem dsl2 (g k cap:Nat) (h:k+1≤cap) (hc:cap≤9223372036854775807) (q:World):(Instr.sliceAt 142 (.slice (some ⟨g,0,none⟩) (k+1) cap) none (some (.int .i64 k)) none).run Tryz.prog q=.ok (.slice (some ⟨g,0,none⟩) k cap) q:=by
 have h1:(k:Int)+1≤(cap:Int):=by omega
 have h2:(k:Int)≤(cap:Int):=by omega
 have h3:¬ cap=0:=by omega
 go_simp
theorem dsl3 (g k cap:Nat) (h:k+1≤cap) (hc:cap≤9223372036854775807):∃ A:Addr,∀ q,(Instr.sliceAt 142 (.slice (some ⟨g,0,none⟩) (k+1) cap) (some (.int .i64 (k+1))) none none).run Tryz.prog q=.ok (.slice (some A) 0 (cap - (k+1))) q:=by
 have h1:(k:Int)+1≤(cap:Int):=by omega
 by_cases hz:cap=k+1
 ·refine ⟨⟨g,0,none⟩,fun q=>?_⟩
  subst hz
  go_simp
  intro hn
  omega
 ·refine ⟨⟨g,k+1,none⟩,fun q=>?_⟩
  have h4:((k:Int)+1).toNat=k+1:=by omega
  go_simp
  intro hn
  omega
theorem dsl4 (g k cap:Nat) (h:k+1≤cap) (hc:cap≤9223372036854775807) (q:World):(Instr.sliceAt 142 (.slice (some ⟨g,0,none⟩) k cap) (some (.int .i64 k)) (some (.int .i64 (k+1))) none).run Tryz.prog q=.ok (.slice (some ⟨g,k,none⟩) 1 (cap - k)) q:=by
 have h1:(k:Int)+1≤(cap:Int):=by omega
 have h2:(k:Int)≤(k:Int)+1:=by omega
 have h4:((k:Int)+1).toNat - k=1:=by omega
 have h5:¬ cap=k:=by omega
 go_simp
theorem yka {w:World} {g k cap:Nat} {vals:List Value} (A:Addr) (c:Nat) (hrow:w.ownsRow 0 141 1 (.slice (some ⟨g,0,none⟩) k cap) k vals) (hroom:k≤cap) :
  ∃ w3,(zjy #[142,142] 142 #[.slice (some ⟨g,0,none⟩) k cap,.slice (some A) 0 c]).run Tryz.prog w=.ok (.slice (some ⟨g,0,none⟩) k cap) w3∧w3.ownsRow 0 141 1 (.slice (some ⟨g,0,none⟩) k cap) k vals∧w.grownBy w3 (some g):=by
 obtain ⟨i62,hi,hz0,hz1,hz2⟩:=info_parts Tryz.info141
 obtain ⟨w3,hrun,r1,r2⟩:=run_append_fits (P:=Tryz.prog) w 0 142 142 141 i62 1 Tryz.underlying142 hi hz1 g k cap vals hrow A 0 c [] rfl (fun j u hu=>by simp at hu) (by simp) (by omega)
 exact ⟨w3,hrun,by simpa using r1,r2⟩
theorem yg1 {w:World} {g k cap:Nat} {vals:List Value} (h:w.ownsRow 0 141 1 (.slice (some ⟨g,0,none⟩) (k+1) cap) (k+1) vals):w.ownsRow 0 141 1 (.slice (some ⟨g,0,none⟩) k cap) k (vals.take k)∧(∃ cur:Array Value,w.heap[g]? = some (.cells cur 141 (0,0))∧cur.size=cap)∧k+1≤cap∧cap≤maxLen:=by
 obtain ⟨h1,h2⟩:=h
 rcases h2 with ⟨h2,_⟩|⟨g',cap',cur,e,hb,hg,hle,hm,hs,ht⟩
 ·cases h2
 ·injection e with e1 e2 e3
  injection e1 with e1
  injection e1 with e1
  subst e1 e3
  refine ⟨⟨by simp;omega,.inr ⟨g,cap,cur,rfl,hb,hg,by omega,hm,hs,?_⟩⟩,⟨cur,hg,by omega⟩,hle,hm⟩
  rw [← ht,List.take_take]
  congr 1
  omega
theorem yd4 {w:World} {g k cap:Nat} {vals:List Value} (z:Value) (h:w.ownsRow 0 141 1 (.slice (some ⟨g,0,none⟩) k cap) k vals):(w.setCells g k [z]).ownsRow 0 141 1 (.slice (some ⟨g,0,none⟩) k cap) k vals:=by
 obtain ⟨h1,h2⟩:=h
 rcases h2 with ⟨h2,_⟩|⟨g',cap',cur,e,hb,hg,hle,hm,hs,ht⟩
 ·cases h2
 ·injection e with e1 e2 e3
  injection e1 with e1
  injection e1 with e1
  subst e1 e3
  refine ⟨h1,.inr ⟨g,cap,cur.setIfInBounds k z,rfl,hb,?_,hle,hm,by simpa using hs,?_⟩⟩
  ·simp only [World.setCells,World.setCell]
   rw [Array.getElem?_modify,if_pos rfl,hg]
   rfl
  ·rw [← ht,Nat.mul_one]
   rw [Array.toList_setIfInBounds]
   exact List.take_set_of_le (by omega)
section
attribute [local go_sem] Oper.semAt_some
attribute [local go_sem ↓] zhb
theorem yha (g k cap:Nat) (vals:List Value) (W:World) (ho:W.ownsRow 0 141 1 (.slice (some ⟨g,0,none⟩) (k+1) cap) (k+1) vals) :
  Calls Tryz.prog 169 #[.slice (some ⟨g,0,none⟩) (k+1) cap,.int .i64 k,.int .i64 (k+1)] W fun e w'=>e=.returned (.slice (some ⟨g,0,none⟩) k cap)∧w'.ownsRow 0 141 1 (.slice (some ⟨g,0,none⟩) k cap) k (vals.take k)∧KeepX (fun q=>q=g) W w':=by
 obtain ⟨ho2,⟨cur,hg,hcs⟩,hk,hm⟩:=yg1 ho
 have hm':cap≤9223372036854775807:=by unfold maxLen at hm;omega
 have s1:=dsl1 g k cap hk hm'
 have s2:=dsl2 g k cap hk hm'
 obtain ⟨A,s3⟩:=dsl3 g k cap hk hm'
 have s4:=dsl4 g k cap hk hm'
 obtain ⟨w3,hap,hown3,hg3⟩:=yka (w:=W.drew) A (cap - (k+1)) ho2 (by omega)
 have hne:¬ (k:Int)=(k:Int)+1:=by omega
 obtain ⟨cur3,hg3b,hcs3⟩:∃ cur3:Array Value,w3.heap[g]? = some (.cells cur3 141 (0,0))∧cur3.size=cap:=by
  rcases hown3.2 with ⟨h2,_⟩|⟨g',cap',cur,e,hb,hg,hle,hm,hs,ht⟩
  ·cases h2
  ·injection e with e1 e2 e3
   injection e1 with e1
   injection e1 with e1
   subst e1 e3
   exact ⟨cur,hg,by omega⟩
 have hcl:=Lib.run_clear_slice (P:=Tryz.prog) w3 142 141 0 (.slice none 0 0) Tryz.underlying142 Tryz.zeroValue141 rfl rfl g k 1 (cap - k) (by omega) (fun j hj=>by rw [zab hg3b];simp;omega) (fun j hj=>zad hg3b _)
 have Hown3:=zac hown3
 have Hg3:=zac hg3
 clear hown3 hg3 ho ho2 hg hcs hg3b hcs3
 refine (callsIn_wide (n:=9)).1 (callsIn_of_wp Tryz.func169 rfl trivial ?_ rfl)
 simp only [Tryz.ntmps169,List.size_toArray,List.length_cons,List.length_nil,Nat.reduceAdd,Nat.reduceSub,Array.replicate_succ,Array.replicate_zero,List.push_toArray,List.append_toArray,List.nil_append,List.cons_append]
 gi_wp2_with fail
 gi_region_with fail
 all_goals gi_wp2
 all_goals
  go_ret
  have hC:=zai w3 g k (.slice none 0 0)
  have h3:=zaa Hg3
  refine ⟨rfl,yd4 _ (zaa Hown3),⟨hC.os.trans h3.os,hC.tape.trans h3.tape,hC.output.trans h3.output,Nat.le_trans h3.size hC.size,fun q hq hx=>?_⟩⟩
  exact (hC.block q (Nat.lt_of_lt_of_le hq h3.size) (fun e=>hx (by injection e))).trans (h3.block q hq (fun e=>hx (by injection e)))
end
structure zjw (rs:List (List zaj)):Prop where
 full:∀ r∈rs,r≠[]
 rise:∀ r∈rs,zgh r
 wf:∀ r∈rs,∀ e∈r,zaw e.1
def ze6 (rs:List (List zaj)):Nat:=(rs.map List.length).sum
theorem zkj (a b:List (List zaj)):ze6 (a ++ b)=ze6 a+ze6 b:=by simp [ze6]
theorem zjv (rs:List (List zaj)) (k:Nat) (hk:k<rs.length):ze6 (rs.take (k+1))=ze6 (rs.take k)+(rs[k]?.getD []).length:=by
 rw [List.take_succ_eq_append_getElem hk,zkj]
 simp [ze6,hk]
theorem zjp (rs:List (List zaj)) (k:Nat) (hk:k<rs.length):(rs.take (k+1)).flatten=(rs.take k).flatten ++ (rs[k]?.getD []):=by
 rw [List.take_succ_eq_append_getElem hk,List.flatten_append]
 simp [hk]
theorem zli (rs:List (List zaj)) (h:∀ r∈rs,r≠[]):rs.length≤ze6 rs:=by
 induction rs with
 | nil=>simp
 | cons r rs ih =>
  have h1:0<r.length:=List.length_pos_iff.2 (h r (by simp))
  have h2:=ih (fun r hr=>h r (by simp [hr]))
  simp only [ze6,List.map_cons,List.sum_cons,List.length_cons] at *
  omega
theorem zs7 (rs:List (List zaj)):∀ r∈rs,r.length≤ze6 rs:=by
 induction rs with
 | nil=>simp
 | cons r rs ih =>
  intro q hq
  simp only [ze6,List.map_cons,List.sum_cons] at *
  rcases List.mem_cons.1 hq with rfl|hq
  ·omega
  ·have:=ih q hq;omega
structure znb (w:World) (XB:Nat) (x0 x1 x2 rv:Value) (rs:List (List zaj)) (es:List zaj):Prop where
 blk:∃ bv,w.heap[XB]? = some (.cells #[x0,x1,x2,rv,bv] 144 (0,0))∧zcg w bv es
 own:∃ vals,w.ownsRow 0 141 1 rv vals.length vals∧zij w vals rs
theorem zcg.runN {W:World} {v:Value} {es:List zaj} (h:zcg W v es):zro W v es:=by
 rcases h with ⟨rfl,rfl⟩|⟨b,o,cp,rfl,h⟩
 ·exact ⟨none,0,rfl,⟨none,0,rfl,Nat.le_refl _,fun i hi=>by simp at hi⟩,fun _=>rfl⟩
 ·exact ⟨some ⟨b,o,none⟩,cp,rfl,h,fun e=>by cases e⟩
theorem znb.idxAt {w:World} {XB:Nat} {x0 x1 x2 rv:Value} {rs:List (List zaj)} {es:List zaj} (h:znb w XB x0 x1 x2 rv rs es) (hf:∀ r∈rs,r≠[]) (ht:ze6 rs+es.length≤100000000):zps w XB rs es:=by
 obtain ⟨bv,h1,h2⟩:=h.blk
 obtain ⟨vals,h3,h4⟩:=h.own
 exact ⟨⟨x0,x1,x2,rv,bv,h1,h4.runsAt h3,h2⟩,hf,fun r hr=>by have:=zs7 rs r hr;omega,by have:=zli rs hf;omega,by omega⟩
theorem znb.notE {w:World} {XB:Nat} {x0 x1 x2 rv:Value} {rs:List (List zaj)} {es:List zaj} (h:znb w XB x0 x1 x2 rv rs es):∀ k,zlr XB rv k→¬ zct w k:=by
 obtain ⟨bv,h1,h2⟩:=h.blk
 obtain ⟨vals,h3,h4⟩:=h.own
 exact zky h1 h3
structure ylh (W:World) (XB:Nat) (x0 x1 x2 rv:Value) (rs:List (List zaj)) (es:List zaj) (k:Nat) (av:Value) (wr:World):Prop where
 le:k≤rs.length
 st:∃ rk ad vals,wr.heap[XB]? = some (.cells #[x0,x1,x2,rk,.slice none 0 0] 144 (0,0))∧wr.ownsRow 0 141 1 rk vals.length vals∧zij wr vals (rs.take k)∧rk.ownBlock=rv.ownBlock ∧
  zro wr av ad∧Eqv ((rs.take k).flatten ++ ad) (rs.flatten ++ es)∧zgh ad∧(∀ e∈ad,zaw e.1)∧ze6 (rs.take k)+ad.length≤ze6 rs+es.length
 keep:KeepX (zlr XB rv) W wr
theorem zij.take {w:World} {vals:List Value} {rs:List (List zaj)} (h:zij w vals rs) (k:Nat):zij w (vals.take k) (rs.take k):=by
 refine ⟨by simp [h.len],fun i hi=>?_⟩
 rw [List.length_take,Nat.lt_min] at hi
 obtain ⟨b,o,cp,h1,h2⟩:=h.at_ i hi.2
 have e:(rs.take k)[i]?.getD []=rs[i]?.getD []:=by rw [List.getElem?_take_of_lt hi.1]
 rw [e]
 exact ⟨b,o,cp,by rw [List.getElem?_take_of_lt hi.1];exact h1,h2⟩
theorem zij.snoc {w:World} {vals:List Value} {rs:List (List zaj)} (h:zij w vals rs) {r:List zaj} {b o cp:Nat} (hr:zb1 w (.slice (some ⟨b,o,none⟩) r.length cp) r):zij w (vals ++ [.slice (some ⟨b,o,none⟩) r.length cp]) (rs ++ [r]):=by
 refine ⟨by simp [h.len],fun i hi=>?_⟩
 by_cases hlt:i<rs.length
 ·obtain ⟨b',o',cp',h1,h2⟩:=h.at_ i hlt
  have e:(rs ++ [r])[i]?.getD []=rs[i]?.getD []:=by rw [List.getElem?_append_left hlt]
  rw [e]
  exact ⟨b',o',cp',by rw [List.getElem?_append_left (by rw [h.len];exact hlt)];exact h1,h2⟩
 ·have hi':i=rs.length:=by simp at hi;omega
  subst hi'
  have e:(rs ++ [r])[rs.length]?.getD []=r:=by simp
  rw [e]
  exact ⟨b,o,cp,by rw [← h.len];simp,hr⟩
theorem yd3 {W:World} {rk:Value} {vals:List Value} {k:Nat} (h:W.ownsRow 0 141 1 rk (k+1) vals):∃ g cap,rk=.slice (some ⟨g,0,none⟩) (k+1) cap∧∀ j,j<k+1→W.cell? ⟨g,j,none⟩=vals[j]?:=by
 obtain ⟨p,c,rfl,_,hn,hs⟩:=zak h
 cases p with
 | none=>have:=(hn rfl).1;omega
 | some ad =>
  obtain ⟨g,rfl,_,_,hc⟩:=hs ad rfl
  exact ⟨g,c,rfl,fun j hj=>hc j (by omega)⟩
theorem zq8 (XB:Nat) (x0 x1 x2 rv:Value) (rs:List (List zaj)) (es:List zaj) (W:World) (hX:znb W XB x0 x1 x2 rv rs es) (hG:zjw rs) (hes:zgh es) (hwe:∀ e∈es,zaw e.1) (ht:ze6 rs+es.length≤100000000) :
  Calls Tryz.prog 123 #[.pointer (some ⟨XB,0,none⟩)] W fun e w'=>e=.returned (.tuple #[])∧∃ rv' rs',znb w' XB x0 x1 x2 rv' rs' []∧zjw rs'∧Eqv rs'.flatten (rs.flatten ++ es)∧ze6 rs'≤ze6 rs+es.length∧KeepX (zlr XB rv) W w'∧(∀ g,rv'.ownBlock=some g→rv.ownBlock=some g∨W.heap.size≤g):=by
 obtain ⟨bv,hB,hbat⟩:=hX.blk
 obtain ⟨vals,hown,hruns⟩:=hX.own
 have hnE:=hX.notE
 have hrn:=hbat.runN
 obtain ⟨ba,bcap,rfl,hr1,hr2⟩:=id hrn
 have hBl:XB<W.heap.size:=(Array.getElem?_eq_some_iff.1 hB).1
 have c4:W.cell? ⟨XB,4,none⟩=some (.slice ba es.length bcap):=zab hB 4
 have f4:W.frozen? ⟨XB,4,none⟩=false:=zad hB 4
 obtain ⟨ra,rcap,rfl,hrc,_⟩:=zak hown
 obtain ⟨W1,hW1⟩:∃ W1,W1=W.setCell ⟨XB,4,none⟩ (.slice none 0 0):=⟨_,rfl⟩
 have hB1:W1.heap[XB]? = some (.cells #[x0,x1,x2,.slice ra vals.length rcap,.slice none 0 0] 144 (0,0)):=by rw [hW1];exact zju hB
 have hk1:KeepX (zlr XB (.slice ra vals.length rcap)) W W1:=by
  have hC:=zai W XB 4 (.slice none 0 0)
  rw [hW1]
  exact ⟨hC.os,hC.tape,hC.output,hC.size,fun q hq hx=>hC.block q hq (fun e=>hx (.inl (by injection e)))⟩
 have hown1:W1.ownsRow 0 141 1 (.slice ra vals.length rcap) vals.length vals:=by
  rw [hW1];exact hown.kept (zai W XB 4 _) (.inr (zmi hown hB))
 have hI0:ylh W XB x0 x1 x2 (.slice ra vals.length rcap) rs es rs.length (.slice ba es.length bcap) W1:=by
  refine ⟨Nat.le_refl _,⟨_,es,vals,hB1,hown1,?_,rfl,hrn.keepT hk1 hnE,?_,hes,hwe,?_⟩,hk1⟩
  ·rw [List.take_length];exact hruns.keepT hk1 hnE
  ·rw [List.take_length];exact Eqv.refl _
  ·rw [List.take_length];omega
 have c3:W1.cell? ⟨XB,3,none⟩=some (.slice ra vals.length rcap):=zab hB1 3
 have hvl:vals.length=rs.length:=hruns.len
 have hrl:rs.length≤100000000:=by have:=zli rs hG.full;omega
 have HI0:=zac hI0
 have HG:=zac hG
 have HnE:=zac hnE
 have Hbl:=zac hBl
 have cW3:W.cell? ⟨XB,3,none⟩=some (.slice ra vals.length rcap):=zab hB 3
 rw [hW1] at c3
 clear hB hbat hown hruns hnE hrn hr1 hr2 hX hI0 hG hB1 hk1 hown1
 go_enter Tryz.func123,Tryz.ntmps123
 go_wp2
 rw [← hW1]
 clear hW1 c4 f4 c3 cW3
 try go_wp2
 go_loopw [2,3] (fun av i wr=>∃ k:Nat,i=.int .i64 ((k:Int) - 1)∧ylh W XB x0 x1 x2 (.slice ra vals.length rcap) rs es k av wr) (fun _ i _=>(intOf i+1).toNat)
 case atStart=>exact ⟨rs.length,by first|rfl|rw [hvl],zaa HI0⟩
 case round =>
  obtain ⟨k,rfl,hI⟩:=hrel
  have Hend:Hid (∀ (wr:World) (av:Value),ylh W XB x0 x1 x2 (.slice ra vals.length rcap) rs es k av wr→∃ aa an acap,av=.slice aa an acap∧Calls Tryz.prog 72 #[.pointer (some ⟨XB,0,none⟩),.slice aa an acap] wr fun e w'=>e=.returned (.tuple #[])∧∃ rv' rs',znb w' XB x0 x1 x2 rv' rs' []∧zjw rs'∧Eqv rs'.flatten (rs.flatten ++ es)∧ze6 rs'≤ze6 rs+es.length∧KeepX (zlr XB (.slice ra vals.length rcap)) W w'∧(∀ g,rv'.ownBlock=some g→(Value.slice ra vals.length rcap).ownBlock=some g∨W.heap.size≤g)):=by
   intro wr av hI
   obtain ⟨hle,⟨rk,ad,vk,hBk,hok,hrk,hbk,hav,heq,hri,hwf,htt⟩,hK⟩:=hI
   obtain ⟨aa,acap,rfl,ha1,ha2⟩:=id hav
   have hvk:vk.length=k:=by rw [hrk.len,List.length_take];omega
   refine ⟨aa,ad.length,acap,rfl,(zy0 XB x0 x1 x2 rk (.slice none 0 0) vk aa ad.length acap wr hBk hok (by omega) (by omega)).mono ?_⟩
   rintro e w' ⟨rfl,rv',h1,h2,h3,h4⟩
   have hnE:=zky hBk hok
   have hKX:∀ q,zlr XB rk q→zlr XB (.slice ra vals.length rcap) q:=fun q hq=>hq.imp id (fun h=>hbk ▸ h)
   have hK':=hK.trans (h3.mono fun q _ hq=>hKX q hq)
   have hr':=hrk.keepT h3 hnE
   have hg':∀ g,rv'.ownBlock=some g→(Value.slice ra vals.length rcap).ownBlock=some g∨W.heap.size≤g:=fun g hg=>by
    rcases h4 g hg with h|h
    ·exact .inl (hbk ▸ h)
    ·exact .inr (Nat.le_trans hK.size h)
   by_cases hz:ad=[]
   ·subst hz
    refine ⟨rfl,rv',rs.take k,⟨⟨_,h1,.inl ⟨rfl,rfl⟩⟩,vk,by simpa [zrq] using h2,hr'⟩,?_,by simpa using heq,by simpa using htt,hK',hg'⟩
    have hG:=zaa HG
    exact ⟨fun r hr=>hG.full r (List.mem_of_mem_take hr),fun r hr=>hG.rise r (List.mem_of_mem_take hr),fun r hr=>hG.wf r (List.mem_of_mem_take hr)⟩
   ·have hn0:ad.length≠0:=fun h=>hz (List.eq_nil_of_length_eq_zero h)
    obtain ⟨b,o,rfl⟩:∃ b o,aa=some ⟨b,o,none⟩:=by
     obtain ⟨a',cap',e',_,hx⟩:=ha1
     injection e' with e1 e2 e3
     obtain ⟨b,o,e'',_⟩:=hx 0 (by omega)
     exact ⟨b,o,e1.trans e''⟩
    have hra:=ha1.keepT h3 hnE
    refine ⟨rfl,rv',rs.take k ++ [ad],⟨⟨_,h1,.inl ⟨rfl,rfl⟩⟩,_,by simpa [zrq,hn0] using h2,hr'.snoc hra⟩,?_,?_,?_,hK',hg'⟩
    ·have hG:=zaa HG
     refine ⟨fun r hr=>?_,fun r hr=>?_,fun r hr=>?_⟩ <;> rcases List.mem_append.1 hr with hr|hr
     ·exact hG.full r (List.mem_of_mem_take hr)
     ·simp at hr;subst hr;exact hz
     ·exact hG.rise r (List.mem_of_mem_take hr)
     ·simp at hr;subst hr;exact hri
     ·exact hG.wf r (List.mem_of_mem_take hr)
     ·simp at hr;subst hr;exact hwf
    ·simpa using heq
    ·rw [zkj];simpa [ze6] using htt
  cases k with
  | zero =>
   have hm1:¬ (0:Int)≤((0:Nat):Int) - 1:=by omega
   obtain ⟨aa,an,acap,rfl,hcall⟩:=(zaa Hend) wr _ hI
   have Hcall:=zac hcall
   clear hI hcall Hend
   go_wp2_with fail
   refine (zaa Hcall).mono ?_
   rintro e w' ⟨rfl,hpost⟩
   have Hp:=zac hpost
   clear hpost
   go_wp2
   go_end0
   exact ⟨rfl,zaa Hp⟩
  | succ k =>
   have hke:(((k+1:Nat):Int) - 1)=(k:Int):=by omega
   rw [hke]
   obtain ⟨hle,⟨rk,ad,vk,hBk,hok,hrk,hbk,hav,heq,hri,hwf,htt⟩,hK⟩:=id hI
   have hvk:vk.length=k+1:=by rw [hrk.len,List.length_take];omega
   rw [hvk] at hok
   obtain ⟨g,cap,rfl,hcell⟩:=yd3 hok
   have hkl:k<rs.length:=by omega
   obtain ⟨b,o,cp,hv,hr⟩:=hrk.at_ k (by rw [List.length_take];omega)
   have er:(rs.take (k+1))[k]?.getD []=rs[k]?.getD []:=by rw [List.getElem?_take_of_lt (by omega)]
   rw [er] at hv hr
   have hmem:rs[k]?.getD []∈rs:=by simp [hkl]
   obtain ⟨r,hrr⟩:∃ r,r=rs[k]?.getD []:=⟨_,rfl⟩
   have etot:=zjv rs k hkl
   have eflat:=zjp rs k hkl
   rw [← hrr] at hv hr hmem etot eflat
   have hrE:=(zaa HG).rise r hmem
   have hrW:=(zaa HG).wf r hmem
   obtain ⟨aa,acap,rfl,ha1,ha2⟩:=id hav
   have c3:wr.cell? ⟨XB,3,none⟩=some (.slice (some ⟨g,0,none⟩) (k+1) cap):=zab hBk 3
   have cg:wr.cell? ⟨g,k,none⟩=some (.slice (some ⟨b,o,none⟩) r.length cp):=(hcell k (by omega)).trans hv
   have hkx:(k:Int)<(k:Int)+1:=by omega
   have hadl:ad.length≤100000000:=by omega
   have hrl2:r.length≤100000000:=by omega
   by_cases hcond:r.length≤2*ad.length
   ·have hcx:(r.length:Int)≤2*(ad.length:Int):=by omega
    have hmrg:=zux (.slice (some ⟨b,o,none⟩) r.length cp) (.slice aa ad.length acap) r ad wr ⟨_,cp,rfl,hr,fun e=>by cases e⟩ hav (by omega)
    have Hmrg:=zac hmrg
    have HBk:=zac hBk
    have Hok:=zac hok
    have Hrk:=zac hrk
    have Hbk:=zac hbk
    have Heq:=zac heq
    have Htt:=zac htt
    have HK:=zac hK
    have Hri:=zac hri
    have Hwf:=zac hwf
    have Het:=zac etot
    have Hef:=zac eflat
    have HrE:=zac hrE
    have HrW:=zac hrW
    have Hv:=zac hvk
    have Hhe:=zac hle
    clear hmrg hBk hok hrk hbk heq htt hK hri hwf etot eflat hrE hrW hI hcell hv hr hav ha1 ha2 Hend hmem hrr er hvk hle
    go_wp2_with fail
    refine (zaa Hmrg).mono ?_
    rintro e w5 ⟨mv,rfl,hmv,hb5,hob5⟩
    obtain ⟨ma,mcap,rfl,hm1,hm2⟩:=id hmv
    have hB5:=(hb5.block XB (Array.getElem?_eq_some_iff.1 (zaa HBk)).1).trans (zaa HBk)
    have c35:w5.cell? ⟨XB,3,none⟩=some (.slice (some ⟨g,0,none⟩) (k+1) cap):=zab hB5 3
    have hok5:w5.ownsRow 0 141 1 (.slice (some ⟨g,0,none⟩) (k+1) cap) (k+1) vk:=(zaa Hok).kept (row:=none) ⟨hb5.os,hb5.tape,hb5.output,hb5.size,fun q hq _=>hb5.block q hq⟩ (.inr (by simp [Value.ownBlock]))
    have hdel:=yha g k cap vk w5 hok5
    have hne5:=zmi hok5 hB5
    have hnE5:=zky hB5 hok5
    have Hdel:=zac hdel
    have HB5:=zac hB5
    have Hb5:=zac hb5
    have Hmv:=zac hmv
    have Hne5:=zac hne5
    have HnE5:=zac hnE5
    clear hdel hB5 hok5 hb5 hmv hm1 hm2 hob5 hne5 hnE5 c3 cg
    go_wp2_with fail
    refine (zaa Hdel).mono ?_
    rintro e w6 ⟨rfl,hown6,hk6⟩
    have hB6:=(hk6.blk XB (Array.getElem?_eq_some_iff.1 (zaa HB5)).1 (fun e=>(zaa Hne5) (by rw [e];rfl))).trans (zaa HB5)
    have c36:w6.cell? ⟨XB,3,none⟩=some (.slice (some ⟨g,0,none⟩) (k+1) cap):=zab hB6 3
    have f36:w6.frozen? ⟨XB,3,none⟩=false:=zad hB6 3
    have Hown6:=zac hown6
    have Hk6:=zac hk6
    have HB6:=zac hB6
    clear hown6 hk6 hB6 c35
    go_wp2
    refine ⟨⟨k,by simp,?_⟩,by simp [intOf]⟩
    have hC:=zai w6 XB 3 (.slice (some ⟨g,0,none⟩) k cap)
    have hKa:KeepX (zlr XB (.slice (some ⟨g,0,none⟩) (k+1) cap)) w5 (w6.setCell ⟨XB,3,none⟩ (.slice (some ⟨g,0,none⟩) k cap)):=by
     refine ((zaa Hk6).mono fun q _ hq=>.inr (by rw [hq];rfl)).trans ⟨hC.os,hC.tape,hC.output,hC.size,fun q hq hx=>hC.block q hq (fun e=>hx (.inl (by injection e)))⟩
    have hKb:KeepX (zlr XB (.slice (some ⟨g,0,none⟩) (k+1) cap)) wr (w6.setCell ⟨XB,3,none⟩ (.slice (some ⟨g,0,none⟩) k cap)):=(KeepX.ofBelow (zaa Hb5)).trans hKa
    have hnEr:=zky (zaa HBk) (zaa Hok)
    refine ⟨by have:=zaa Hhe;omega,⟨.slice (some ⟨g,0,none⟩) k cap,zcq r ad,vk.take k,zh1 (zaa HB6),?_,?_,zaa Hbk,(zaa Hmv).keepT hKa (zaa HnE5),?_,zot _ _ (zaa HrE) (zaa Hri),zuw _ _ (zaa HrW) (zaa Hwf),?_⟩,(zaa HK).trans (hKb.mono fun q _ hq=>hq.imp id (fun h=>zaa Hbk ▸ h))⟩
    ·have hl:(vk.take k).length=k:=by rw [List.length_take,zaa Hv];omega
     rw [hl]
     exact (zaa Hown6).kept hC (.inr (zmi (zaa Hown6) (zaa HB6)))
    ·have h1:=((zaa Hrk).take k).keepT hKb hnEr
     rwa [List.take_take,Nat.min_eq_left (by omega)] at h1
    ·refine Eqv.trans ?_ (zaa Heq)
     rw [zaa Hef,List.append_assoc]
     exact Eqv.append (Eqv.refl _) (zqz r ad)
    ·have h1:=zq0 r ad
     have h2:=zaa Htt
     rw [zaa Het] at h2
     omega
   ·have hcx:¬ (r.length:Int)≤2*(ad.length:Int):=by omega
    obtain ⟨aa',an',acap',e1,hcall⟩:=(zaa Hend) wr _ hI
    injection e1 with e1 e2 e3
    subst e1 e2 e3
    have Hcall:=zac hcall
    clear hBk hok hrk hbk heq htt hK hri hwf etot eflat hrE hrW hI hcell hv hr hav ha1 ha2 Hend hmem hrr er hvk hle hcall
    go_wp2_with fail
    refine (zaa Hcall).mono ?_
    rintro e w' ⟨rfl,hpost⟩
    have Hp:=zac hpost
    clear hpost
    go_wp2
    go_end0
    exact ⟨rfl,zaa Hp⟩
end Go.Proofs.YtoifcnidhfnapaaGreatDoor
