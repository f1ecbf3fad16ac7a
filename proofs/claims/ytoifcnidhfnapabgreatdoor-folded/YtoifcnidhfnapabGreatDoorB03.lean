import Derived.Test.YtoifcnidhfnapabGreatDoorB02
import Derived.Deep.RegionHeld3
import Derived.Deep.DrawnRows
set_option linter.unusedVariables false
set_option linter.unusedSimpArgs false
set_option maxRecDepth 100000
set_option maxHeartbeats 16000000
namespace Go.Proofs.YtoifcnidhfnapabGreatDoor
open Go.RowKit Go.Maps
theorem zbu.below {w w':World} {v:Value} {zs:List Int} (h:zbu w v zs) (hb:Below w.heap.size w w'):zbu w' v zs:=by
 obtain ⟨a,cap,rfl,hc⟩:=h
 exact ⟨a,cap,rfl,fun i hi=>by obtain ⟨b,o,ha,hx⟩:=hc i hi;exact ⟨b,o,ha,by rw [hb.cell (p:=⟨b,o+i,none⟩) (World.block_lt_of_cell? w _ hx)];exact hx⟩⟩
def zf6:Ent:=⟨⟨#[]⟩,[],0⟩
def zds (w:World) (v:Value) (es:List Ent):Prop:=
 ∃ a cap,v=.slice a es.length cap∧∀ i,i<es.length→∃ b o sv,a=some ⟨b,o,none⟩∧w.cell? ⟨b,o+i*3,none⟩=some (.string (es[i]?.getD zf6).nm) ∧
  w.cell? ⟨b,o+i*3+1,none⟩=some sv∧zbu w sv (es[i]?.getD zf6).row∧w.cell? ⟨b,o+i*3+2,none⟩=some (.int .i64 (es[i]?.getD zf6).wt)
theorem zds.below {w w':World} {v:Value} {es:List Ent} (h:zds w v es) (hb:Below w.heap.size w w'):zds w' v es:=by
 obtain ⟨a,cap,rfl,hc⟩:=h
 refine ⟨a,cap,rfl,fun i hi=>?_⟩
 obtain ⟨b,o,sv,ha,h1,h2,h3,h4⟩:=hc i hi
 have hl:b<w.heap.size:=World.block_lt_of_cell? w _ h1
 exact ⟨b,o,sv,ha,by rw [hb.cell (p:=⟨b,_,none⟩) hl];exact h1,by rw [hb.cell (p:=⟨b,_,none⟩) hl];exact h2,h3.below hb,by rw [hb.cell (p:=⟨b,_,none⟩) hl];exact h4⟩
def zn9 (x:Ent):Prop:=x.nm.size≤1000∧x.row.length≤3∧zaw (zc5 x.row)∧-1000≤x.wt∧x.wt≤1000
def zbr (es:List Ent) (nm:ByteArray) (r:Row):Int:=
 match es with
 | []=>0
 | x :: rest=>(if x.nm=nm∧zc5 x.row=r then x.wt else 0)+zbr rest nm r
theorem zlp (es:List Ent) (x:Ent) (nm:ByteArray) (r:Row):zbr (es ++ [x]) nm r=zbr es nm r+(if x.nm=nm∧zc5 x.row=r then x.wt else 0):=by
 induction es with
 | nil=>simp [zbr]
 | cons y ys ih=>simp only [List.cons_append,zbr,ih];omega
theorem yff (es:List Ent) (h:∀ x∈es,zn9 x) (nm:ByteArray) (r:Row):-(1000*(es.length:Int))≤zbr es nm r∧zbr es nm r≤1000*(es.length:Int):=by
 induction es with
 | nil=>simp [zbr]
 | cons y ys ih =>
  have h1:=ih (fun x hx=>h x (List.mem_cons_of_mem _ hx))
  have h2:=(h y (List.mem_cons_self)).2.2.2
  simp only [zbr,List.length_cons]
  split <;> omega
theorem zcw (s:ByteArray):WideAt.IsKeyLit (zau s):=trivial
abbrev Ch:=ByteArray→Option (Nat×(Row→Int))
structure zcd (w:World) (cb B n:Nat) (ch:Ch):Prop where
 dir:∃ D,w.ownsMap Tryz.prog 9 zcy cb n D∧(∀ nm,nm.size≤maxLen→Maps.has D (zau nm)=(ch nm).isSome) ∧
  (∀ nm p,nm.size≤maxLen→ch nm=some p→∀ zd,D.atKey (zau nm) zd=.lit (.int .i64 p.1))
 each:∀ nm p,ch nm=some p→ze9 w p.1 n p.2∧B≤p.1∧p.1≠cb
 apart:∀ nm nm' p p',ch nm=some p→ch nm'=some p'→nm≠nm'→p.1≠p'.1
 base:B≤cb
def zmx (es:List Ent) (ch:Ch):Prop:=∀ nm,(ch nm=none→∀ x∈es,x.nm≠nm)∧∀ p,ch nm=some p→(∃ x∈es,x.nm=nm)∧p.2=zbr es nm
theorem ze9.lt {w:World} {b n:Nat} {f:Row→Int} (h:ze9 w b n f):b<w.heap.size:=by
 obtain ⟨D,h1,_⟩:=h
 exact h1.lt
theorem ze9.mono {w:World} {b n n':Nat} {f:Row→Int} (h:ze9 w b n f) (hn:n≤n'):ze9 w b n' f:=by
 obtain ⟨D,h1,h2⟩:=h
 exact ⟨D,h1.mono hn,h2⟩
section
variable {w w':World} {cb B n:Nat} {ch:Ch}
theorem zcd.lt (h:zcd w cb B n ch):cb<w.heap.size:=by
 obtain ⟨D,h1,_⟩:=h.dir
 exact h1.lt
theorem zcd.kept (h:zcd w cb B n ch) (hb:∀ k,B≤k→k<w.heap.size→w'.heap[k]? = w.heap[k]?):zcd w' cb B n ch:=by
 have hlt:=h.lt
 obtain ⟨⟨D,⟨es,clock,h1,h2⟩,hD⟩,ea,ap,ba⟩:=h
 refine ⟨⟨D,⟨es,clock,(hb _ ba hlt).trans h1,h2⟩,hD⟩,fun nm p hp=>?_,ap,ba⟩
 obtain ⟨e1,e2,e3⟩:=ea nm p hp
 exact ⟨e1.kept (hb _ e2 e1.lt),e2,e3⟩
theorem zcd.mono (h:zcd w cb B n ch) {n':Nat} (hn:n≤n'):zcd w cb B n' ch:=by
 obtain ⟨⟨D,h1,hD⟩,ea,ap,ba⟩:=h
 exact ⟨⟨D,h1.mono hn,hD⟩,fun nm p hp=>⟨(ea nm p hp).1.mono hn,(ea nm p hp).2⟩,ap,ba⟩
theorem zcd.below (h:zcd w cb B n ch) (hb:Below w.heap.size w w'):zcd w' cb B n ch:=h.kept (fun k _ hk=>hb.block k hk)
theorem zka {v:Value} {b:Nat} {ps:List MemPlace} (h:zcy v=some (.lit (.int .i64 b),ps)):v=.map (some b):=by
 unfold zcy at h
 split at h
 ·simp at h
  obtain ⟨h,_⟩:=h
  have h:_=b:=Int.ofNat_inj.1 h
  rw [h]
 ·simp at h
 ·simp at h
theorem zm8 {v:Value} {ps:List MemPlace} (h:zcy v=some (.lit (.int .i64 (-1)),ps)):v=.map none:=by
 unfold zcy at h
 split at h
 ·simp at h
 ·rfl
 ·simp at h
theorem zcd.hit (h:zcd w cb B n ch) {nm:ByteArray} {p:Nat×(Row→Int)} (hn:nm.size≤maxLen) (hR:ch nm=some p) :
  (Instr.lookup 95 (.map (some cb)) (.string nm) true).run Tryz.prog w=.ok (.tuple #[.map (some p.1),.bool true]) w:=by
 obtain ⟨D,hown,hhas,hat⟩:=h.dir
 obtain ⟨v,ps,hrun,hv⟩:=hown.look_ok zqh Tryz.underlying95 (yfx _) (zd:=.lit (.int .i64 (-1))) (zp:=[]) rfl (zdi hn)
 rw [hat nm p hn hR] at hv
 rw [zka hv,hhas nm hn,hR] at hrun
 exact hrun
theorem zcd.miss (h:zcd w cb B n ch) {nm:ByteArray} (hn:nm.size≤maxLen) (hR:ch nm=none) :
  (Instr.lookup 95 (.map (some cb)) (.string nm) true).run Tryz.prog w=.ok (.tuple #[.map none,.bool false]) w:=by
 obtain ⟨D,hown,hhas,hat⟩:=h.dir
 obtain ⟨v,ps,hrun,hv⟩:=hown.look_ok zqh Tryz.underlying95 (yfx _) (zd:=.lit (.int .i64 (-1))) (zp:=[]) rfl (zdi hn)
 have h0:Maps.has D (zau nm)=false:=by rw [hhas nm hn,hR];rfl
 rw [atKey_of_not_has h0] at hv
 rw [zm8 hv,h0] at hrun
 exact hrun
def zgs (ch:Ch) (nm:ByteArray) (p:Nat×(Row→Int)):Ch:=fun m=>if m=nm then some p else ch m
theorem zcd.added (h:zcd w cb B n ch) {nm:ByteArray} {p:Nat×(Row→Int)} {g:Row→Int} (hR:ch nm=some p) (hg:w.grownBy w' (some p.1)) (hW:ze9 w' p.1 (n+1) g):zcd w' cb B (n+1) (zgs ch nm (p.1,g)):=by
 have hlt:=h.lt
 have hp:=h.each nm p hR
 obtain ⟨⟨D,⟨es,clock,h1,h2⟩,hhas,hat⟩,ea,ap,ba⟩:=h
 have hcb:w'.heap[cb]? = w.heap[cb]?:=hg.block _ hlt (fun e=>hp.2.2 (by injection e with e;exact e.symm))
 refine ⟨⟨D,(show w'.ownsMap Tryz.prog 9 zcy cb n D from ⟨es,clock,hcb.trans h1,h2⟩).mono (Nat.le_succ _),fun m hm=>?_,fun m q hm hq=>?_⟩,fun m q hq=>?_,fun m m' q q' hq hq' hne=>?_,ba⟩
 ·rw [hhas m hm];unfold zgs;by_cases e:m=nm <;> simp [e,hR]
 ·unfold zgs at hq
  by_cases e:m=nm
  ·subst e;simp at hq;subst hq;exact hat _ p hm hR
  ·simp [e] at hq;exact hat m q hm hq
 ·unfold zgs at hq
  by_cases e:m=nm
  ·subst e;simp at hq;subst hq;exact ⟨hW,hp.2⟩
  ·simp [e] at hq
   have hm:=ea m q hq
   exact ⟨(hm.1.kept (hg.block _ hm.1.lt (fun e'=>ap m nm q p hq hR e (by injection e')))).mono (Nat.le_succ _),hm.2⟩
 ·unfold zgs at hq hq'
  by_cases e:m=nm
  ·subst e
   have e':¬ m'=m:=fun x=>hne x.symm
   simp at hq;simp [e'] at hq';subst hq
   exact ap m m' p q' hR hq' hne
  ·simp [e] at hq
   by_cases e':m'=nm
   ·subst e';simp at hq';subst hq';exact ap m m' q p hq hR hne
   ·simp [e'] at hq';exact ap m m' q q' hq hq' hne
theorem zcd.begun {D:DataW Unit} (h:zcd w cb B n ch) {nm:ByteArray} {b:Nat} (hnm:nm.size≤maxLen) (hR:ch nm=none) (hg:w.grownBy w' (some cb)) (hb:ze9 w b 0 (fun _=>0)) (hb2:B≤b) (hb3:b≠cb)
  (hfresh:∀ m p,ch m=some p→p.1≠b) (hhas:∀ m,m.size≤maxLen→Maps.has D (zau m)=(ch m).isSome) (hat:∀ m p,m.size≤maxLen→ch m=some p→∀ zd,D.atKey (zau m) zd=.lit (.int .i64 p.1)) (hD:IsMap D)
  (hown:w'.ownsMap Tryz.prog 9 zcy cb (n+1) (D.put (zau nm) (.lit (.int .i64 b)))):zcd w' cb B (n+1) (zgs ch nm (b,fun _=>0)):=by
 refine ⟨⟨_,hown,fun m hm=>?_,fun m q hm hq=>?_⟩,fun m q hq=>?_,fun m m' q q' hq hq' hne=>?_,h.base⟩
 ·unfold zgs
  by_cases e:m=nm
  ·subst e;rw [has_put_same hD (zcw _)];simp
  ·rw [has_put_other (fun e'=>e (zc8 e')),hhas m hm];simp [e]
 ·unfold zgs at hq
  intro zd
  by_cases e:m=nm
  ·subst e;simp at hq;subst hq;exact atKey_put_same hD (zcw _) _ _
  ·simp [e] at hq;rw [atKey_put_other (fun e'=>e (zc8 e'))];exact hat m q hm hq zd
 ·unfold zgs at hq
  by_cases e:m=nm
  ·subst e;simp at hq;subst hq;exact ⟨(hb.kept (hg.block _ hb.lt (fun e=>hb3 (by injection e)))).mono (by omega),hb2,hb3⟩
  ·simp [e] at hq
   have hm:=h.each m q hq
   exact ⟨(hm.1.kept (hg.block _ hm.1.lt (fun e'=>hm.2.2 (by injection e')))).mono (Nat.le_succ _),hm.2⟩
 ·unfold zgs at hq hq'
  by_cases e:m=nm
  ·subst e
   have e':¬ m'=m:=fun x=>hne x.symm
   simp at hq;simp [e'] at hq';subst hq
   exact fun x=>hfresh m' q' hq' x.symm
  ·simp [e] at hq
   by_cases e':m'=nm
   ·subst e';simp at hq';subst hq';exact hfresh m q hq
   ·simp [e'] at hq';exact h.apart m m' q q' hq hq' hne
end
theorem ybu {es:List Ent} {ch:Ch} {x:Ent} {p:Nat×(Row→Int)} (h:zmx es ch) (hp:ch x.nm=some p):zmx (es ++ [x]) (zgs ch x.nm (p.1,upd p.2 (zc5 x.row) (p.2 (zc5 x.row)+x.wt))):=by
 intro nm
 have hf:=((h x.nm).2 p hp).2
 unfold zgs
 by_cases e:nm=x.nm
 ·subst e
  refine ⟨fun hn=>by simp at hn,fun q hq=>?_⟩
  simp at hq
  subst hq
  refine ⟨⟨x,by simp,rfl⟩,?_⟩
  funext r
  rw [zlp,hf]
  unfold upd
  by_cases e:r=zc5 x.row
  ·subst e;simp
  ·simp [e,Ne.symm e]
 ·simp only [if_neg e]
  refine ⟨fun hn y hy=>?_,fun q hq=>?_⟩
  ·rcases List.mem_append.1 hy with hy|hy
   ·exact (h nm).1 hn y hy
   ·simp at hy;subst hy;exact fun x=>e x.symm
  ·obtain ⟨⟨y,hy,hyn⟩,hq2⟩:=(h nm).2 q hq
   refine ⟨⟨y,by simp [hy],hyn⟩,?_⟩
   funext r
   rw [zlp,hq2]
   simp [Ne.symm e]
theorem zx7 {es:List Ent} {ch:Ch} {x:Ent} {b:Nat} (h:zmx es ch) (hp:ch x.nm=none):zmx (es ++ [x]) (zgs ch x.nm (b,upd (fun _=>0) (zc5 x.row) (0+x.wt))):=by
 intro nm
 have hno:=(h x.nm).1 hp
 have h0:∀ (l:List Ent),(∀ y∈l,y.nm≠x.nm)→∀ r,zbr l x.nm r=0:=by
  intro l
  induction l with
  | nil=>intro _ r;rfl
  | cons y ys ih =>
   intro hy r
   simp only [zbr]
   rw [ih (fun z hz=>hy z (List.mem_cons_of_mem _ hz)) r]
   simp [hy y (List.mem_cons_self)]
 unfold zgs
 by_cases e:nm=x.nm
 ·subst e
  refine ⟨fun hn=>by simp at hn,fun q hq=>?_⟩
  simp at hq
  subst hq
  refine ⟨⟨x,by simp,rfl⟩,?_⟩
  funext r
  rw [zlp,h0 es hno r]
  unfold upd
  by_cases e:r=zc5 x.row
  ·subst e;simp
  ·simp [e,Ne.symm e]
 ·simp only [if_neg e]
  refine ⟨fun hn y hy=>?_,fun q hq=>?_⟩
  ·rcases List.mem_append.1 hy with hy|hy
   ·exact (h nm).1 hn y hy
   ·simp at hy;subst hy;exact fun x=>e x.symm
  ·obtain ⟨⟨y,hy,hyn⟩,hq2⟩:=(h nm).2 q hq
   refine ⟨⟨y,by simp [hy],hyn⟩,?_⟩
   funext r
   rw [zlp,hq2]
   simp [Ne.symm e]
attribute [local go_sem ↓] Go.wp_at_zero Go.wp_at_succ
theorem zwq (ch:Ch) (nm:ByteArray) (p q:Nat×(Row→Int)):zgs (zgs ch nm p) nm q=zgs ch nm q:=by
 funext m
 unfold zgs
 by_cases e:m=nm <;> simp [e]
theorem Below.ofDrew {W w1:World} (h:Below W.drew.heap.size W.drew w1):Below W.heap.size W w1:=⟨h.os,h.tape,h.output,h.size,h.block⟩
theorem ykb (v:Value) (es:List Ent) (w:World) (hv:zds w v es) (hg:∀ x∈es,zn9 x) (hl:es.length≤64) :
  Calls Tryz.prog 43 #[v] w fun e w'=>∃ ch,e=.returned (.map (some w.heap.size))∧zcd w' w.heap.size w.heap.size (2*es.length) ch∧zmx es ch∧Below w.heap.size w w':=by
 have Hv:=zac hv
 obtain ⟨a,cap,rfl,hc⟩:=hv
 have Hc:=zac hc
 have Hg:=zac hg
 clear hc hg
 have hmm:=@run_makeMap Tryz.prog
 go_enter Tryz.func43,Tryz.ntmps43
 go_wp2
 go_loopw [11] (fun i wr=>∃ k:Nat,k≤es.length∧i=.int .i64 k∧∃ ch,zcd wr w.heap.size w.heap.size (2*k) ch∧zmx (es.take k) ch∧Below w.heap.size w wr) (fun i _=>es.length - (intOf i).toNat)
 case atStart =>
  refine ⟨0,Nat.zero_le _,rfl,fun _=>none,⟨⟨.map [],World.ownsMap_made _ _ _ _,fun _ _=>rfl,fun _ _ _ h=>by cases h⟩,fun _ _ h=>(by cases h),fun _ _ _ _ h=>(by cases h),Nat.le_refl _⟩,?_,(Below.refl _ _).alloc (Nat.le_refl _) _⟩
  intro nm
  exact ⟨fun _ x hx=>by simp at hx,fun p h=>by cases h⟩
 case round =>
  obtain ⟨k,hk,rfl,ch,hC,hS,hB⟩:=hrel
  by_cases hlt:k<es.length
  ·obtain ⟨b,o,sv,rfl,h1,h2,h3,h4⟩:=(zaa Hc) k hlt
   have hx:(k:Int)<(es.length:Int):=by omega
   have hbl:b<w.heap.size:=World.block_lt_of_cell? w _ h1
   have h3c:=h3
   obtain ⟨a2,cap2,rfl,_⟩:=h3c
   obtain ⟨x,hxe⟩:∃ x,x=es[k]?.getD zf6:=⟨_,rfl⟩
   rw [← hxe] at h1 h2 h3 h4
   have hgx:zn9 x:=by rw [hxe];simp [hlt];exact (zaa Hg) _ (List.getElem_mem hlt)
   have htk:es.take (k+1)=es.take k ++ [x]:=by rw [List.take_succ_eq_append_getElem hlt,hxe];simp [hlt]
   have Htk:=zac htk
   clear hxe htk
   rw [← hB.cell (p:=⟨b,_,none⟩) hbl] at h1 h2 h4
   have h3':=(h3.below hB).below ((Below.refl wr.heap.size wr).alloc (Nat.le_refl _) (.cells #[.string x.nm,.slice a2 x.row.length cap2,.int .i64 x.wt] 49))
   obtain ⟨nm,row,wt⟩:=x
   dsimp only at h1 h2 h3 h3' h4
   have hnm:nm.size≤maxLen:=Nat.le_trans hgx.1 (by unfold maxLen;omega)
   have hC1:zcd (wr.alloc (.cells #[.string nm,.slice a2 row.length cap2,.int .i64 wt] 49)) w.heap.size w.heap.size (2*k) ch:=hC.below ((Below.refl _ _).alloc (Nat.le_refl _) _)
   have H3:=zac h3'
   have H3w:=zac h3
   have HC:=zac hC
   have HC1:=zac hC1
   have HS:=zac hS
   have HB:=zac hB
   have Hgx:=zac hgx
   cases hch:ch nm with
   | some p =>
    have hrun:=hC1.hit hnm hch
    have Hch:=zac hch
    clear h3 h3' hC hC1 hS hB hgx hch hnm
    go_wp2
    have kE:(wr.alloc (.cells #[.string nm,.slice a2 row.length cap2,.int .i64 wt] 49)).heap[wr.heap.size]? = some (.cells #[.string nm,.slice a2 row.length cap2,.int .i64 wt] 49 (0,0)):=zae wr _ _ rfl
    have HBW:Hid (Below wr.heap.size wr (wr.alloc (.cells #[.string nm,.slice a2 row.length cap2,.int .i64 wt] 49))):=(Below.refl _ _).alloc (Nat.le_refl _) _
    clear hrun h1 h2 h4
    generalize wr.alloc (.cells #[.string nm,.slice a2 row.length cap2,.int .i64 wt] 49)=W at *
    have e1:W.cell? ⟨wr.heap.size,1,none⟩=some (.slice a2 row.length cap2):=zab kE 1
    have e2:W.cell? ⟨wr.heap.size,2,none⟩=some (.int .i64 wt):=zab kE 2
    have hWs:wr.heap.size<W.heap.size:=(Array.getElem?_eq_some_iff.1 kE).1
    have hp1:p.1<wr.heap.size:=((zaa HC).each nm p (zaa Hch)).1.lt
    have Hf:Hid (∀ r,-1000000≤p.2 r∧p.2 r≤1000000):=by
     intro r
     have h1:=((zaa HS) nm).2 p (zaa Hch)
     have h2:=yff (es.take k) (fun y hy=>(zaa Hg) y (List.mem_of_mem_take hy)) nm r
     have h3:(es.take k).length≤64:=Nat.le_trans (by simp;omega) hl
     rw [h1.2]
     omega
    clear kE
    go_region_held3 (fun W'=>W'.cell? ⟨wr.heap.size,1,none⟩=some (.slice a2 row.length cap2)∧W'.cell? ⟨wr.heap.size,2,none⟩=some (.int .i64 wt))
     (first
      | go_keep
      | (go_split_ands;refine ⟨?_,?_⟩ <;> (rw [hb1.cell (by simpa using hWs)];assumption))
      | (go_split_ands;refine ⟨?_,?_⟩ <;> (rw [World.cell?_of_block (hg2.block wr.heap.size (by have:=hb1.size;simp at this;omega) (by simp;omega))];assumption)))
     (first
      | (go_at_call 68;refine (zvj _ row _ ?_ (zaa Hgx).2.1).mono ?_;exact (zaa H3);rintro e w1 ⟨rfl,hb1⟩)
      | (go_at_call 67;refine (zwk p.1 (2*k) p.2 (zc5 row) wt _ ?_ (by omega) (zaa Hgx).2.2.1 ((zaa Hf) _).1 ((zaa Hf) _).2 (by have:=(zaa Hgx).2.2.2.1;dsimp only at this;omega) (by have:=(zaa Hgx).2.2.2.2;dsimp only at this;omega)).mono ?_;exact ((zaa HC1).each nm p (zaa Hch)).1.kept (hb1.block _ (by simp;omega));rintro e w2 ⟨rfl,hm2,hg2⟩))
    have hb1':Below W.heap.size W w1:=Below.ofDrew hb1
    have hC1:=(zaa HC1).below hb1'
    have hC2:=hC1.added (zaa Hch) hg2 hm2
    have hpB:=((zaa HC).each nm p (zaa Hch)).2.1
    have hBB:Below w.heap.size w w2:=by
     have q1:=(zaa HB).trans ((zaa HBW).mono (zaa HB).size)
     have q2:=q1.trans (hb1'.mono q1.size)
     exact q2.grown hg2 q2.size (fun j hj=>by cases hj;exact hpB)
    have HR:=zac (And.intro hC2 hBB)
    clear hC2 hBB hC1 hb1 hb1' hg2 hm2 hpB
    go_wp2
    go_roundw
    case rel =>
     refine ⟨k+1,by omega,by go_num,_,(zaa HR).1.mono (by omega),?_,(zaa HR).2⟩
     rw [zaa Htk]
     exact ybu (x:=⟨nm,row,wt⟩) (zaa HS) (zaa Hch)
    case measure=>simp [intOf];omega
   | none =>
    have hrun:=hC1.miss hnm hch
    obtain ⟨D,hown,hhas,hat⟩:=hC1.dir
    have hownA:=hown.alloc (.map #[] 0)
    have Hhas:=zac hhas
    have Hat:=zac hat
    have hkey:=zdi hnm
    have Hch:=zac hch
    have Hnm:=zac hnm
    have hcbl:w.heap.size<wr.heap.size:=hC.lt
    clear h3 h3' hC hC1 hS hB hgx hch hnm hhas hat
    go_wp2_with (first
     | (at_mapUpdate;refine wpList_mapUpdate_own _ rfl _ _ _ 95 rfl 9 102 zqh Tryz.underlying95 _ w.heap.size (2*k) D rfl hownA (by unfold maxLen;omega) _ _ _ rfl rfl hkey _ [] (show zcy (.map (some (wr.heap.size+1)))=some (.lit (.int .i64 ((wr.heap.size+1:Nat):Int)),[]) from rfl) ?_;intro w3 hown3 hgrow3)
     | go_in)
    go_frame
    have hCA:zcd ((wr.alloc (.cells #[.string nm,.slice a2 row.length cap2,.int .i64 wt] 49)).alloc (.map #[] 0)) w.heap.size w.heap.size (2*k) ch:=(zaa HC1).below ((Below.refl _ _).alloc (Nat.le_refl _) _)
    have hmade:ze9 ((wr.alloc (.cells #[.string nm,.slice a2 row.length cap2,.int .i64 wt] 49)).alloc (.map #[] 0)) (wr.heap.size+1) 0 (fun _=>0):=
     ⟨.map [],by have:=World.ownsMap_made (wr.alloc (.cells #[.string nm,.slice a2 row.length cap2,.int .i64 wt] 49)) Tryz.prog 150 (plainElem (H:=Unit) Tryz.prog 2);simpa using this,⟨fun _ _=>rfl,fun _ _=>by simp [Maps.has],fun _ h=>by simp [Maps.has] at h⟩⟩
    have hC3:=hCA.begun (zaa Hnm) (zaa Hch) hgrow3 hmade (by omega) (by omega) (fun m q hq=>by have:=((zaa HC).each m q hq).1.lt;omega) (zaa Hhas) (zaa Hat) hown.isMap hown3
    have q1:Below w.heap.size w w3:=by
     have q0:=(((zaa HB).alloc (by omega) (.cells #[.string nm,.slice a2 row.length cap2,.int .i64 wt] 49)).alloc (by simp;omega) (.map #[] 0))
     exact q0.grown hgrow3 q0.size (fun j hj=>by cases hj;exact Nat.le_refl _)
    have kE:w3.heap[wr.heap.size]? = some (.cells #[.string nm,.slice a2 row.length cap2,.int .i64 wt] 49 (0,0)):=by
     rw [hgrow3.block wr.heap.size (by simp;omega) (by simp;omega),Below.heap_alloc _ _ _ (by simp)]
     exact zae wr _ _ rfl
    have h3':zbu w3 (.slice a2 row.length cap2) row:=((zaa H3w).below q1)
    have H3':=zac h3'
    have HC3:=zac hC3
    have HBW:=zac q1
    have hsz3:wr.heap.size+2≤w3.heap.size:=by have:=hgrow3.size;simp at this;omega
    clear hrun h1 h2 h4 hown hownA hown3 hgrow3 hC3 hCA hmade q1 h3' H3 HC1 hkey Hhas Hat
    have e1:w3.cell? ⟨wr.heap.size,1,none⟩=some (.slice a2 row.length cap2):=zab kE 1
    have e2:w3.cell? ⟨wr.heap.size,2,none⟩=some (.int .i64 wt):=zab kE 2
    clear kE
    go_region_held3 (fun W'=>W'.cell? ⟨wr.heap.size,1,none⟩=some (.slice a2 row.length cap2)∧W'.cell? ⟨wr.heap.size,2,none⟩=some (.int .i64 wt))
     (first
      | go_keep
      | (go_split_ands;refine ⟨?_,?_⟩ <;> (rw [hb1.cell (by simp;omega)];assumption))
      | (go_split_ands;refine ⟨?_,?_⟩ <;> (rw [World.cell?_of_block (hg2.block wr.heap.size (by have:=hb1.size;simp at this;omega) (by simp))];assumption)))
     (first
      | (go_at_call 68;refine (zvj _ row _ ?_ (zaa Hgx).2.1).mono ?_;exact (zaa H3');rintro e w1 ⟨rfl,hb1⟩)
      | (go_at_call 67;refine (zwk (wr.heap.size+1) (2*k+1) (fun _=>0) (zc5 row) wt _ ?_ (by omega) (zaa Hgx).2.2.1 (by omega) (by omega) (by have:=(zaa Hgx).2.2.2.1;dsimp only at this;omega) (by have:=(zaa Hgx).2.2.2.2;dsimp only at this;omega)).mono ?_;exact ((zaa HC3).each nm (wr.heap.size+1,fun _=>0) (by simp [zgs])).1.kept (hb1.block _ (by simp;omega));rintro e w2 ⟨rfl,hm2,hg2⟩))
    have hb1':Below w3.heap.size w3 w1:=Below.ofDrew hb1
    have hC1:=(zaa HC3).below hb1'
    have hC2:=hC1.added (nm:=nm) (p:=(wr.heap.size+1,fun _=>0)) (by simp [zgs]) hg2 hm2
    have hBB:Below w.heap.size w w2:=by
     have q2:=(zaa HBW).trans (hb1'.mono (zaa HBW).size)
     exact q2.grown hg2 q2.size (fun j hj=>by cases hj;omega)
    have HR:=zac (And.intro hC2 hBB)
    clear hC2 hBB hC1 hb1 hb1' hg2 hm2
    go_wp2
    go_roundw
    case rel =>
     refine ⟨k+1,by omega,by go_num,_,(zaa HR).1.mono (by omega),?_,(zaa HR).2⟩
     rw [zaa Htk,zwq]
     exact zx7 (x:=⟨nm,row,wt⟩) (zaa HS) (zaa Hch)
    case measure=>simp [intOf];omega
  ·go_wp2
   go_ret
   have:k=es.length:=by omega
   subst this
   refine ⟨ch,rfl,hC,?_,hB⟩
   rw [List.take_length] at hS
   exact hS
attribute [local go_sem ↓] Go.wp_at_zero Go.wp_at_succ
theorem zuv:∀ key kl,keyOf Tryz.prog 150 key=some kl→∃ x:Row,key=.agg #[.int .i64 x.1,.int .i64 x.2.1,.int .i64 x.2.2]:=by
 intro key kl h
 obtain ⟨r,_,hv,_⟩:=zk6 h
 exact ⟨r,hv⟩
theorem zo4:∀ v y,plainElem (H:=Unit) Tryz.prog 2 v=some y→∃ c,v=Value.int .i64 c:=by
 intro v y h
 obtain ⟨c,hc,_⟩:=plainElem_int_inv Tryz.underlying2 h
 exact ⟨c,hc⟩
theorem yk9 {D:DataW Unit} {g:Row→Int} (hrep:Rep D g) {x:Row} {c:Int} {kl:Lit} {y:DataW Unit×List MemPlace} (hkey:keyOf Tryz.prog 150 (.agg #[.int .i64 x.1,.int .i64 x.2.1,.int .i64 x.2.2])=some kl)
  (hv:plainElem (H:=Unit) Tryz.prog 2 (.int .i64 c)=some y) (hat:∀ zd,D.atKey kl zd=y.1):zaw x∧kl=za2 x∧c=g x:=by
 obtain ⟨r,hr,hv',rfl⟩:=zk6 hkey
 simp only [zjt,Value.agg.injEq] at hv'
 have e:x=r:=by
  simp at hv'
  exact Prod.ext hv'.1 (Prod.ext hv'.2.1 hv'.2.2)
 subst e
 obtain ⟨c',hc',rfl,_⟩:=plainElem_int_inv Tryz.underlying2 hv
 have e1:=hrep.at_ x hr
 rw [hat] at e1
 refine ⟨hr,rfl,?_⟩
 cases hc'
 exact zdk e1
theorem ze9.drewN {w:World} {b n:Nat} {f:Row→Int} (h:ze9 w b n f) (q:Nat):ze9 (w.drewN q) b n f:=h.kept rfl
theorem ze9.look {w:World} {b n:Nat} {f:Row→Int} (h:ze9 w b n f) {x:Row} (hx:zaw x):(Instr.lookup 102 (.map (some b)) (.agg #[.int .i64 x.1,.int .i64 x.2.1,.int .i64 x.2.2]) false).run Tryz.prog w=.ok (.int .i64 (f x)) w:=by
 obtain ⟨D,hown,hrep⟩:=h
 obtain ⟨c,hrun,hat,_⟩:=hown.lookup_int zf8 Tryz.underlying102 Tryz.underlying2 (zyf _) (zk5 hx)
 rw [hrep.at_ x hx] at hat
 rw [← zdk hat] at hrun
 exact hrun
attribute [local go_sem ↓] Go.wp_at_zero Go.wp_at_succ
theorem zch {α:Type}:∀ (l m:List α),l.Pairwise (·≠·)→(∀ x∈l,x∈m)→l.length≤m.length
 | [],_,_,_=>Nat.zero_le _
 | a :: l,m,hp,hs=>by
  obtain ⟨m1,m2,rfl⟩:=List.append_of_mem (hs a (List.mem_cons_self))
  have hp':=List.pairwise_cons.1 hp
  have ih:=zch l (m1 ++ m2) hp'.2 (fun x hx=>by
   have h1:=hs x (List.mem_cons_of_mem _ hx)
   have h2:x≠a:=fun e=>hp'.1 x hx e.symm
   simp only [List.mem_append,List.mem_cons] at h1 ⊢
   rcases h1 with h|h|h
   ·exact Or.inl h
   ·exact absurd h h2
   ·exact Or.inr h)
  simp only [List.length_append,List.length_cons] at ih ⊢
  omega
theorem zq9 {es:List (Lit×DataW Unit)} {p:Lit×DataW Unit} (hp:p∈es) (hk:WideAt.IsKeyLit p.1):Maps.has (.map es) p.1=true:=by
 rw [has_eq]
 exact List.any_eq_true.2 ⟨p,hp,WideAt.sameKey_self hk⟩
theorem size_le {D:DataW Unit} {h:Row→Int} (hT:Tidy D) (hK:∀ es,D=.map es→∀ p∈es,WideAt.IsKeyLit p.1) (hr:Rep D h) (G:List Row) (hG:∀ r,zaw r→h r≠0→r∈G):Maps.size D≤G.length:=by
 obtain ⟨es,rfl,hp⟩:=hT
 have hk:=hK es rfl
 have h1:(es.map (·.1)).length≤(G.map za2).length:=by
  refine zch _ _ (List.pairwise_map.2 hp) (fun x hx=>?_)
  obtain ⟨p,hpm,rfl⟩:=List.mem_map.1 hx
  have hh:=zq9 hpm (hk p hpm)
  obtain ⟨r,hw,e⟩:=hr.keys _ hh
  rw [e] at hh ⊢
  exact List.mem_map.2 ⟨r,hG r hw ((hr.has_ r hw).1 hh),rfl⟩
 simpa [size_eq] using h1
def zh5 (D:DataW Unit):Prop:=∀ es,D=.map es→∀ p∈es,WideAt.IsKeyLit p.1
theorem zrb {x p:Lit×DataW Unit}:∀ {l:List (Lit×DataW Unit)},p∈DataW.insert x l→p=x∨p∈l
 | [],h=>by simp [DataW.insert] at h;exact Or.inl h
 | y :: l,h=>by
  unfold DataW.insert at h
  split at h
  ·simp at h ⊢;exact h
  ·simp at h ⊢
   rcases h with h|h
   ·exact Or.inr (Or.inl h)
   ·rcases zrb h with h|h
    ·exact Or.inl h
    ·exact Or.inr (Or.inr h)
theorem zh5.put {D:DataW Unit} (h:zh5 D) (hD:IsMap D) (r:Row) (d:DataW Unit):zh5 (D.put (za2 r) d):=by
 obtain ⟨es,rfl⟩:=hD
 intro es' he p hp
 simp only [DataW.put,DataW.map.injEq] at he
 subst he
 rcases zrb hp with rfl|hp
 ·exact ze8 r
 ·exact h es rfl p (List.mem_filter.1 hp).1
theorem zh5.del {D:DataW Unit} (h:zh5 D) (hD:IsMap D) (k:Lit):zh5 (D.del k):=by
 obtain ⟨es,rfl⟩:=hD
 intro es' he p hp
 simp only [DataW.del,DataW.map.injEq] at he
 subst he
 exact h es rfl p (List.mem_filter.1 hp).1
theorem zmn {w:World} {b n:Nat} {D:DataW Unit} (h:w.ownsMap Tryz.prog 150 (plainElem Tryz.prog 2) b n D):zh5 D:=by
 intro es he
 obtain ⟨es',e1,_,e3⟩:=h.entries zf8
 rw [he] at e1
 cases e1
 exact e3
structure yb2 (D:DataW Unit) (f g:Row→Int) (done:Row→Prop):Prop where
 tidy:Tidy D
 keyish:zh5 D
 rep:∃ h,Rep D h∧(∀ r,zaw r→done r→h r=f r+g r)∧∀ r,zaw r→¬ done r→h r=f r
theorem yb2.step {D:DataW Unit} {f g:Row→Int} {done:Row→Prop} (hp:yb2 D f g done) {x:Row} (hx:zaw x) (hnd:¬ done x) :
  ∃ D',yb2 D' f g (fun r=>done r∨r=x) ∧
   (f x+g x≠0→f x=0→Maps.size D'=Maps.size D+1)∧(f x+g x≠0→f x≠0→Maps.size D'=Maps.size D)∧(f x+g x=0→f x≠0→Maps.size D'+1=Maps.size D):=by
 obtain ⟨hT,hK,h,hr,hd,hn⟩:=hp
 have hfx:=hn x hx hnd
 have hh:=hr.has_ x hx
 rw [hfx] at hh
 by_cases hz:f x+g x=0
 ·refine ⟨D.del (za2 x),⟨hT.del _,hK.del hT.isMap _,_,hr.del hx,fun r hw hdr=>?_,fun r hw hdr=>?_⟩,fun h=>absurd hz h,fun h=>absurd hz h,fun _ h0=>?_⟩
  ·unfold upd
   by_cases e:r=x
   ·subst e;rw [if_pos rfl,hz]
   ·rw [if_neg e];exact hd r hw (hdr.resolve_right e)
  ·unfold upd
   have e:¬ r=x:=fun e=>hdr (Or.inr e)
   rw [if_neg e];exact hn r hw (fun h=>hdr (Or.inl h))
  ·have:=size_del (k:=za2 x) hT
   rw [hh.2 h0] at this
   simpa using this
 ·refine ⟨D.put (za2 x) (.lit (.int .i64 (f x+g x))),⟨hT.put (ze8 x) _,hK.put hT.isMap _ _,_,hr.put hT.isMap hx hz,fun r hw hdr=>?_,fun r hw hdr=>?_⟩,fun _ h0=>?_,fun _ h0=>?_,fun h=>absurd h hz⟩
  ·unfold upd
   by_cases e:r=x
   ·subst e;rw [if_pos rfl]
   ·rw [if_neg e];exact hd r hw (hdr.resolve_right e)
  ·unfold upd
   have e:¬ r=x:=fun e=>hdr (Or.inr e)
   rw [if_neg e];exact hn r hw (fun h=>hdr (Or.inl h))
  ·have hf:Maps.has D (za2 x)=false:=by
    by_cases e:Maps.has D (za2 x)=true
    ·exact absurd h0 (hh.1 e)
    ·simpa using e
   rw [size_put hT,hf];rfl
  ·rw [size_put hT,hh.2 h0];rfl
attribute [local go_sem ↓] Go.wp_at_zero Go.wp_at_succ
theorem yb2.congr {D:DataW Unit} {f g:Row→Int} {d d':Row→Prop} (h:yb2 D f g d) (he:∀ r,zaw r→(d r↔d' r)):yb2 D f g d':=by
 obtain ⟨hT,hK,k,hr,h1,h2⟩:=h
 exact ⟨hT,hK,k,hr,fun r hw hd=>h1 r hw ((he r hw).2 hd),fun r hw hd=>h2 r hw (fun x=>hd ((he r hw).1 x))⟩
def zjo (Dg:DataW Unit) (left:Lit→Bool) (r:Row):Prop:=Maps.has Dg (za2 r)=true∧left (za2 r)=false
theorem zow {Dg:DataW Unit} {left:Lit→Bool} {x:Row} (hx:zaw x) (hh:Maps.has Dg (za2 x)=true):∀ r,zaw r→((zjo Dg left r∨r=x)↔zjo Dg (fun z=>left z && !z.sameKey (za2 x)) r):=by
 intro r hr
 unfold zjo
 by_cases e:r=x
 ·subst e
  simp [hh,WideAt.sameKey_self (ze8 r)]
 ·have:(za2 r).sameKey (za2 x)=false:=sameKey_ne (fun e'=>e (zd6 hr hx e'))
  simp [this,e]
theorem yb2.start {D Dg:DataW Unit} {f g:Row→Int} (hT:Tidy D) (hK:zh5 D) (hr:Rep D f):yb2 D f g (zjo Dg (Maps.has Dg)):=
 ⟨hT,hK,f,hr,fun r _ h=>(by have h1:=h.1;rw [h.2] at h1;cases h1),fun _ _ _=>rfl⟩
theorem yb2.end_ {D Dg:DataW Unit} {f g:Row→Int} {left:Lit→Bool} (h:yb2 D f g (zjo Dg left)) (hg:Rep Dg g) (hl:∀ kl,left kl=false):∃ k,Rep D k∧∀ r,zaw r→k r=f r+g r:=by
 obtain ⟨_,_,k,hr,h1,h2⟩:=h
 refine ⟨k,hr,fun r hw=>?_⟩
 by_cases hh:Maps.has Dg (za2 r)=true
 ·exact h1 r hw ⟨hh,hl _⟩
 ·have h0:g r=0:=by
   by_cases e:g r=0
   ·exact e
   ·exact absurd ((hg.has_ r hw).2 e) hh
  rw [h2 r hw (fun d=>hh d.1),h0];omega
end Go.Proofs.YtoifcnidhfnapabGreatDoor
