import Derived.Test.YtoifcnidhfnapaaGreatDoorB02
import Derived.Deep.RegionHeld3
import Derived.Deep.DrawnRows
set_option linter.unusedVariables false
set_option linter.unusedSimpArgs false
set_option maxRecDepth 100000
set_option maxHeartbeats 16000000
namespace Go.Proofs.YtoifcnidhfnapaaGreatDoor
open Go.RowKit Go.Maps
theorem yfj (w:World):(zeroValue 66).run Tryz.prog w=.ok (.pointer none) w:=by kernel_rfl
theorem yfk (w:World):(zeroValue 127).run Tryz.prog w=.ok (.map none) w:=by kernel_rfl
theorem zdz {v:Value} {b:Nat} {ps:List MemPlace} (h:zap v=some (.lit (.int .i64 b),ps)):v=.pointer (some ⟨b,0,none⟩):=by
 unfold zap at h
 split at h
 ·simp at h
  obtain ⟨h,_⟩:=h
  have h:_=b:=Int.ofNat_inj.1 h
  rw [h]
 ·simp at h
 ·simp at h
theorem zit {v:Value} {ps:List MemPlace} (h:zap v=some (.lit (.int .i64 (-1)),ps)):v=.pointer none:=by
 unfold zap at h
 split at h
 ·simp at h
 ·rfl
 ·simp at h
section
variable {w w':World} {eb db nD S E:Nat} {st:St}
theorem zfk.kept {b n:Nat} {f:Row→Int} (h:zfk w b n f) (hb:w'.heap[b]? = w.heap[b]?):zfk w' b n f:=by
 obtain ⟨D,⟨es,clock,h1,h2⟩,hr⟩:=h
 exact ⟨D,⟨es,clock,hb.trans h1,h2⟩,hr⟩
theorem za1.kept (h:za1 w eb db nD S E st) (hs:w.heap.size≤w'.heap.size) (hk:∀ k,S≤k→k<E→w'.heap[k]? = w.heap[k]?):za1 w' eb db nD S E st:=by
 obtain ⟨e,⟨D,⟨es,clock,h1,h2⟩,hD⟩,r,ap,inn,inr,top⟩:=h
 obtain ⟨xe,e,e0,nv⟩:=e
 have hv:=nv.2.2.2.2.1
 refine ⟨⟨xe,(hk _ inn.1 inn.2.1).trans e,e0,nv.kept (hk _ (by omega) (by omega)) (hk _ (by omega) (by omega))⟩,⟨D,⟨es,clock,(hk _ inn.2.2.1 inn.2.2.2).trans h1,h2⟩,hD⟩,fun nm R hR=>?_,ap,inn,inr,Nat.le_trans top hs⟩
 have i:=inr nm R hR
 exact ⟨(hk _ i.1 i.2.1).trans (r nm R hR).1,(r nm R hR).2.kept (hk _ i.2.2.1 i.2.2.2.1)⟩
theorem za1.below (h:za1 w eb db nD S E st) (hb:Below w.heap.size w w'):za1 w' eb db nD S E st:=
 h.kept hb.size (fun k _ hk=>hb.block k (Nat.lt_of_lt_of_le hk h.top))
theorem za1.drawn (h:za1 w eb db nD S E st) (hd:zbd w w'):za1 w' eb db nD S E st:=h.below (hd.below _)
theorem za1.hit (h:za1 w eb db nD S E st) {nm:ByteArray} {R:Rel} (hn:nm.size≤maxLen) (hR:st nm=some R) :
  (Instr.lookup 68 (.map (some db)) (.string nm) true).run Tryz.prog w=.ok (.tuple #[.pointer (some ⟨R.rb,0,none⟩),.bool true]) w:=by
 obtain ⟨D,hown,_,hhas,hat⟩:=h.dir
 obtain ⟨v,ps,hrun,hv⟩:=hown.look_ok zoo Tryz.underlying68 (yfj _) (zd:=.lit (.int .i64 (-1))) (zp:=[]) rfl (zdj hn)
 rw [hat nm R hn hR] at hv
 rw [zdz hv,hhas nm hn,hR] at hrun
 exact hrun
theorem za1.miss (h:za1 w eb db nD S E st) {nm:ByteArray} (hn:nm.size≤maxLen) (hR:st nm=none) :
  (Instr.lookup 68 (.map (some db)) (.string nm) true).run Tryz.prog w=.ok (.tuple #[.pointer none,.bool false]) w:=by
 obtain ⟨D,hown,_,hhas,hat⟩:=h.dir
 obtain ⟨v,ps,hrun,hv⟩:=hown.look_ok zoo Tryz.underlying68 (yfj _) (zd:=.lit (.int .i64 (-1))) (zp:=[]) rfl (zdj hn)
 have h0:Maps.has D (zas nm)=false:=by rw [hhas nm hn,hR];rfl
 rw [atKey_of_not_has h0] at hv
 rw [zit hv,h0] at hrun
 exact hrun
theorem za1.get (h:za1 w eb db nD S E st) {nm:ByteArray} {R:Rel} (hn:nm.size≤maxLen) (hR:st nm=some R) :
  (Instr.lookup 68 (.map (some db)) (.string nm) false).run Tryz.prog w=.ok (.pointer (some ⟨R.rb,0,none⟩)) w:=by
 obtain ⟨D,hown,_,hhas,hat⟩:=h.dir
 obtain ⟨v,ps,hrun,hv⟩:=hown.lookup zoo Tryz.underlying68 (yfj _) (zd:=.lit (.int .i64 (-1))) (zp:=[]) rfl (zdj hn)
 rw [hat nm R hn hR] at hv
 rw [zdz hv] at hrun
 exact hrun
end
def yip (x:Ent) (v:Value):Value:=.agg #[.string x.nm,v,.int .i64 x.wt]
theorem yjv (x:Ent) (v:Value) (w:World) {eb db nD S E:Nat} {st:St} (h:za1 w eb db nD S E st) (hn:x.nm.size≤maxLen) (hR:st x.nm=none) :
  Calls Tryz.prog 67 #[.pointer (some ⟨eb,0,none⟩),yip x v] w fun e w'=>e=.returned (.int .i64 6)∧Below w.heap.size w w':=by
 obtain ⟨nm,row,wt⟩:=x
 have hrun:∀ n,(Instr.lookup 68 (.map (some db)) (.string nm) true).run Tryz.prog ((w.alloc (.cells #[.string nm,v,.int .i64 wt] 64)).drewN n)=.ok (.tuple #[.pointer none,.bool false]) ((w.alloc (.cells #[.string nm,v,.int .i64 wt] 64)).drewN n):=
  fun n=>((h.below ((Below.refl _ _).alloc (Nat.le_refl _) _)).drawn (zbd.ofN _ n)).miss hn hR
 have c0:w.cell? ⟨eb,0,none⟩=some (.map (some db)):=h.c0
 have hne:¬ eb=w.heap.size:=by have:=h.inn;have:=h.top;omega
 have hlt:eb<w.heap.size:=by have:=h.inn;have:=h.top;omega
 have H:=zac h
 clear h hR
 unfold yip
 dsimp only
 go_enter Tryz.func67,Tryz.ntmps67
 go_wp2
 go_quiet (fail)
 go_wp2
 go_ret
 exact ⟨rfl,((Below.refl _ _).alloc (Nat.le_refl _) _).trans ((zbd.ofN _ _).below _)⟩
theorem yim (x:Ent) (a:Option Addr) (cap:Nat) (w:World) {eb db nD S E:Nat} {st:St} {R:Rel} (h:za1 w eb db nD S E st) (hn:x.nm.size≤maxLen) (hR:st x.nm=some R) (hl:x.row.length≤1000000000) (ha:x.row.length=R.ar) (hw:x.wt < -1000) :
  Calls Tryz.prog 67 #[.pointer (some ⟨eb,0,none⟩),yip x (.slice a x.row.length cap)] w fun e w'=>e=.returned (.int .i64 9)∧Below w.heap.size w w':=by
 obtain ⟨nm,row,wt⟩:=x
 dsimp only at hn hR hl ha hw
 have hE:za1 (w.alloc (.cells #[.string nm,.slice a row.length cap,.int .i64 wt] 64)) eb db nD S E st:=h.below ((Below.refl _ _).alloc (Nat.le_refl _) _)
 have hrun:∀ n,(Instr.lookup 68 (.map (some db)) (.string nm) true).run Tryz.prog ((w.alloc (.cells #[.string nm,.slice a row.length cap,.int .i64 wt] 64)).drewN n)=.ok (.tuple #[.pointer (some ⟨R.rb,0,none⟩),.bool true]) ((w.alloc (.cells #[.string nm,.slice a row.length cap,.int .i64 wt] 64)).drewN n):=
  fun n=>(hE.drawn (zbd.ofN _ n)).hit hn hR
 have hrel:(w.alloc (.cells #[.string nm,.slice a row.length cap,.int .i64 wt] 64)).heap[R.rb]? = some (.cells #[.int .i64 R.ar,.map (some R.mb)] 129 (0,0)):=(hE.rel nm R hR).1
 have c0:w.cell? ⟨eb,0,none⟩=some (.map (some db)):=h.c0
 have hne:¬ eb=w.heap.size:=by have:=h.inn;have:=h.top;omega
 have hlt:eb<w.heap.size:=by have:=h.inn;have:=h.top;omega
 have hab:((row.length:Int) != (R.ar:Int))=false:=by simp [ha]
 clear ha
 have HR:=zac hrel
 clear h hR hE hrel
 unfold yip
 dsimp only
 go_enter Tryz.func67,Tryz.ntmps67
 go_wp2
 go_quiet (fail)
 go_wp2_with fail
 have k0:((w.alloc (.cells #[.string nm,.slice a row.length cap,.int .i64 wt] 64)).drewN nq).heap[w.heap.size]? = some (.cells #[.string nm,.slice a row.length cap,.int .i64 wt] 64 (0,0)):=zae w _ _ rfl
 have HR':Hid (((w.alloc (.cells #[.string nm,.slice a row.length cap,.int .i64 wt] 64)).drewN nq).heap[R.rb]? = some (.cells #[.int .i64 R.ar,.map (some R.mb)] 129 (0,0))):=zaa HR
 have HB:=zac (((Below.refl w.heap.size w).alloc (Nat.le_refl _) (.cells #[.string nm,.slice a row.length cap,.int .i64 wt] 64)).trans ((zbd.ofN _ nq).below _))
 clear hrun HR
 generalize (w.alloc (.cells #[.string nm,.slice a row.length cap,.int .i64 wt] 64)).drewN nq=W at *
 have e1:W.cell? ⟨w.heap.size,1,none⟩=some (.slice a row.length cap):=zab k0 1
 have e2:W.cell? ⟨w.heap.size,2,none⟩=some (.int .i64 wt):=zab k0 2
 clear k0
 go_quiet ((go_at_call 40;exact Calls.quiet_of_same (zkt R.rb R.ar R.mb _ (zaa HR'))))
 go_wp2
 go_ret
 exact ⟨rfl,(zaa HB).trans ((zbd.ofN _ _).below _)⟩
theorem yf1 (x:Ent) (a:Option Addr) (cap:Nat) (w:World) {eb db nD S E:Nat} {st:St} {R:Rel} (h:za1 w eb db nD S E st) (hn:x.nm.size≤maxLen) (hR:st x.nm=some R) (hl:x.row.length≤1000000000) (ha:x.row.length=R.ar) (hw:-1000≤x.wt∧x.wt≤1000) :
  Calls Tryz.prog 67 #[.pointer (some ⟨eb,0,none⟩),yip x (.slice a x.row.length cap)] w fun e w'=>e=.returned (.int .i64 0)∧Below w.heap.size w w':=by
 obtain ⟨nm,row,wt⟩:=x
 dsimp only at hn hR hl ha hw
 have hE:za1 (w.alloc (.cells #[.string nm,.slice a row.length cap,.int .i64 wt] 64)) eb db nD S E st:=h.below ((Below.refl _ _).alloc (Nat.le_refl _) _)
 have hrun:∀ n,(Instr.lookup 68 (.map (some db)) (.string nm) true).run Tryz.prog ((w.alloc (.cells #[.string nm,.slice a row.length cap,.int .i64 wt] 64)).drewN n)=.ok (.tuple #[.pointer (some ⟨R.rb,0,none⟩),.bool true]) ((w.alloc (.cells #[.string nm,.slice a row.length cap,.int .i64 wt] 64)).drewN n):=
  fun n=>(hE.drawn (zbd.ofN _ n)).hit hn hR
 have hrel:(w.alloc (.cells #[.string nm,.slice a row.length cap,.int .i64 wt] 64)).heap[R.rb]? = some (.cells #[.int .i64 R.ar,.map (some R.mb)] 129 (0,0)):=(hE.rel nm R hR).1
 have c0:w.cell? ⟨eb,0,none⟩=some (.map (some db)):=h.c0
 have hne:¬ eb=w.heap.size:=by have:=h.inn;have:=h.top;omega
 have hlt:eb<w.heap.size:=by have:=h.inn;have:=h.top;omega
 have hab:((row.length:Int) != (R.ar:Int))=false:=by simp [ha]
 clear ha
 have hw1:¬ wt < -1000:=by omega
 have hw2:¬ 1000<wt:=by omega
 clear hw
 have HR:=zac hrel
 clear h hR hE hrel
 unfold yip
 dsimp only
 go_enter Tryz.func67,Tryz.ntmps67
 go_wp2
 go_quiet (fail)
 go_wp2_with fail
 have k0:((w.alloc (.cells #[.string nm,.slice a row.length cap,.int .i64 wt] 64)).drewN nq).heap[w.heap.size]? = some (.cells #[.string nm,.slice a row.length cap,.int .i64 wt] 64 (0,0)):=zae w _ _ rfl
 have HR':Hid (((w.alloc (.cells #[.string nm,.slice a row.length cap,.int .i64 wt] 64)).drewN nq).heap[R.rb]? = some (.cells #[.int .i64 R.ar,.map (some R.mb)] 129 (0,0))):=zaa HR
 have HB:=zac (((Below.refl w.heap.size w).alloc (Nat.le_refl _) (.cells #[.string nm,.slice a row.length cap,.int .i64 wt] 64)).trans ((zbd.ofN _ nq).below _))
 clear hrun HR
 generalize (w.alloc (.cells #[.string nm,.slice a row.length cap,.int .i64 wt] 64)).drewN nq=W at *
 have e1:W.cell? ⟨w.heap.size,1,none⟩=some (.slice a row.length cap):=zab k0 1
 have e2:W.cell? ⟨w.heap.size,2,none⟩=some (.int .i64 wt):=zab k0 2
 clear k0
 go_quiet ((go_at_call 40;exact Calls.quiet_of_same (zkt R.rb R.ar R.mb _ (zaa HR'))))
 go_wp2
 go_ret
 exact ⟨rfl,(zaa HB).trans ((zbd.ofN _ _).below _)⟩
theorem zbn.below {w w':World} {v:Value} {zs:List Int} (h:zbn w v zs) (hb:Below w.heap.size w w'):zbn w' v zs:=by
 obtain ⟨a,cap,rfl,hc⟩:=h
 exact ⟨a,cap,rfl,fun i hi=>by obtain ⟨b,o,ha,hx⟩:=hc i hi;exact ⟨b,o,ha,by rw [hb.cell (p:=⟨b,o+i,none⟩) (World.block_lt_of_cell? w _ hx)];exact hx⟩⟩
def zg1:Ent:=⟨⟨#[]⟩,[],0⟩
def zf5 (w:World) (v:Value) (es:List Ent):Prop:=
 ∃ a cap,v=.slice a es.length cap∧∀ i,i<es.length→∃ b o sv,a=some ⟨b,o,none⟩∧w.cell? ⟨b,o+i*3,none⟩=some (.string (es[i]?.getD zg1).nm) ∧
  w.cell? ⟨b,o+i*3+1,none⟩=some sv∧zbn w sv (es[i]?.getD zg1).row∧w.cell? ⟨b,o+i*3+2,none⟩=some (.int .i64 (es[i]?.getD zg1).wt)
theorem zf5.below {w w':World} {v:Value} {es:List Ent} (h:zf5 w v es) (hb:Below w.heap.size w w'):zf5 w' v es:=by
 obtain ⟨a,cap,rfl,hc⟩:=h
 refine ⟨a,cap,rfl,fun i hi=>?_⟩
 obtain ⟨b,o,sv,ha,h1,h2,h3,h4⟩:=hc i hi
 have hl:b<w.heap.size:=World.block_lt_of_cell? w _ h1
 exact ⟨b,o,sv,ha,by rw [hb.cell (p:=⟨b,_,none⟩) hl];exact h1,by rw [hb.cell (p:=⟨b,_,none⟩) hl];exact h2,h3.below hb,by rw [hb.cell (p:=⟨b,_,none⟩) hl];exact h4⟩
def znv (x:Ent):Prop:=x.nm.size≤1000∧x.row.length≤3∧zaw (zb7 x.row)∧-1000≤x.wt∧x.wt≤1000
def zcx (es:List Ent) (nm:ByteArray) (r:Row):Int:=
 match es with
 | []=>0
 | x :: rest=>(if x.nm=nm∧zb7 x.row=r then x.wt else 0)+zcx rest nm r
theorem zlg (es:List Ent) (x:Ent) (nm:ByteArray) (r:Row):zcx (es ++ [x]) nm r=zcx es nm r+(if x.nm=nm∧zb7 x.row=r then x.wt else 0):=by
 induction es with
 | nil=>simp [zcx]
 | cons y ys ih=>simp only [List.cons_append,zcx,ih];omega
theorem yev (es:List Ent) (h:∀ x∈es,znv x) (nm:ByteArray) (r:Row):-(1000*(es.length:Int))≤zcx es nm r∧zcx es nm r≤1000*(es.length:Int):=by
 induction es with
 | nil=>simp [zcx]
 | cons y ys ih =>
  have h1:=ih (fun x hx=>h x (List.mem_cons_of_mem _ hx))
  have h2:=(h y (List.mem_cons_self)).2.2.2
  simp only [zcx,List.length_cons]
  split <;> omega
theorem zc2 (s:ByteArray):WideAt.IsKeyLit (zas s):=trivial
abbrev Ch:=ByteArray→Option (Nat×(Row→Int))
structure zce (w:World) (cb B n:Nat) (ch:Ch):Prop where
 dir:∃ D,w.ownsMap Tryz.prog 9 zc4 cb n D∧(∀ nm,nm.size≤maxLen→Maps.has D (zas nm)=(ch nm).isSome) ∧
  (∀ nm p,nm.size≤maxLen→ch nm=some p→∀ zd,D.atKey (zas nm) zd=.lit (.int .i64 p.1))
 each:∀ nm p,ch nm=some p→zfk w p.1 n p.2∧B≤p.1∧p.1≠cb
 apart:∀ nm nm' p p',ch nm=some p→ch nm'=some p'→nm≠nm'→p.1≠p'.1
 base:B≤cb
def zmt (es:List Ent) (ch:Ch):Prop:=∀ nm,(ch nm=none→∀ x∈es,x.nm≠nm)∧∀ p,ch nm=some p→(∃ x∈es,x.nm=nm)∧p.2=zcx es nm
theorem zfk.lt {w:World} {b n:Nat} {f:Row→Int} (h:zfk w b n f):b<w.heap.size:=by
 obtain ⟨D,h1,_⟩:=h
 exact h1.lt
theorem zfk.mono {w:World} {b n n':Nat} {f:Row→Int} (h:zfk w b n f) (hn:n≤n'):zfk w b n' f:=by
 obtain ⟨D,h1,h2⟩:=h
 exact ⟨D,h1.mono hn,h2⟩
section
variable {w w':World} {cb B n:Nat} {ch:Ch}
theorem zce.lt (h:zce w cb B n ch):cb<w.heap.size:=by
 obtain ⟨D,h1,_⟩:=h.dir
 exact h1.lt
theorem zce.kept (h:zce w cb B n ch) (hb:∀ k,B≤k→k<w.heap.size→w'.heap[k]? = w.heap[k]?):zce w' cb B n ch:=by
 have hlt:=h.lt
 obtain ⟨⟨D,⟨es,clock,h1,h2⟩,hD⟩,ea,ap,ba⟩:=h
 refine ⟨⟨D,⟨es,clock,(hb _ ba hlt).trans h1,h2⟩,hD⟩,fun nm p hp=>?_,ap,ba⟩
 obtain ⟨e1,e2,e3⟩:=ea nm p hp
 exact ⟨e1.kept (hb _ e2 e1.lt),e2,e3⟩
theorem zce.mono (h:zce w cb B n ch) {n':Nat} (hn:n≤n'):zce w cb B n' ch:=by
 obtain ⟨⟨D,h1,hD⟩,ea,ap,ba⟩:=h
 exact ⟨⟨D,h1.mono hn,hD⟩,fun nm p hp=>⟨(ea nm p hp).1.mono hn,(ea nm p hp).2⟩,ap,ba⟩
theorem zce.below (h:zce w cb B n ch) (hb:Below w.heap.size w w'):zce w' cb B n ch:=h.kept (fun k _ hk=>hb.block k hk)
theorem zj8 {v:Value} {b:Nat} {ps:List MemPlace} (h:zc4 v=some (.lit (.int .i64 b),ps)):v=.map (some b):=by
 unfold zc4 at h
 split at h
 ·simp at h
  obtain ⟨h,_⟩:=h
  have h:_=b:=Int.ofNat_inj.1 h
  rw [h]
 ·simp at h
 ·simp at h
theorem zm3 {v:Value} {ps:List MemPlace} (h:zc4 v=some (.lit (.int .i64 (-1)),ps)):v=.map none:=by
 unfold zc4 at h
 split at h
 ·simp at h
 ·rfl
 ·simp at h
theorem zce.hit (h:zce w cb B n ch) {nm:ByteArray} {p:Nat×(Row→Int)} (hn:nm.size≤maxLen) (hR:ch nm=some p) :
  (Instr.lookup 136 (.map (some cb)) (.string nm) true).run Tryz.prog w=.ok (.tuple #[.map (some p.1),.bool true]) w:=by
 obtain ⟨D,hown,hhas,hat⟩:=h.dir
 obtain ⟨v,ps,hrun,hv⟩:=hown.look_ok zoo Tryz.underlying136 (yfk _) (zd:=.lit (.int .i64 (-1))) (zp:=[]) rfl (zdj hn)
 rw [hat nm p hn hR] at hv
 rw [zj8 hv,hhas nm hn,hR] at hrun
 exact hrun
theorem zce.miss (h:zce w cb B n ch) {nm:ByteArray} (hn:nm.size≤maxLen) (hR:ch nm=none) :
  (Instr.lookup 136 (.map (some cb)) (.string nm) true).run Tryz.prog w=.ok (.tuple #[.map none,.bool false]) w:=by
 obtain ⟨D,hown,hhas,hat⟩:=h.dir
 obtain ⟨v,ps,hrun,hv⟩:=hown.look_ok zoo Tryz.underlying136 (yfk _) (zd:=.lit (.int .i64 (-1))) (zp:=[]) rfl (zdj hn)
 have h0:Maps.has D (zas nm)=false:=by rw [hhas nm hn,hR];rfl
 rw [atKey_of_not_has h0] at hv
 rw [zm3 hv,h0] at hrun
 exact hrun
def zg7 (ch:Ch) (nm:ByteArray) (p:Nat×(Row→Int)):Ch:=fun m=>if m=nm then some p else ch m
theorem zce.added (h:zce w cb B n ch) {nm:ByteArray} {p:Nat×(Row→Int)} {g:Row→Int} (hR:ch nm=some p) (hg:w.grownBy w' (some p.1)) (hW:zfk w' p.1 (n+1) g):zce w' cb B (n+1) (zg7 ch nm (p.1,g)):=by
 have hlt:=h.lt
 have hp:=h.each nm p hR
 obtain ⟨⟨D,⟨es,clock,h1,h2⟩,hhas,hat⟩,ea,ap,ba⟩:=h
 have hcb:w'.heap[cb]? = w.heap[cb]?:=hg.block _ hlt (fun e=>hp.2.2 (by injection e with e;exact e.symm))
 refine ⟨⟨D,(show w'.ownsMap Tryz.prog 9 zc4 cb n D from ⟨es,clock,hcb.trans h1,h2⟩).mono (Nat.le_succ _),fun m hm=>?_,fun m q hm hq=>?_⟩,fun m q hq=>?_,fun m m' q q' hq hq' hne=>?_,ba⟩
 ·rw [hhas m hm];unfold zg7;by_cases e:m=nm <;> simp [e,hR]
 ·unfold zg7 at hq
  by_cases e:m=nm
  ·subst e;simp at hq;subst hq;exact hat _ p hm hR
  ·simp [e] at hq;exact hat m q hm hq
 ·unfold zg7 at hq
  by_cases e:m=nm
  ·subst e;simp at hq;subst hq;exact ⟨hW,hp.2⟩
  ·simp [e] at hq
   have hm:=ea m q hq
   exact ⟨(hm.1.kept (hg.block _ hm.1.lt (fun e'=>ap m nm q p hq hR e (by injection e')))).mono (Nat.le_succ _),hm.2⟩
 ·unfold zg7 at hq hq'
  by_cases e:m=nm
  ·subst e
   have e':¬ m'=m:=fun x=>hne x.symm
   simp at hq;simp [e'] at hq';subst hq
   exact ap m m' p q' hR hq' hne
  ·simp [e] at hq
   by_cases e':m'=nm
   ·subst e';simp at hq';subst hq';exact ap m m' q p hq hR hne
   ·simp [e'] at hq';exact ap m m' q q' hq hq' hne
theorem zce.begun {D:DataW Unit} (h:zce w cb B n ch) {nm:ByteArray} {b:Nat} (hnm:nm.size≤maxLen) (hR:ch nm=none) (hg:w.grownBy w' (some cb)) (hb:zfk w b 0 (fun _=>0)) (hb2:B≤b) (hb3:b≠cb)
  (hfresh:∀ m p,ch m=some p→p.1≠b) (hhas:∀ m,m.size≤maxLen→Maps.has D (zas m)=(ch m).isSome) (hat:∀ m p,m.size≤maxLen→ch m=some p→∀ zd,D.atKey (zas m) zd=.lit (.int .i64 p.1)) (hD:IsMap D)
  (hown:w'.ownsMap Tryz.prog 9 zc4 cb (n+1) (D.put (zas nm) (.lit (.int .i64 b)))):zce w' cb B (n+1) (zg7 ch nm (b,fun _=>0)):=by
 refine ⟨⟨_,hown,fun m hm=>?_,fun m q hm hq=>?_⟩,fun m q hq=>?_,fun m m' q q' hq hq' hne=>?_,h.base⟩
 ·unfold zg7
  by_cases e:m=nm
  ·subst e;rw [has_put_same hD (zc2 _)];simp
  ·rw [has_put_other (fun e'=>e (zdb e')),hhas m hm];simp [e]
 ·unfold zg7 at hq
  intro zd
  by_cases e:m=nm
  ·subst e;simp at hq;subst hq;exact atKey_put_same hD (zc2 _) _ _
  ·simp [e] at hq;rw [atKey_put_other (fun e'=>e (zdb e'))];exact hat m q hm hq zd
 ·unfold zg7 at hq
  by_cases e:m=nm
  ·subst e;simp at hq;subst hq;exact ⟨(hb.kept (hg.block _ hb.lt (fun e=>hb3 (by injection e)))).mono (by omega),hb2,hb3⟩
  ·simp [e] at hq
   have hm:=h.each m q hq
   exact ⟨(hm.1.kept (hg.block _ hm.1.lt (fun e'=>hm.2.2 (by injection e')))).mono (Nat.le_succ _),hm.2⟩
 ·unfold zg7 at hq hq'
  by_cases e:m=nm
  ·subst e
   have e':¬ m'=m:=fun x=>hne x.symm
   simp at hq;simp [e'] at hq';subst hq
   exact fun x=>hfresh m' q' hq' x.symm
  ·simp [e] at hq
   by_cases e':m'=nm
   ·subst e';simp at hq';subst hq';exact hfresh m q hq
   ·simp [e'] at hq';exact h.apart m m' q q' hq hq' hne
end
theorem ybn {es:List Ent} {ch:Ch} {x:Ent} {p:Nat×(Row→Int)} (h:zmt es ch) (hp:ch x.nm=some p):zmt (es ++ [x]) (zg7 ch x.nm (p.1,upd p.2 (zb7 x.row) (p.2 (zb7 x.row)+x.wt))):=by
 intro nm
 have hf:=((h x.nm).2 p hp).2
 unfold zg7
 by_cases e:nm=x.nm
 ·subst e
  refine ⟨fun hn=>by simp at hn,fun q hq=>?_⟩
  simp at hq
  subst hq
  refine ⟨⟨x,by simp,rfl⟩,?_⟩
  funext r
  rw [zlg,hf]
  unfold upd
  by_cases e:r=zb7 x.row
  ·subst e;simp
  ·simp [e,Ne.symm e]
 ·simp only [if_neg e]
  refine ⟨fun hn y hy=>?_,fun q hq=>?_⟩
  ·rcases List.mem_append.1 hy with hy|hy
   ·exact (h nm).1 hn y hy
   ·simp at hy;subst hy;exact fun x=>e x.symm
  ·obtain ⟨⟨y,hy,hyn⟩,hq2⟩:=(h nm).2 q hq
   refine ⟨⟨y,by simp [hy],hyn⟩,?_⟩
   funext r
   rw [zlg,hq2]
   simp [Ne.symm e]
theorem zx8 {es:List Ent} {ch:Ch} {x:Ent} {b:Nat} (h:zmt es ch) (hp:ch x.nm=none):zmt (es ++ [x]) (zg7 ch x.nm (b,upd (fun _=>0) (zb7 x.row) (0+x.wt))):=by
 intro nm
 have hno:=(h x.nm).1 hp
 have h0:∀ (l:List Ent),(∀ y∈l,y.nm≠x.nm)→∀ r,zcx l x.nm r=0:=by
  intro l
  induction l with
  | nil=>intro _ r;rfl
  | cons y ys ih =>
   intro hy r
   simp only [zcx]
   rw [ih (fun z hz=>hy z (List.mem_cons_of_mem _ hz)) r]
   simp [hy y (List.mem_cons_self)]
 unfold zg7
 by_cases e:nm=x.nm
 ·subst e
  refine ⟨fun hn=>by simp at hn,fun q hq=>?_⟩
  simp at hq
  subst hq
  refine ⟨⟨x,by simp,rfl⟩,?_⟩
  funext r
  rw [zlg,h0 es hno r]
  unfold upd
  by_cases e:r=zb7 x.row
  ·subst e;simp
  ·simp [e,Ne.symm e]
 ·simp only [if_neg e]
  refine ⟨fun hn y hy=>?_,fun q hq=>?_⟩
  ·rcases List.mem_append.1 hy with hy|hy
   ·exact (h nm).1 hn y hy
   ·simp at hy;subst hy;exact fun x=>e x.symm
  ·obtain ⟨⟨y,hy,hyn⟩,hq2⟩:=(h nm).2 q hq
   refine ⟨⟨y,by simp [hy],hyn⟩,?_⟩
   funext r
   rw [zlg,hq2]
   simp [Ne.symm e]
attribute [local go_sem ↓] Go.wp_at_zero Go.wp_at_succ
theorem zwo (ch:Ch) (nm:ByteArray) (p q:Nat×(Row→Int)):zg7 (zg7 ch nm p) nm q=zg7 ch nm q:=by
 funext m
 unfold zg7
 by_cases e:m=nm <;> simp [e]
theorem Below.ofDrew {W w1:World} (h:Below W.drew.heap.size W.drew w1):Below W.heap.size W w1:=⟨h.os,h.tape,h.output,h.size,h.block⟩
theorem yjk (v:Value) (es:List Ent) (w:World) (hv:zf5 w v es) (hg:∀ x∈es,znv x) (hl:es.length≤64) :
  Calls Tryz.prog 68 #[v] w fun e w'=>∃ ch,e=.returned (.map (some w.heap.size))∧zce w' w.heap.size w.heap.size (2*es.length) ch∧zmt es ch∧Below w.heap.size w w':=by
 have Hv:=zac hv
 obtain ⟨a,cap,rfl,hc⟩:=hv
 have Hc:=zac hc
 have Hg:=zac hg
 clear hc hg
 have hmm:=@run_makeMap Tryz.prog
 go_enter Tryz.func68,Tryz.ntmps68
 go_wp2
 go_loopw [11] (fun i wr=>∃ k:Nat,k≤es.length∧i=.int .i64 k∧∃ ch,zce wr w.heap.size w.heap.size (2*k) ch∧zmt (es.take k) ch∧Below w.heap.size w wr) (fun i _=>es.length - (intOf i).toNat)
 case atStart =>
  refine ⟨0,Nat.zero_le _,rfl,fun _=>none,⟨⟨.map [],World.ownsMap_made _ _ _ _,fun _ _=>rfl,fun _ _ _ h=>by cases h⟩,fun _ _ h=>(by cases h),fun _ _ _ _ h=>(by cases h),Nat.le_refl _⟩,?_,(Below.refl _ _).alloc (Nat.le_refl _) _⟩
  intro nm
  exact ⟨fun _ x hx=>by simp at hx,fun p h=>by cases h⟩
 case round =>
  obtain ⟨k,hk,rfl,ch,hC,hS,hB⟩:=hrel
  by_cases hlt:k<es.length
  ·obtain ⟨b,o,sv,rfl,h1,h2,h3,h4⟩:=(zaa Hc) k hlt
   have hx:(k:Int)<(es.length:Int):=by omega
   have hbl:b<w.heap.size:=World.block_lt_of_cell? w _ h1
   have h3c:=h3
   obtain ⟨a2,cap2,rfl,_⟩:=h3c
   obtain ⟨x,hxe⟩:∃ x,x=es[k]?.getD zg1:=⟨_,rfl⟩
   rw [← hxe] at h1 h2 h3 h4
   have hgx:znv x:=by rw [hxe];simp [hlt];exact (zaa Hg) _ (List.getElem_mem hlt)
   have htk:es.take (k+1)=es.take k ++ [x]:=by rw [List.take_succ_eq_append_getElem hlt,hxe];simp [hlt]
   have Htk:=zac htk
   clear hxe htk
   rw [← hB.cell (p:=⟨b,_,none⟩) hbl] at h1 h2 h4
   have h3':=(h3.below hB).below ((Below.refl wr.heap.size wr).alloc (Nat.le_refl _) (.cells #[.string x.nm,.slice a2 x.row.length cap2,.int .i64 x.wt] 64))
   obtain ⟨nm,row,wt⟩:=x
   dsimp only at h1 h2 h3 h3' h4
   have hnm:nm.size≤maxLen:=Nat.le_trans hgx.1 (by unfold maxLen;omega)
   have hC1:zce (wr.alloc (.cells #[.string nm,.slice a2 row.length cap2,.int .i64 wt] 64)) w.heap.size w.heap.size (2*k) ch:=hC.below ((Below.refl _ _).alloc (Nat.le_refl _) _)
   have H3:=zac h3'
   have H3w:=zac h3
   have HC:=zac hC
   have HC1:=zac hC1
   have HS:=zac hS
   have HB:=zac hB
   have Hgx:=zac hgx
   cases hch:ch nm with
   | some p =>
    have hrun:=hC1.hit hnm hch
    have Hch:=zac hch
    clear h3 h3' hC hC1 hS hB hgx hch hnm
    go_wp2
    have kE:(wr.alloc (.cells #[.string nm,.slice a2 row.length cap2,.int .i64 wt] 64)).heap[wr.heap.size]? = some (.cells #[.string nm,.slice a2 row.length cap2,.int .i64 wt] 64 (0,0)):=zae wr _ _ rfl
    have HBW:Hid (Below wr.heap.size wr (wr.alloc (.cells #[.string nm,.slice a2 row.length cap2,.int .i64 wt] 64))):=(Below.refl _ _).alloc (Nat.le_refl _) _
    clear hrun h1 h2 h4
    generalize wr.alloc (.cells #[.string nm,.slice a2 row.length cap2,.int .i64 wt] 64)=W at *
    have e1:W.cell? ⟨wr.heap.size,1,none⟩=some (.slice a2 row.length cap2):=zab kE 1
    have e2:W.cell? ⟨wr.heap.size,2,none⟩=some (.int .i64 wt):=zab kE 2
    have hWs:wr.heap.size<W.heap.size:=(Array.getElem?_eq_some_iff.1 kE).1
    have hp1:p.1<wr.heap.size:=((zaa HC).each nm p (zaa Hch)).1.lt
    have Hf:Hid (∀ r,-1000000≤p.2 r∧p.2 r≤1000000):=by
     intro r
     have h1:=((zaa HS) nm).2 p (zaa Hch)
     have h2:=yev (es.take k) (fun y hy=>(zaa Hg) y (List.mem_of_mem_take hy)) nm r
     have h3:(es.take k).length≤64:=Nat.le_trans (by simp;omega) hl
     rw [h1.2]
     omega
    clear kE
    go_region_held3 (fun W'=>W'.cell? ⟨wr.heap.size,1,none⟩=some (.slice a2 row.length cap2)∧W'.cell? ⟨wr.heap.size,2,none⟩=some (.int .i64 wt))
     (first
      | go_keep
      | (go_split_ands;refine ⟨?_,?_⟩ <;> (rw [hb1.cell (by simpa using hWs)];assumption))
      | (go_split_ands;refine ⟨?_,?_⟩ <;> (rw [World.cell?_of_block (hg2.block wr.heap.size (by have:=hb1.size;simp at this;omega) (by simp;omega))];assumption)))
     (first
      | (go_at_call 118;refine (zvc _ row _ ?_ (zaa Hgx).2.1).mono ?_;exact (zaa H3);rintro e w1 ⟨rfl,hb1⟩)
      | (go_at_call 117;refine (zwf p.1 (2*k) p.2 (zb7 row) wt _ ?_ (by omega) (zaa Hgx).2.2.1 ((zaa Hf) _).1 ((zaa Hf) _).2 (by have:=(zaa Hgx).2.2.2.1;dsimp only at this;omega) (by have:=(zaa Hgx).2.2.2.2;dsimp only at this;omega)).mono ?_;exact ((zaa HC1).each nm p (zaa Hch)).1.kept (hb1.block _ (by simp;omega));rintro e w2 ⟨rfl,hm2,hg2⟩))
    have hb1':Below W.heap.size W w1:=Below.ofDrew hb1
    have hC1:=(zaa HC1).below hb1'
    have hC2:=hC1.added (zaa Hch) hg2 hm2
    have hpB:=((zaa HC).each nm p (zaa Hch)).2.1
    have hBB:Below w.heap.size w w2:=by
     have q1:=(zaa HB).trans ((zaa HBW).mono (zaa HB).size)
     have q2:=q1.trans (hb1'.mono q1.size)
     exact q2.grown hg2 q2.size (fun j hj=>by cases hj;exact hpB)
    have HR:=zac (And.intro hC2 hBB)
    clear hC2 hBB hC1 hb1 hb1' hg2 hm2 hpB
    go_wp2
    go_roundw
    case rel =>
     refine ⟨k+1,by omega,by go_num,_,(zaa HR).1.mono (by omega),?_,(zaa HR).2⟩
     rw [zaa Htk]
     exact ybn (x:=⟨nm,row,wt⟩) (zaa HS) (zaa Hch)
    case measure=>simp [intOf];omega
   | none =>
    have hrun:=hC1.miss hnm hch
    obtain ⟨D,hown,hhas,hat⟩:=hC1.dir
    have hownA:=hown.alloc (.map #[] 0)
    have Hhas:=zac hhas
    have Hat:=zac hat
    have hkey:=zdj hnm
    have Hch:=zac hch
    have Hnm:=zac hnm
    have hcbl:w.heap.size<wr.heap.size:=hC.lt
    clear h3 h3' hC hC1 hS hB hgx hch hnm hhas hat
    go_wp2_with (first
     | (at_mapUpdate;refine wpList_mapUpdate_own _ rfl _ _ _ 136 rfl 9 127 zoo Tryz.underlying136 _ w.heap.size (2*k) D rfl hownA (by unfold maxLen;omega) _ _ _ rfl rfl hkey _ [] (show zc4 (.map (some (wr.heap.size+1)))=some (.lit (.int .i64 ((wr.heap.size+1:Nat):Int)),[]) from rfl) ?_;intro w3 hown3 hgrow3)
     | go_in)
    go_frame
    have hCA:zce ((wr.alloc (.cells #[.string nm,.slice a2 row.length cap2,.int .i64 wt] 64)).alloc (.map #[] 0)) w.heap.size w.heap.size (2*k) ch:=(zaa HC1).below ((Below.refl _ _).alloc (Nat.le_refl _) _)
    have hmade:zfk ((wr.alloc (.cells #[.string nm,.slice a2 row.length cap2,.int .i64 wt] 64)).alloc (.map #[] 0)) (wr.heap.size+1) 0 (fun _=>0):=
     ⟨.map [],by have:=World.ownsMap_made (wr.alloc (.cells #[.string nm,.slice a2 row.length cap2,.int .i64 wt] 64)) Tryz.prog 77 (plainElem (H:=Unit) Tryz.prog 2);simpa using this,⟨fun _ _=>rfl,fun _ _=>by simp [Maps.has],fun _ h=>by simp [Maps.has] at h⟩⟩
    have hC3:=hCA.begun (zaa Hnm) (zaa Hch) hgrow3 hmade (by omega) (by omega) (fun m q hq=>by have:=((zaa HC).each m q hq).1.lt;omega) (zaa Hhas) (zaa Hat) hown.isMap hown3
    have q1:Below w.heap.size w w3:=by
     have q0:=(((zaa HB).alloc (by omega) (.cells #[.string nm,.slice a2 row.length cap2,.int .i64 wt] 64)).alloc (by simp;omega) (.map #[] 0))
     exact q0.grown hgrow3 q0.size (fun j hj=>by cases hj;exact Nat.le_refl _)
    have kE:w3.heap[wr.heap.size]? = some (.cells #[.string nm,.slice a2 row.length cap2,.int .i64 wt] 64 (0,0)):=by
     rw [hgrow3.block wr.heap.size (by simp;omega) (by simp;omega),Below.heap_alloc _ _ _ (by simp)]
     exact zae wr _ _ rfl
    have h3':zbn w3 (.slice a2 row.length cap2) row:=((zaa H3w).below q1)
    have H3':=zac h3'
    have HC3:=zac hC3
    have HBW:=zac q1
    have hsz3:wr.heap.size+2≤w3.heap.size:=by have:=hgrow3.size;simp at this;omega
    clear hrun h1 h2 h4 hown hownA hown3 hgrow3 hC3 hCA hmade q1 h3' H3 HC1 hkey Hhas Hat
    have e1:w3.cell? ⟨wr.heap.size,1,none⟩=some (.slice a2 row.length cap2):=zab kE 1
    have e2:w3.cell? ⟨wr.heap.size,2,none⟩=some (.int .i64 wt):=zab kE 2
    clear kE
    go_region_held3 (fun W'=>W'.cell? ⟨wr.heap.size,1,none⟩=some (.slice a2 row.length cap2)∧W'.cell? ⟨wr.heap.size,2,none⟩=some (.int .i64 wt))
     (first
      | go_keep
      | (go_split_ands;refine ⟨?_,?_⟩ <;> (rw [hb1.cell (by simp;omega)];assumption))
      | (go_split_ands;refine ⟨?_,?_⟩ <;> (rw [World.cell?_of_block (hg2.block wr.heap.size (by have:=hb1.size;simp at this;omega) (by simp))];assumption)))
     (first
      | (go_at_call 118;refine (zvc _ row _ ?_ (zaa Hgx).2.1).mono ?_;exact (zaa H3');rintro e w1 ⟨rfl,hb1⟩)
      | (go_at_call 117;refine (zwf (wr.heap.size+1) (2*k+1) (fun _=>0) (zb7 row) wt _ ?_ (by omega) (zaa Hgx).2.2.1 (by omega) (by omega) (by have:=(zaa Hgx).2.2.2.1;dsimp only at this;omega) (by have:=(zaa Hgx).2.2.2.2;dsimp only at this;omega)).mono ?_;exact ((zaa HC3).each nm (wr.heap.size+1,fun _=>0) (by simp [zg7])).1.kept (hb1.block _ (by simp;omega));rintro e w2 ⟨rfl,hm2,hg2⟩))
    have hb1':Below w3.heap.size w3 w1:=Below.ofDrew hb1
    have hC1:=(zaa HC3).below hb1'
    have hC2:=hC1.added (nm:=nm) (p:=(wr.heap.size+1,fun _=>0)) (by simp [zg7]) hg2 hm2
    have hBB:Below w.heap.size w w2:=by
     have q2:=(zaa HBW).trans (hb1'.mono (zaa HBW).size)
     exact q2.grown hg2 q2.size (fun j hj=>by cases hj;omega)
    have HR:=zac (And.intro hC2 hBB)
    clear hC2 hBB hC1 hb1 hb1' hg2 hm2
    go_wp2
    go_roundw
    case rel =>
     refine ⟨k+1,by omega,by go_num,_,(zaa HR).1.mono (by omega),?_,(zaa HR).2⟩
     rw [zaa Htk,zwo]
     exact zx8 (x:=⟨nm,row,wt⟩) (zaa HS) (zaa Hch)
    case measure=>simp [intOf];omega
  ·go_wp2
   go_ret
   have:k=es.length:=by omega
   subst this
   refine ⟨ch,rfl,hC,?_,hB⟩
   rw [List.take_length] at hS
   exact hS
attribute [local go_sem ↓] Go.wp_at_zero Go.wp_at_succ
theorem zul:∀ key kl,keyOf Tryz.prog 77 key=some kl→∃ x:Row,key=.agg #[.int .i64 x.1,.int .i64 x.2.1,.int .i64 x.2.2]:=by
 intro key kl h
 obtain ⟨r,_,hv,_⟩:=zk1 h
 exact ⟨r,hv⟩
theorem zqt:∀ v y,plainElem (H:=Unit) Tryz.prog 2 v=some y→∃ c,v=Value.int .i64 c:=by
 intro v y h
 obtain ⟨c,hc,_⟩:=plainElem_int_inv Tryz.underlying2 h
 exact ⟨c,hc⟩
theorem ykc {D:DataW Unit} {g:Row→Int} (hrep:Rep D g) {x:Row} {c:Int} {kl:Lit} {y:DataW Unit×List MemPlace} (hkey:keyOf Tryz.prog 77 (.agg #[.int .i64 x.1,.int .i64 x.2.1,.int .i64 x.2.2])=some kl)
  (hv:plainElem (H:=Unit) Tryz.prog 2 (.int .i64 c)=some y) (hat:∀ zd,D.atKey kl zd=y.1):zaw x∧kl=za2 x∧c=g x:=by
 obtain ⟨r,hr,hv',rfl⟩:=zk1 hkey
 simp only [zjs,Value.agg.injEq] at hv'
 have e:x=r:=by
  simp at hv'
  exact Prod.ext hv'.1 (Prod.ext hv'.2.1 hv'.2.2)
 subst e
 obtain ⟨c',hc',rfl,_⟩:=plainElem_int_inv Tryz.underlying2 hv
 have e1:=hrep.at_ x hr
 rw [hat] at e1
 refine ⟨hr,rfl,?_⟩
 cases hc'
 exact zdk e1
theorem zfk.drewN {w:World} {b n:Nat} {f:Row→Int} (h:zfk w b n f) (q:Nat):zfk (w.drewN q) b n f:=h.kept rfl
theorem zfk.look {w:World} {b n:Nat} {f:Row→Int} (h:zfk w b n f) {x:Row} (hx:zaw x):(Instr.lookup 127 (.map (some b)) (.agg #[.int .i64 x.1,.int .i64 x.2.1,.int .i64 x.2.2]) false).run Tryz.prog w=.ok (.int .i64 (f x)) w:=by
 obtain ⟨D,hown,hrep⟩:=h
 obtain ⟨c,hrun,hat,_⟩:=hown.lookup_int zft Tryz.underlying127 Tryz.underlying2 (zym _) (zk0 hx)
 rw [hrep.at_ x hx] at hat
 rw [← zdk hat] at hrun
 exact hrun
end Go.Proofs.YtoifcnidhfnapaaGreatDoor
