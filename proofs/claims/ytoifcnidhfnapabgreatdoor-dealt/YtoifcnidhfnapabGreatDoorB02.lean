import Derived.Test.YtoifcnidhfnapabGreatDoorB01
import Derived.Maps.OwnSet
import Derived.Maps.RangeWalk
import Derived.DeepKeys4
import Derived.Laws.CopyOwn
set_option linter.unusedVariables false
set_option linter.unusedSimpArgs false
set_option maxRecDepth 100000
set_option maxHeartbeats 16000000
namespace Go.Proofs.YtoifcnidhfnapabGreatDoor
open Go.RowKit Go.Maps
abbrev Row:=Int×Int×Int
def zjt (r:Row):Value:=.agg #[.int .i64 r.1,.int .i64 r.2.1,.int .i64 r.2.2]
def wfI (x:Int):Prop:=(Lit.int .i64 x).wf=true
def zaw (r:Row):Prop:=wfI r.1∧wfI r.2.1∧wfI r.2.2
theorem Tryz.laidOut:laidOutB Tryz.prog=true:=by kernel_rfl
theorem Tryz.row60:(150:TypeId)<Tryz.prog.types.size:=of_decide_eq_true (by kernel_rfl)
theorem Tryz.cells60:Tryz.prog.cellsOf 150=3:=by kernel_rfl
theorem Tryz.cells2:Tryz.prog.cellsOf 2=1:=by kernel_rfl
theorem Tryz.size:Tryz.prog.types.size=376:=by kernel_rfl
theorem Tryz.keyType60:Tryz.prog.keyType 150=true:=by kernel_rfl
theorem Tryz.wide60:(match Tryz.prog.underlying 150 with|some (.array _ _)|some (.struct _)=>true|_=>false)=true:=by rw [Tryz.underlying150]
theorem zf8:Keyed Tryz.prog 150:=Keyed.of_law (deep_law_laid Tryz.laidOut (m:=2) (by omega) Tryz.row60 (by kernel_rfl) Tryz.wide60)
theorem zqh:Keyed Tryz.prog 9:=string_keyed Tryz.underlying9
def za2 (r:Row):Lit:=.string (keyBytes [.int .i64 r.1,.int .i64 r.2.1,.int .i64 r.2.2])
theorem kl2 (d:Nat) {x:Int} (h:wfI x):Tryz.prog.keyLits (d+1) 2 [.int .i64 x]=some [.int .i64 x]:=by
 unfold wfI at h
 unfold Program.keyLits
 rw [Tryz.underlying2]
 simp [h]
theorem zj9 (d:Nat) {v:Value} {ls:List Lit} (h:Tryz.prog.keyLits (d+1) 2 [v]=some ls):∃ x,wfI x∧v=.int .i64 x∧ls=[.int .i64 x]:=by
 unfold Program.keyLits at h
 simp only [Tryz.underlying2] at h
 cases v <;> simp at h
 obtain ⟨⟨rfl,hw⟩,rfl⟩:=h
 exact ⟨_,hw,rfl,rfl⟩
theorem kl60 (d:Nat) (a b c:Value):Tryz.prog.keyLits (d+2) 150 [a,b,c]=(do
  let x ← Tryz.prog.keyLits (d+1) 2 [a]
  let y ← Tryz.prog.keyLits (d+1) 2 [b]
  let z ← Tryz.prog.keyLits (d+1) 2 [c]
  pure (x ++ (y ++ z))):=by
 conv=>lhs;unfold Program.keyLits
 rw [Tryz.underlying150]
 simp only [Tryz.cells60,Tryz.cells2,List.length_cons,List.length_nil,Nat.zero_add,Nat.reduceAdd,if_true]
 simp only [show List.range 3=[0,1,2] from rfl,List.mapM_cons,List.mapM_nil]
 simp only [Nat.zero_mul,Nat.one_mul,Nat.reduceMul,List.drop_zero,List.drop_succ_cons,List.take_succ_cons,List.take_zero]
 generalize Tryz.prog.keyLits (d+1) 2 [a]=A
 generalize Tryz.prog.keyLits (d+1) 2 [b]=B
 generalize Tryz.prog.keyLits (d+1) 2 [c]=C
 cases A <;> cases B <;> cases C <;> simp [List.flatten]
theorem zk5 {r:Row} (h:zaw r):keyOf Tryz.prog 150 (zjt r)=some (za2 r):=by
 obtain ⟨h1,h2,h3⟩:=h
 unfold keyOf
 rw [Tryz.underlying150]
 simp only [Tryz.keyType60,zjt,Value.formed,Tryz.underlying150,Tryz.cells60,Value.cells,Tryz.size]
 have:=kl60 375 (.int .i64 r.1) (.int .i64 r.2.1) (.int .i64 r.2.2)
 rw [kl2 375 h1,kl2 375 h2,kl2 375 h3] at this
 simp only [show (376+1:Nat)=375+2 from rfl]
 rw [this]
 rfl
theorem len3 {α:Type} {l:List α} (h:l.length=3):∃ a b c,l=[a,b,c]:=by
 match l,h with
 | [a,b,c],_=>exact ⟨a,b,c,rfl⟩
theorem zk6 {v:Value} {l:Lit} (h:keyOf Tryz.prog 150 v=some l):∃ r,zaw r∧v=zjt r∧l=za2 r:=by
 unfold keyOf at h
 simp only [Tryz.underlying150,Tryz.keyType60,Tryz.size] at h
 cases v <;> simp [Value.formed,Tryz.underlying150,Tryz.cells60] at h
 rename_i cs
 obtain ⟨hs,ls,hls,rfl⟩:=h
 obtain ⟨cs⟩:=cs
 obtain ⟨a,b,c,rfl⟩:=len3 (by simpa using hs)
 ·simp only [Value.cells] at hls
  have e:(377:Nat)=375+2:=rfl
  rw [e,kl60] at hls
  cases hA:Tryz.prog.keyLits (375+1) 2 [a] with
  | none=>simp [hA] at hls
  | some A =>
   cases hB:Tryz.prog.keyLits (375+1) 2 [b] with
   | none=>simp [hA,hB] at hls
   | some B =>
    cases hC:Tryz.prog.keyLits (375+1) 2 [c] with
    | none=>simp [hA,hB,hC] at hls
    | some C =>
     obtain ⟨x,wx,rfl,rfl⟩:=zj9 _ hA
     obtain ⟨y,wy,rfl,rfl⟩:=zj9 _ hB
     obtain ⟨z,wz,rfl,rfl⟩:=zj9 _ hC
     simp [hA,hB,hC] at hls
     subst hls
     exact ⟨(x,y,z),⟨wx,wy,wz⟩,rfl,rfl⟩
theorem zd6 {r s:Row} (hr:zaw r) (hs:zaw s) (h:za2 r=za2 s):r=s:=by
 have:=zf8.inj (zk5 hr) (h ▸ zk5 hs)
 simp [zjt] at this
 obtain ⟨h1,h2,h3⟩:=this
 exact Prod.ext h1 (Prod.ext h2 h3)
def upd (f:Row→Int) (r:Row) (x:Int):Row→Int:=fun s=>if s=r then x else f s
structure Rep (D:DataW Unit) (f:Row→Int):Prop where
 at_:∀ r,zaw r→D.atKey (za2 r) (.lit (.int .i64 0))=.lit (.int .i64 (f r))
 has_:∀ r,zaw r→(Maps.has D (za2 r)=true↔f r≠0)
 keys:∀ l,Maps.has D l=true→∃ r,zaw r∧l=za2 r
def ze9 (w:World) (b n:Nat) (f:Row→Int):Prop:=∃ D:DataW Unit,w.ownsMap Tryz.prog 150 (plainElem Tryz.prog 2) b n D∧Rep D f
theorem ze8 (r:Row):WideAt.IsKeyLit (za2 r):=trivial
theorem Rep.put {D:DataW Unit} {f:Row→Int} (h:Rep D f) (hD:IsMap D) {r:Row} (hr:zaw r) {x:Int} (hx:x≠0):Rep (D.put (za2 r) (.lit (.int .i64 x))) (upd f r x):=by
 refine ⟨fun s hs=>?_,fun s hs=>?_,fun l hl=>?_⟩
 ·unfold upd
  by_cases e:s=r
  ·subst e;rw [atKey_put_same hD (ze8 _),if_pos rfl]
  ·rw [atKey_put_other (fun e'=>e (zd6 hs hr e')),if_neg e];exact h.at_ s hs
 ·unfold upd
  by_cases e:s=r
  ·subst e;rw [has_put_same hD (ze8 _),if_pos rfl];simp [hx]
  ·rw [has_put_other (fun e'=>e (zd6 hs hr e')),if_neg e];exact h.has_ s hs
 ·by_cases e:l=za2 r
  ·exact ⟨r,hr,e⟩
  ·rw [has_put_other e] at hl;exact h.keys l hl
theorem Rep.del {D:DataW Unit} {f:Row→Int} (h:Rep D f) {r:Row} (hr:zaw r):Rep (D.del (za2 r)) (upd f r 0):=by
 refine ⟨fun s hs=>?_,fun s hs=>?_,fun l hl=>?_⟩
 ·unfold upd
  by_cases e:s=r
  ·subst e;rw [atKey_del_same,if_pos rfl]
  ·rw [atKey_del_other (fun e'=>e (zd6 hs hr e')),if_neg e];exact h.at_ s hs
 ·unfold upd
  by_cases e:s=r
  ·subst e;rw [has_del_same,if_pos rfl];simp
  ·rw [has_del_other (fun e'=>e (zd6 hs hr e')),if_neg e];exact h.has_ s hs
 ·by_cases e:l=za2 r
  ·subst e;rw [has_del_same] at hl;simp at hl
  ·rw [has_del_other e] at hl;exact h.keys l hl
theorem zyf (w:World):(zeroValue 2).run Tryz.prog w=.ok (.int .i64 0) w:=by kernel_rfl
theorem zdk {a b:Int} (h:(DataW.lit (.int .i64 a):DataW Unit)=.lit (.int .i64 b)):a=b:=by
 injection h with h;injection h
theorem zwk (b n:Nat) (f:Row→Int) (r:Row) (x:Int) (w:World) (h:ze9 w b n f) (hn:n<2000000000) (hr:zaw r) (h1:-1000000≤f r) (h2:f r≤1000000) (h3:-1000000≤x) (h4:x≤1000000) :
  Calls Tryz.prog 67 #[.map (some b),zjt r,.int .i64 x] w fun e w'=>e=.returned (.tuple #[])∧ze9 w' b (n+1) (upd f r (f r+x))∧w.grownBy w' (some b):=by
 obtain ⟨D,hown,hrep⟩:=h
 have hkey:=zk5 hr
 have hat0:=hrep.at_ r hr
 obtain ⟨a,a2,a3⟩:=r
 obtain ⟨q,hq⟩:∃ q,q=f (a,a2,a3):=⟨_,rfl⟩
 rw [← hq] at hat0 h1 h2
 have Hq:=zac hq
 have Hrep:=zac hrep
 have Hat:=zac hat0
 clear hq hrep hat0
 have hown':=hown.alloc (.cells #[.int .i64 a,.int .i64 a2,.int .i64 a3] 150)
 unfold zjt at hkey ⊢
 have hwf:(Lit.int .i64 (q+x)).wf=true:=WalkArith.wf_i64 (by omega)
 by_cases hz:q+x=0
 ·have hzb:(q+x == 0)=true:=by simp [hz]
  clear hz
  go_enter Tryz.func67,Tryz.ntmps67
  go_wp2_with (first
   | (at_lookup;refine wpList_lookup_own_int _ rfl _ _ 102 rfl 150 2 .i64 zf8 Tryz.underlying102 Tryz.underlying2 (zyf _) b n D rfl hown' _ _ rfl hkey ?_;intro c hat hwc;obtain rfl:=zdk (hat.symm.trans (zaa Hat));clear hat)
   | (at_delete;refine wpList_delete_own _ rfl _ _ 102 150 rfl 2 zf8 Tryz.underlying102 _ b n D rfl hown' _ _ rfl hkey ?_;intro w1 hown1 hturn1)
   | go_in)
  refine bodyPost_ret (v:=.tuple #[]) (by simp [results,Tryz.results67,go_sem]) rfl ?_
  refine ⟨rfl,⟨_,hown1.mono (Nat.le_succ _),?_⟩,((World.grownBy_alloc _ _ _)).trans hturn1.grown⟩
  rw [← zaa Hq,show c+x=0 from by simpa using hzb]
  exact (zaa Hrep).del hr
 ·have hzb:(q+x == 0)=false:=by simp [hz]
  have Hz:=zac hz
  clear hz
  go_enter Tryz.func67,Tryz.ntmps67
  go_wp2_with (first
   | (at_lookup;refine wpList_lookup_own_int _ rfl _ _ 102 rfl 150 2 .i64 zf8 Tryz.underlying102 Tryz.underlying2 (zyf _) b n D rfl hown' _ _ rfl hkey ?_;intro c hat hwc;obtain rfl:=zdk (hat.symm.trans (zaa Hat));clear hat)
   | (at_mapUpdate;refine wpList_mapUpdate_own _ rfl _ _ _ 102 rfl 150 2 zf8 Tryz.underlying102 _ b n D rfl hown' (by unfold maxLen;omega) _ _ _ rfl rfl hkey _ [] (plainElem_int Tryz.underlying2 hwf) ?_;intro w1 hown1 hgrow1)
   | go_in)
  go_end0
  refine ⟨rfl,⟨_,hown1,?_⟩,((World.grownBy_alloc _ _ _)).trans hgrow1⟩
  rw [← zaa Hq]
  exact (zaa Hrep).put hown.isMap hr (zaa Hz)
def zc5 (zs:List Int):Row:=(zs[0]?.getD 0,zs[1]?.getD 0,zs[2]?.getD 0)
theorem Tryz.infoSize2:(Tryz.prog.info? 2).map (·.size)=some 1:=by kernel_rfl
theorem ya2 (zs:List Int) (h:zs.length≤3):splice [Value.int .i64 0,.int .i64 0,.int .i64 0] 0 (zs.map (Value.int .i64))=[.int .i64 (zc5 zs).1,.int .i64 (zc5 zs).2.1,.int .i64 (zc5 zs).2.2]:=by
  match zs,h with
  | [],_=>rfl
  | [_],_=>rfl
  | [_,_],_=>rfl
  | [_,_,_],_=>rfl
theorem zab {w:World} {g:Nat} {cs:Array Value} {t:TypeId} {fr:Nat×Nat} (h:w.heap[g]? = some (.cells cs t fr)) (o:Nat):w.cell? ⟨g,o,none⟩=cs[o]?:=by
  simp [World.cell?,h]
theorem zad {w:World} {g:Nat} {cs:Array Value} {t:TypeId} (h:w.heap[g]? = some (.cells cs t (0,0))) (o:Nat):w.frozen? ⟨g,o,none⟩=false:=by
  simp [World.frozen?,h]
theorem zvj (v:Value) (zs:List Int) (w:World) (hv:zbu w v zs) (hl:zs.length≤3) :
    Calls Tryz.prog 68 #[v] w fun e w'=>e=.returned (zjt (zc5 zs))∧Below w.heap.size w w':=by
  obtain ⟨a,cap,rfl,hc⟩:=hv
  have Hc:=zac hc
  clear hc
  have hmin:(zs.map (Value.int .i64)).length=Nat.min zs.length 3:=by
    rw [List.length_map]
    exact (Nat.min_eq_left hl).symm
  have Hpos:Hid (0<(zs.map (Value.int .i64)).length→some (⟨w.heap.size+1,0,none⟩:Addr)=some ⟨w.heap.size+1,0,none⟩∧∃ ad,a=some ad∧∀ j u,(zs.map (Value.int .i64))[j]? = some u →
      ((w.alloc (.cells #[.int .i64 0,.int .i64 0,.int .i64 0] 150)).alloc (.cells #[.int .i64 0,.int .i64 0,.int .i64 0] 150)).cell? (ad.add j)=some u):=by
    intro hpos
    refine ⟨rfl,?_⟩
    rw [List.length_map] at hpos
    obtain ⟨b,o,ha,_⟩:=(zaa Hc) 0 hpos
    refine ⟨_,ha,fun j u hj=>?_⟩
    have hjl:j<zs.length:=by simpa using (List.getElem?_eq_some_iff.1 hj).1
    obtain ⟨b',o',ha',hcell⟩:=(zaa Hc) j hjl
    rw [ha] at ha'
    cases ha'
    have hbl:b<w.heap.size:=World.block_lt_of_cell? w _ hcell
    rw [Addr.add_lit,(((Below.refl _ w).alloc (Nat.le_refl _) _).alloc (by simp) _).cell (p:=⟨b,o+j,none⟩) hbl,hcell]
    simp [hjl] at hj ⊢
    exact hj
  have hsp:=ya2 zs hl
  obtain ⟨p,hp⟩:∃ p,p=zc5 zs:=⟨_,rfl⟩
  rw [← hp] at hsp ⊢
  clear hp
  have Hsp:=zac hsp
  clear hsp
  go_enter Tryz.func68,Tryz.ntmps68
  go_wp2_with (first
    | (refine wpList_copy_splice rfl (.tmp 4) (.tmp 5) 47 47 rfl 2 Tryz.underlying47 Tryz.infoSize2 (some ⟨w.heap.size+1,0,none⟩) a 3 3 zs.length cap rfl rfl (w.heap.size+1) 0 [.int .i64 0,.int .i64 0,.int .i64 0] 150 (zae _ _ _ (by simp)) (zs.map (Value.int .i64)) hmin (zaa Hpos) (by simpa using hl) (ints_oneCell _ _) (w.heap.size+1) _ (Below.refl _ _) (Nat.le_refl _) ?_;intro w1 hg1 hb1;rw [zaa Hsp] at hg1
       have c0:w1.cell? ⟨w.heap.size+1,0,none⟩=some (.int .i64 p.1):=zab hg1.out 0
       have c1:w1.cell? ⟨w.heap.size+1,1,none⟩=some (.int .i64 p.2.1):=zab hg1.out 1
       have c2:w1.cell? ⟨w.heap.size+1,2,none⟩=some (.int .i64 p.2.2):=zab hg1.out 2
       have k0:w1.heap[w.heap.size]? = some (.cells #[.int .i64 0,.int .i64 0,.int .i64 0] 150 (0,0)):=by
         rw [hb1.block w.heap.size (by omega)];rw [Below.heap_alloc _ _ _ (by simp)];exact zae _ _ _ rfl
       have d0:w1.cell? ⟨w.heap.size,0,none⟩=some (.int .i64 0):=zab k0 0
       have d1:w1.cell? ⟨w.heap.size,1,none⟩=some (.int .i64 0):=zab k0 1
       have d2:w1.cell? ⟨w.heap.size,2,none⟩=some (.int .i64 0):=zab k0 2
       have f0:=zad k0 0
       have f1:=zad k0 1
       have f2:=zad k0 2
       have HB:=zac (((Below.refl w.heap.size w).alloc (Nat.le_refl _) (.cells #[.int .i64 0,.int .i64 0,.int .i64 0] 150)).alloc (by simp) (.cells #[.int .i64 0,.int .i64 0,.int .i64 0] 150) |>.trans (hb1.mono (Nat.le_succ _)))
       clear k0 hb1 hg1))
  refine bodyPost_ret (v:=zjt p) (by simp [results,Tryz.results68,go_sem,d0,d1,d2,f0,f1,f2,zjt]) rfl ?_
  exact ⟨rfl,(((zaa HB).setCell (p:=⟨w.heap.size,0,none⟩) (Nat.le_refl _) _).setCell (p:=⟨w.heap.size,1,none⟩) (Nat.le_refl _) _).setCell (p:=⟨w.heap.size,2,none⟩) (Nat.le_refl _) _⟩
def zav:Value→Option (DataW Unit×List MemPlace)
 | .pointer (some ⟨b,0,none⟩)=>some (.lit (.int .i64 b),[])
 | .pointer none=>some (.lit (.int .i64 (-1)),[])
 | _=>none
def zcy:Value→Option (DataW Unit×List MemPlace)
 | .map (some b)=>some (.lit (.int .i64 b),[])
 | .map none=>some (.lit (.int .i64 (-1)),[])
 | _=>none
def zau (s:ByteArray):Lit:=.string s.data.toList
theorem zc8 {a b:ByteArray} (h:zau a=zau b):a=b:=by
 unfold zau at h
 injection h with h
 cases a;cases b
 simp at h
 rw [h]
theorem zdi {s:ByteArray} (h:s.size≤maxLen):keyOf Tryz.prog 9 (.string s)=some (zau s):=by simp [keyOf,Tryz.underlying9,mapKey,h,zau]
structure Rel where
 rb:Nat
 mb:Nat
 ar:Nat
 n:Nat
 f:Row→Int
abbrev St:=ByteArray→Option Rel
def NoV (w:World) (xs:Array Value) (db eb:Nat) (st:St):Prop:=
 xs[1]? = some (.map (some (db+1)))∧xs[2]? = some (.map (some (db+2)))∧True∧True∧db+3=eb∧∀ nm R,st nm=some R→eb<R.mb
def NoVs (w:World) (db:Nat):Prop:=w.ownsMap Tryz.prog 132 zav (db+1) 0 (.map [])∧w.ownsMap Tryz.prog 9 zav (db+2) 0 (.map [])
theorem zax {k:TypeId} {R:Value→Option (DataW Unit×List MemPlace)} {w w':World} {b n:Nat} {D:DataW Unit} (h:w.ownsMap Tryz.prog k R b n D) (hb:w'.heap[b]? = w.heap[b]?):w'.ownsMap Tryz.prog k R b n D:=by
 obtain ⟨es,clock,h1,h2⟩:=h
 exact ⟨es,clock,hb.trans h1,h2⟩
theorem NoV.kept {w w':World} {xs:Array Value} {db eb:Nat} {st:St} (h:NoV w xs db eb st) (h1:w'.heap[db+1]? = w.heap[db+1]?) (h2:w'.heap[db+2]? = w.heap[db+2]?):NoV w' xs db eb st:=
 ⟨h.1,h.2.1,trivial,trivial,h.2.2.2.2.1,h.2.2.2.2.2⟩
theorem NoV.turn {w:World} {xs:Array Value} {db eb:Nat} {st st':St} (h:NoV w xs db eb st) (hs:∀ nm R',st' nm=some R'→eb<R'.mb):NoV w xs db eb st':=
 ⟨h.1,h.2.1,trivial,trivial,h.2.2.2.2.1,hs⟩
structure za1 (w:World) (eb db nD S E:Nat) (st:St):Prop where
 eng:∃ xs:Array Value,w.heap[eb]? = some (.cells xs 61 (0,0))∧xs[0]? = some (.map (some db))∧NoV w xs db eb st
 dir:∃ D,w.ownsMap Tryz.prog 9 zav db nD D∧Maps.size D=nD∧(∀ nm,nm.size≤maxLen→Maps.has D (zau nm)=(st nm).isSome) ∧
  (∀ nm R,nm.size≤maxLen→st nm=some R→∀ zd,D.atKey (zau nm) zd=.lit (.int .i64 R.rb))
 rel:∀ nm R,st nm=some R→w.heap[R.rb]? = some (.cells #[.int .i64 R.ar,.map (some R.mb)] 104 (0,0))∧ze9 w R.mb R.n R.f
 apart:∀ nm nm' R R',st nm=some R→st nm'=some R'→nm≠nm'→R.mb≠R'.mb
 inn:S≤eb∧eb<E∧S≤db∧db<E
 inr:∀ nm R,st nm=some R→S≤R.rb∧R.rb<E∧S≤R.mb∧R.mb<E∧R.mb≠db
 top:E≤w.heap.size
theorem za1.c0 {w:World} {eb db nD S E:Nat} {st:St} (h:za1 w eb db nD S E st):w.cell? ⟨eb,0,none⟩=some (.map (some db)):=by
 obtain ⟨xs,h1,h2,_⟩:=h.eng
 exact (zab h1 0).trans h2
theorem yjw (w:World):Calls Tryz.prog 21 #[] w fun e w'=>e=.returned (.pointer (some ⟨w.heap.size+3,0,none⟩))∧za1 w' (w.heap.size+3) w.heap.size 0 w.heap.size w'.heap.size (fun _=>none)∧NoVs w' w.heap.size∧w'.heap.size=w.heap.size+4∧Below w.heap.size w w':=by
 have hmm:=@run_makeMap Tryz.prog
 go_enter Tryz.func21,Tryz.ntmps21
 go_wp2
 go_ret
 have made:∀ (W:World) (k:TypeId) (b:Nat),b=W.heap.size→(W.alloc (.map #[] 0)).ownsMap Tryz.prog k zav b 0 (.map []):=fun W k b e=>by subst e;exact World.ownsMap_made W Tryz.prog k zav
 refine ⟨rfl,⟨⟨_,zae _ _ _ (by simp),rfl,rfl,rfl,trivial,trivial,rfl,fun _ _ h=>by cases h⟩,⟨.map [],(((World.ownsMap_made _ _ _ _).alloc _).alloc _).alloc _,rfl,fun _ _=>rfl,fun _ _ _ h=>by cases h⟩,fun _ _ h=>(by cases h),fun _ _ _ _ h=>(by cases h),by simp;omega,fun _ _ h=>(by cases h),Nat.le_refl _⟩,⟨((made _ _ _ (by simp)).alloc _).alloc _,(made _ _ _ (by simp)).alloc _⟩,by simp,((((Below.refl _ _).alloc (Nat.le_refl _) _).alloc (by simp) _).alloc (by simp;omega) _).alloc (by simp;omega) _⟩
theorem ybc (a:Nat) (w:World):Calls Tryz.prog 32 #[.int .i64 a] w fun e w'=>e=.returned (.pointer (some ⟨w.heap.size+1,0,none⟩))∧w'.heap[w.heap.size+1]? = some (.cells #[.int .i64 a,.map (some w.heap.size)] 104 (0,0)) ∧
  ze9 w' w.heap.size 0 (fun _=>0)∧w'.heap.size=w.heap.size+2∧Below w.heap.size w w':=by
 have hmm:=@run_makeMap Tryz.prog
 go_enter Tryz.func32,Tryz.ntmps32
 go_wp2
 go_ret
 exact ⟨rfl,zae _ _ _ (by simp),⟨.map [],(World.ownsMap_made _ _ _ _).alloc _,⟨fun _ _=>rfl,fun _ _=>by simp [Maps.has],fun _ h=>by simp [Maps.has] at h⟩⟩,by simp,((Below.refl _ _).alloc (Nat.le_refl _) _).alloc (by simp) _⟩
theorem zog (rb ar mb:Nat) (w:World) (h:w.heap[rb]? = some (.cells #[.int .i64 ar,.map (some mb)] 104 (0,0))) :
  Calls Tryz.prog 66 #[.pointer (some ⟨rb,0,none⟩)] w fun e w'=>e=.returned (.int .i64 ar)∧w'=w:=by
 have c0:w.cell? ⟨rb,0,none⟩=some (.int .i64 ar):=zab h 0
 clear h
 go_enter Tryz.func66,Tryz.ntmps66
 go_wp2
 go_ret
 exact ⟨rfl,rfl⟩
def yb5 (c:UInt8):Bool:=decide (97≤c.toNat) && decide (c.toNat≤122)
def zgj (s:ByteArray):Bool:=decide (1≤s.size) && decide (s.size≤8) && s.data.toList.all yb5
theorem yf9 (s:ByteArray) (k:Nat) (h:k<s.size):(s.data.toList.take (k+1)).all yb5=((s.data.toList.take k).all yb5 && yb5 s[k]):=by
 have e:s.data.toList.take (k+1)=s.data.toList.take k ++ [s[k]]:=by
  rw [List.take_succ_eq_append_getElem (by simpa using h)];rfl
 rw [e,List.all_append]
 simp
theorem yed {s:ByteArray} {k:Nat} (h:k<s.size) (hb:yb5 s[k]=false):zgj s=false:=by
 unfold zgj
 have:s.data.toList.all yb5=false:=by
  rw [List.all_eq_false]
  refine ⟨s[k],?_,by simp [hb]⟩
  have:s[k]=s.data.toList[k]'(by simpa using h):=rfl
  rw [this]
  exact List.getElem_mem _
 simp [this]
theorem yau {s:ByteArray} (h1:1≤s.size) (h2:s.size≤8) (h:(s.data.toList.take s.size).all yb5=true):zgj s=true:=by
 unfold zgj
 rw [List.take_of_length_le (by simp)] at h
 simp [h1,h2,h]
theorem zmi (s:ByteArray) (w:World) (hs:s.size≤9223372036854775807) :
  Calls Tryz.prog 31 #[.string s] w fun e w'=>e=.returned (.bool (zgj s))∧w'=w:=by
 by_cases h1:s.size<1
 ·have hf:zgj s=false:=by unfold zgj;simp [show ¬ 1≤s.size by omega]
  go_enter Tryz.func31,Tryz.ntmps31
  go_wp2
  go_ret
  exact ⟨by simp [hf],rfl⟩
 ·by_cases h2:8<s.size
  ·have hf:zgj s=false:=by unfold zgj;simp [show ¬ s.size≤8 by omega]
   go_enter Tryz.func31,Tryz.ntmps31
   go_wp2
   go_ret
   exact ⟨by simp [hf],rfl⟩
  ·go_enter Tryz.func31,Tryz.ntmps31
   go_wp2
   go_loop [14] (fun i=>∃ k:Nat,k≤s.size∧i=.int .i64 k∧(s.data.toList.take k).all yb5=true) (fun i=>s.size - (intOf i).toNat)
   case atStart=>exact ⟨0,Nat.zero_le _,rfl,by simp⟩
   case round =>
    obtain ⟨k,hk,rfl,hall⟩:=hrel
    have Hall:=zac hall
    clear hall
    by_cases hlt:k<s.size
    ·by_cases hl:yb5 s[k]=true
     ·have Hn:Hid ((s.data.toList.take (k+1)).all yb5=true):=by
       unfold Hid;rw [yf9 s k hlt,zaa Hall,hl];rfl
      have hl':=hl
      unfold yb5 at hl'
      simp at hl'
      obtain ⟨g1,g2⟩:=hl'
      have g1':¬ ((s[k].toNat:Int)<97):=by omega
      have g2':¬ (122<(s[k].toNat:Int)):=by omega
      clear hl
      go_wp2
      all_goals
       go_round
       case rel=>exact ⟨k+1,by omega,by go_num,zaa Hn⟩
       case measure=>simp [intOf];omega
     ·have hf:Hid (zgj s=false):=yed hlt (by simpa using hl)
      have hl':=hl
      unfold yb5 at hl'
      simp at hl'
      clear hl
      by_cases g1:(s[k].toNat:Int)<97
      ·go_wp2
       go_ret
       exact ⟨by rw [hf.out];rfl,rfl⟩
      ·have g2:122<(s[k].toNat:Int):=by have:=hl' (by omega);omega
       clear hl'
       go_wp2
       go_ret
       exact ⟨by rw [hf.out];rfl,rfl⟩
    ·have hf:Hid (zgj s=true):=by
      have:k=s.size:=by omega
      subst this
      exact yau (by omega) (by omega) (zaa Hall)
     go_wp2
     go_ret
     exact ⟨by rw [hf.out];rfl,rfl⟩
theorem yfw (w:World):(zeroValue 75).run Tryz.prog w=.ok (.pointer none) w:=by kernel_rfl
theorem yfx (w:World):(zeroValue 102).run Tryz.prog w=.ok (.map none) w:=by kernel_rfl
theorem zez {v:Value} {b:Nat} {ps:List MemPlace} (h:zav v=some (.lit (.int .i64 b),ps)):v=.pointer (some ⟨b,0,none⟩):=by
 unfold zav at h
 split at h
 ·simp at h
  obtain ⟨h,_⟩:=h
  have h:_=b:=Int.ofNat_inj.1 h
  rw [h]
 ·simp at h
 ·simp at h
theorem zim {v:Value} {ps:List MemPlace} (h:zav v=some (.lit (.int .i64 (-1)),ps)):v=.pointer none:=by
 unfold zav at h
 split at h
 ·simp at h
 ·rfl
 ·simp at h
section
variable {w w':World} {eb db nD S E:Nat} {st:St}
theorem ze9.kept {b n:Nat} {f:Row→Int} (h:ze9 w b n f) (hb:w'.heap[b]? = w.heap[b]?):ze9 w' b n f:=by
 obtain ⟨D,⟨es,clock,h1,h2⟩,hr⟩:=h
 exact ⟨D,⟨es,clock,hb.trans h1,h2⟩,hr⟩
theorem za1.kept (h:za1 w eb db nD S E st) (hs:w.heap.size≤w'.heap.size) (hk:∀ k,S≤k→k<E→w'.heap[k]? = w.heap[k]?):za1 w' eb db nD S E st:=by
 obtain ⟨e,⟨D,⟨es,clock,h1,h2⟩,hD⟩,r,ap,inn,inr,top⟩:=h
 obtain ⟨xe,e,e0,nv⟩:=e
 have hv:=nv.2.2.2.2.1
 refine ⟨⟨xe,(hk _ inn.1 inn.2.1).trans e,e0,nv.kept (hk _ (by omega) (by omega)) (hk _ (by omega) (by omega))⟩,⟨D,⟨es,clock,(hk _ inn.2.2.1 inn.2.2.2).trans h1,h2⟩,hD⟩,fun nm R hR=>?_,ap,inn,inr,Nat.le_trans top hs⟩
 have i:=inr nm R hR
 exact ⟨(hk _ i.1 i.2.1).trans (r nm R hR).1,(r nm R hR).2.kept (hk _ i.2.2.1 i.2.2.2.1)⟩
theorem za1.below (h:za1 w eb db nD S E st) (hb:Below w.heap.size w w'):za1 w' eb db nD S E st:=
 h.kept hb.size (fun k _ hk=>hb.block k (Nat.lt_of_lt_of_le hk h.top))
theorem za1.drawn (h:za1 w eb db nD S E st) (hd:za9 w w'):za1 w' eb db nD S E st:=h.below (hd.below _)
theorem za1.hit (h:za1 w eb db nD S E st) {nm:ByteArray} {R:Rel} (hn:nm.size≤maxLen) (hR:st nm=some R) :
  (Instr.lookup 57 (.map (some db)) (.string nm) true).run Tryz.prog w=.ok (.tuple #[.pointer (some ⟨R.rb,0,none⟩),.bool true]) w:=by
 obtain ⟨D,hown,_,hhas,hat⟩:=h.dir
 obtain ⟨v,ps,hrun,hv⟩:=hown.look_ok zqh Tryz.underlying57 (yfw _) (zd:=.lit (.int .i64 (-1))) (zp:=[]) rfl (zdi hn)
 rw [hat nm R hn hR] at hv
 rw [zez hv,hhas nm hn,hR] at hrun
 exact hrun
theorem za1.miss (h:za1 w eb db nD S E st) {nm:ByteArray} (hn:nm.size≤maxLen) (hR:st nm=none) :
  (Instr.lookup 57 (.map (some db)) (.string nm) true).run Tryz.prog w=.ok (.tuple #[.pointer none,.bool false]) w:=by
 obtain ⟨D,hown,_,hhas,hat⟩:=h.dir
 obtain ⟨v,ps,hrun,hv⟩:=hown.look_ok zqh Tryz.underlying57 (yfw _) (zd:=.lit (.int .i64 (-1))) (zp:=[]) rfl (zdi hn)
 have h0:Maps.has D (zau nm)=false:=by rw [hhas nm hn,hR];rfl
 rw [atKey_of_not_has h0] at hv
 rw [zim hv,h0] at hrun
 exact hrun
theorem za1.get (h:za1 w eb db nD S E st) {nm:ByteArray} {R:Rel} (hn:nm.size≤maxLen) (hR:st nm=some R) :
  (Instr.lookup 57 (.map (some db)) (.string nm) false).run Tryz.prog w=.ok (.pointer (some ⟨R.rb,0,none⟩)) w:=by
 obtain ⟨D,hown,_,hhas,hat⟩:=h.dir
 obtain ⟨v,ps,hrun,hv⟩:=hown.lookup zqh Tryz.underlying57 (yfw _) (zd:=.lit (.int .i64 (-1))) (zp:=[]) rfl (zdi hn)
 rw [hat nm R hn hR] at hv
 rw [zez hv] at hrun
 exact hrun
end
def yjf (x:Ent) (v:Value):Value:=.agg #[.string x.nm,v,.int .i64 x.wt]
theorem yks (x:Ent) (v:Value) (w:World) {eb db nD S E:Nat} {st:St} (h:za1 w eb db nD S E st) (hn:x.nm.size≤maxLen) (hR:st x.nm=none) :
  Calls Tryz.prog 42 #[.pointer (some ⟨eb,0,none⟩),yjf x v] w fun e w'=>e=.returned (.int .i64 6)∧Below w.heap.size w w':=by
 obtain ⟨nm,row,wt⟩:=x
 have hrun:∀ n,(Instr.lookup 57 (.map (some db)) (.string nm) true).run Tryz.prog ((w.alloc (.cells #[.string nm,v,.int .i64 wt] 49)).drewN n)=.ok (.tuple #[.pointer none,.bool false]) ((w.alloc (.cells #[.string nm,v,.int .i64 wt] 49)).drewN n):=
  fun n=>((h.below ((Below.refl _ _).alloc (Nat.le_refl _) _)).drawn (za9.ofN _ n)).miss hn hR
 have c0:w.cell? ⟨eb,0,none⟩=some (.map (some db)):=h.c0
 have hne:¬ eb=w.heap.size:=by have:=h.inn;have:=h.top;omega
 have hlt:eb<w.heap.size:=by have:=h.inn;have:=h.top;omega
 have H:=zac h
 clear h hR
 unfold yjf
 dsimp only
 go_enter Tryz.func42,Tryz.ntmps42
 go_wp2
 go_quiet (fail)
 go_wp2
 go_ret
 exact ⟨rfl,((Below.refl _ _).alloc (Nat.le_refl _) _).trans ((za9.ofN _ _).below _)⟩
theorem yjc (x:Ent) (a:Option Addr) (cap:Nat) (w:World) {eb db nD S E:Nat} {st:St} {R:Rel} (h:za1 w eb db nD S E st) (hn:x.nm.size≤maxLen) (hR:st x.nm=some R) (hl:x.row.length≤1000000000) (ha:x.row.length=R.ar) (hw:x.wt < -1000) :
  Calls Tryz.prog 42 #[.pointer (some ⟨eb,0,none⟩),yjf x (.slice a x.row.length cap)] w fun e w'=>e=.returned (.int .i64 9)∧Below w.heap.size w w':=by
 obtain ⟨nm,row,wt⟩:=x
 dsimp only at hn hR hl ha hw
 have hE:za1 (w.alloc (.cells #[.string nm,.slice a row.length cap,.int .i64 wt] 49)) eb db nD S E st:=h.below ((Below.refl _ _).alloc (Nat.le_refl _) _)
 have hrun:∀ n,(Instr.lookup 57 (.map (some db)) (.string nm) true).run Tryz.prog ((w.alloc (.cells #[.string nm,.slice a row.length cap,.int .i64 wt] 49)).drewN n)=.ok (.tuple #[.pointer (some ⟨R.rb,0,none⟩),.bool true]) ((w.alloc (.cells #[.string nm,.slice a row.length cap,.int .i64 wt] 49)).drewN n):=
  fun n=>(hE.drawn (za9.ofN _ n)).hit hn hR
 have hrel:(w.alloc (.cells #[.string nm,.slice a row.length cap,.int .i64 wt] 49)).heap[R.rb]? = some (.cells #[.int .i64 R.ar,.map (some R.mb)] 104 (0,0)):=(hE.rel nm R hR).1
 have c0:w.cell? ⟨eb,0,none⟩=some (.map (some db)):=h.c0
 have hne:¬ eb=w.heap.size:=by have:=h.inn;have:=h.top;omega
 have hlt:eb<w.heap.size:=by have:=h.inn;have:=h.top;omega
 have hab:((row.length:Int) != (R.ar:Int))=false:=by simp [ha]
 clear ha
 have HR:=zac hrel
 clear h hR hE hrel
 unfold yjf
 dsimp only
 go_enter Tryz.func42,Tryz.ntmps42
 go_wp2
 go_quiet (fail)
 go_wp2_with fail
 have k0:((w.alloc (.cells #[.string nm,.slice a row.length cap,.int .i64 wt] 49)).drewN nq).heap[w.heap.size]? = some (.cells #[.string nm,.slice a row.length cap,.int .i64 wt] 49 (0,0)):=zae w _ _ rfl
 have HR':Hid (((w.alloc (.cells #[.string nm,.slice a row.length cap,.int .i64 wt] 49)).drewN nq).heap[R.rb]? = some (.cells #[.int .i64 R.ar,.map (some R.mb)] 104 (0,0))):=zaa HR
 have HB:=zac (((Below.refl w.heap.size w).alloc (Nat.le_refl _) (.cells #[.string nm,.slice a row.length cap,.int .i64 wt] 49)).trans ((za9.ofN _ nq).below _))
 clear hrun HR
 generalize (w.alloc (.cells #[.string nm,.slice a row.length cap,.int .i64 wt] 49)).drewN nq=W at *
 have e1:W.cell? ⟨w.heap.size,1,none⟩=some (.slice a row.length cap):=zab k0 1
 have e2:W.cell? ⟨w.heap.size,2,none⟩=some (.int .i64 wt):=zab k0 2
 clear k0
 go_quiet ((go_at_call 66;exact Calls.quiet_of_same (zog R.rb R.ar R.mb _ (zaa HR'))))
 go_wp2
 go_ret
 exact ⟨rfl,(zaa HB).trans ((za9.ofN _ _).below _)⟩
theorem ygd (x:Ent) (a:Option Addr) (cap:Nat) (w:World) {eb db nD S E:Nat} {st:St} {R:Rel} (h:za1 w eb db nD S E st) (hn:x.nm.size≤maxLen) (hR:st x.nm=some R) (hl:x.row.length≤1000000000) (ha:x.row.length=R.ar) (hw:-1000≤x.wt∧x.wt≤1000) :
  Calls Tryz.prog 42 #[.pointer (some ⟨eb,0,none⟩),yjf x (.slice a x.row.length cap)] w fun e w'=>e=.returned (.int .i64 0)∧Below w.heap.size w w':=by
 obtain ⟨nm,row,wt⟩:=x
 dsimp only at hn hR hl ha hw
 have hE:za1 (w.alloc (.cells #[.string nm,.slice a row.length cap,.int .i64 wt] 49)) eb db nD S E st:=h.below ((Below.refl _ _).alloc (Nat.le_refl _) _)
 have hrun:∀ n,(Instr.lookup 57 (.map (some db)) (.string nm) true).run Tryz.prog ((w.alloc (.cells #[.string nm,.slice a row.length cap,.int .i64 wt] 49)).drewN n)=.ok (.tuple #[.pointer (some ⟨R.rb,0,none⟩),.bool true]) ((w.alloc (.cells #[.string nm,.slice a row.length cap,.int .i64 wt] 49)).drewN n):=
  fun n=>(hE.drawn (za9.ofN _ n)).hit hn hR
 have hrel:(w.alloc (.cells #[.string nm,.slice a row.length cap,.int .i64 wt] 49)).heap[R.rb]? = some (.cells #[.int .i64 R.ar,.map (some R.mb)] 104 (0,0)):=(hE.rel nm R hR).1
 have c0:w.cell? ⟨eb,0,none⟩=some (.map (some db)):=h.c0
 have hne:¬ eb=w.heap.size:=by have:=h.inn;have:=h.top;omega
 have hlt:eb<w.heap.size:=by have:=h.inn;have:=h.top;omega
 have hab:((row.length:Int) != (R.ar:Int))=false:=by simp [ha]
 clear ha
 have hw1:¬ wt < -1000:=by omega
 have hw2:¬ 1000<wt:=by omega
 clear hw
 have HR:=zac hrel
 clear h hR hE hrel
 unfold yjf
 dsimp only
 go_enter Tryz.func42,Tryz.ntmps42
 go_wp2
 go_quiet (fail)
 go_wp2_with fail
 have k0:((w.alloc (.cells #[.string nm,.slice a row.length cap,.int .i64 wt] 49)).drewN nq).heap[w.heap.size]? = some (.cells #[.string nm,.slice a row.length cap,.int .i64 wt] 49 (0,0)):=zae w _ _ rfl
 have HR':Hid (((w.alloc (.cells #[.string nm,.slice a row.length cap,.int .i64 wt] 49)).drewN nq).heap[R.rb]? = some (.cells #[.int .i64 R.ar,.map (some R.mb)] 104 (0,0))):=zaa HR
 have HB:=zac (((Below.refl w.heap.size w).alloc (Nat.le_refl _) (.cells #[.string nm,.slice a row.length cap,.int .i64 wt] 49)).trans ((za9.ofN _ nq).below _))
 clear hrun HR
 generalize (w.alloc (.cells #[.string nm,.slice a row.length cap,.int .i64 wt] 49)).drewN nq=W at *
 have e1:W.cell? ⟨w.heap.size,1,none⟩=some (.slice a row.length cap):=zab k0 1
 have e2:W.cell? ⟨w.heap.size,2,none⟩=some (.int .i64 wt):=zab k0 2
 clear k0
 go_quiet ((go_at_call 66;exact Calls.quiet_of_same (zog R.rb R.ar R.mb _ (zaa HR'))))
 go_wp2
 go_ret
 exact ⟨rfl,(zaa HB).trans ((za9.ofN _ _).below _)⟩
end Go.Proofs.YtoifcnidhfnapabGreatDoor
