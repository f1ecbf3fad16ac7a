import Derived.Test.YtoifcnidhfnapaaGreatDoorB01
import Derived.Maps.OwnSet
import Derived.Maps.RangeWalk
import Derived.DeepKeys4
import Derived.Laws.CopyOwn
set_option linter.unusedVariables false
set_option linter.unusedSimpArgs false
set_option maxRecDepth 100000
set_option maxHeartbeats 16000000
/- The library's contracts at this program,in plain words: the sorts of index.entry and join.Row. -/
namespace Go.Proofs
open Go.Shelf
def Tryz.sortEnt_ren:Go.Shelf.Ren:=⟨fun|6=>211|15=>207|14=>248|28=>238|29=>239|20=>269|21=>270|22=>271|23=>272|24=>273|25=>274|26=>275|27=>276|46=>284|47=>262|48=>263|49=>285|50=>286|57=>293|n=>n,fun|22=>140|24=>221|25=>347|3=>3|39=>342|0=>0|53=>179|55=>372|4=>4|46=>365|45=>364|50=>352|5=>5|9=>9|66=>388|70=>392|76=>402|77=>403|n=>n,fun|n=>n⟩
theorem Tryz.sortEnt:Go.Proofs.SlLaysF0.n14 Tryz.prog Tryz.sortEnt_ren:={
 mixed:=by kernel_rfl
 f14:=⟨Tryz.f248.name,by decide,Tryz.func248.trans (congrArg some (by kernel_rfl))⟩
 f15:=Tryz.func207.trans (congrArg some (by kernel_rfl))
 f20:=⟨Tryz.f269.name,by decide,Tryz.func269.trans (congrArg some (by kernel_rfl))⟩
 f21:=⟨Tryz.f270.name,by decide,Tryz.func270.trans (congrArg some (by kernel_rfl))⟩
 f22:=⟨Tryz.f271.name,by decide,Tryz.func271.trans (congrArg some (by kernel_rfl))⟩
 f23:=⟨Tryz.f272.name,by decide,Tryz.func272.trans (congrArg some (by kernel_rfl))⟩
 f24:=⟨Tryz.f273.name,by decide,Tryz.func273.trans (congrArg some (by kernel_rfl))⟩
 f25:=⟨Tryz.f274.name,by decide,Tryz.func274.trans (congrArg some (by kernel_rfl))⟩
 f26:=⟨Tryz.f275.name,by decide,Tryz.func275.trans (congrArg some (by kernel_rfl))⟩
 f27:=⟨Tryz.f276.name,by decide,Tryz.func276.trans (congrArg some (by kernel_rfl))⟩
 f28:=Tryz.func238.trans (congrArg some (by kernel_rfl))
 f29:=Tryz.func239.trans (congrArg some (by kernel_rfl))
 f46:=⟨Tryz.f284.name,by decide,Tryz.func284.trans (congrArg some (by kernel_rfl))⟩
 f47:=Tryz.func262.trans (congrArg some (by kernel_rfl))
 f48:=Tryz.func263.trans (congrArg some (by kernel_rfl))
 f49:=⟨Tryz.f285.name,by decide,Tryz.func285.trans (congrArg some (by kernel_rfl))⟩
 f50:=⟨Tryz.f286.name,by decide,Tryz.func286.trans (congrArg some (by kernel_rfl))⟩
 f57:=⟨Tryz.f293.name,by decide,Tryz.func293.trans (congrArg some (by kernel_rfl))⟩
 t0:=Tryz.underlying0
 a0:=Tryz.isAgg0
 z0:=Tryz.sizeOf0
 v0:=Tryz.zeroValue0
 t3:=Tryz.underlying3
 a3:=Tryz.isAgg3
 z3:=Tryz.sizeOf3
 v3:=Tryz.zeroValue3
 t4:=Tryz.underlying4
 a4:=Tryz.isAgg4
 z4:=Tryz.sizeOf4
 v4:=Tryz.zeroValue4
 t5:=Tryz.underlying5
 a5:=Tryz.isAgg5
 z5:=Tryz.sizeOf5
 v5:=Tryz.zeroValue5
 t9:=Tryz.underlying9
 a9:=Tryz.isAgg9
 z9:=Tryz.sizeOf9
 v9:=Tryz.zeroValue9
 t22:=Tryz.underlying140
 a22:=Tryz.isAgg140
 z22:=Tryz.sizeOf140
 v22:=Tryz.zeroValue140
 t25:=Tryz.underlying347
 a25:=Tryz.isAgg347
 z25:=Tryz.sizeOf347
 v25:=Tryz.zeroValue347
 t39:=Tryz.underlying342
 a39:=Tryz.isAgg342
 z39:=Tryz.sizeOf342
 v39:=Tryz.zeroValue342
 t45:=Tryz.underlying364
 a45:=Tryz.isAgg364
 z45:=Tryz.sizeOf364
 v45:=Tryz.zeroValue364
 t46:=Tryz.underlying365
 a46:=Tryz.isAgg365
 z46:=Tryz.sizeOf365
 v46:=Tryz.zeroValue365
 t50:=Tryz.underlying352
 a50:=Tryz.isAgg352
 z50:=Tryz.sizeOf352
 v50:=Tryz.zeroValue352
 t53:=Tryz.underlying179
 a53:=Tryz.isAgg179
 z53:=Tryz.sizeOf179
 v53:=Tryz.zeroValue179
 t55:=Tryz.underlying372
 a55:=Tryz.isAgg372
 z55:=Tryz.sizeOf372
 v55:=Tryz.zeroValue372
 t66:=Tryz.underlying388
 a66:=Tryz.isAgg388
 z66:=Tryz.sizeOf388
 v66:=Tryz.zeroValue388
 t70:=Tryz.underlying392
 a70:=Tryz.isAgg392
 z70:=Tryz.sizeOf392
 v70:=Tryz.zeroValue392
 t76:=Tryz.underlying402
 a76:=Tryz.isAgg402
 z76:=Tryz.sizeOf402
 v76:=Tryz.zeroValue402
 t77:=Tryz.underlying403
 a77:=Tryz.isAgg403
 z77:=Tryz.sizeOf403
 v77:=Tryz.zeroValue403 }
def Tryz.sortHRow_ren:Go.Shelf.Ren:=⟨fun|6=>164|15=>207|14=>209|28=>238|29=>239|20=>240|21=>241|22=>242|23=>243|24=>244|25=>245|26=>246|27=>247|46=>266|47=>262|48=>263|49=>267|50=>268|57=>283|n=>n,fun|22=>208|24=>134|25=>213|3=>3|39=>342|0=>0|53=>179|55=>372|4=>4|46=>365|45=>364|50=>352|5=>5|9=>9|66=>388|70=>392|76=>402|77=>403|n=>n,fun|n=>n⟩
theorem Tryz.sortHRow:Go.Proofs.SlLaysF0.n6 Tryz.prog Tryz.sortHRow_ren:={
 mixed:=by kernel_rfl
 f6:=⟨Tryz.f164.name,by decide,Tryz.func164.trans (congrArg some (by kernel_rfl))⟩
 f14:=⟨Tryz.f209.name,by decide,Tryz.func209.trans (congrArg some (by kernel_rfl))⟩
 f15:=Tryz.func207.trans (congrArg some (by kernel_rfl))
 f20:=⟨Tryz.f240.name,by decide,Tryz.func240.trans (congrArg some (by kernel_rfl))⟩
 f21:=⟨Tryz.f241.name,by decide,Tryz.func241.trans (congrArg some (by kernel_rfl))⟩
 f22:=⟨Tryz.f242.name,by decide,Tryz.func242.trans (congrArg some (by kernel_rfl))⟩
 f23:=⟨Tryz.f243.name,by decide,Tryz.func243.trans (congrArg some (by kernel_rfl))⟩
 f24:=⟨Tryz.f244.name,by decide,Tryz.func244.trans (congrArg some (by kernel_rfl))⟩
 f25:=⟨Tryz.f245.name,by decide,Tryz.func245.trans (congrArg some (by kernel_rfl))⟩
 f26:=⟨Tryz.f246.name,by decide,Tryz.func246.trans (congrArg some (by kernel_rfl))⟩
 f27:=⟨Tryz.f247.name,by decide,Tryz.func247.trans (congrArg some (by kernel_rfl))⟩
 f28:=Tryz.func238.trans (congrArg some (by kernel_rfl))
 f29:=Tryz.func239.trans (congrArg some (by kernel_rfl))
 f46:=⟨Tryz.f266.name,by decide,Tryz.func266.trans (congrArg some (by kernel_rfl))⟩
 f47:=Tryz.func262.trans (congrArg some (by kernel_rfl))
 f48:=Tryz.func263.trans (congrArg some (by kernel_rfl))
 f49:=⟨Tryz.f267.name,by decide,Tryz.func267.trans (congrArg some (by kernel_rfl))⟩
 f50:=⟨Tryz.f268.name,by decide,Tryz.func268.trans (congrArg some (by kernel_rfl))⟩
 f57:=⟨Tryz.f283.name,by decide,Tryz.func283.trans (congrArg some (by kernel_rfl))⟩
 t0:=Tryz.underlying0
 a0:=Tryz.isAgg0
 z0:=Tryz.sizeOf0
 v0:=Tryz.zeroValue0
 t3:=Tryz.underlying3
 a3:=Tryz.isAgg3
 z3:=Tryz.sizeOf3
 v3:=Tryz.zeroValue3
 t4:=Tryz.underlying4
 a4:=Tryz.isAgg4
 z4:=Tryz.sizeOf4
 v4:=Tryz.zeroValue4
 t5:=Tryz.underlying5
 a5:=Tryz.isAgg5
 z5:=Tryz.sizeOf5
 v5:=Tryz.zeroValue5
 t9:=Tryz.underlying9
 a9:=Tryz.isAgg9
 z9:=Tryz.sizeOf9
 v9:=Tryz.zeroValue9
 t22:=Tryz.underlying208
 a22:=Tryz.isAgg208
 z22:=Tryz.sizeOf208
 v22:=Tryz.zeroValue208
 t25:=Tryz.underlying213
 a25:=Tryz.isAgg213
 z25:=Tryz.sizeOf213
 v25:=Tryz.zeroValue213
 t39:=Tryz.underlying342
 a39:=Tryz.isAgg342
 z39:=Tryz.sizeOf342
 v39:=Tryz.zeroValue342
 t45:=Tryz.underlying364
 a45:=Tryz.isAgg364
 z45:=Tryz.sizeOf364
 v45:=Tryz.zeroValue364
 t46:=Tryz.underlying365
 a46:=Tryz.isAgg365
 z46:=Tryz.sizeOf365
 v46:=Tryz.zeroValue365
 t50:=Tryz.underlying352
 a50:=Tryz.isAgg352
 z50:=Tryz.sizeOf352
 v50:=Tryz.zeroValue352
 t53:=Tryz.underlying179
 a53:=Tryz.isAgg179
 z53:=Tryz.sizeOf179
 v53:=Tryz.zeroValue179
 t55:=Tryz.underlying372
 a55:=Tryz.isAgg372
 z55:=Tryz.sizeOf372
 v55:=Tryz.zeroValue372
 t66:=Tryz.underlying388
 a66:=Tryz.isAgg388
 z66:=Tryz.sizeOf388
 v66:=Tryz.zeroValue388
 t70:=Tryz.underlying392
 a70:=Tryz.isAgg392
 z70:=Tryz.sizeOf392
 v70:=Tryz.zeroValue392
 t76:=Tryz.underlying402
 a76:=Tryz.isAgg402
 z76:=Tryz.sizeOf402
 v76:=Tryz.zeroValue402
 t77:=Tryz.underlying403
 a77:=Tryz.isAgg403
 z77:=Tryz.sizeOf403
 v77:=Tryz.zeroValue403 }
end Go.Proofs
namespace Go.Proofs.YtoifcnidhfnapaaGreatDoor
open Go.RowKit Go.Maps
abbrev Row:=Int×Int×Int
def zjs (r:Row):Value:=.agg #[.int .i64 r.1,.int .i64 r.2.1,.int .i64 r.2.2]
def wfI (x:Int):Prop:=(Lit.int .i64 x).wf=true
def zaw (r:Row):Prop:=wfI r.1∧wfI r.2.1∧wfI r.2.2
theorem Tryz.laidOut:laidOutB Tryz.prog=true:=by kernel_rfl
theorem Tryz.row60:(77:TypeId)<Tryz.prog.types.size:=of_decide_eq_true (by kernel_rfl)
theorem Tryz.cells60:Tryz.prog.cellsOf 77=3:=by kernel_rfl
theorem Tryz.cells2:Tryz.prog.cellsOf 2=1:=by kernel_rfl
theorem Tryz.size:Tryz.prog.types.size=446:=by kernel_rfl
theorem Tryz.keyType60:Tryz.prog.keyType 77=true:=by kernel_rfl
theorem Tryz.wide60:(match Tryz.prog.underlying 77 with|some (.array _ _)|some (.struct _)=>true|_=>false)=true:=by rw [Tryz.underlying77]
theorem zft:Keyed Tryz.prog 77:=Keyed.of_law (deep_law_laid Tryz.laidOut (m:=2) (by omega) Tryz.row60 (by kernel_rfl) Tryz.wide60)
theorem zoo:Keyed Tryz.prog 9:=string_keyed Tryz.underlying9
def za2 (r:Row):Lit:=.string (keyBytes [.int .i64 r.1,.int .i64 r.2.1,.int .i64 r.2.2])
theorem kl2 (d:Nat) {x:Int} (h:wfI x):Tryz.prog.keyLits (d+1) 2 [.int .i64 x]=some [.int .i64 x]:=by
 unfold wfI at h
 unfold Program.keyLits
 rw [Tryz.underlying2]
 simp [h]
theorem zj7 (d:Nat) {v:Value} {ls:List Lit} (h:Tryz.prog.keyLits (d+1) 2 [v]=some ls):∃ x,wfI x∧v=.int .i64 x∧ls=[.int .i64 x]:=by
 unfold Program.keyLits at h
 simp only [Tryz.underlying2] at h
 cases v <;> simp at h
 obtain ⟨⟨rfl,hw⟩,rfl⟩:=h
 exact ⟨_,hw,rfl,rfl⟩
theorem kl60 (d:Nat) (a b c:Value):Tryz.prog.keyLits (d+2) 77 [a,b,c]=(do
  let x ← Tryz.prog.keyLits (d+1) 2 [a]
  let y ← Tryz.prog.keyLits (d+1) 2 [b]
  let z ← Tryz.prog.keyLits (d+1) 2 [c]
  pure (x ++ (y ++ z))):=by
 conv=>lhs;unfold Program.keyLits
 rw [Tryz.underlying77]
 simp only [Tryz.cells60,Tryz.cells2,List.length_cons,List.length_nil,Nat.zero_add,Nat.reduceAdd,if_true]
 simp only [show List.range 3=[0,1,2] from rfl,List.mapM_cons,List.mapM_nil]
 simp only [Nat.zero_mul,Nat.one_mul,Nat.reduceMul,List.drop_zero,List.drop_succ_cons,List.take_succ_cons,List.take_zero]
 generalize Tryz.prog.keyLits (d+1) 2 [a]=A
 generalize Tryz.prog.keyLits (d+1) 2 [b]=B
 generalize Tryz.prog.keyLits (d+1) 2 [c]=C
 cases A <;> cases B <;> cases C <;> simp [List.flatten]
theorem zk0 {r:Row} (h:zaw r):keyOf Tryz.prog 77 (zjs r)=some (za2 r):=by
 obtain ⟨h1,h2,h3⟩:=h
 unfold keyOf
 rw [Tryz.underlying77]
 simp only [Tryz.keyType60,zjs,Value.formed,Tryz.underlying77,Tryz.cells60,Value.cells,Tryz.size]
 have:=kl60 445 (.int .i64 r.1) (.int .i64 r.2.1) (.int .i64 r.2.2)
 rw [kl2 445 h1,kl2 445 h2,kl2 445 h3] at this
 simp only [show (446+1:Nat)=445+2 from rfl]
 rw [this]
 rfl
theorem len3 {α:Type} {l:List α} (h:l.length=3):∃ a b c,l=[a,b,c]:=by
 match l,h with
 | [a,b,c],_=>exact ⟨a,b,c,rfl⟩
theorem zk1 {v:Value} {l:Lit} (h:keyOf Tryz.prog 77 v=some l):∃ r,zaw r∧v=zjs r∧l=za2 r:=by
 unfold keyOf at h
 simp only [Tryz.underlying77,Tryz.keyType60,Tryz.size] at h
 cases v <;> simp [Value.formed,Tryz.underlying77,Tryz.cells60] at h
 rename_i cs
 obtain ⟨hs,ls,hls,rfl⟩:=h
 obtain ⟨cs⟩:=cs
 obtain ⟨a,b,c,rfl⟩:=len3 (by simpa using hs)
 ·simp only [Value.cells] at hls
  have e:(447:Nat)=445+2:=rfl
  rw [e,kl60] at hls
  cases hA:Tryz.prog.keyLits (445+1) 2 [a] with
  | none=>simp [hA] at hls
  | some A =>
   cases hB:Tryz.prog.keyLits (445+1) 2 [b] with
   | none=>simp [hA,hB] at hls
   | some B =>
    cases hC:Tryz.prog.keyLits (445+1) 2 [c] with
    | none=>simp [hA,hB,hC] at hls
    | some C =>
     obtain ⟨x,wx,rfl,rfl⟩:=zj7 _ hA
     obtain ⟨y,wy,rfl,rfl⟩:=zj7 _ hB
     obtain ⟨z,wz,rfl,rfl⟩:=zj7 _ hC
     simp [hA,hB,hC] at hls
     subst hls
     exact ⟨(x,y,z),⟨wx,wy,wz⟩,rfl,rfl⟩
theorem zd6 {r s:Row} (hr:zaw r) (hs:zaw s) (h:za2 r=za2 s):r=s:=by
 have:=zft.inj (zk0 hr) (h ▸ zk0 hs)
 simp [zjs] at this
 obtain ⟨h1,h2,h3⟩:=this
 exact Prod.ext h1 (Prod.ext h2 h3)
def upd (f:Row→Int) (r:Row) (x:Int):Row→Int:=fun s=>if s=r then x else f s
structure Rep (D:DataW Unit) (f:Row→Int):Prop where
 at_:∀ r,zaw r→D.atKey (za2 r) (.lit (.int .i64 0))=.lit (.int .i64 (f r))
 has_:∀ r,zaw r→(Maps.has D (za2 r)=true↔f r≠0)
 keys:∀ l,Maps.has D l=true→∃ r,zaw r∧l=za2 r
def zfk (w:World) (b n:Nat) (f:Row→Int):Prop:=∃ D:DataW Unit,w.ownsMap Tryz.prog 77 (plainElem Tryz.prog 2) b n D∧Rep D f
theorem zfg (r:Row):WideAt.IsKeyLit (za2 r):=trivial
theorem Rep.put {D:DataW Unit} {f:Row→Int} (h:Rep D f) (hD:IsMap D) {r:Row} (hr:zaw r) {x:Int} (hx:x≠0):Rep (D.put (za2 r) (.lit (.int .i64 x))) (upd f r x):=by
 refine ⟨fun s hs=>?_,fun s hs=>?_,fun l hl=>?_⟩
 ·unfold upd
  by_cases e:s=r
  ·subst e;rw [atKey_put_same hD (zfg _),if_pos rfl]
  ·rw [atKey_put_other (fun e'=>e (zd6 hs hr e')),if_neg e];exact h.at_ s hs
 ·unfold upd
  by_cases e:s=r
  ·subst e;rw [has_put_same hD (zfg _),if_pos rfl];simp [hx]
  ·rw [has_put_other (fun e'=>e (zd6 hs hr e')),if_neg e];exact h.has_ s hs
 ·by_cases e:l=za2 r
  ·exact ⟨r,hr,e⟩
  ·rw [has_put_other e] at hl;exact h.keys l hl
theorem Rep.del {D:DataW Unit} {f:Row→Int} (h:Rep D f) {r:Row} (hr:zaw r):Rep (D.del (za2 r)) (upd f r 0):=by
 refine ⟨fun s hs=>?_,fun s hs=>?_,fun l hl=>?_⟩
 ·unfold upd
  by_cases e:s=r
  ·subst e;rw [atKey_del_same,if_pos rfl]
  ·rw [atKey_del_other (fun e'=>e (zd6 hs hr e')),if_neg e];exact h.at_ s hs
 ·unfold upd
  by_cases e:s=r
  ·subst e;rw [has_del_same,if_pos rfl];simp
  ·rw [has_del_other (fun e'=>e (zd6 hs hr e')),if_neg e];exact h.has_ s hs
 ·by_cases e:l=za2 r
  ·subst e;rw [has_del_same] at hl;simp at hl
  ·rw [has_del_other e] at hl;exact h.keys l hl
theorem zym (w:World):(zeroValue 2).run Tryz.prog w=.ok (.int .i64 0) w:=by kernel_rfl
theorem zdk {a b:Int} (h:(DataW.lit (.int .i64 a):DataW Unit)=.lit (.int .i64 b)):a=b:=by
 injection h with h;injection h
theorem zwf (b n:Nat) (f:Row→Int) (r:Row) (x:Int) (w:World) (h:zfk w b n f) (hn:n<2000000000) (hr:zaw r) (h1:-1000000≤f r) (h2:f r≤1000000) (h3:-1000000≤x) (h4:x≤1000000) :
  Calls Tryz.prog 117 #[.map (some b),zjs r,.int .i64 x] w fun e w'=>e=.returned (.tuple #[])∧zfk w' b (n+1) (upd f r (f r+x))∧w.grownBy w' (some b):=by
 obtain ⟨D,hown,hrep⟩:=h
 have hkey:=zk0 hr
 have hat0:=hrep.at_ r hr
 obtain ⟨a,a2,a3⟩:=r
 obtain ⟨q,hq⟩:∃ q,q=f (a,a2,a3):=⟨_,rfl⟩
 rw [← hq] at hat0 h1 h2
 have Hq:=zac hq
 have Hrep:=zac hrep
 have Hat:=zac hat0
 clear hq hrep hat0
 have hown':=hown.alloc (.cells #[.int .i64 a,.int .i64 a2,.int .i64 a3] 77)
 unfold zjs at hkey ⊢
 have hwf:(Lit.int .i64 (q+x)).wf=true:=WalkArith.wf_i64 (by omega)
 by_cases hz:q+x=0
 ·have hzb:(q+x == 0)=true:=by simp [hz]
  clear hz
  go_enter Tryz.func117,Tryz.ntmps117
  go_wp2_with (first
   | (at_lookup;refine wpList_lookup_own_int _ rfl _ _ 127 rfl 77 2 .i64 zft Tryz.underlying127 Tryz.underlying2 (zym _) b n D rfl hown' _ _ rfl hkey ?_;intro c hat hwc;obtain rfl:=zdk (hat.symm.trans (zaa Hat));clear hat)
   | (at_delete;refine wpList_delete_own _ rfl _ _ 127 77 rfl 2 zft Tryz.underlying127 _ b n D rfl hown' _ _ rfl hkey ?_;intro w1 hown1 hturn1)
   | go_in)
  refine bodyPost_ret (v:=.tuple #[]) (by simp [results,Tryz.results117,go_sem]) rfl ?_
  refine ⟨rfl,⟨_,hown1.mono (Nat.le_succ _),?_⟩,((World.grownBy_alloc _ _ _)).trans hturn1.grown⟩
  rw [← zaa Hq,show c+x=0 from by simpa using hzb]
  exact (zaa Hrep).del hr
 ·have hzb:(q+x == 0)=false:=by simp [hz]
  have Hz:=zac hz
  clear hz
  go_enter Tryz.func117,Tryz.ntmps117
  go_wp2_with (first
   | (at_lookup;refine wpList_lookup_own_int _ rfl _ _ 127 rfl 77 2 .i64 zft Tryz.underlying127 Tryz.underlying2 (zym _) b n D rfl hown' _ _ rfl hkey ?_;intro c hat hwc;obtain rfl:=zdk (hat.symm.trans (zaa Hat));clear hat)
   | (at_mapUpdate;refine wpList_mapUpdate_own _ rfl _ _ _ 127 rfl 77 2 zft Tryz.underlying127 _ b n D rfl hown' (by unfold maxLen;omega) _ _ _ rfl rfl hkey _ [] (plainElem_int Tryz.underlying2 hwf) ?_;intro w1 hown1 hgrow1)
   | go_in)
  go_end0
  refine ⟨rfl,⟨_,hown1,?_⟩,((World.grownBy_alloc _ _ _)).trans hgrow1⟩
  rw [← zaa Hq]
  exact (zaa Hrep).put hown.isMap hr (zaa Hz)
def zb7 (zs:List Int):Row:=(zs[0]?.getD 0,zs[1]?.getD 0,zs[2]?.getD 0)
theorem Tryz.infoSize2:(Tryz.prog.info? 2).map (·.size)=some 1:=by kernel_rfl
theorem ya3 (zs:List Int) (h:zs.length≤3):splice [Value.int .i64 0,.int .i64 0,.int .i64 0] 0 (zs.map (Value.int .i64))=[.int .i64 (zb7 zs).1,.int .i64 (zb7 zs).2.1,.int .i64 (zb7 zs).2.2]:=by
  match zs,h with
  | [],_=>rfl
  | [_],_=>rfl
  | [_,_],_=>rfl
  | [_,_,_],_=>rfl
theorem zab {w:World} {g:Nat} {cs:Array Value} {t:TypeId} {fr:Nat×Nat} (h:w.heap[g]? = some (.cells cs t fr)) (o:Nat):w.cell? ⟨g,o,none⟩=cs[o]?:=by
  simp [World.cell?,h]
theorem zad {w:World} {g:Nat} {cs:Array Value} {t:TypeId} (h:w.heap[g]? = some (.cells cs t (0,0))) (o:Nat):w.frozen? ⟨g,o,none⟩=false:=by
  simp [World.frozen?,h]
theorem zvc (v:Value) (zs:List Int) (w:World) (hv:zbn w v zs) (hl:zs.length≤3) :
    Calls Tryz.prog 118 #[v] w fun e w'=>e=.returned (zjs (zb7 zs))∧Below w.heap.size w w':=by
  obtain ⟨a,cap,rfl,hc⟩:=hv
  have Hc:=zac hc
  clear hc
  have hmin:(zs.map (Value.int .i64)).length=Nat.min zs.length 3:=by
    rw [List.length_map]
    exact (Nat.min_eq_left hl).symm
  have Hpos:Hid (0<(zs.map (Value.int .i64)).length→some (⟨w.heap.size+1,0,none⟩:Addr)=some ⟨w.heap.size+1,0,none⟩∧∃ ad,a=some ad∧∀ j u,(zs.map (Value.int .i64))[j]? = some u →
      ((w.alloc (.cells #[.int .i64 0,.int .i64 0,.int .i64 0] 77)).alloc (.cells #[.int .i64 0,.int .i64 0,.int .i64 0] 77)).cell? (ad.add j)=some u):=by
    intro hpos
    refine ⟨rfl,?_⟩
    rw [List.length_map] at hpos
    obtain ⟨b,o,ha,_⟩:=(zaa Hc) 0 hpos
    refine ⟨_,ha,fun j u hj=>?_⟩
    have hjl:j<zs.length:=by simpa using (List.getElem?_eq_some_iff.1 hj).1
    obtain ⟨b',o',ha',hcell⟩:=(zaa Hc) j hjl
    rw [ha] at ha'
    cases ha'
    have hbl:b<w.heap.size:=World.block_lt_of_cell? w _ hcell
    rw [Addr.add_lit,(((Below.refl _ w).alloc (Nat.le_refl _) _).alloc (by simp) _).cell (p:=⟨b,o+j,none⟩) hbl,hcell]
    simp [hjl] at hj ⊢
    exact hj
  have hsp:=ya3 zs hl
  obtain ⟨p,hp⟩:∃ p,p=zb7 zs:=⟨_,rfl⟩
  rw [← hp] at hsp ⊢
  clear hp
  have Hsp:=zac hsp
  clear hsp
  go_enter Tryz.func118,Tryz.ntmps118
  go_wp2_with (first
    | (refine wpList_copy_splice rfl (.tmp 4) (.tmp 5) 41 41 rfl 2 Tryz.underlying41 Tryz.infoSize2 (some ⟨w.heap.size+1,0,none⟩) a 3 3 zs.length cap rfl rfl (w.heap.size+1) 0 [.int .i64 0,.int .i64 0,.int .i64 0] 77 (zae _ _ _ (by simp)) (zs.map (Value.int .i64)) hmin (zaa Hpos) (by simpa using hl) (ints_oneCell _ _) (w.heap.size+1) _ (Below.refl _ _) (Nat.le_refl _) ?_;intro w1 hg1 hb1;rw [zaa Hsp] at hg1
       have c0:w1.cell? ⟨w.heap.size+1,0,none⟩=some (.int .i64 p.1):=zab hg1.out 0
       have c1:w1.cell? ⟨w.heap.size+1,1,none⟩=some (.int .i64 p.2.1):=zab hg1.out 1
       have c2:w1.cell? ⟨w.heap.size+1,2,none⟩=some (.int .i64 p.2.2):=zab hg1.out 2
       have k0:w1.heap[w.heap.size]? = some (.cells #[.int .i64 0,.int .i64 0,.int .i64 0] 77 (0,0)):=by
         rw [hb1.block w.heap.size (by omega)];rw [Below.heap_alloc _ _ _ (by simp)];exact zae _ _ _ rfl
       have d0:w1.cell? ⟨w.heap.size,0,none⟩=some (.int .i64 0):=zab k0 0
       have d1:w1.cell? ⟨w.heap.size,1,none⟩=some (.int .i64 0):=zab k0 1
       have d2:w1.cell? ⟨w.heap.size,2,none⟩=some (.int .i64 0):=zab k0 2
       have f0:=zad k0 0
       have f1:=zad k0 1
       have f2:=zad k0 2
       have HB:=zac (((Below.refl w.heap.size w).alloc (Nat.le_refl _) (.cells #[.int .i64 0,.int .i64 0,.int .i64 0] 77)).alloc (by simp) (.cells #[.int .i64 0,.int .i64 0,.int .i64 0] 77) |>.trans (hb1.mono (Nat.le_succ _)))
       clear k0 hb1 hg1))
  refine bodyPost_ret (v:=zjs p) (by simp [results,Tryz.results118,go_sem,d0,d1,d2,f0,f1,f2,zjs]) rfl ?_
  exact ⟨rfl,(((zaa HB).setCell (p:=⟨w.heap.size,0,none⟩) (Nat.le_refl _) _).setCell (p:=⟨w.heap.size,1,none⟩) (Nat.le_refl _) _).setCell (p:=⟨w.heap.size,2,none⟩) (Nat.le_refl _) _⟩
def zap:Value→Option (DataW Unit×List MemPlace)
 | .pointer (some ⟨b,0,none⟩)=>some (.lit (.int .i64 b),[])
 | .pointer none=>some (.lit (.int .i64 (-1)),[])
 | _=>none
def zc4:Value→Option (DataW Unit×List MemPlace)
 | .map (some b)=>some (.lit (.int .i64 b),[])
 | .map none=>some (.lit (.int .i64 (-1)),[])
 | _=>none
def zas (s:ByteArray):Lit:=.string s.data.toList
theorem zdb {a b:ByteArray} (h:zas a=zas b):a=b:=by
 unfold zas at h
 injection h with h
 cases a;cases b
 simp at h
 rw [h]
theorem zdj {s:ByteArray} (h:s.size≤maxLen):keyOf Tryz.prog 9 (.string s)=some (zas s):=by simp [keyOf,Tryz.underlying9,mapKey,h,zas]
structure Rel where
 rb:Nat
 mb:Nat
 ar:Nat
 n:Nat
 f:Row→Int
abbrev St:=ByteArray→Option Rel
def NoV (w:World) (xs:Array Value) (db eb:Nat) (st:St):Prop:=
 xs[1]? = some (.map (some (db+1)))∧xs[2]? = some (.map (some (db+2)))∧True∧True∧db+3=eb∧∀ nm R,st nm=some R→eb<R.mb
def NoVs (w:World) (db:Nat):Prop:=w.ownsMap Tryz.prog 96 zap (db+1) 0 (.map [])∧w.ownsMap Tryz.prog 9 zap (db+2) 0 (.map [])
theorem zau {k:TypeId} {R:Value→Option (DataW Unit×List MemPlace)} {w w':World} {b n:Nat} {D:DataW Unit} (h:w.ownsMap Tryz.prog k R b n D) (hb:w'.heap[b]? = w.heap[b]?):w'.ownsMap Tryz.prog k R b n D:=by
 obtain ⟨es,clock,h1,h2⟩:=h
 exact ⟨es,clock,hb.trans h1,h2⟩
theorem NoV.kept {w w':World} {xs:Array Value} {db eb:Nat} {st:St} (h:NoV w xs db eb st) (h1:w'.heap[db+1]? = w.heap[db+1]?) (h2:w'.heap[db+2]? = w.heap[db+2]?):NoV w' xs db eb st:=
 ⟨h.1,h.2.1,trivial,trivial,h.2.2.2.2.1,h.2.2.2.2.2⟩
theorem NoV.turn {w:World} {xs:Array Value} {db eb:Nat} {st st':St} (h:NoV w xs db eb st) (hs:∀ nm R',st' nm=some R'→eb<R'.mb):NoV w xs db eb st':=
 ⟨h.1,h.2.1,trivial,trivial,h.2.2.2.2.1,hs⟩
structure za1 (w:World) (eb db nD S E:Nat) (st:St):Prop where
 eng:∃ xs:Array Value,w.heap[eb]? = some (.cells xs 72 (0,0))∧xs[0]? = some (.map (some db))∧NoV w xs db eb st
 dir:∃ D,w.ownsMap Tryz.prog 9 zap db nD D∧Maps.size D=nD∧(∀ nm,nm.size≤maxLen→Maps.has D (zas nm)=(st nm).isSome) ∧
  (∀ nm R,nm.size≤maxLen→st nm=some R→∀ zd,D.atKey (zas nm) zd=.lit (.int .i64 R.rb))
 rel:∀ nm R,st nm=some R→w.heap[R.rb]? = some (.cells #[.int .i64 R.ar,.map (some R.mb)] 129 (0,0))∧zfk w R.mb R.n R.f
 apart:∀ nm nm' R R',st nm=some R→st nm'=some R'→nm≠nm'→R.mb≠R'.mb
 inn:S≤eb∧eb<E∧S≤db∧db<E
 inr:∀ nm R,st nm=some R→S≤R.rb∧R.rb<E∧S≤R.mb∧R.mb<E∧R.mb≠db
 top:E≤w.heap.size
theorem za1.c0 {w:World} {eb db nD S E:Nat} {st:St} (h:za1 w eb db nD S E st):w.cell? ⟨eb,0,none⟩=some (.map (some db)):=by
 obtain ⟨xs,h1,h2,_⟩:=h.eng
 exact (zab h1 0).trans h2
theorem yi4 (w:World):Calls Tryz.prog 33 #[] w fun e w'=>e=.returned (.pointer (some ⟨w.heap.size+3,0,none⟩))∧za1 w' (w.heap.size+3) w.heap.size 0 w.heap.size w'.heap.size (fun _=>none)∧NoVs w' w.heap.size∧w'.heap.size=w.heap.size+4∧Below w.heap.size w w':=by
 have hmm:=@run_makeMap Tryz.prog
 go_enter Tryz.func33,Tryz.ntmps33
 go_wp2
 go_ret
 have made:∀ (W:World) (k:TypeId) (b:Nat),b=W.heap.size→(W.alloc (.map #[] 0)).ownsMap Tryz.prog k zap b 0 (.map []):=fun W k b e=>by subst e;exact World.ownsMap_made W Tryz.prog k zap
 refine ⟨rfl,⟨⟨_,zae _ _ _ (by simp),rfl,rfl,rfl,trivial,trivial,rfl,fun _ _ h=>by cases h⟩,⟨.map [],(((World.ownsMap_made _ _ _ _).alloc _).alloc _).alloc _,rfl,fun _ _=>rfl,fun _ _ _ h=>by cases h⟩,fun _ _ h=>(by cases h),fun _ _ _ _ h=>(by cases h),by simp;omega,fun _ _ h=>(by cases h),Nat.le_refl _⟩,⟨((made _ _ _ (by simp)).alloc _).alloc _,(made _ _ _ (by simp)).alloc _⟩,by simp,((((Below.refl _ _).alloc (Nat.le_refl _) _).alloc (by simp) _).alloc (by simp;omega) _).alloc (by simp;omega) _⟩
theorem yba (a:Nat) (w:World):Calls Tryz.prog 58 #[.int .i64 a] w fun e w'=>e=.returned (.pointer (some ⟨w.heap.size+1,0,none⟩))∧w'.heap[w.heap.size+1]? = some (.cells #[.int .i64 a,.map (some w.heap.size)] 129 (0,0)) ∧
  zfk w' w.heap.size 0 (fun _=>0)∧w'.heap.size=w.heap.size+2∧Below w.heap.size w w':=by
 have hmm:=@run_makeMap Tryz.prog
 go_enter Tryz.func58,Tryz.ntmps58
 go_wp2
 go_ret
 exact ⟨rfl,zae _ _ _ (by simp),⟨.map [],(World.ownsMap_made _ _ _ _).alloc _,⟨fun _ _=>rfl,fun _ _=>by simp [Maps.has],fun _ h=>by simp [Maps.has] at h⟩⟩,by simp,((Below.refl _ _).alloc (Nat.le_refl _) _).alloc (by simp) _⟩
theorem zkt (rb ar mb:Nat) (w:World) (h:w.heap[rb]? = some (.cells #[.int .i64 ar,.map (some mb)] 129 (0,0))) :
  Calls Tryz.prog 40 #[.pointer (some ⟨rb,0,none⟩)] w fun e w'=>e=.returned (.int .i64 ar)∧w'=w:=by
 have c0:w.cell? ⟨rb,0,none⟩=some (.int .i64 ar):=zab h 0
 clear h
 go_enter Tryz.func40,Tryz.ntmps40
 go_wp2
 go_ret
 exact ⟨rfl,rfl⟩
def ybv (c:UInt8):Bool:=decide (97≤c.toNat) && decide (c.toNat≤122)
def zfv (s:ByteArray):Bool:=decide (1≤s.size) && decide (s.size≤8) && s.data.toList.all ybv
theorem yfx (s:ByteArray) (k:Nat) (h:k<s.size):(s.data.toList.take (k+1)).all ybv=((s.data.toList.take k).all ybv && ybv s[k]):=by
 have e:s.data.toList.take (k+1)=s.data.toList.take k ++ [s[k]]:=by
  rw [List.take_succ_eq_append_getElem (by simpa using h)];rfl
 rw [e,List.all_append]
 simp
theorem ydw {s:ByteArray} {k:Nat} (h:k<s.size) (hb:ybv s[k]=false):zfv s=false:=by
 unfold zfv
 have:s.data.toList.all ybv=false:=by
  rw [List.all_eq_false]
  refine ⟨s[k],?_,by simp [hb]⟩
  have:s[k]=s.data.toList[k]'(by simpa using h):=rfl
  rw [this]
  exact List.getElem_mem _
 simp [this]
theorem yat {s:ByteArray} (h1:1≤s.size) (h2:s.size≤8) (h:(s.data.toList.take s.size).all ybv=true):zfv s=true:=by
 unfold zfv
 rw [List.take_of_length_le (by simp)] at h
 simp [h1,h2,h]
theorem zma (s:ByteArray) (w:World) (hs:s.size≤9223372036854775807) :
  Calls Tryz.prog 57 #[.string s] w fun e w'=>e=.returned (.bool (zfv s))∧w'=w:=by
 by_cases h1:s.size<1
 ·have hf:zfv s=false:=by unfold zfv;simp [show ¬ 1≤s.size by omega]
  go_enter Tryz.func57,Tryz.ntmps57
  go_wp2
  go_ret
  exact ⟨by simp [hf],rfl⟩
 ·by_cases h2:8<s.size
  ·have hf:zfv s=false:=by unfold zfv;simp [show ¬ s.size≤8 by omega]
   go_enter Tryz.func57,Tryz.ntmps57
   go_wp2
   go_ret
   exact ⟨by simp [hf],rfl⟩
  ·go_enter Tryz.func57,Tryz.ntmps57
   go_wp2
   go_loop [14] (fun i=>∃ k:Nat,k≤s.size∧i=.int .i64 k∧(s.data.toList.take k).all ybv=true) (fun i=>s.size - (intOf i).toNat)
   case atStart=>exact ⟨0,Nat.zero_le _,rfl,by simp⟩
   case round =>
    obtain ⟨k,hk,rfl,hall⟩:=hrel
    have Hall:=zac hall
    clear hall
    by_cases hlt:k<s.size
    ·by_cases hl:ybv s[k]=true
     ·have Hn:Hid ((s.data.toList.take (k+1)).all ybv=true):=by
       unfold Hid;rw [yfx s k hlt,zaa Hall,hl];rfl
      have hl':=hl
      unfold ybv at hl'
      simp at hl'
      obtain ⟨g1,g2⟩:=hl'
      have g1':¬ ((s[k].toNat:Int)<97):=by omega
      have g2':¬ (122<(s[k].toNat:Int)):=by omega
      clear hl
      go_wp2
      all_goals
       go_round
       case rel=>exact ⟨k+1,by omega,by go_num,zaa Hn⟩
       case measure=>simp [intOf];omega
     ·have hf:Hid (zfv s=false):=ydw hlt (by simpa using hl)
      have hl':=hl
      unfold ybv at hl'
      simp at hl'
      clear hl
      by_cases g1:(s[k].toNat:Int)<97
      ·go_wp2
       go_ret
       exact ⟨by rw [hf.out];rfl,rfl⟩
      ·have g2:122<(s[k].toNat:Int):=by have:=hl' (by omega);omega
       clear hl'
       go_wp2
       go_ret
       exact ⟨by rw [hf.out];rfl,rfl⟩
    ·have hf:Hid (zfv s=true):=by
      have:k=s.size:=by omega
      subst this
      exact yat (by omega) (by omega) (zaa Hall)
     go_wp2
     go_ret
     exact ⟨by rw [hf.out];rfl,rfl⟩
end Go.Proofs.YtoifcnidhfnapaaGreatDoor
