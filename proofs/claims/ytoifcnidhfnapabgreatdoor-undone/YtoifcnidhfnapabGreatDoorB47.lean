import Derived.Test.YtoifcnidhfnapabGreatDoorB26
import Derived.Test.YtoifcnidhfnapabGreatDoorB37
import Derived.Test.YtoifcnidhfnapabGreatDoorB46
import Derived.Test.YtoifcnidhfnapabGreatDoorB38
import Derived.Test.YtoifcnidhfnapabGreatDoorB36
set_option linter.unusedVariables false
set_option linter.unusedSimpArgs false
set_option maxRecDepth 100000
set_option maxHeartbeats 16000000
namespace Go.Proofs.YtoifcnidhfnapabGreatDoor
namespace K
open Go.RowKit Go.Maps
theorem zfu {α:Type} (l:List α):zby l (fun _=>0#64)=0#64:=by
 induction l with
 | nil=>rfl
 | cons a l ih=>simp only [zby,ih];rfl
theorem zha {α:Type} (d:α) (L:Nat→List α):∀ n,zlu d L n (fun _=>0#64)=0#64
 | 0=>rfl
 | n+1=>by simp only [zlu,zha d L n,zfu]
theorem yfo {α:Type} (d:α) (L:Nat→List α) (n:Nat) (f:(Nat→α)→B64) (h:zlu d L n f≠0#64):∃ g,(∀ i,i<n→g i∈L i)∧f g≠0#64:=by
 refine Classical.byContradiction fun hn=>h ?_
 rw [zc9 d L n f (fun _=>0#64) fun g hg=>Classical.byContradiction fun hf=>hn ⟨g,hg,hf⟩]
 exact zha d L n
theorem zp0 {A:List (List Trm)} {H:List Nat} {L:Nat→List zai} {h:H4} (hv:zts A H L h≠0#64):∃ r:Nat→Row,(∀ i,i<A.length→∃ e∈L i,e.1=r i)∧zp9 A r (zl5 A r)∧zmf H (zl5 A r)=h:=by
 unfold zts zih at hv
 obtain ⟨g,hg,hf⟩:=yfo _ _ _ _ hv
 refine ⟨fun i=>(g i).1,fun i hi=>⟨g i,hg i hi,rfl⟩,?_⟩
 refine Classical.byContradiction fun hn=>hf ?_
 unfold yml
 rw [if_neg hn]
 exact BitVec.zero_mul
theorem zix:(0:Int)∈zna:=by simp [zna]
theorem yc8 {r:Row} (h:r∈zfj) (j:Nat):zal r j∈zna:=by
 simp only [zfj,List.mem_flatMap,List.mem_map] at h
 obtain ⟨a,ha,b,hb,rfl⟩:=h
 unfold zal
 split
 ·exact ha
 ·exact hb
 ·exact zix
theorem yc7 {r:Row} (h:r∈zhl) (j:Nat):zal r j∈zna:=by
 simp only [zhl,List.mem_map] at h
 obtain ⟨a,ha,rfl⟩:=h
 unfold zal
 split
 ·exact ha
 ·exact zix
 ·exact zix
theorem zm1 {A:List (List Trm)} {r:Nat→Row} (hr:∀ i,i<A.length→∀ j,zal (r i) j∈zna) (v:Nat):∀ n,n≤A.length→zl4 A r v n∈zna
 | 0,_=>zix
 | n+1,hn=>by
  simp only [zl4]
  cases zny (A[n]?.getD []) v with
  | some j=>exact hr n (by omega) j
  | none=>exact zm1 hr v n (by omega)
def zqf:List H4:=zna.flatMap fun a=>zna.flatMap fun b=>zna.flatMap fun c=>zna.map fun d=>(a,b,c,d)
theorem zo1:zqf.length=256:=by decide +kernel
theorem yd8 {a b c d:Int} (ha:a∈zna) (hb:b∈zna) (hc:c∈zna) (hd:d∈zna):((a,b,c,d):H4)∈zqf:=
 List.mem_flatMap.2 ⟨a,ha,List.mem_flatMap.2 ⟨b,hb,List.mem_flatMap.2 ⟨c,hc,List.mem_map.2 ⟨d,hd,rfl⟩⟩⟩⟩
theorem yag {H:List Nat} {asg:Nat→Int} (h:∀ v,asg v∈zna):zmf H asg∈zqf:=by
 unfold zmf
 have:∀ q,(if q<H.length then asg (H[q]?.getD 0) else 0)∈zna:=fun q=>by
  split
  ·exact h _
  ·exact zix
 exact yd8 (this 0) (this 1) (this 2) (this 3)
theorem zpz {A:List (List Trm)} {H:List Nat} {L:Nat→List zai} {h:H4} (hL:∀ i,i<A.length→∀ e∈L i,e.1∈zfj∨e.1∈zhl) (hv:zts A H L h≠0#64):h∈zqf:=by
 obtain ⟨r,hr,_,rfl⟩:=zp0 hv
 refine yag fun v=>zm1 (fun i hi j=>?_) v _ (Nat.le_refl _)
 obtain ⟨e,he,h1⟩:=hr i hi
 rw [← h1]
 rcases hL i hi e he with h|h
 ·exact yc8 h j
 ·exact yc7 h j
theorem zhj {α β:Type} (g:α→β) (f:β→B64):∀ l:List α,zby (l.map g) f=zby l (fun a=>f (g a))
 | []=>rfl
 | a :: l=>by simp only [List.map_cons,zby,zhj g f l]
theorem zbg {α:Type} (f:α→B64):∀ l m:List α,zby (l ++ m) f=zby l f+zby m f
 | [],m=>by simp [zby]
 | a :: l,m=>by simp only [List.cons_append,zby,zbg f l m,BitVec.add_assoc]
theorem znw {α:Type} [DecidableEq α] (f:α→B64) (x:α):∀ l:List α,l.Nodup→x∈l→zby l (fun a=>if a=x then f a else 0#64)=f x
 | [],_,h=>by cases h
 | a :: l,hn,h=>by
  simp only [zby]
  rw [List.nodup_cons] at hn
  by_cases e:a=x
  ·subst e
   rw [if_pos rfl,za8 (g:=fun _=>0#64) (fun b hb=>if_neg fun (e:b=a)=>hn.1 (e ▸ hb)),zfu,BitVec.add_zero]
  ·rw [if_neg e,znw f x l hn.2 ((List.mem_cons.1 h).resolve_left (fun h=>e h.symm)),BitVec.zero_add]
theorem ygp {f:Row→Int} {xs G:List Row} (ha:xs.Pairwise (·≠·)) (hG:G.Nodup) (hx:∀ x∈xs,x∈G) (hm:∀ x∈G,x ∉ xs→f x=0):Eqv (zbf f xs) (zbf f G):=by
 intro ψ
 unfold zbf
 rw [zhj,zhj]
 dsimp only
 have key:∀ (ys:List Row),ys.Pairwise (·≠·)→(∀ y∈ys,y∈G)→zby ys (fun a=>ψ a*wtB (a,f a))=zby G (fun a=>if a∈ys then ψ a*wtB (a,f a) else 0#64):=by
  intro ys
  induction ys with
  | nil=>intro _ _;simp only [zby,List.not_mem_nil,if_false,zfu]
  | cons y ys ih =>
   intro hp hy
   rw [List.pairwise_cons] at hp
   have h1:=ih hp.2 fun z hz=>hy z (by simp [hz])
   have h2:=znw (fun a=>ψ a*wtB (a,f a)) y G hG (hy y (by simp))
   simp only [zby]
   rw [h1,← h2,← znv]
   refine za8 fun a _=>?_
   by_cases e:a=y
   ·subst e
    have:a ∉ ys:=fun h=>hp.1 a h rfl
    simp [this]
   ·simp [e]
 rw [key xs ha hx]
 refine za8 fun a haG=>?_
 by_cases h:a∈xs
 ·rw [if_pos h]
 ·rw [if_neg h,hm a haG h]
  simp [wtB]
def zjq:List (List Trm):=[[(88,0),(89,0)],[(89,0),(90,0)]]
def zu9:List Nat:=[88,90]
theorem ya6 {r:Nat→Row}:zp9 zjq r (zl5 zjq r)↔(r 0).2.1=(r 1).1:=by
 have e1:zl5 zjq r 88=(r 0).1:=rfl
 have e2:zl5 zjq r 89=(r 1).1:=rfl
 have e3:zl5 zjq r 90=(r 1).2.1:=rfl
 constructor
 ·intro h
  have:=h 0 (by decide) 1 (by decide)
  exact this
 ·intro h i hi j hj
  have hi2:i<2:=hi
  match i,hi2 with
  | 0,_ =>
   have hj2:j<2:=hj
   match j,hj2 with
   | 0,_=>rfl
   | 1,_=>exact h
  | 1,_ =>
   have hj2:j<2:=hj
   match j,hj2 with
   | 0,_=>rfl
   | 1,_=>rfl
theorem ya7 {r:Nat→Row}:zmf zu9 (zl5 zjq r)=((r 0).1,(r 1).2.1,0,0):=rfl
theorem zew:zfj.Nodup:=by decide +kernel
theorem zhq (n:Nat) (F:H4→Int) (ys:List H4):zg8 (H.zcc n F ys):=by
 intro r hr
 obtain ⟨y,_,rfl⟩:=List.mem_map.1 hr
 show (H.za0 n y).length≤1000000000
 unfold H.za0
 exact Nat.le_trans (List.length_take_le' _ _) (by simp)
theorem zei {x y:Int} (hx:-9223372036854775808≤x∧x≤9223372036854775807) (hy:-9223372036854775808≤y∧y≤9223372036854775807) (h:BitVec.ofInt 64 x=BitVec.ofInt 64 y):x=y:=by
 have:=congrArg BitVec.toInt h
 rw [BitVec.toInt_ofInt,BitVec.toInt_ofInt] at this
 have e1:x.bmod (2 ^ 64)=x:=Int.bmod_eq_of_le (by omega) (by omega)
 have e2:y.bmod (2 ^ 64)=y:=Int.bmod_eq_of_le (by omega) (by omega)
 omega
end K
end Go.Proofs.YtoifcnidhfnapabGreatDoor
namespace Go.Proofs.YtoifcnidhfnapabGreatDoor
namespace K
open Go.RowKit Go.Maps Go.Sort Go.Shelf
theorem _root_.Go.Proofs.YtoifcnidhfnapabGreatDoor.EngV.start {w:World} {eb db nD S E:Nat} {st:St} (h:za1 w eb db nD S E st) (hn:NoVs w db):EngV w (fun q=>q=eb∨∃ nm R,st nm=some R∧q=R.rb) eb db nD 0 0 1 st (fun _=>none) (fun _=>none):=by
 have notc:∀ q es cl,w.heap[q]? = some (.map es cl)→¬ (q=eb∨∃ nm R,st nm=some R∧q=R.rb):=by
  rintro q es cl hq (rfl|⟨nm,R,hR,rfl⟩)
  ·obtain ⟨xs,h1,_⟩:=h.eng
   rw [hq] at h1;cases h1
  ·have:=(h.rel nm R hR).1
   rw [hq] at this;cases this
 have htop:=h.top
 have hinn:=h.inn
 obtain ⟨D,⟨es,cl,hd,_⟩,_⟩:=h.dir
 obtain ⟨es1,cl1,h1,_⟩:=id hn.1
 obtain ⟨es2,cl2,h2,_⟩:=id hn.2
 refine ⟨⟨h.eng,h.dir,h.rel,h.apart,⟨Nat.zero_le _,by omega,Nat.zero_le _,by omega⟩,fun nm R hR=>(by have:=h.inr nm R hR;omega),Nat.le_refl _⟩,?_,.inl rfl,fun nm R hR=>⟨.inr ⟨nm,R,hR,rfl⟩,?_⟩,⟨notc _ _ _ hd,notc _ _ _ h1,notc _ _ _ h2⟩,⟨.map [],hn.1,fun k _=>rfl,fun k x hx=>(by cases hx),fun l hl=>(by simp [Maps.has] at hl)⟩,fun k x hx=>(by cases hx),fun k k' x x' hx=>(by cases hx),⟨.map [],hn.2,rfl,fun _ _=>rfl,fun nm v hv=>(by cases hv)⟩,fun nm v hv=>(by cases hv),fun nm nm' v v' hv=>(by cases hv),fun nm v hv=>(by cases hv)⟩
 ·rintro k (rfl|⟨nm,R,hR,rfl⟩)
  ·omega
  ·have:=h.inr nm R hR
   omega
 ·obtain ⟨D',⟨es',cl',hm,_⟩,_⟩:=(h.rel nm R hR).2
  exact notc _ _ _ hm
theorem zq5 {R S T:Rel} (h1:zgi R 2) (h2:zgi S 2) (h3:zgi T 1):zl1 R S T 0:=⟨ztn.start h1 _,ztn.start h2 _,ztn.start h3 _⟩
def stF (R S T:Rel) (fl:List Ent):St:=st3 (zah R fl nmR) (zah S fl nmS) (zah T fl nmT)
structure Stg (B0:Nat) (W:World) (fix:Nat→Prop) (eb db nI nV M:Nat) (fl:List Ent) (R S T:Rel) (ixs:IxS) (vws:VwS):Prop where
 eng:EngV W fix eb db 3 nI nV (1+2*fl.length) (stF R S T fl) ixs vws
 fr:zgi R 2
 fs:zgi S 2
 ft:zgi T 1
 fine:∀ x∈fl,Fine x
 len:fl.length≤400
 most:zdf M vws
 low:∀ q,zcs (stF R S T fl) ixs vws q→B0≤q
 db0:B0≤db
 fix0:∀ q,fix q→B0≤q
section
variable {B0:Nat} {W:World} {fix:Nat→Prop} {eb db nI nV M:Nat} {fl:List Ent} {R S T:Rel} {ixs:IxS} {vws:VwS}
theorem Stg.three (h:Stg B0 W fix eb db nI nV M fl R S T ixs vws):zl1 (zah R fl nmR) (zah S fl nmS) (zah T fl nmT) fl.length:=by
 have:=(zq5 h.fr h.fs h.ft).add h.fine
 rwa [Nat.zero_add] at this
theorem Stg.below (h:Stg B0 W fix eb db nI nV M fl R S T ixs vws) {W':World} (hb:Below W.heap.size W W'):Stg B0 W' fix eb db nI nV M fl R S T ixs vws:=
 ⟨h.eng.below hb,h.fr,h.fs,h.ft,h.fine,h.len,h.most,h.low,h.db0,h.fix0⟩
theorem zhs {nm:ByteArray} {Q:Rel} (h:stF R S T fl nm=some Q):(nm=nmR∧Q=zah R fl nmR)∨(nm=nmS∧Q=zah S fl nmS)∨(nm=nmT∧Q=zah T fl nmT):=zte h
theorem Stg.rn (h:Stg B0 W fix eb db nI nV M fl R S T ixs vws):∀ nm Q,stF R S T fl nm=some Q→Q.n≤1+2*fl.length:=by
 intro nm Q hQ
 have:=h.three
 rcases zhs hQ with ⟨_,rfl⟩|⟨_,rfl⟩|⟨_,rfl⟩
 ·have:=this.r.n_;omega
 ·have:=this.s.n_;omega
 ·have:=this.t.n_;omega
end
theorem yfe (w:World):Calls Tryz.prog 6 #[] w fun e w'=>∃ eb,e=.returned (.pointer (some ⟨eb,0,none⟩))∧(∃ fix db R S T,Stg w.heap.size w' fix eb db 0 0 0 [] R S T (fun _=>none) (fun _=>none))∧Below w.heap.size w w':=by
 refine (ycq w).mono ?_
 rintro e w' ⟨eb,db,R,S,T,rfl,hE,hN,h1,h2,h3,hb⟩
 refine ⟨eb,rfl,⟨fun q=>q=eb∨∃ nm Q,st3 R S T nm=some Q∧q=Q.rb,db,R,S,T,?_,h1,h2,h3,fun x hx=>(by cases hx),by simp,fun nm v hv=>(by cases hv),?_,hE.inn.2.2.1,?_⟩,hb⟩
 ·unfold stF
  rw [zb2,zb2,zb2]
  exact EngV.start hE hN
 ·unfold stF
  rw [zb2,zb2,zb2]
  rintro q (⟨nm,Q,hQ,rfl⟩|⟨k,x,hx,_⟩|⟨nm,v,hv,_⟩)
  ·exact (hE.inr nm Q hQ).2.2.1
  ·cases hx
  ·cases hv
 ·rintro q (rfl|⟨nm,Q,hQ,rfl⟩)
  ·exact hE.inn.1
  ·exact (hE.inr nm Q hQ).1
theorem ybt (nm s o:ByteArray) (hs:List (Nat×Nat)) (ats:List zb3) (W:World) {B0:Nat} {fix:Nat→Prop} {eb db nI nV M:Nat} {fl:List Ent} {R S T:Rel} {ixs:IxS} {vws:VwS} (h:Stg B0 W fix eb db nI nV M fl R S T ixs vws) (hB0:B0≤W.heap.size) (hn:zgj nm=true) (hn8:nm.size≤8) (hx:vws nm=none) (hnV:nV≤5) (hsz:s.size≤300)
  (hp:zfd s=.ok (hs,ats)) (hF:zdt (stF R S T fl) hs (ats.map zb3.q)) (hL:ycf (ats.map zb3.q)) (ho:o=⟨#[]⟩∨(zbz o).Perm (zbs ((ats.map zb3.q).map (·.ts)))) (hnI:nI≤100000) :
  Calls Tryz.prog 10 #[.pointer (some ⟨eb,0,none⟩),.string nm,.string s,.string o] W fun e w'=>e=.returned (.bool true)∧∃ fix' ixs' nI' v,Stg B0 w' fix' eb db nI' (nV+1) (M+1000000000000) fl R S T ixs' (zjk vws nm v)∧v.H=hs∧v.B=ats.map zb3.q∧nI'≤nI+4∧KeepX (fun q=>q=db+1∨q=db+2) W w'∧(∀ q,fix q→fix' q)∧(∀ q,fix' q→fix q∨W.heap.size≤q)∧∀ q,zcs (stF R S T fl) ixs' (zjk vws nm v) q→zcs (stF R S T fl) ixs vws q∨W.heap.size≤q:=by
 have hl:=h.len
 have H:=zac (zxv nm s o hs ats W h.eng hn hn8 hx hnV hsz hp hF hL ho h.rn (by omega) (by omega) hnI)
 have Hs:=zac h
 clear h hF hL ho hp hn
 go_enter Tryz.func10,Tryz.ntmps10
 go_wp2_with fail
 refine (zaa H).mono ?_
 rintro e w1 ⟨rfl,⟨fix',ixk,nIk,v,h1,h2,h3,h4,h5,h6,h7,h8⟩,h9⟩
 have hv7:v.n≤1000000000000:=by
  have:(1+2*fl.length) ^ 4≤801 ^ 4:=ymq (by omega)
  have e:(801:Nat) ^ 4≤900000000000:=by decide
  omega
 have hS:=zaa Hs
 have HF:=zac (show ∃ fix' ixs' nI' v,Stg B0 w1 fix' eb db nI' (nV+1) (M+1000000000000) fl R S T ixs' (zjk vws nm v)∧v.H=hs∧v.B=ats.map zb3.q∧nI'≤nI+4∧KeepX (fun q=>q=db+1∨q=db+2) W w1∧(∀ q,fix q→fix' q)∧(∀ q,fix' q→fix q∨W.heap.size≤q)∧∀ q,zcs (stF R S T fl) ixs' (zjk vws nm v) q→zcs (stF R S T fl) ixs vws q∨W.heap.size≤q from
  ⟨fix',ixk,nIk,v,⟨h1,hS.fr,hS.fs,hS.ft,hS.fine,hS.len,fun m u hu=>by
   by_cases e:m=nm
   ·subst e
    rw [zbi] at hu
    cases hu
    omega
   ·rw [zbp e] at hu
    have:=hS.most m u hu
    omega,fun q hq=>(h8 q hq).elim (hS.low q) (fun h=>by omega),hS.db0,fun q hq=>(h4 q hq).elim (hS.fix0 q) (fun h=>by omega)⟩,h5,h6,h2,h9,h3,h4,h8⟩)
 clear h1 h2 h3 h4 h5 h6 h7 h8 h9 hS H hv7
 go_wp2
 go_ret
 exact ⟨rfl,zaa HF⟩
theorem zel {Q:Rel} {ar cnt:Nat} {G:List Row} (h:ztn Q ar cnt G) (hG:G.Nodup) (hw:∀ y∈G,zaw y):zl0 Q.f (G.filter fun r=>decide (Q.f r≠0))∧Eqv (zbf Q.f (G.filter fun r=>decide (Q.f r≠0))) (zbf Q.f G):=by
 refine ⟨⟨fun x hx=>hw x (List.mem_filter.1 hx).1,hG.filter _,fun r hr=>?_⟩,ygp (hG.filter _) hG (fun x hx=>(List.mem_filter.1 hx).1) fun x hx hn=>?_⟩
 ·rw [List.mem_filter,decide_eq_true_eq]
  exact ⟨fun h=>h.2,fun h0=>⟨h.supp r hr h0,h0⟩⟩
 ·refine Classical.byContradiction fun h0=>hn ?_
  rw [List.mem_filter,decide_eq_true_eq]
  exact ⟨hx,h0⟩
theorem zi3:∀ y∈zfj,zaw y:=by
 intro y h
 simp only [zfj,List.mem_flatMap,List.mem_map] at h
 obtain ⟨a,ha,b,hb,rfl⟩:=h
 exact ⟨znf ha,znf hb,ziw⟩
theorem zj6:zhl.Nodup:=by decide +kernel
def zde (st:St) (B:List za7) (i:Nat):List zai:=match st (B[i]?.getD zat).nm with|none=>[]|some Q=>zbf Q.f ((if Q.ar=1 then zhl else zfj).filter fun r=>decide (Q.f r≠0))
section
variable {B0:Nat} {W:World} {fix:Nat→Prop} {eb db nI nV M:Nat} {fl:List Ent} {R S T:Rel} {ixs:IxS} {vws:VwS}
theorem zkh {st:St} {B:List za7} {i:Nat}:∀ e∈zde st B i,e.1∈zfj∨e.1∈zhl:=by
 intro e he
 unfold zde at he
 split at he
 ·cases he
 ·obtain ⟨r,hr,rfl⟩:=List.mem_map.1 he
  have:=(List.mem_filter.1 hr).1
  split at this
  ·exact .inr this
  ·exact .inl this
end
end K
end Go.Proofs.YtoifcnidhfnapabGreatDoor
namespace Go.Proofs.YtoifcnidhfnapabGreatDoor
namespace K
open Go.RowKit Go.Maps
def nmV:ByteArray:=⟨#[118]⟩
def noO:ByteArray:=⟨#[]⟩
end K
end Go.Proofs.YtoifcnidhfnapabGreatDoor
namespace Go.Proofs.YtoifcnidhfnapabGreatDoor
namespace K
open Go.RowKit Go.Maps Go.Sort Go.Shelf
def zyo (H:List (Nat×Nat)) (B:List za7):Bool:=
 decide (H.length≤4) && decide (B.length≤4) && B.all (fun a=>decide (a.ts.length≤3)) && H.all (fun x=>decide (x.1<256)) && B.all (fun a=>a.ts.all fun t=>decide (t.1<256)) && !B.isEmpty &&
  B.all (fun a=>(decide (a.nm=nmR) && decide (a.ts.length=2)) || (decide (a.nm=nmS) && decide (a.ts.length=2)) || (decide (a.nm=nmT) && decide (a.ts.length=1))) &&
  H.all (fun x=>decide (x.1≠0) && B.any fun a=>a.ts.any fun t=>decide (t.1=x.1)) && B.all (fun a=>a.ts.all fun t=>decide (ykz t.1))
theorem ylg {H:List (Nat×Nat)} {B:List za7} (h:zyo H B=true) {st:St} (hR:∃ R,st nmR=some R∧R.ar=2) (hS:∃ R,st nmS=some R∧R.ar=2) (hT:∃ R,st nmT=some R∧R.ar=1):zdt st H B∧ycf B:=by
 unfold zyo at h
 simp only [Bool.and_eq_true,Bool.or_eq_true,Bool.not_eq_true',decide_eq_true_eq,List.all_eq_true,List.any_eq_true] at h
 obtain ⟨⟨⟨⟨⟨⟨⟨⟨h1,h2⟩,h3⟩,h4⟩,h5⟩,h6⟩,h7⟩,h8⟩,h9⟩:=h
 refine ⟨⟨⟨h1,h2,h3,h4,h5⟩,fun e=>(by rw [e] at h6;cases h6),fun a ha=>?_,fun a ha=>?_,fun x hx=>⟨(h8 x hx).1,?_⟩⟩,h9⟩
 ·rcases h7 a ha with (⟨e,_⟩|⟨e,_⟩)|⟨e,_⟩ <;> rw [e] <;> decide
 ·rcases h7 a ha with (⟨e,e2⟩|⟨e,e2⟩)|⟨e,e2⟩
  ·obtain ⟨R,r1,r2⟩:=hR;exact ⟨R,by rw [e];exact r1,by rw [e2,r2]⟩
  ·obtain ⟨R,r1,r2⟩:=hS;exact ⟨R,by rw [e];exact r1,by rw [e2,r2]⟩
  ·obtain ⟨R,r1,r2⟩:=hT;exact ⟨R,by rw [e];exact r1,by rw [e2,r2]⟩
 ·obtain ⟨a,ha,t,ht,e⟩:=(h8 x hx).2
  exact zex.2 ⟨a.ts,List.mem_map.2 ⟨a,ha,rfl⟩,t,ht,e⟩
theorem zjd (c:Int):zyo (zkn (zbd c 8)).1 ((zkn (zbd c 8)).2.map zb3.q)=true:=ygm (P:=fun k=>zyo (zkn k).1 ((zkn k).2.map zb3.q)=true) (by decide +kernel) (by decide +kernel) (by decide +kernel) (by decide +kernel) (by decide +kernel) (by decide +kernel) (by decide +kernel) (by decide +kernel) c
theorem zjf (c:Int):(zkf (zbd c 8)).size≤300:=ygm (P:=fun k=>(zkf k).size≤300) (by decide) (by decide) (by decide) (by decide) (by decide) (by decide) (by decide) (by decide) c
theorem Stg.fit {B0:Nat} {W:World} {fix:Nat→Prop} {eb db nI nV M:Nat} {fl:List Ent} {R S T:Rel} {ixs:IxS} {vws:VwS} (h:Stg B0 W fix eb db nI nV M fl R S T ixs vws) {H:List (Nat×Nat)} {B:List za7} (hf:zyo H B=true):zdt (stF R S T fl) H B∧ycf B:=
 ylg hf ⟨_,zlo _ _ _,h.three.r.ar_⟩ ⟨_,zpn _ _ _,h.three.s.ar_⟩ ⟨_,zpo _ _ _,h.three.t.ar_⟩
theorem yee:zgj nmV=true:=by decide
theorem zl8 {B:Nat} {w W W':World} {X:Nat→Prop} (h:Below B w W) (hB:B≤W.heap.size) (k:KeepX X W W') (hX:∀ q,X q→B≤q):Below B w W':=
 h.trans ⟨k.os,k.tape,k.output,k.size,fun q hq=>k.blk q (by omega) (fun hx=>by have:=hX q hx;omega)⟩
theorem zoi (codes:List Int):(zib codes).length≤401:=by
 have h:=(zta (codes.take 400)).2
 have h2:(codes.take 400).length≤400:=by simp;omega
 unfold zib
 split
 ·rw [List.length_append];simp;omega
 ·omega
theorem zl7 (codes:List Int):(zib codes).flatten.length≤400:=by
 rw [zqz,List.length_map]
 simp
 omega
structure ES where
 fix:Nat→Prop
 eb:Nat
 db:Nat
 nI:Nat
 nV:Nat
 M:Nat
 fl:List Ent
 R:Rel
 S:Rel
 T:Rel
 ixs:IxS
 vws:VwS
def ES.At (s:ES) (B0:Nat) (W:World):Prop:=Stg B0 W s.fix s.eb s.db s.nI s.nV s.M s.fl s.R s.S s.T s.ixs s.vws
def ES.own (s:ES) (q:Nat):Prop:=Own s.fix s.db (stF s.R s.S s.T s.fl) s.ixs s.vws q
theorem ES.At.ge {s:ES} {B0:Nat} {W:World} (h:s.At B0 W) {q:Nat} (hq:s.own q):B0≤q:=by
 have hdb:=h.db0
 rcases hq with hq|rfl|rfl|rfl|hq
 ·exact h.fix0 q hq
 ·omega
 ·omega
 ·omega
 ·exact h.low q hq
theorem ES.At.below {s:ES} {B0:Nat} {W W':World} (h:s.At B0 W) (hb:Below W.heap.size W W'):s.At B0 W':=Stg.below h hb
structure zof (s s':ES) (W w':World):Prop where
 ex:∃ X:Nat→Prop,KeepX X W w'∧(∀ q,X q→s.own q)∧(∀ q,X q→∀ cs t p,W.heap[q]? = some (Obj.cells cs t p)→t=199∨t=197)
 new:∀ q,s'.own q→s.own q∨W.heap.size≤q
theorem zof.below {s s':ES} {w W w':World} (h:zof s s' W w') {B0:Nat} (hs:s.At B0 W) (hb:Below B0 w W) (hB:B0≤W.heap.size):Below B0 w w':=by
 obtain ⟨X,hk,hX,_⟩:=h.ex
 exact zl8 hb hB hk fun q hq=>hs.ge (hX q hq)
def ES.has (s:ES) (nm:ByteArray) (H:List (Nat×Nat)) (B:List za7):Prop:=∃ v,s.vws nm=some v∧v.H=H∧v.B=B
theorem zk2 (w:World):Calls Tryz.prog 6 #[] w fun e w'=>∃ s:ES,e=.returned (.pointer (some ⟨s.eb,0,none⟩))∧s.At w.heap.size w'∧s.fl=[]∧s.nI=0∧s.nV=0∧s.M=0∧s.vws=(fun _=>none)∧Below w.heap.size w w':=by
 refine (yfe w).mono ?_
 rintro e w' ⟨eb,rfl,⟨fix,db,R,S,T,hS⟩,hb⟩
 exact ⟨⟨fix,eb,db,0,0,0,[],R,S,T,_,_⟩,rfl,hS,rfl,rfl,rfl,rfl,rfl,hb⟩
theorem zid (nm qt o:ByteArray) (hs:List (Nat×Nat)) (ats:List zb3) (W:World) {s:ES} {B0:Nat} (h:s.At B0 W) (hB0:B0≤W.heap.size) (hn:zgj nm=true) (hn8:nm.size≤8) (hx:s.vws nm=none) (hnV:s.nV≤5) (hsz:qt.size≤300)
  (hp:zfd qt=.ok (hs,ats)) (hf:zyo hs (ats.map zb3.q)=true) (ho:o=⟨#[]⟩∨(zbz o).Perm (zbs ((ats.map zb3.q).map (·.ts)))) (hnI:s.nI≤100000) :
  Calls Tryz.prog 10 #[.pointer (some ⟨s.eb,0,none⟩),.string nm,.string qt,.string o] W fun e w'=>e=.returned (.bool true)∧∃ s':ES,s'.At B0 w'∧zof s s' W w'∧s'.eb=s.eb∧s'.fl=s.fl∧s'.nI≤s.nI+4∧s'.nV=s.nV+1∧s'.M=s.M+1000000000000∧(∃ v,s'.vws=zjk s.vws nm v∧v.H=hs∧v.B=ats.map zb3.q):=by
 have hF:=Stg.fit h hf
 refine (ybt nm qt o hs ats W h hB0 hn hn8 hx hnV hsz hp hF.1 hF.2 ho hnI).mono ?_
 rintro e w' ⟨rfl,fix',ixs',nI',v,hS,h1,h2,h3,h4,h5,h6,h7⟩
 refine ⟨rfl,⟨fix',s.eb,s.db,nI',s.nV+1,s.M+1000000000000,s.fl,s.R,s.S,s.T,ixs',_⟩,hS,⟨⟨_,h4,fun q hq=>?_,fun q hq cs t p hc=>?_⟩,fun q hq=>?_⟩,rfl,rfl,h3,rfl,rfl,v,rfl,h1,h2⟩
 ·rcases hq with rfl|rfl
  ·exact .inr (.inr (.inl rfl))
  ·exact .inr (.inr (.inr (.inl rfl)))
 ·rcases hq with rfl|rfl
  ·obtain ⟨D,⟨es,cl,hm,_⟩,_⟩:=h.eng.imap
   rw [hm] at hc;cases hc
  ·obtain ⟨D,⟨es,cl,hm,_⟩,_⟩:=h.eng.vmap
   rw [hm] at hc;cases hc
 ·rcases hq with hq|rfl|rfl|rfl|hq
  ·exact (h6 q hq).imp (fun h=>.inl h) id
  ·exact .inl (.inr (.inl rfl))
  ·exact .inl (.inr (.inr (.inl rfl)))
  ·exact .inl (.inr (.inr (.inr (.inl rfl))))
  ·exact (h7 q hq).imp (fun h=>.inr (.inr (.inr (.inr h)))) id
def wkQ:ByteArray:=⟨#[40,88,44,90,41,58,45,114,40,88,44,89,41,44,114,40,89,44,90,41]⟩
def wkO:ByteArray:=⟨#[89,88,90]⟩
def wkP:List (Nat×Nat)×List zb3:=([(88,1),(90,3)],[⟨nmR,7,[(88,0),(89,0)]⟩,⟨nmR,14,[(89,0),(90,0)]⟩])
theorem ykj:zfd wkQ=.ok wkP:=by kernel_rfl
theorem ymf:zyo wkP.1 (wkP.2.map zb3.q)=true:=by decide +kernel
theorem ymg:(zbz wkO).Perm (zbs ((wkP.2.map zb3.q).map (·.ts))):=by decide +kernel
def wkE:List Ent:=[⟨nmR,[1,2],1⟩,⟨nmR,[2,3],2⟩]
def wkR:List Row:=[(1,2,0),(2,3,0)]
theorem yiv (r:Row):zbr wkE nmR r=(if (1,2,0)=r then 1 else 0)+(if (2,3,0)=r then 2 else 0):=by
 simp [zbr,wkE,zc5]
theorem ykl (r:Row):zbr wkE nmS r=0:=by
 simp [zbr,wkE,yl8]
theorem ykm (r:Row):zbr wkE nmT r=0:=by
 simp [zbr,wkE,yl9]
theorem ynb:∀ y∈wkR,zaw y:=by
 intro y hy
 simp only [wkR,List.mem_cons,List.not_mem_nil,or_false] at hy
 rcases hy with rfl|rfl <;> exact ⟨zdo (by decide),zdo (by decide),zdo (by decide)⟩
theorem ykk {f:Row→Int} (hf:∀ r,f r=(if (1,2,0)=r then 1 else 0)+(if (2,3,0)=r then 2 else 0)):zl0 f wkR:=by
 refine ⟨ynb,by decide,fun r _=>?_⟩
 rw [hf]
 simp only [wkR,List.mem_cons,List.not_mem_nil,or_false]
 by_cases h1:(1,2,0)=r
 ·subst h1;decide
 ·by_cases h2:(2,3,0)=r
  ·subst h2;decide
  ·rw [if_neg h1,if_neg h2]
   constructor
   ·rintro (h|h)
    ·exact absurd h.symm h1
    ·exact absurd h.symm h2
   ·intro h;exact absurd rfl h
theorem ymh:zts zjq zu9 (fun _=>[((1,2,0),1),((2,3,0),2)]) (1,3,0,0)=2#64:=by decide +kernel
theorem ykn {F:H4→Int} (hF:∀ q,BitVec.ofInt 64 (F q)=zts zjq zu9 (fun _=>[((1,2,0),1),((2,3,0),2)]) q) (hr:∀ q,WfH q→-9223372036854775808≤F q∧F q≤9223372036854775807):F (1,3,0,0)=2∧∀ q,WfH q→F q≠0→q=(1,3,0,0):=by
 refine ⟨zei (hr _ ⟨zdo (by decide),zdo (by decide),zdo (by decide),zdo (by decide)⟩) (by omega) ((hF _).trans ymh),fun q hq h0=>?_⟩
 have hz:zts zjq zu9 (fun _=>[((1,2,0),1),((2,3,0),2)]) q≠0#64:=fun hz=>h0 (zei (hr q hq) (by omega) ((hF q).trans hz))
 obtain ⟨r,hrr,hfit,rfl⟩:=zp0 hz
 rw [ya6] at hfit
 rw [ya7]
 obtain ⟨x0,hx0,e0⟩:=hrr 0 (by decide)
 obtain ⟨x1,hx1,e1⟩:=hrr 1 (by decide)
 simp only [List.mem_cons,List.not_mem_nil,or_false] at hx0 hx1
 rw [← e0,← e1] at hfit
 rw [← e0,← e1]
 rcases hx0 with rfl|rfl <;> rcases hx1 with rfl|rfl
 ·exact absurd hfit (by decide)
 ·rfl
 ·exact absurd hfit (by decide)
 ·exact absurd hfit (by decide)
section
variable {s:ES} {B0:Nat} {W:World}
theorem zn7 (h:s.At B0 W) (hfl:s.fl=[]) {nm:ByteArray} {Q:Rel} (hQ:stF s.R s.S s.T s.fl nm=some Q):Q.n=0∧∀ r,Q.f r=0:=by
 rw [hfl] at hQ
 rcases zhs hQ with ⟨_,rfl⟩|⟨_,rfl⟩|⟨_,rfl⟩
 ·rw [zb2];exact ⟨h.fr.2.1,fun r=>by rw [h.fr.2.2]⟩
 ·rw [zb2];exact ⟨h.fs.2.1,fun r=>by rw [h.fs.2.2]⟩
 ·rw [zb2];exact ⟨h.ft.2.1,fun r=>by rw [h.ft.2.2]⟩
theorem zng (nm:ByteArray) (hn:nm=nmR∨nm=nmS∨nm=nmT) (r:Row):-1000≤zbr wkE nm r∧zbr wkE nm r≤1000∧(zbr wkE nm r≠0→r∈wkR):=by
 rcases hn with rfl|rfl|rfl
 ·rw [yiv]
  by_cases h1:(1,2,0)=r
  ·subst h1;decide
  ·by_cases h2:(2,3,0)=r
   ·subst h2;decide
   ·rw [if_neg h1,if_neg h2];exact ⟨by omega,by omega,fun h=>absurd rfl h⟩
 ·rw [ykl];exact ⟨by omega,by omega,fun h=>absurd rfl h⟩
 ·rw [ykm];exact ⟨by omega,by omega,fun h=>absurd rfl h⟩
theorem yil (h:s.At B0 W) (hfl:s.fl=[]) (v:Value) (hv:zds W v wkE) (hM:s.M≤8000000000000000000) :
  Calls Tryz.prog 15 #[.pointer (some ⟨s.eb,0,none⟩),v] W fun e w'=>e=.returned (.bool true)∧KeepX (zcs (stF s.R s.S s.T s.fl) s.ixs s.vws) W w'∧∃ ixs' vws',EngV w' s.fix s.eb s.db 3 s.nI s.nV 5 (znt (stF s.R s.S s.T s.fl) wkE) ixs' vws'∧zbe s.vws vws':=by
 have hlen:s.fl.length=0:=by rw [hfl];rfl
 have hE:=h.eng
 have hN:1+2*s.fl.length=1:=by omega
 rw [hN] at hE
 have hQR:stF s.R s.S s.T s.fl nmR=some (zah s.R s.fl nmR):=zlo _ _ _
 have har:(zah s.R s.fl nmR).ar=2:=h.three.r.ar_
 have hnm:∀ nm Q,stF s.R s.S s.T s.fl nm=some Q→nm=nmR∨nm=nmS∨nm=nmT:=fun nm Q hQ=>by
  rcases zhs hQ with ⟨e,_⟩|⟨e,_⟩|⟨e,_⟩
  ·exact .inl e
  ·exact .inr (.inl e)
  ·exact .inr (.inr e)
 have hmem:∀ x∈wkE,x=⟨nmR,[1,2],1⟩∨x=⟨nmR,[2,3],2⟩:=fun x hx=>by simpa [wkE] using hx
 have hW:∀ nm Q,stF s.R s.S s.T s.fl nm=some Q→zjx Q.f (zbr wkE nm):=fun nm Q hQ r hr _=>by
  rw [(zn7 h hfl hQ).2 r,Int.zero_add]
  have:=zng nm (hnm nm Q hQ) r
  exact ⟨this.1,this.2.1⟩
 have hR:∀ nm Q,stF s.R s.S s.T s.fl nm=some Q→zn8 wkE nm Q.f:=fun nm Q hQ _=>⟨wkR,by decide,fun r hr h0=>by
  rw [(zn7 h hfl hQ).2 r,Int.zero_add] at h0
  exact (zng nm (hnm nm Q hQ) r).2.2 h0⟩
 have H:=zac ((ziy v wkE W hE hv (by decide) (fun x hx=>by
   rcases hmem x hx with rfl|rfl
   ·exact ⟨by decide,by simp,⟨zdo (by decide),zdo (by decide),zdo (by decide)⟩,by simp,by simp⟩
   ·exact ⟨by decide,by simp,⟨zdo (by decide),zdo (by decide),zdo (by decide)⟩,by simp,by simp⟩) (fun i hi=>by
   have hx:wkE[i]?.getD zf6∈wkE:=by simp [hi]
   rcases hmem _ hx with e|e
   ·rw [e];exact zuc (by decide) hQR (by simp) (by rw [har];rfl) (by simp)
   ·rw [e];exact zuc (by decide) hQR (by simp) (by rw [har];rfl) (by simp)) (fun x hx=>by
   rcases hmem x hx with rfl|rfl
   ·show stF s.R s.S s.T s.fl nmR≠none;rw [hQR];simp
   ·show stF s.R s.S s.T s.fl nmR≠none;rw [hQR];simp) (fun nm Q hQ=>by
   obtain ⟨h1,h2⟩:=zn7 h hfl hQ
   exact ⟨by rw [h1];decide,fun r _=>by rw [h2 r];omega⟩) (by omega) (by omega) (fun nm u hu=>by
   have:=h.most nm u hu
   have e:4*(1+2*wkE.length) ^ 4=2500:=by decide
   omega)).mono (R':=fun e w'=>e=.returned (.tuple #[.int .i64 0,.int .i64 0])∧KeepX (zcs (stF s.R s.S s.T s.fl) s.ixs s.vws) W w'∧∃ ixs' vws',EngV w' s.fix s.eb s.db 3 s.nI s.nV 5 (znt (stF s.R s.S s.T s.fl) wkE) ixs' vws'∧zbe s.vws vws') (by
  rintro e w' ⟨c,rfl,hk,⟨rfl,h1,_⟩|⟨rfl,_,h1,_⟩|⟨rfl,_,_,ixs',vws',h1,h2,h4,h5⟩⟩
  ·exact absurd hW h1
  ·exact absurd hR h1
  ·exact ⟨rfl,hk,ixs',vws',h1,zbe.ofKept h2⟩))
 clear h hv hE hW hR
 go_enter Tryz.func15,Tryz.ntmps15
 go_wp2_with fail
 refine (zaa H).mono ?_
 rintro e w1 ⟨rfl,h1⟩
 have H1:=zac h1
 clear h1 H
 go_wp2
 go_ret
 exact ⟨rfl,zaa H1⟩
theorem yfu {ixs':IxS} {vws':VwS} (h:s.At B0 W) (hfl:s.fl=[]) {w':World} (hE:EngV w' s.fix s.eb s.db 3 s.nI s.nV 5 (znt (stF s.R s.S s.T s.fl) wkE) ixs' vws') {v:zda} (hv:vws' nmV=some v) (hH:v.H=wkP.1) (hB:v.B=wkP.2.map zb3.q) :
  Calls Tryz.prog 14 #[.pointer (some ⟨s.eb,0,none⟩),.string nmV] w' fun e w2=>∃ o,e=.returned (.tuple #[o,.int .i64 0])∧zc3 w2 o [([1,3],2)]∧Below w'.heap.size w' w2:=by
 obtain ⟨hV,hHo⟩:=hE.vw nmV v hv
 obtain ⟨Q,hst,hQf⟩:∃ Q,znt (stF s.R s.S s.T s.fl) wkE nmR=some Q∧Q.f=fun r=>(zah s.R s.fl nmR).f r+zbr wkE nmR r:=by
  unfold znt
  rw [show stF s.R s.S s.T s.fl nmR=some (zah s.R s.fl nmR) from zlo _ _ _]
  exact ⟨_,rfl,rfl⟩
 have hf:∀ r,(zah s.R s.fl nmR).f r+zbr wkE nmR r=(if (1,2,0)=r then 1 else 0)+(if (2,3,0)=r then 2 else 0):=fun r=>by
  rw [(zn7 h hfl (show stF s.R s.S s.T s.fl nmR=some (zah s.R s.fl nmR) from zlo _ _ _)).2 r,Int.zero_add,yiv]
 have hL:zbf (fun r=>(zah s.R s.fl nmR).f r+zbr wkE nmR r) wkR=[((1,2,0),1),((2,3,0),2)]:=by
  unfold zbf
  simp only [hf]
  rfl
 have hval:∀ q,BitVec.ofInt 64 (v.f q)=zts zjq zu9 (fun _=>[((1,2,0),1),((2,3,0),2)]) q:=fun q=>by
  have:=hHo (fun _=>[((1,2,0),1),((2,3,0),2)]) (fun i hi=>⟨Q,?_,wkR,by rw [hQf];exact ykk hf,by rw [hQf];exact hL.symm⟩) q
  ·rw [hH,hB] at this
   exact this
  ·rw [hB] at hi ⊢
   have hi2:i<2:=hi
   match i,hi2 with
   | 0,_=>exact hst
   | 1,_=>exact hst
 obtain ⟨h2,hs⟩:=ykn hval fun q hq=>hV.map.range hq
 have hM:=hV.map.tight [(1,3,0,0)] fun q hq h0=>by simp [hs q hq h0]
 refine (zlg w' hE nmV v hv 1 (by omega) hM).mono ?_
 rintro e w2 ⟨o,ys,xs,rfl,r1,_,_,_,r2,r3,b⟩
 refine ⟨o,rfl,?_,b⟩
 have hw:WfH (1,3,0,0):=⟨zdo (by decide),zdo (by decide),zdo (by decide),zdo (by decide)⟩
 have hin:((1,3,0,0):H4)∈ys:=(r1.mem _ hw).2 (by rw [h2];decide)
 have hys:ys=[(1,3,0,0)]:=by
  match ys,hin,r3 with
  | [y],hin,_=>simp at hin;rw [hin]
 rw [hys] at r2
 have hl:v.H.length=2:=by rw [hH];rfl
 rw [hl] at r2
 have e:H.zcc 2 v.f [(1,3,0,0)]=[([1,3],2)]:=by unfold H.zcc;simp [H.za0,h2]
 rw [e] at r2
 exact r2
end
theorem zp3 (w:World):Calls Tryz.prog 7 #[] w fun e w'=>e=.returned (.bool true)∧Below w.heap.size w w':=by
 go_enter Tryz.func7,Tryz.ntmps7
 go_wp2_with fail
 refine (zk2 w).mono ?_
 rintro e w1 ⟨s,rfl,hs,hfl,hnI,hnV,hM,hvw,hb⟩
 have Hv:=zac (zid nmV wkQ wkO wkP.1 wkP.2 w1 hs hb.size yee (by decide) (by rw [hvw]) (by omega) (by decide) ykj ymf (.inr ymg) (by omega))
 have Hb:=zac hb
 have Hs:=zac hs
 have Hfl:=zac hfl
 have HM:=zac hM
 clear hs hfl hnI hnV hM hvw hb
 go_wp2_with fail
 refine (zaa Hv).mono ?_
 rintro e w2 ⟨rfl,s2,hs2,ht,heb,hfl2,_,_,hM2,v,hvw,hH,hB⟩
 have hb2:=ht.below (zaa Hs) (zaa Hb) (zaa Hb).size
 have hfl2':s2.fl=[]:=hfl2.trans (zaa Hfl)
 have hM3:s2.M≤8000000000000000000:=by rw [hM2,zaa HM];omega
 obtain ⟨w3,hw3⟩:∃ w3,w3=((w2.alloc (.cells #[.int .i64 1,.int .i64 2] 2)).alloc (.cells #[.int .i64 2,.int .i64 3] 2)).alloc (.cells #[.string nmR,.slice (some ⟨w2.heap.size,0,none⟩) 2 2,.int .i64 1,.string nmR,.slice (some ⟨w2.heap.size+1,0,none⟩) 2 2,.int .i64 2] 49):=⟨_,rfl⟩
 have hb3:Below w2.heap.size w2 w3:=by rw [hw3];exact (((Below.refl _ _).alloc (Nat.le_refl _) _).alloc (by simp) _).alloc (by simp;omega) _
 have g0:w3.heap[w2.heap.size]? = some (.cells #[.int .i64 1,.int .i64 2] 2 (0,0)):=by rw [hw3,Below.heap_alloc _ _ _ (by simp;omega),Below.heap_alloc _ _ _ (by simp)];exact zae _ _ _ rfl
 have g1:w3.heap[w2.heap.size+1]? = some (.cells #[.int .i64 2,.int .i64 3] 2 (0,0)):=by rw [hw3,Below.heap_alloc _ _ _ (by simp)];exact zae _ _ _ (by simp)
 have g2:w3.heap[w2.heap.size+2]? = some (.cells #[.string nmR,.slice (some ⟨w2.heap.size,0,none⟩) 2 2,.int .i64 1,.string nmR,.slice (some ⟨w2.heap.size+1,0,none⟩) 2 2,.int .i64 2] 49 (0,0)):=by rw [hw3];exact zae _ _ _ (by simp)
 have hents:zds w3 (.slice (some ⟨w2.heap.size+2,0,none⟩) 2 2) wkE:=⟨some ⟨w2.heap.size+2,0,none⟩,2,rfl,fun i hi=>by
  have hi2:i<2:=hi
  match i,hi2 with
  | 0,_=>exact ⟨_,0,_,rfl,zab g2 0,zab g2 1,zeh (zs:=[1,2]) g0 2,zab g2 2⟩
  | 1,_=>exact ⟨_,0,_,rfl,zab g2 3,zab g2 4,zeh (zs:=[2,3]) g1 2,zab g2 5⟩⟩
 have hs3:=hs2.below hb3
 have ha:=yil hs3 hfl2' _ hents hM3
 rw [heb] at ha
 have Heb:=zac heb
 have Ha:=zac ha
 have hel:s.eb<w3.heap.size:=by rw [← heb];exact hs3.eng.flt _ hs3.eng.feb
 have hb3':=hb2.trans (hb3.mono hb2.size)
 have Hb3:=zac hb3'
 have Hs3:=zac hs3
 have Hfl2:=zac hfl2'
 have Hhas:=zac (show s2.has nmV wkP.1 (wkP.2.map zb3.q) from ⟨v,by rw [hvw];exact zbi _ _ _,hH,hB⟩)
 clear hs2 ht hfl2 hfl2' hM2 hM3 hvw hH hB hb2 hb3 hb3' g0 g1 g2 hents hs3 Hv Hs Hfl HM Hb ha heb hel
 subst hw3
 go_wp2_with fail
 refine (zaa Ha).mono ?_
 rintro e w4 ⟨rfl,hk,ixs',vws',hE,hsame⟩
 obtain ⟨v0,hv0,hH0,hB0⟩:=zaa Hhas
 obtain ⟨n',f',hv'⟩:=hsame.2 nmV v0 hv0
 have hr:Calls Tryz.prog 14 #[.pointer (some ⟨s.eb,0,none⟩),.string nmV] w4 fun e w2=>∃ o,e=.returned (.tuple #[o,.int .i64 0])∧zc3 w2 o [([1,3],2)]∧Below w4.heap.size w4 w2:=by
  rw [← zaa Heb] at hE ⊢
  exact yfu (zaa Hs3) (zaa Hfl2) hE hv' hH0 hB0
 have Hr:=zac hr
 have Hb4:=zac (zl8 (zaa Hb3) (zaa Hb3).size hk (zaa Hs3).low)
 clear hk hE hsame hv0 hH0 hB0 hv' hr Ha Hhas Hs3 Hb3
 go_wp2_with fail
 refine (zaa Hr).mono ?_
 rintro e w5 ⟨o,rfl,hrows,hb5⟩
 have Hb5:=zac ((zaa Hb4).trans (hb5.mono (zaa Hb4).size))
 obtain ⟨a,cap,rfl,hc⟩:=hrows
 obtain ⟨b,o,sv,rfl,c0,hi,c1⟩:=hc 0 (by decide)
 obtain ⟨a2,cap2,rfl,hi⟩:=hi
 obtain ⟨b2,o2,rfl,i0⟩:=hi 0 (by decide)
 obtain ⟨b3,o3,hbo,i1⟩:=hi 1 (by decide)
 cases hbo
 simp only [Nat.zero_mul,Nat.add_zero,List.length_cons,List.length_nil,Nat.zero_add,List.getElem?_cons_zero,Option.getD_some] at c0 c1 i0
 have i1':w5.cell? ⟨b2,o2+1,none⟩=some (.int .i64 3):=i1
 clear hc hi hb5 i1 Hb4 Hr
 go_wp2
 go_ret
 exact ⟨rfl,zaa Hb5⟩
end K
end Go.Proofs.YtoifcnidhfnapabGreatDoor
