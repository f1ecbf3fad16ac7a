import Derived.Test.YtoifcnidhfnapaaGreatDoorB27
import Derived.Test.YtoifcnidhfnapaaGreatDoorB38
import Derived.Test.YtoifcnidhfnapaaGreatDoorB47
import Derived.Test.YtoifcnidhfnapaaGreatDoorB39
set_option linter.unusedVariables false
set_option linter.unusedSimpArgs false
set_option maxRecDepth 100000
set_option maxHeartbeats 16000000
namespace Go.Proofs.YtoifcnidhfnapaaGreatDoor
namespace K
open Go.RowKit Go.Maps
theorem zdr {α:Type} (l:List α):zbz l (fun _=>0#64)=0#64:=by
 induction l with
 | nil=>rfl
 | cons a l ih=>simp only [zbz,ih];rfl
theorem zhm {α:Type} (d:α) (L:Nat→List α):∀ n,zlj d L n (fun _=>0#64)=0#64
 | 0=>rfl
 | n+1=>by simp only [zlj,zhm d L n,zdr]
theorem ye4 {α:Type} (d:α) (L:Nat→List α) (n:Nat) (f:(Nat→α)→B64) (h:zlj d L n f≠0#64):∃ g,(∀ i,i<n→g i∈L i)∧f g≠0#64:=by
 refine Classical.byContradiction fun hn=>h ?_
 rw [zdc d L n f (fun _=>0#64) fun g hg=>Classical.byContradiction fun hf=>hn ⟨g,hg,hf⟩]
 exact zhm d L n
theorem zln {A:List (List Trm)} {H:List Nat} {L:Nat→List zaj} {h:H4} (hv:zpj A H L h≠0#64):∃ r:Nat→Row,(∀ i,i<A.length→∃ e∈L i,e.1=r i)∧zpq A r (zlw A r)∧zkx H (zlw A r)=h:=by
 unfold zpj zhy at hv
 obtain ⟨g,hg,hf⟩:=ye4 _ _ _ _ hv
 refine ⟨fun i=>(g i).1,fun i hi=>⟨g i,hg i hi,rfl⟩,?_⟩
 refine Classical.byContradiction fun hn=>hf ?_
 unfold yc7
 rw [if_neg hn]
 exact BitVec.zero_mul
theorem zi2:(0:Int)∈zej:=by simp [zej]
theorem zoe {r:Row} (h:r∈zd9) (j:Nat):zal r j∈zej:=by
 simp only [zd9,List.mem_flatMap,List.mem_map] at h
 obtain ⟨a,ha,b,hb,rfl⟩:=h
 unfold zal
 split
 ·exact ha
 ·exact hb
 ·exact zi2
theorem zod {r:Row} (h:r∈zjj) (j:Nat):zal r j∈zej:=by
 simp only [zjj,List.mem_map] at h
 obtain ⟨a,ha,rfl⟩:=h
 unfold zal
 split
 ·exact ha
 ·exact zi2
 ·exact zi2
theorem zmw {A:List (List Trm)} {r:Nat→Row} (hr:∀ i,i<A.length→∀ j,zal (r i) j∈zej) (v:Nat):∀ n,n≤A.length→zlv A r v n∈zej
 | 0,_=>zi2
 | n+1,hn=>by
  simp only [zlv]
  cases zno (A[n]?.getD []) v with
  | some j=>exact hr n (by omega) j
  | none=>exact zmw hr v n (by omega)
def yag:List H4:=zej.flatMap fun a=>zej.flatMap fun b=>zej.flatMap fun c=>zej.map fun d=>(a,b,c,d)
theorem ydd:yag.length=256:=by decide +kernel
theorem ydt {a b c d:Int} (ha:a∈zej) (hb:b∈zej) (hc:c∈zej) (hd:d∈zej):((a,b,c,d):H4)∈yag:=
 List.mem_flatMap.2 ⟨a,ha,List.mem_flatMap.2 ⟨b,hb,List.mem_flatMap.2 ⟨c,hc,List.mem_map.2 ⟨d,hd,rfl⟩⟩⟩⟩
theorem yah {H:List Nat} {asg:Nat→Int} (h:∀ v,asg v∈zej):zkx H asg∈yag:=by
 unfold zkx
 have:∀ q,(if q<H.length then asg (H[q]?.getD 0) else 0)∈zej:=fun q=>by
  split
  ·exact h _
  ·exact zi2
 exact ydt (this 0) (this 1) (this 2) (this 3)
theorem yfc {A:List (List Trm)} {H:List Nat} {L:Nat→List zaj} {h:H4} (hL:∀ i,i<A.length→∀ e∈L i,e.1∈zd9∨e.1∈zjj) (hv:zpj A H L h≠0#64):h∈yag:=by
 obtain ⟨r,hr,_,rfl⟩:=zln hv
 refine yah fun v=>zmw (fun i hi j=>?_) v _ (Nat.le_refl _)
 obtain ⟨e,he,h1⟩:=hr i hi
 rw [← h1]
 rcases hL i hi e he with h|h
 ·exact zoe h j
 ·exact zod h j
theorem ze5 {α β:Type} (g:α→β) (f:β→B64):∀ l:List α,zbz (l.map g) f=zbz l (fun a=>f (g a))
 | []=>rfl
 | a :: l=>by simp only [List.map_cons,zbz,ze5 g f l]
theorem zbf {α:Type} (f:α→B64):∀ l m:List α,zbz (l ++ m) f=zbz l f+zbz m f
 | [],m=>by simp [zbz]
 | a :: l,m=>by simp only [List.cons_append,zbz,zbf f l m,BitVec.add_assoc]
theorem zhu {α:Type} [DecidableEq α] (f:α→B64) (x:α):∀ l:List α,l.Nodup→x∈l→zbz l (fun a=>if a=x then f a else 0#64)=f x
 | [],_,h=>by cases h
 | a :: l,hn,h=>by
  simp only [zbz]
  rw [List.nodup_cons] at hn
  by_cases e:a=x
  ·subst e
   rw [if_pos rfl,zax (g:=fun _=>0#64) (fun b hb=>if_neg fun (e:b=a)=>hn.1 (e ▸ hb)),zdr,BitVec.add_zero]
  ·rw [if_neg e,zhu f x l hn.2 ((List.mem_cons.1 h).resolve_left (fun h=>e h.symm)),BitVec.zero_add]
theorem yga {f:Row→Int} {xs G:List Row} (ha:xs.Pairwise (·≠·)) (hG:G.Nodup) (hx:∀ x∈xs,x∈G) (hm:∀ x∈G,x ∉ xs→f x=0):Eqv (za6 f xs) (za6 f G):=by
 intro ψ
 unfold za6
 rw [ze5,ze5]
 dsimp only
 have key:∀ (ys:List Row),ys.Pairwise (·≠·)→(∀ y∈ys,y∈G)→zbz ys (fun a=>ψ a*wtB (a,f a))=zbz G (fun a=>if a∈ys then ψ a*wtB (a,f a) else 0#64):=by
  intro ys
  induction ys with
  | nil=>intro _ _;simp only [zbz,List.not_mem_nil,if_false,zdr]
  | cons y ys ih =>
   intro hp hy
   rw [List.pairwise_cons] at hp
   have h1:=ih hp.2 fun z hz=>hy z (by simp [hz])
   have h2:=zhu (fun a=>ψ a*wtB (a,f a)) y G hG (hy y (by simp))
   simp only [zbz]
   rw [h1,← h2,← znk]
   refine zax fun a _=>?_
   by_cases e:a=y
   ·subst e
    have:a ∉ ys:=fun h=>hp.1 a h rfl
    simp [this]
   ·simp [e]
 rw [key xs ha hx]
 refine zax fun a haG=>?_
 by_cases h:a∈xs
 ·rw [if_pos h]
 ·rw [if_neg h,hm a haG h]
  simp [wtB]
def zc9:List (List Trm):=[[(88,0),(89,0)],[(89,0),(90,0)]]
def zeo:List Nat:=[88,90]
theorem zmj {r:Nat→Row}:zpq zc9 r (zlw zc9 r)↔(r 0).2.1=(r 1).1:=by
 have e1:zlw zc9 r 88=(r 0).1:=rfl
 have e2:zlw zc9 r 89=(r 1).1:=rfl
 have e3:zlw zc9 r 90=(r 1).2.1:=rfl
 constructor
 ·intro h
  have:=h 0 (by decide) 1 (by decide)
  exact this
 ·intro h i hi j hj
  have hi2:i<2:=hi
  match i,hi2 with
  | 0,_ =>
   have hj2:j<2:=hj
   match j,hj2 with
   | 0,_=>rfl
   | 1,_=>exact h
  | 1,_ =>
   have hj2:j<2:=hj
   match j,hj2 with
   | 0,_=>rfl
   | 1,_=>rfl
theorem zjf {r:Nat→Row}:zkx zeo (zlw zc9 r)=((r 0).1,(r 1).2.1,0,0):=rfl
theorem zhx:zd9.Nodup:=by decide +kernel
theorem zgd (n:Nat) (F:H4→Int) (ys:List H4):zge (H.zbj n F ys):=by
 intro r hr
 obtain ⟨y,_,rfl⟩:=List.mem_map.1 hr
 show (H.zcv n y).length≤1000000000
 unfold H.zcv
 exact Nat.le_trans (List.length_take_le' _ _) (by simp)
theorem zek {x y:Int} (hx:-9223372036854775808≤x∧x≤9223372036854775807) (hy:-9223372036854775808≤y∧y≤9223372036854775807) (h:BitVec.ofInt 64 x=BitVec.ofInt 64 y):x=y:=by
 have:=congrArg BitVec.toInt h
 rw [BitVec.toInt_ofInt,BitVec.toInt_ofInt] at this
 have e1:x.bmod (2 ^ 64)=x:=Int.bmod_eq_of_le (by omega) (by omega)
 have e2:y.bmod (2 ^ 64)=y:=Int.bmod_eq_of_le (by omega) (by omega)
 omega
end K
end Go.Proofs.YtoifcnidhfnapaaGreatDoor
namespace Go.Proofs.YtoifcnidhfnapaaGreatDoor
namespace K
open Go.RowKit Go.Maps Go.Sort Go.Shelf
theorem _root_.Go.Proofs.YtoifcnidhfnapaaGreatDoor.EngV.start {w:World} {eb db nD S E:Nat} {st:St} (h:za1 w eb db nD S E st) (hn:NoVs w db):EngV w (fun q=>q=eb∨∃ nm R,st nm=some R∧q=R.rb) eb db nD 0 0 1 st (fun _=>none) (fun _=>none):=by
 have notc:∀ q es cl,w.heap[q]? = some (.map es cl)→¬ (q=eb∨∃ nm R,st nm=some R∧q=R.rb):=by
  rintro q es cl hq (rfl|⟨nm,R,hR,rfl⟩)
  ·obtain ⟨xs,h1,_⟩:=h.eng
   rw [hq] at h1;cases h1
  ·have:=(h.rel nm R hR).1
   rw [hq] at this;cases this
 have htop:=h.top
 have hinn:=h.inn
 obtain ⟨D,⟨es,cl,hd,_⟩,_⟩:=h.dir
 obtain ⟨es1,cl1,h1,_⟩:=id hn.1
 obtain ⟨es2,cl2,h2,_⟩:=id hn.2
 refine ⟨⟨h.eng,h.dir,h.rel,h.apart,⟨Nat.zero_le _,by omega,Nat.zero_le _,by omega⟩,fun nm R hR=>(by have:=h.inr nm R hR;omega),Nat.le_refl _⟩,?_,.inl rfl,fun nm R hR=>⟨.inr ⟨nm,R,hR,rfl⟩,?_⟩,⟨notc _ _ _ hd,notc _ _ _ h1,notc _ _ _ h2⟩,⟨.map [],hn.1,fun k _=>rfl,fun k x hx=>(by cases hx),fun l hl=>(by simp [Maps.has] at hl)⟩,fun k x hx=>(by cases hx),fun k k' x x' hx=>(by cases hx),⟨.map [],hn.2,rfl,fun _ _=>rfl,fun nm v hv=>(by cases hv)⟩,fun nm v hv=>(by cases hv),fun nm nm' v v' hv=>(by cases hv),fun nm v hv=>(by cases hv)⟩
 ·rintro k (rfl|⟨nm,R,hR,rfl⟩)
  ·omega
  ·have:=h.inr nm R hR
   omega
 ·obtain ⟨D',⟨es',cl',hm,_⟩,_⟩:=(h.rel nm R hR).2
  exact notc _ _ _ hm
theorem zz9 {R S T:Rel} (h1:zpr R 2) (h2:zpr S 2) (h3:zpr T 1):zpv R S T 0:=⟨zv8.start h1 _,zv8.start h2 _,zv8.start h3 _⟩
def stF (R S T:Rel) (fl:List Ent):St:=st3 (zah R fl nmR) (zah S fl nmS) (zah T fl nmT)
structure Stg (B0:Nat) (W:World) (fix:Nat→Prop) (eb db nI nV M:Nat) (fl:List Ent) (R S T:Rel) (ixs:IxS) (vws:VwS):Prop where
 eng:EngV W fix eb db 3 nI nV (1+2*fl.length) (stF R S T fl) ixs vws
 fr:zpr R 2
 fs:zpr S 2
 ft:zpr T 1
 fine:∀ x∈fl,Fine x
 len:fl.length≤400
 most:zes M vws
 low:∀ q,zcs (stF R S T fl) ixs vws q→B0≤q
 db0:B0≤db
 fix0:∀ q,fix q→B0≤q
section
variable {B0:Nat} {W:World} {fix:Nat→Prop} {eb db nI nV M:Nat} {fl:List Ent} {R S T:Rel} {ixs:IxS} {vws:VwS}
theorem Stg.three (h:Stg B0 W fix eb db nI nV M fl R S T ixs vws):zpv (zah R fl nmR) (zah S fl nmS) (zah T fl nmT) fl.length:=by
 have:=(zz9 h.fr h.fs h.ft).add h.fine
 rwa [Nat.zero_add] at this
theorem Stg.below (h:Stg B0 W fix eb db nI nV M fl R S T ixs vws) {W':World} (hb:Below W.heap.size W W'):Stg B0 W' fix eb db nI nV M fl R S T ixs vws:=
 ⟨h.eng.below hb,h.fr,h.fs,h.ft,h.fine,h.len,h.most,h.low,h.db0,h.fix0⟩
theorem zgt {nm:ByteArray} {Q:Rel} (h:stF R S T fl nm=some Q):(nm=nmR∧Q=zah R fl nmR)∨(nm=nmS∧Q=zah S fl nmS)∨(nm=nmT∧Q=zah T fl nmT):=zzh h
theorem Stg.rn (h:Stg B0 W fix eb db nI nV M fl R S T ixs vws):∀ nm Q,stF R S T fl nm=some Q→Q.n≤1+2*fl.length:=by
 intro nm Q hQ
 have:=h.three
 rcases zgt hQ with ⟨_,rfl⟩|⟨_,rfl⟩|⟨_,rfl⟩
 ·have:=this.r.n_;omega
 ·have:=this.s.n_;omega
 ·have:=this.t.n_;omega
end
theorem zpc (w:World):Calls Tryz.prog 14 #[] w fun e w'=>∃ eb,e=.returned (.pointer (some ⟨eb,0,none⟩))∧(∃ fix db R S T,Stg w.heap.size w' fix eb db 0 0 0 [] R S T (fun _=>none) (fun _=>none))∧Below w.heap.size w w':=by
 refine (yce w).mono ?_
 rintro e w' ⟨eb,db,R,S,T,rfl,hE,hN,h1,h2,h3,hb⟩
 refine ⟨eb,rfl,⟨fun q=>q=eb∨∃ nm Q,st3 R S T nm=some Q∧q=Q.rb,db,R,S,T,?_,h1,h2,h3,fun x hx=>(by cases hx),by simp,fun nm v hv=>(by cases hv),?_,hE.inn.2.2.1,?_⟩,hb⟩
 ·unfold stF
  rw [zb2,zb2,zb2]
  exact EngV.start hE hN
 ·unfold stF
  rw [zb2,zb2,zb2]
  rintro q (⟨nm,Q,hQ,rfl⟩|⟨k,x,hx,_⟩|⟨nm,v,hv,_⟩)
  ·exact (hE.inr nm Q hQ).2.2.1
  ·cases hx
  ·cases hv
 ·rintro q (rfl|⟨nm,Q,hQ,rfl⟩)
  ·exact hE.inn.1
  ·exact (hE.inr nm Q hQ).1
theorem zmm (nm s o:ByteArray) (hs:List (Nat×Nat)) (ats:List zba) (W:World) {B0:Nat} {fix:Nat→Prop} {eb db nI nV M:Nat} {fl:List Ent} {R S T:Rel} {ixs:IxS} {vws:VwS} (h:Stg B0 W fix eb db nI nV M fl R S T ixs vws) (hB0:B0≤W.heap.size) (hn:zfv nm=true) (hn8:nm.size≤8) (hx:vws nm=none) (hnV:nV≤5) (hsz:s.size≤300)
  (hp:zff s=.ok (hs,ats)) (hF:zdq (stF R S T fl) hs (ats.map zba.q)) (hL:yb4 (ats.map zba.q)) (ho:o=⟨#[]⟩∨(zaz o).Perm (zbl ((ats.map zba.q).map (·.ts)))) (hnI:nI≤100000) :
  Calls Tryz.prog 16 #[.pointer (some ⟨eb,0,none⟩),.string nm,.string s,.string o] W fun e w'=>e=.returned (.bool true)∧∃ fix' ixs' nI' v,Stg B0 w' fix' eb db nI' (nV+1) (M+1000000000000) fl R S T ixs' (zib vws nm v)∧v.H=hs∧v.B=ats.map zba.q∧nI'≤nI+4∧KeepX (fun q=>q=db+1∨q=db+2) W w'∧(∀ q,fix q→fix' q)∧(∀ q,fix' q→fix q∨W.heap.size≤q)∧∀ q,zcs (stF R S T fl) ixs' (zib vws nm v) q→zcs (stF R S T fl) ixs vws q∨W.heap.size≤q:=by
 have hl:=h.len
 have H:=zac (zxv nm s o hs ats W h.eng hn hn8 hx hnV hsz hp hF hL ho h.rn (by omega) (by omega) hnI)
 have Hs:=zac h
 clear h hF hL ho hp hn
 go_enter Tryz.func16,Tryz.ntmps16
 go_wp2_with fail
 refine (zaa H).mono ?_
 rintro e w1 ⟨rfl,⟨fix',ixk,nIk,v,h1,h2,h3,h4,h5,h6,h7,h8⟩,h9⟩
 have hv7:v.n≤1000000000000:=by
  have:(1+2*fl.length) ^ 4≤801 ^ 4:=pow4 (by omega)
  have e:(801:Nat) ^ 4≤900000000000:=by decide
  omega
 have hS:=zaa Hs
 have HF:=zac (show ∃ fix' ixs' nI' v,Stg B0 w1 fix' eb db nI' (nV+1) (M+1000000000000) fl R S T ixs' (zib vws nm v)∧v.H=hs∧v.B=ats.map zba.q∧nI'≤nI+4∧KeepX (fun q=>q=db+1∨q=db+2) W w1∧(∀ q,fix q→fix' q)∧(∀ q,fix' q→fix q∨W.heap.size≤q)∧∀ q,zcs (stF R S T fl) ixs' (zib vws nm v) q→zcs (stF R S T fl) ixs vws q∨W.heap.size≤q from
  ⟨fix',ixk,nIk,v,⟨h1,hS.fr,hS.fs,hS.ft,hS.fine,hS.len,fun m u hu=>by
   by_cases e:m=nm
   ·subst e
    rw [za7] at hu
    cases hu
    omega
   ·rw [zbh e] at hu
    have:=hS.most m u hu
    omega,fun q hq=>(h8 q hq).elim (hS.low q) (fun h=>by omega),hS.db0,fun q hq=>(h4 q hq).elim (hS.fix0 q) (fun h=>by omega)⟩,h5,h6,h2,h9,h3,h4,h8⟩)
 clear h1 h2 h3 h4 h5 h6 h7 h8 h9 hS H hv7
 go_wp2
 go_ret
 exact ⟨rfl,zaa HF⟩
theorem zls (R S T:Rel) (fl gl:List Ent):st3 (zah (zah R fl nmR) gl nmR) (zah (zah S fl nmS) gl nmS) (zah (zah T fl nmT) gl nmT)=stF R S T (fl ++ gl):=by
 unfold stF
 rw [zb8,zb8,zb8]
theorem zix {Q:Rel} {ar cnt:Nat} {G:List Row} (h:zv8 Q ar cnt G) (hG:G.Nodup) (hw:∀ y∈G,zaw y):zkq Q.f (G.filter fun r=>decide (Q.f r≠0))∧Eqv (za6 Q.f (G.filter fun r=>decide (Q.f r≠0))) (za6 Q.f G):=by
 refine ⟨⟨fun x hx=>hw x (List.mem_filter.1 hx).1,hG.filter _,fun r hr=>?_⟩,yga (hG.filter _) hG (fun x hx=>(List.mem_filter.1 hx).1) fun x hx hn=>?_⟩
 ·rw [List.mem_filter,decide_eq_true_eq]
  exact ⟨fun h=>h.2,fun h0=>⟨h.supp r hr h0,h0⟩⟩
 ·refine Classical.byContradiction fun h0=>hn ?_
  rw [List.mem_filter,decide_eq_true_eq]
  exact ⟨hx,h0⟩
theorem znp:∀ y∈zd9,zaw y:=by
 intro y h
 simp only [zd9,List.mem_flatMap,List.mem_map] at h
 obtain ⟨a,ha,b,hb,rfl⟩:=h
 exact ⟨zcf ha,zcf hb,zcp⟩
theorem zww:zjj.Nodup:=by decide +kernel
def zfh (st:St) (B:List zbb) (i:Nat):List zaj:=match st (B[i]?.getD zat).nm with|none=>[]|some Q=>za6 Q.f ((if Q.ar=1 then zjj else zd9).filter fun r=>decide (Q.f r≠0))
section
variable {B0:Nat} {W:World} {fix:Nat→Prop} {eb db nI nV M:Nat} {fl:List Ent} {R S T:Rel} {ixs:IxS} {vws:VwS}
theorem Stg.rowsL (h:Stg B0 W fix eb db nI nV M fl R S T ixs vws) {nm:ByteArray} {Q:Rel} (hQ:stF R S T fl nm=some Q):zpu Q.f (za6 Q.f ((if Q.ar=1 then zjj else zd9).filter fun r=>decide (Q.f r≠0))):=by
 have h3:=h.three
 refine ⟨_,?_,rfl⟩
 rcases zgt hQ with ⟨_,rfl⟩|⟨_,rfl⟩|⟨_,rfl⟩
 ·rw [if_neg (by rw [h3.r.ar_];decide)];exact (zix h3.r zhx znp).1
 ·rw [if_neg (by rw [h3.s.ar_];decide)];exact (zix h3.s zhx znp).1
 ·rw [if_pos h3.t.ar_];exact (zix h3.t zww yhv).1
theorem Stg.val (h:Stg B0 W fix eb db nI nV M fl R S T ixs vws) {nm:ByteArray} {v:zec} (hv:vws nm=some v) (q:H4):BitVec.ofInt 64 (v.f q)=zpj (v.B.map (·.ts)) (v.H.map (·.1)) (zfh (stF R S T fl) v.B) q:=by
 obtain ⟨hV,hH⟩:=h.eng.vw nm v hv
 refine hH _ (fun i hi=>?_) q
 have hmem:v.B[i]?.getD zat∈v.B:=by simp [hi]
 obtain ⟨Q,hQ,_⟩:=hV.fit.rel _ hmem
 refine ⟨Q,hQ,?_⟩
 unfold zfh
 rw [hQ]
 exact h.rowsL hQ
theorem zke {st:St} {B:List zbb} {i:Nat}:∀ e∈zfh st B i,e.1∈zd9∨e.1∈zjj:=by
 intro e he
 unfold zfh at he
 split at he
 ·cases he
 ·obtain ⟨r,hr,rfl⟩:=List.mem_map.1 he
  have:=(List.mem_filter.1 hr).1
  split at this
  ·exact .inr this
  ·exact .inl this
theorem Stg.range (h:Stg B0 W fix eb db nI nV M fl R S T ixs vws) {nm:ByteArray} {v:zec} (hv:vws nm=some v) {q:H4} (hq:WfH q):-9223372036854775808≤v.f q∧v.f q≤9223372036854775807:=(h.eng.vw nm v hv).1.map.range hq
theorem Stg.supp (h:Stg B0 W fix eb db nI nV M fl R S T ixs vws) {nm:ByteArray} {v:zec} (hv:vws nm=some v):∀ q,WfH q→v.f q≠0→q∈yag:=by
 intro q hq h0
 refine yfc (L:=zfh (stF R S T fl) v.B) (A:=v.B.map (·.ts)) (H:=v.H.map (·.1)) (fun i _=>zke) fun hz=>h0 ?_
 rw [← h.val hv q] at hz
 exact zek (h.range hv hq) (by omega) hz
theorem Stg.map256 (h:Stg B0 W fix eb db nI nV M fl R S T ixs vws) {nm:ByteArray} {v:zec} (hv:vws nm=some v):zgv W v.mb 256 v.f:=by
 have:=(h.eng.vw nm v hv).1.map.tight yag (h.supp hv)
 rwa [ydd] at this
end
theorem zlf (nm:ByteArray) (W:World) {B0:Nat} {fix:Nat→Prop} {eb db nI nV M:Nat} {fl:List Ent} {R S T:Rel} {ixs:IxS} {vws:VwS} (h:Stg B0 W fix eb db nI nV M fl R S T ixs vws) {v:zec} (hv:vws nm=some v) :
  Calls Tryz.prog 20 #[.pointer (some ⟨eb,0,none⟩),.string nm] W fun e w'=>∃ o ys,e=.returned (.tuple #[o,.int .i64 0])∧H.zg3 v.f ys∧zdf w' o (H.zbj v.H.length v.f ys)∧ys.length≤256∧Below W.heap.size W w':=by
 refine (zo5 W h.eng nm v hv 256 (by omega) (h.map256 hv)).mono ?_
 rintro e w' ⟨o,ys,xs,rfl,h1,_,_,_,h2,h3,h4⟩
 exact ⟨o,ys,rfl,h1,h2,h3,h4⟩
end K
end Go.Proofs.YtoifcnidhfnapaaGreatDoor
namespace Go.Proofs.YtoifcnidhfnapaaGreatDoor
namespace K
open Go.RowKit Go.Maps
def nmV:ByteArray:=⟨#[118]⟩
def noO:ByteArray:=⟨#[]⟩
end K
end Go.Proofs.YtoifcnidhfnapaaGreatDoor
namespace Go.Proofs.YtoifcnidhfnapaaGreatDoor
namespace K
open Go.RowKit Go.Maps Go.Sort Go.Shelf
def zwu (H:List (Nat×Nat)) (B:List zbb):Bool:=
 decide (H.length≤4) && decide (B.length≤4) && B.all (fun a=>decide (a.ts.length≤3)) && H.all (fun x=>decide (x.1<256)) && B.all (fun a=>a.ts.all fun t=>decide (t.1<256)) && !B.isEmpty &&
  B.all (fun a=>(decide (a.nm=nmR) && decide (a.ts.length=2)) || (decide (a.nm=nmS) && decide (a.ts.length=2)) || (decide (a.nm=nmT) && decide (a.ts.length=1))) &&
  H.all (fun x=>decide (x.1≠0) && B.any fun a=>a.ts.any fun t=>decide (t.1=x.1)) && B.all (fun a=>a.ts.all fun t=>decide (yfr t.1))
theorem ykh {H:List (Nat×Nat)} {B:List zbb} (h:zwu H B=true) {st:St} (hR:∃ R,st nmR=some R∧R.ar=2) (hS:∃ R,st nmS=some R∧R.ar=2) (hT:∃ R,st nmT=some R∧R.ar=1):zdq st H B∧yb4 B:=by
 unfold zwu at h
 simp only [Bool.and_eq_true,Bool.or_eq_true,Bool.not_eq_true',decide_eq_true_eq,List.all_eq_true,List.any_eq_true] at h
 obtain ⟨⟨⟨⟨⟨⟨⟨⟨h1,h2⟩,h3⟩,h4⟩,h5⟩,h6⟩,h7⟩,h8⟩,h9⟩:=h
 refine ⟨⟨⟨h1,h2,h3,h4,h5⟩,fun e=>(by rw [e] at h6;cases h6),fun a ha=>?_,fun a ha=>?_,fun x hx=>⟨(h8 x hx).1,?_⟩⟩,h9⟩
 ·rcases h7 a ha with (⟨e,_⟩|⟨e,_⟩)|⟨e,_⟩ <;> rw [e] <;> decide
 ·rcases h7 a ha with (⟨e,e2⟩|⟨e,e2⟩)|⟨e,e2⟩
  ·obtain ⟨R,r1,r2⟩:=hR;exact ⟨R,by rw [e];exact r1,by rw [e2,r2]⟩
  ·obtain ⟨R,r1,r2⟩:=hS;exact ⟨R,by rw [e];exact r1,by rw [e2,r2]⟩
  ·obtain ⟨R,r1,r2⟩:=hT;exact ⟨R,by rw [e];exact r1,by rw [e2,r2]⟩
 ·obtain ⟨a,ha,t,ht,e⟩:=(h8 x hx).2
  exact ze1.2 ⟨a.ts,List.mem_map.2 ⟨a,ha,rfl⟩,t,ht,e⟩
theorem zsr (c:Int):zwu (zgs (za3 c 8)).1 ((zgs (za3 c 8)).2.map zba.q)=true:=yc3 (P:=fun k=>zwu (zgs k).1 ((zgs k).2.map zba.q)=true) (by decide +kernel) (by decide +kernel) (by decide +kernel) (by decide +kernel) (by decide +kernel) (by decide +kernel) (by decide +kernel) (by decide +kernel) c
theorem zst (c:Int):(zlp (za3 c 8)).size≤300:=yc3 (P:=fun k=>(zlp k).size≤300) (by decide) (by decide) (by decide) (by decide) (by decide) (by decide) (by decide) (by decide) c
theorem Stg.fit {B0:Nat} {W:World} {fix:Nat→Prop} {eb db nI nV M:Nat} {fl:List Ent} {R S T:Rel} {ixs:IxS} {vws:VwS} (h:Stg B0 W fix eb db nI nV M fl R S T ixs vws) {H:List (Nat×Nat)} {B:List zbb} (hf:zwu H B=true):zdq (stF R S T fl) H B∧yb4 B:=
 ykh hf ⟨_,zia _ _ _,h.three.r.ar_⟩ ⟨_,zni _ _ _,h.three.s.ar_⟩ ⟨_,zp6 _ _ _,h.three.t.ar_⟩
theorem yau:zfv nmV=true:=by decide
theorem zf1 {B:Nat} {w W W':World} {X:Nat→Prop} (h:Below B w W) (hB:B≤W.heap.size) (k:KeepX X W W') (hX:∀ q,X q→B≤q):Below B w W':=
 h.trans ⟨k.os,k.tape,k.output,k.size,fun q hq=>k.blk q (by omega) (fun hx=>by have:=hX q hx;omega)⟩
theorem zn3 (codes:List Int):(zf6 codes).length≤401:=by
 have h:=(zs1 (codes.take 400)).2
 have h2:(codes.take 400).length≤400:=by simp;omega
 unfold zf6
 split
 ·rw [List.length_append];simp;omega
 ·omega
theorem zly (codes:List Int):(zf6 codes).flatten.length≤400:=by
 rw [zqg,List.length_map]
 simp
 omega
end K
end Go.Proofs.YtoifcnidhfnapaaGreatDoor
