import Derived.RangeFuncNested
import Derived.Test.YtoifcnidhfnapaaGreatDoorP05
import Derived.Test.YtoifcnidhfnapaaGreatDoorP11
import Derived.Test.YtoifcnidhfnapaaGreatDoorP07
import Derived.Test.YtoifcnidhfnapaaGreatDoorP02
import Derived.Shelf.SlSorted.Search
import Derived.Deep.RegionWith
set_option linter.unusedVariables false
set_option linter.unusedSimpArgs false
namespace Go.Proofs.YtoifcnidhfnapaaGreatDoor
open Go.RowKit
structure KeepX (X:Nat→Prop) (W W':World):Prop where
 os:W'.os=W.os
 tape:W'.tape=W.tape
 output:W'.output=W.output
 size:W.heap.size≤W'.heap.size
 blk:∀ q,q<W.heap.size→¬ X q→W'.heap[q]? = W.heap[q]?
theorem KeepX.refl (X:Nat→Prop) (W:World):KeepX X W W:=⟨rfl,rfl,rfl,Nat.le_refl _,fun _ _ _=>rfl⟩
theorem KeepX.trans {X:Nat→Prop} {A B C:World} (h:KeepX X A B) (k:KeepX X B C):KeepX X A C:=
 ⟨k.os.trans h.os,k.tape.trans h.tape,k.output.trans h.output,Nat.le_trans h.size k.size,fun q hq hx=>(k.blk q (Nat.lt_of_lt_of_le hq h.size) hx).trans (h.blk q hq hx)⟩
theorem KeepX.mono {X Y:Nat→Prop} {A B:World} (h:KeepX X A B) (hXY:∀ k,k<A.heap.size→X k→Y k):KeepX Y A B:=
 ⟨h.os,h.tape,h.output,h.size,fun q hq hx=>h.blk q hq fun e=>hx (hXY q hq e)⟩
theorem KeepX.ofBelow {X:Nat→Prop} {A B:World} (h:Below A.heap.size A B):KeepX X A B:=⟨h.os,h.tape,h.output,h.size,fun q hq _=>h.block q hq⟩
theorem KeepX.put {X:Nat→Prop} (W:World) (l:Nat) (o:Obj) (h:X l):KeepX X W (W.putObj l o):=
 ⟨rfl,rfl,rfl,by simp,fun q _ hx=>World.putObj_heap_other (fun e=>hx (e ▸ h))⟩
theorem KeepX.below {X:Nat→Prop} {A B:World} (h:KeepX X A B) {n:Nat} (hn:n≤A.heap.size) (hX:∀ k,X k→n≤k):Below n A B:=
 ⟨h.os,h.tape,h.output,h.size,fun q hq=>h.blk q (Nat.lt_of_lt_of_le hq hn) fun e=>by have:=hX q e;omega⟩
theorem KeepX.cell {X:Nat→Prop} {A B:World} (h:KeepX X A B) {p:Addr} (hp:p.block<A.heap.size) (hx:¬ X p.block):B.cell? p=A.cell? p:=World.cell?_of_block (h.blk p.block hp hx)
theorem zkx {m m':Nat} {P:Program} {l:Nat} {f:FuncId} {tmps:Array Value} {assign body:Code} {w:World} {R:Ending→World→Prop} (h:RoundIn Fence.wide m P l f tmps assign body w R):RoundIn Fence.wide m' P l f tmps assign body w R:=
 ⟨h.1,fun c cs _=>h.2 c cs (room_wide _)⟩
theorem zkv {m m':Nat} {P:Program} {l:Nat} {args:Array Value} {W:World} {R:Ending→World→Prop} (h:YieldAt Fence.wide m P l args W R):YieldAt Fence.wide m' P l args W R:=by
 obtain ⟨fn,tmps,assign,body,h1,h2⟩:=h
 exact ⟨fn,tmps,assign,body,h1,zkx h2⟩
theorem zm1 {m m':Nat} {P:Program} {f:FuncId} {args:Array Value} {w:World} {R:Ending→World→Prop} (h:CallsIn Fence.wide m P f args w R):CallsIn Fence.wide m' P f args w R:=callsIn_wide.2 (callsIn_wide.1 h)
def Tells {α:Type} (P:Program) (gf:Nat) (lb:Array Value) (encs:α→Array Value) (X:Nat→Prop) (C:World→Prop) (G S:List α→Prop) (l:Nat) (W:World):Prop:=
 ∀ (J:List α→World→Prop),(∀ pre A,J pre A→C A)→(∀ pre A B,J pre A→Below W.heap.size A B→J pre B) →
  (∀ pre x W1,J pre W1→W.heap.size≤W1.heap.size→G (pre ++ [x])→YieldAt Fence.wide 0 P l (encs x) W1 fun e W'=>e=.returned (.bool true)∧J (pre ++ [x]) W'∧KeepX (fun k=>X k∨k=l) W1 W') →
  J [] W→Calls P gf (#[.func (.yield l) #[] #[]] ++ lb) W fun e W'=>(∃ v,e=.returned v)∧∃ xs,S xs∧J xs W'
theorem zrs {α:Type} {P:Program} {n:Nat} {g:Operand} {ps:Array Tmp} {assign body:Code} {Q:Exit→Act→World→Prop} {a:Act} {w:World} {gf:Nat} {lb:Array Value} (h1:1≤n)
  (hg:a.eval g=.func (.func gf) #[] lb) (eg:∀ args w,(callFunc gf args).run P w=.ok (.enter gf args) w) {encs:α→Array Value} (hps:∀ x,(encs x).size=ps.size) (X:Nat→Prop) (hX:∀ k,X k→k<w.heap.size) (C:World→Prop) (G S:List α→Prop)
  (I:List α→World→Prop) (hI:∀ pre A B,I pre A→Below w.heap.size A B→I pre B) (h0:I [] w) (hC:∀ pre A r,I pre A→A.heap[w.heap.size+1]? = some (.loop r)→C A)
  (hiter:∀ W,Below w.heap.size w W→W.heap.size=w.heap.size+2→Tells P gf lb encs X C G S (w.heap.size+1) W)
  (Ax:α→Act→World→Prop) (hAx:∀ x a' W o,Ax x a' W→Ax x a' (W.putObj (w.heap.size+1) o))
  (hassign:∀ pre x W (K:Act→World→Prop),I pre W→w.heap.size+2≤W.heap.size→(∀ a' W',KeepX X W W'→I pre W'→Ax x a' W'→K a' W') →
   assign.wpIn (Fence.wide.inRound (w.heap.size+1)) (n - 1 - 1) P (Exit.then K (fun _ _ _=>False)) { tmps:=(ps.zip (encs x)).foldl (fun t (p,v)=>t.setIfInBounds p v) a.tmps,defers:=[] } W)
  (hbody:∀ pre x a' W,I pre W→Ax x a' W→w.heap.size+2≤W.heap.size→G (pre ++ [x])→body.wpIn (Fence.wide.inRound (w.heap.size+1)) (n - 1 - 1) P (fun e _ W'=>e=.normal∧I (pre ++ [x]) W'∧KeepX X W W') a' W)
  (hdone:∀ D xs W,w.heap.size≤D→S xs→I xs W→W.heap[D]? = some (.deferred (some []))→Q .normal { a with defers:={ target:=.collected D,args:=#[] } :: a.defers } W) :
  (Code.rangeFunc g ps assign body).wpIn Fence.wide n P Q a w:=by
 refine wpIn_rangeFunc fun fn hfn=>?_
 obtain ⟨rec,hrec⟩:∃ rec:LoopState→Loop,rec=fun st=>{ state:=st,pending:=none,fn,tmps:=a.tmps,params:=ps,assign,body,defers:=w.heap.size }:=⟨_,rfl⟩
 obtain ⟨W1,hW1⟩:∃ W1,W1=(w.alloc (.deferred (some []))).alloc (.loop (rec .ready)):=⟨_,rfl⟩
 have hs1:W1.heap.size=w.heap.size+2:=by rw [hW1];simp
 have hb1:Below w.heap.size w W1:=by rw [hW1];exact ((Below.refl _ w).alloc (Nat.le_refl _) _).alloc (by simp) _
 have hL:W1.heap[w.heap.size+1]? = some (.loop (rec .ready)):=by rw [hW1];have:=World.alloc_heap_new (w.alloc (.deferred (some []))) (.loop (rec .ready));rwa [World.size_alloc] at this
 have hD:W1.heap[w.heap.size]? = some (.deferred (some [])):=by rw [hW1];exact (Below.heap_alloc _ _ _ (by simp)).trans (World.alloc_heap_new w _)
 have hput:∀ (A:World) o,Below w.heap.size A (A.putObj (w.heap.size+1) o):=fun A o=>⟨rfl,rfl,rfl,by simp,fun k hk=>World.putObj_heap_other (by omega)⟩
 refine ⟨w.heap.size+1,[{ target:=.collected w.heap.size,args:=#[] }],W1,{ target:=.fn (.func gf) lb,args:=#[.func (.yield (w.heap.size+1)) #[] #[]] },W1,gf,#[.func (.yield (w.heap.size+1)) #[] #[]] ++ lb,W1,?_,?_,fun _ _=>trivial,?_,fun _=>h1,?_⟩
 ·rw [hW1,hrec];exact run_enterLoop_outer _ _ _ _ _
 ·simp only [resolve,hg]
  simp [go_sem]
 ·simp [invoke,go_sem,eg]
 ·obtain ⟨J,hJ⟩:∃ J:List α→World→Prop,J=fun pre W=>I pre W∧W.heap[w.heap.size+1]? = some (.loop (rec .ready))∧W.heap[w.heap.size]? = some (.deferred (some [])):=⟨_,rfl⟩
  refine callsIn_wide.2 ((hiter W1 hb1 hs1 J ?_ ?_ ?_ ?_).mono ?_)
  ·rintro pre A hA
   rw [hJ] at hA
   exact hC pre A _ hA.1 hA.2.1
  ·rintro pre A B hA hb
   rw [hJ] at hA ⊢
   rw [hs1] at hb
   exact ⟨hI pre A B hA.1 ⟨hb.os,hb.tape,hb.output,hb.size,fun k hk=>hb.block k (by omega)⟩,(hb.block _ (by omega)).trans hA.2.1,(hb.block _ (by omega)).trans hA.2.2⟩
  ·rintro pre x W hW hsz hG
   rw [hJ] at hW ⊢
   obtain ⟨hi,hl,hd⟩:=hW
   rw [hs1] at hsz
   have hy:=run_yield (P:=P) (args:=encs x) hl (by rw [hrec];exact hps x)
   rw [hrec] at hy
   refine ⟨fn,_,assign,body,hy,zkx (roundIn_of_wpIn (n:=n - 1 - 1) trivial (hassign pre x W _ hi hsz ?_))⟩
   intro a' Wa hka hia hax
   have hla:=(hka.blk (w.heap.size+1) (by omega) (fun e=>by have:=hX _ e;omega)).trans hl
   have hda:=(hka.blk w.heap.size (by omega) (fun e=>by have:=hX _ e;omega)).trans hd
   have hsa:=hka.size
   refine ⟨_,run_beginRound hla (by rw [hrec]),?_⟩
   refine wpIn_mono (hbody pre x a' _ (hI _ _ _ hia (hput _ _)) (hAx _ _ _ _ hax) (by simp;omega) hG) ?_
   rintro e a3 W3 ⟨rfl,hi3,hk3⟩
   have hsz3:=hk3.size
   simp at hsz3
   have hl3:W3.heap[w.heap.size+1]? = some (.loop { rec .ready with state:=.busy }):=(hk3.blk _ (by simp;omega) (fun e=>by have:=hX _ e;omega)).trans (World.putObj_heap_same (by omega))
   have hd3:=(hk3.blk w.heap.size (by simp;omega) (fun e=>by have:=hX _ e;omega)).trans ((World.putObj_heap_other (by omega)).trans hda)
   have hend:=run_endRound (P:=P) none hl3
   rw [hrec] at hend
   refine ⟨_,_,hend,rfl,⟨hI _ _ _ hi3 (hput _ _),?_,(World.putObj_heap_other (by omega)).trans hd3⟩,?_⟩
   ·rw [World.putObj_heap_same (by omega),hrec];rfl
   ·refine (hka.mono fun k _ h=>.inl h).trans ((KeepX.put _ _ _ (.inr rfl)).trans ((hk3.mono fun k _ h=>.inl h).trans (KeepX.put _ _ _ (.inr rfl))))
  ·rw [hJ]
   exact ⟨hI _ _ _ h0 hb1,hL,hD⟩
  ·rintro e W2 ⟨⟨v,rfl⟩,xs,hS,hj⟩
   rw [hJ] at hj
   obtain ⟨hi,hl,hd⟩:=hj
   refine ⟨none,_,by have:=run_endLoop (P:=P) hl (by rw [hrec];simp);rw [hrec] at this;exact this,?_⟩
   exact hdone _ xs _ (Nat.le_refl _) hS (hI _ _ _ hi (hput _ _)) ((World.putObj_heap_other (by omega)).trans hd)
end Go.Proofs.YtoifcnidhfnapaaGreatDoor
namespace Go.Proofs.YtoifcnidhfnapaaGreatDoor
open Go.RowKit Go.Maps
def zam (s:ByteArray) (p:Nat):Nat:=if h:p<s.size then s[p].toNat else 0
theorem zzu {s:ByteArray} {p:Nat} (h:p<s.size):zam s p=s[p].toNat:=by unfold zam;rw [dif_pos h]
theorem zn6 {s:ByteArray} {p:Nat} (h:s.size≤p):zam s p=0:=by unfold zam;rw [dif_neg (by omega)]
theorem zc9 {s:ByteArray} {p:Nat} (h:zam s p≠0):p<s.size:=by
 rcases Nat.lt_or_ge p s.size with h1|h1
 ·exact h1
 ·exact absurd (zn6 h1) h
def runF (t:Nat→Bool) (s:ByteArray):Nat→Nat→Nat
 | 0,p=>p
 | n+1,p=>if t (zam s p) then runF t s n (p+1) else p
def runP (t:Nat→Bool) (s:ByteArray) (p:Nat):Nat:=runF t s (s.size - p) p
theorem zsn {t:Nat→Bool} {s:ByteArray} {p:Nat} (h:t (zam s p)=false):runP t s p=p:=by
 unfold runP
 cases s.size - p with
 | zero=>rfl
 | succ n=>simp [runF,h]
theorem ybl {t:Nat→Bool} {s:ByteArray} {p:Nat} (hp:p<s.size) (h:t (zam s p)=true):runP t s p=runP t s (p+1):=by
 unfold runP
 obtain ⟨n,hn⟩:∃ n,s.size - p=n+1:=⟨s.size - p - 1,by omega⟩
 have hn':s.size - (p+1)=n:=by omega
 rw [hn,hn']
 simp [runF,h]
def isBl (c:Nat):Bool:=decide (c=32)
def isVr (c:Nat):Bool:=decide (65≤c) && decide (c≤90)
def isLt (c:Nat):Bool:=decide (97≤c) && decide (c≤122)
def isDg (c:Nat):Bool:=decide (48≤c) && decide (c≤57)
def za2 (s:ByteArray) (p:Nat):Nat:=runP isBl s p
def zey (s:ByteArray) (p:Nat):Nat:=runP isLt s p
def zih (s:ByteArray) (c p:Nat):Except Nat Nat:=if zam s (za2 s p)=c then .ok (za2 s p+1) else .error (za2 s p)
def digF (s:ByteArray):Nat→Nat→Nat→Nat×Nat
 | 0,p,acc=>(acc,p)
 | n+1,p,acc=>if isDg (zam s p) then digF s n (p+1) (10*acc+(zam s p - 48)) else (acc,p)
def numP (s:ByteArray) (p:Nat):Except Nat (Int×Nat):=
 let q:=if zam s p=45 then p+1 else p
 let r:=digF s 9 q 0
 if r.2=q then .error q else .ok (if zam s p=45 then -(r.1:Int) else (r.1:Int),r.2)
def znn (s:ByteArray) (p:Nat):Except Nat ((Nat×Int)×Nat):=
 if isVr (zam s (za2 s p)) then .ok ((zam s (za2 s p),0),za2 s p+1) else
  match numP s (za2 s p) with
  | .error q=>.error q
  | .ok (z,q)=>.ok ((0,z),q)
def zf3 {α:Type} (item:Nat→Except Nat (α×Nat)) (s:ByteArray):Nat→Nat→List α→Except Nat (List α×Nat)
 | 0,p,acc=>.ok (acc,p)
 | m+1,p,acc =>
  match item p with
  | .error q=>.error q
  | .ok (x,q)=>if m=0 then .ok (acc ++ [x],q) else if zam s (za2 s q)=44 then zf3 item s m (za2 s q+1) (acc ++ [x]) else .ok (acc ++ [x],za2 s q)
structure zcb where
 nm:ByteArray
 pl:Nat
 ts:List (Nat×Int)
def zk3 (s:ByteArray) (p:Nat):Except Nat (zcb×Nat):=
 let q:=za2 s p
 let e:=zey s q
 if e=q then .error q else
  match zih s 40 e with
  | .error r=>.error r
  | .ok p1=>match zf3 (znn s) s 3 p1 [] with
   | .error r=>.error r
   | .ok (ts,p2)=>match zih s 41 p2 with
    | .error r=>.error r
    | .ok p3=>.ok (⟨s.extract q e,q,ts⟩,p3)
def zhw (s:ByteArray) (p:Nat):Except Nat ((Nat×Nat)×Nat):=
 if isVr (zam s (za2 s p)) then .ok ((zam s (za2 s p),za2 s p),za2 s p+1) else .error (za2 s p)
def ztz (s:ByteArray) (p:Nat):Except Nat (List (Nat×Nat)×Nat):=
 match zih s 40 p with
 | .error r=>.error r
 | .ok p1=>if zam s (za2 s p1)=41 then .ok ([],za2 s p1+1) else
  match zf3 (zhw s) s 4 (za2 s p1) [] with
  | .error r=>.error r
  | .ok (hs,p2)=>match zih s 41 p2 with
   | .error r=>.error r
   | .ok p3=>.ok (hs,p3)
def zts (s:ByteArray) (p:Nat):Except Nat Nat:=
 match zih s 58 p with
 | .error r=>.error r
 | .ok p1=>if zam s p1=45 then .ok (p1+1) else .error p1
def zx9 (s:ByteArray) (p:Nat):Except Nat (List zcb):=
 match zf3 (zk3 s) s 4 p [] with
 | .error r=>.error r
 | .ok (bs,p1)=>if za2 s p1<s.size then .error (za2 s p1) else .ok bs
def zfj (s:ByteArray):Except Nat (List (Nat×Nat)×List zcb):=
 match ztz s 0 with
 | .error r=>.error r
 | .ok (hs,p1)=>match zts s p1 with
  | .error r=>.error r
  | .ok p2=>match zx9 s p2 with
   | .error r=>.error r
   | .ok bs=>.ok (hs,bs)
theorem zy5 {s:ByteArray} {n p acc:Nat} (h:isDg (zam s p)=true):digF s (n+1) p acc=digF s n (p+1) (10*acc+(zam s p - 48)):=by simp [digF,h]
theorem zqm {s:ByteArray} {n p acc:Nat} (h:isDg (zam s p)=false):digF s n p acc=(acc,p):=by
 cases n with
 | zero=>rfl
 | succ n=>simp [digF,h]
end Go.Proofs.YtoifcnidhfnapaaGreatDoor
namespace Go.Proofs.YtoifcnidhfnapaaGreatDoor
namespace K
open Go.RowKit Go.Maps
def qryP:Int→List (Nat×Nat)×List zcb
 | 0=>([(88,1),(90,3)],[⟨nmR,7,[(88,0),(89,0)]⟩,⟨nmS,14,[(89,0),(90,0)]⟩])
 | 1=>([(88,1)],[⟨nmR,5,[(88,0),(88,0)]⟩,⟨nmT,12,[(88,0)]⟩])
 | 2=>([(88,1),(89,3),(90,5)],[⟨nmR,9,[(88,0),(89,0)]⟩,⟨nmR,16,[(89,0),(90,0)]⟩,⟨nmS,23,[(90,0),(88,0)]⟩])
 | 3=>([],[⟨nmR,4,[(88,0),(89,0)]⟩,⟨nmT,11,[(89,0)]⟩])
 | 4=>([(89,1),(89,3)],[⟨nmS,7,[(0,1),(89,0)]⟩,⟨nmT,14,[(90,0)]⟩,⟨nmR,19,[(90,0),(89,0)]⟩])
 | 5=>([(88,2)],[⟨nmR,9,[(88,0),(89,0)]⟩,⟨nmS,18,[(90,0),(89,0)]⟩,⟨nmT,27,[(0,0)]⟩])
 | 6=>([(88,1),(89,3)],[⟨nmR,7,[(88,0),(90,0)]⟩,⟨nmR,14,[(90,0),(89,0)]⟩,⟨nmR,21,[(89,0),(88,0)]⟩,⟨nmT,28,[(90,0)]⟩])
 | _=>([],[⟨nmT,4,[(0,1)]⟩,⟨nmR,9,[(0,0),(0,0)]⟩])
theorem qry0:zfj (qryT 0)=.ok (qryP 0):=by kernel_rfl
theorem qry1:zfj (qryT 1)=.ok (qryP 1):=by kernel_rfl
theorem qry2:zfj (qryT 2)=.ok (qryP 2):=by kernel_rfl
theorem qry3:zfj (qryT 3)=.ok (qryP 3):=by kernel_rfl
theorem qry4:zfj (qryT 4)=.ok (qryP 4):=by kernel_rfl
theorem qry5:zfj (qryT 5)=.ok (qryP 5):=by kernel_rfl
theorem qry6:zfj (qryT 6)=.ok (qryP 6):=by kernel_rfl
theorem qry7:zfj (qryT 7)=.ok (qryP 7):=by kernel_rfl
theorem eight {P:Int→Prop} (h0:P 0) (h1:P 1) (h2:P 2) (h3:P 3) (h4:P 4) (h5:P 5) (h6:P 6) (h7:P 7) (c:Int):P (zcm c 8):=by
 have hr:=zdg c 8 (by omega)
 generalize zcm c 8=k at hr
 have hcase:k=0∨k=1∨k=2∨k=3∨k=4∨k=5∨k=6∨k=7:=by omega
 rcases hcase with rfl|rfl|rfl|rfl|rfl|rfl|rfl|rfl <;> assumption
theorem qry_read (c:Int):zfj (qryT (zcm c 8))=.ok (qryP (zcm c 8)):=eight (P:=fun k=>zfj (qryT k)=.ok (qryP k)) qry0 qry1 qry2 qry3 qry4 qry5 qry6 qry7 c
end K
end Go.Proofs.YtoifcnidhfnapaaGreatDoor
/- The library's contracts at this program,in plain words: the sorts of index.entry and join.Row. -/
namespace Go.Proofs
open Go.Shelf
def Tryz.sortEnt_ren:Go.Shelf.Ren:=⟨fun|6=>211|15=>207|14=>248|28=>238|29=>239|20=>269|21=>270|22=>271|23=>272|24=>273|25=>274|26=>275|27=>276|46=>284|47=>262|48=>263|49=>285|50=>286|57=>293|n=>n,fun|22=>140|24=>221|25=>347|3=>3|39=>342|0=>0|53=>179|55=>372|4=>4|46=>365|45=>364|50=>352|5=>5|9=>9|66=>388|70=>392|76=>402|77=>403|n=>n,fun|n=>n⟩
theorem Tryz.sortEnt:Go.Proofs.SlLaysF0.n14 Tryz.prog Tryz.sortEnt_ren:={
 mixed:=by kernel_rfl
 f14:=⟨Tryz.f248.name,by decide,Tryz.func248.trans (congrArg some (by kernel_rfl))⟩
 f15:=Tryz.func207.trans (congrArg some (by kernel_rfl))
 f20:=⟨Tryz.f269.name,by decide,Tryz.func269.trans (congrArg some (by kernel_rfl))⟩
 f21:=⟨Tryz.f270.name,by decide,Tryz.func270.trans (congrArg some (by kernel_rfl))⟩
 f22:=⟨Tryz.f271.name,by decide,Tryz.func271.trans (congrArg some (by kernel_rfl))⟩
 f23:=⟨Tryz.f272.name,by decide,Tryz.func272.trans (congrArg some (by kernel_rfl))⟩
 f24:=⟨Tryz.f273.name,by decide,Tryz.func273.trans (congrArg some (by kernel_rfl))⟩
 f25:=⟨Tryz.f274.name,by decide,Tryz.func274.trans (congrArg some (by kernel_rfl))⟩
 f26:=⟨Tryz.f275.name,by decide,Tryz.func275.trans (congrArg some (by kernel_rfl))⟩
 f27:=⟨Tryz.f276.name,by decide,Tryz.func276.trans (congrArg some (by kernel_rfl))⟩
 f28:=Tryz.func238.trans (congrArg some (by kernel_rfl))
 f29:=Tryz.func239.trans (congrArg some (by kernel_rfl))
 f46:=⟨Tryz.f284.name,by decide,Tryz.func284.trans (congrArg some (by kernel_rfl))⟩
 f47:=Tryz.func262.trans (congrArg some (by kernel_rfl))
 f48:=Tryz.func263.trans (congrArg some (by kernel_rfl))
 f49:=⟨Tryz.f285.name,by decide,Tryz.func285.trans (congrArg some (by kernel_rfl))⟩
 f50:=⟨Tryz.f286.name,by decide,Tryz.func286.trans (congrArg some (by kernel_rfl))⟩
 f57:=⟨Tryz.f293.name,by decide,Tryz.func293.trans (congrArg some (by kernel_rfl))⟩
 t0:=Tryz.underlying0
 a0:=Tryz.isAgg0
 z0:=Tryz.sizeOf0
 v0:=Tryz.zeroValue0
 t3:=Tryz.underlying3
 a3:=Tryz.isAgg3
 z3:=Tryz.sizeOf3
 v3:=Tryz.zeroValue3
 t4:=Tryz.underlying4
 a4:=Tryz.isAgg4
 z4:=Tryz.sizeOf4
 v4:=Tryz.zeroValue4
 t5:=Tryz.underlying5
 a5:=Tryz.isAgg5
 z5:=Tryz.sizeOf5
 v5:=Tryz.zeroValue5
 t9:=Tryz.underlying9
 a9:=Tryz.isAgg9
 z9:=Tryz.sizeOf9
 v9:=Tryz.zeroValue9
 t22:=Tryz.underlying140
 a22:=Tryz.isAgg140
 z22:=Tryz.sizeOf140
 v22:=Tryz.zeroValue140
 t25:=Tryz.underlying347
 a25:=Tryz.isAgg347
 z25:=Tryz.sizeOf347
 v25:=Tryz.zeroValue347
 t39:=Tryz.underlying342
 a39:=Tryz.isAgg342
 z39:=Tryz.sizeOf342
 v39:=Tryz.zeroValue342
 t45:=Tryz.underlying364
 a45:=Tryz.isAgg364
 z45:=Tryz.sizeOf364
 v45:=Tryz.zeroValue364
 t46:=Tryz.underlying365
 a46:=Tryz.isAgg365
 z46:=Tryz.sizeOf365
 v46:=Tryz.zeroValue365
 t50:=Tryz.underlying352
 a50:=Tryz.isAgg352
 z50:=Tryz.sizeOf352
 v50:=Tryz.zeroValue352
 t53:=Tryz.underlying179
 a53:=Tryz.isAgg179
 z53:=Tryz.sizeOf179
 v53:=Tryz.zeroValue179
 t55:=Tryz.underlying372
 a55:=Tryz.isAgg372
 z55:=Tryz.sizeOf372
 v55:=Tryz.zeroValue372
 t66:=Tryz.underlying388
 a66:=Tryz.isAgg388
 z66:=Tryz.sizeOf388
 v66:=Tryz.zeroValue388
 t70:=Tryz.underlying392
 a70:=Tryz.isAgg392
 z70:=Tryz.sizeOf392
 v70:=Tryz.zeroValue392
 t76:=Tryz.underlying402
 a76:=Tryz.isAgg402
 z76:=Tryz.sizeOf402
 v76:=Tryz.zeroValue402
 t77:=Tryz.underlying403
 a77:=Tryz.isAgg403
 z77:=Tryz.sizeOf403
 v77:=Tryz.zeroValue403 }
def Tryz.sortHRow_ren:Go.Shelf.Ren:=⟨fun|6=>164|15=>207|14=>209|28=>238|29=>239|20=>240|21=>241|22=>242|23=>243|24=>244|25=>245|26=>246|27=>247|46=>266|47=>262|48=>263|49=>267|50=>268|57=>283|n=>n,fun|22=>208|24=>134|25=>213|3=>3|39=>342|0=>0|53=>179|55=>372|4=>4|46=>365|45=>364|50=>352|5=>5|9=>9|66=>388|70=>392|76=>402|77=>403|n=>n,fun|n=>n⟩
theorem Tryz.sortHRow:Go.Proofs.SlLaysF0.n6 Tryz.prog Tryz.sortHRow_ren:={
 mixed:=by kernel_rfl
 f6:=⟨Tryz.f164.name,by decide,Tryz.func164.trans (congrArg some (by kernel_rfl))⟩
 f14:=⟨Tryz.f209.name,by decide,Tryz.func209.trans (congrArg some (by kernel_rfl))⟩
 f15:=Tryz.func207.trans (congrArg some (by kernel_rfl))
 f20:=⟨Tryz.f240.name,by decide,Tryz.func240.trans (congrArg some (by kernel_rfl))⟩
 f21:=⟨Tryz.f241.name,by decide,Tryz.func241.trans (congrArg some (by kernel_rfl))⟩
 f22:=⟨Tryz.f242.name,by decide,Tryz.func242.trans (congrArg some (by kernel_rfl))⟩
 f23:=⟨Tryz.f243.name,by decide,Tryz.func243.trans (congrArg some (by kernel_rfl))⟩
 f24:=⟨Tryz.f244.name,by decide,Tryz.func244.trans (congrArg some (by kernel_rfl))⟩
 f25:=⟨Tryz.f245.name,by decide,Tryz.func245.trans (congrArg some (by kernel_rfl))⟩
 f26:=⟨Tryz.f246.name,by decide,Tryz.func246.trans (congrArg some (by kernel_rfl))⟩
 f27:=⟨Tryz.f247.name,by decide,Tryz.func247.trans (congrArg some (by kernel_rfl))⟩
 f28:=Tryz.func238.trans (congrArg some (by kernel_rfl))
 f29:=Tryz.func239.trans (congrArg some (by kernel_rfl))
 f46:=⟨Tryz.f266.name,by decide,Tryz.func266.trans (congrArg some (by kernel_rfl))⟩
 f47:=Tryz.func262.trans (congrArg some (by kernel_rfl))
 f48:=Tryz.func263.trans (congrArg some (by kernel_rfl))
 f49:=⟨Tryz.f267.name,by decide,Tryz.func267.trans (congrArg some (by kernel_rfl))⟩
 f50:=⟨Tryz.f268.name,by decide,Tryz.func268.trans (congrArg some (by kernel_rfl))⟩
 f57:=⟨Tryz.f283.name,by decide,Tryz.func283.trans (congrArg some (by kernel_rfl))⟩
 t0:=Tryz.underlying0
 a0:=Tryz.isAgg0
 z0:=Tryz.sizeOf0
 v0:=Tryz.zeroValue0
 t3:=Tryz.underlying3
 a3:=Tryz.isAgg3
 z3:=Tryz.sizeOf3
 v3:=Tryz.zeroValue3
 t4:=Tryz.underlying4
 a4:=Tryz.isAgg4
 z4:=Tryz.sizeOf4
 v4:=Tryz.zeroValue4
 t5:=Tryz.underlying5
 a5:=Tryz.isAgg5
 z5:=Tryz.sizeOf5
 v5:=Tryz.zeroValue5
 t9:=Tryz.underlying9
 a9:=Tryz.isAgg9
 z9:=Tryz.sizeOf9
 v9:=Tryz.zeroValue9
 t22:=Tryz.underlying208
 a22:=Tryz.isAgg208
 z22:=Tryz.sizeOf208
 v22:=Tryz.zeroValue208
 t25:=Tryz.underlying213
 a25:=Tryz.isAgg213
 z25:=Tryz.sizeOf213
 v25:=Tryz.zeroValue213
 t39:=Tryz.underlying342
 a39:=Tryz.isAgg342
 z39:=Tryz.sizeOf342
 v39:=Tryz.zeroValue342
 t45:=Tryz.underlying364
 a45:=Tryz.isAgg364
 z45:=Tryz.sizeOf364
 v45:=Tryz.zeroValue364
 t46:=Tryz.underlying365
 a46:=Tryz.isAgg365
 z46:=Tryz.sizeOf365
 v46:=Tryz.zeroValue365
 t50:=Tryz.underlying352
 a50:=Tryz.isAgg352
 z50:=Tryz.sizeOf352
 v50:=Tryz.zeroValue352
 t53:=Tryz.underlying179
 a53:=Tryz.isAgg179
 z53:=Tryz.sizeOf179
 v53:=Tryz.zeroValue179
 t55:=Tryz.underlying372
 a55:=Tryz.isAgg372
 z55:=Tryz.sizeOf372
 v55:=Tryz.zeroValue372
 t66:=Tryz.underlying388
 a66:=Tryz.isAgg388
 z66:=Tryz.sizeOf388
 v66:=Tryz.zeroValue388
 t70:=Tryz.underlying392
 a70:=Tryz.isAgg392
 z70:=Tryz.sizeOf392
 v70:=Tryz.zeroValue392
 t76:=Tryz.underlying402
 a76:=Tryz.isAgg402
 z76:=Tryz.sizeOf402
 v76:=Tryz.zeroValue402
 t77:=Tryz.underlying403
 a77:=Tryz.isAgg403
 z77:=Tryz.sizeOf403
 v77:=Tryz.zeroValue403 }
end Go.Proofs
namespace Go.Proofs
open Go.Shelf
def Tryz.search_ren:Go.Shelf.Ren:=⟨fun|16=>257|n=>n,fun|3=>3|4=>4|35=>355|38=>342|n=>n,fun|n=>n⟩
theorem Tryz.searchL:Go.Proofs.SlLaysO.n16 Tryz.prog Tryz.search_ren:={
 mixed:=by kernel_rfl
 f16:=Tryz.func257.trans (congrArg some (by kernel_rfl))
 t3:=Tryz.underlying3
 a3:=Tryz.isAgg3
 z3:=Tryz.sizeOf3
 v3:=Tryz.zeroValue3
 t4:=Tryz.underlying4
 a4:=Tryz.isAgg4
 z4:=Tryz.sizeOf4
 v4:=Tryz.zeroValue4
 t35:=Tryz.underlying355
 a35:=Tryz.isAgg355
 z35:=Tryz.sizeOf355
 v35:=Tryz.zeroValue355
 t38:=Tryz.underlying342
 a38:=Tryz.isAgg342
 z38:=Tryz.sizeOf342
 v38:=Tryz.zeroValue342 }
end Go.Proofs
namespace Go.Proofs.YtoifcnidhfnapaaGreatDoor
open Go.RowKit Go.Maps Go.Sort Go.Shelf
def zah (y:Row) (c:Nat):Int:=match c with|0=>y.1|1=>y.2.1|_=>y.2.2
abbrev REnt:=Row×Int
def zcg:REnt:=((0,0,0),0)
def zcy (w:World) (b:Nat):Prop:=∃ cs,w.heap[b]? = some (.cells cs 221 (0,0))
def zbq (w:World) (v:Value) (es:List REnt):Prop:=
 ∃ a cap,v=.slice a es.length cap∧es.length≤cap∧∀ i,i<es.length→∃ b o,a=some ⟨b,o,none⟩∧w.cell? ⟨b,o+i*4,none⟩=some (.int .i64 (es[i]?.getD zcg).1.1) ∧
  w.cell? ⟨b,o+i*4+1,none⟩=some (.int .i64 (es[i]?.getD zcg).1.2.1)∧w.cell? ⟨b,o+i*4+2,none⟩=some (.int .i64 (es[i]?.getD zcg).1.2.2)∧w.cell? ⟨b,o+i*4+3,none⟩=some (.int .i64 (es[i]?.getD zcg).2)∧zcy w b
theorem zbq.below {w w':World} {v:Value} {es:List REnt} (h:zbq w v es) (hb:Below w.heap.size w w'):zbq w' v es:=by
 obtain ⟨a,cap,rfl,hc,hx⟩:=h
 refine ⟨a,cap,rfl,hc,fun i hi=>?_⟩
 obtain ⟨b,o,rfl,h0,h1,h2,h3⟩:=hx i hi
 have hl:=World.block_lt_of_cell? w _ h0
 have hl':b<w.heap.size:=hl
 have key:∀ q,w'.cell? ⟨b,q,none⟩=w.cell? ⟨b,q,none⟩:=fun q=>hb.cell (p:=⟨b,q,none⟩) hl'
 obtain ⟨h3,cs,h4⟩:=h3
 exact ⟨b,o,rfl,(key _).trans h0,(key _).trans h1,(key _).trans h2,(key _).trans h3,cs,(hb.block b hl').trans h4⟩
theorem zbq.col {w:World} {a:Option Addr} {n cap:Nat} {es:List REnt} (h:zbq w (.slice a n cap) es) {i:Nat} (hi:i<es.length) {c:Nat} (hc:c<3) :
  ∃ b o,a=some ⟨b,o,none⟩∧w.cell? ⟨b,o+i*4+c,none⟩=some (.int .i64 (zah (es[i]?.getD zcg).1 c)):=by
 obtain ⟨a',cap',e,_,hx⟩:=h
 injection e with e1 e2 e3
 subst e1
 obtain ⟨b,o,rfl,h0,h1,h2,h3⟩:=hx i hi
 refine ⟨b,o,rfl,?_⟩
 match c,hc with
 | 0,_=>exact h0
 | 1,_=>exact h1
 | 2,_=>exact h2
set_option maxRecDepth 100000 in
set_option maxHeartbeats 1000000 in
theorem zyz (es:List REnt) (a:Option Addr) (cap c i B1 B2 B3:Nat) (z:Int) (W:World) (hr:zbq W (.slice a es.length cap) es) (hc:c<3) (hi:i<es.length)
  (h1:W.cell? ⟨B1,0,none⟩=some (.slice a es.length cap)) (h2:W.cell? ⟨B2,0,none⟩=some (.int .i64 c)) (h3:W.cell? ⟨B3,0,none⟩=some (.int .i64 z)) :
  Calls Tryz.prog 258 #[.int .i64 i,.pointer (some ⟨B1,0,none⟩),.pointer (some ⟨B2,0,none⟩),.pointer (some ⟨B3,0,none⟩)] W fun e w'=>e=.returned (.bool (decide (z≤zah (es[i]?.getD zcg).1 c)))∧za4 W w':=by
 obtain ⟨b,o,rfl,d⟩:=hr.col hi hc
 generalize zah (es[i]?.getD zcg).1 c=q at d
 clear hr
 have hx:(i:Int)<(es.length:Int):=by omega
 have hc3:(c:Int)<3:=by omega
 go_enter Tryz.func258,Tryz.ntmps258
 go_wp2
 go_quiet (fail)
 go_wp2
 go_ret
 exact ⟨rfl,(za4.refl _).thenN _⟩
def zet (c:Nat) (z:Int) (es:List REnt):List REnt:=es.drop ((List.range es.length).countP fun i=>!decide (z≤zah (es[i]?.getD zcg).1 c))
def zbc (c:Nat) (es:List REnt):Prop:=es.Pairwise fun a b=>zah a.1 c≤zah b.1 c
theorem zbc.mono {c:Nat} {es:List REnt} (h:zbc c es) (i j:Nat) (hij:i≤j) (hj:j<es.length):zah (es[i]?.getD zcg).1 c≤zah (es[j]?.getD zcg).1 c:=by
 have hi:i<es.length:=by omega
 simp only [List.getElem?_eq_getElem hi,List.getElem?_eq_getElem hj,Option.getD_some]
 rcases Nat.lt_or_eq_of_le hij with h'|rfl
 ·exact List.pairwise_iff_getElem.1 h i j hi hj h'
 ·exact Int.le_refl _
theorem zbq.drop {w:World} {b o n cap:Nat} {es:List REnt} (h:zbq w (.slice (some ⟨b,o,none⟩) n cap) es) (k:Nat) (hk:k≤es.length):zbq w (.slice (some ⟨b,o+k*4,none⟩) (es.length - k) (cap - k)) (es.drop k):=by
 obtain ⟨a,cap',e,hc,hx⟩:=h
 injection e with e1 e2 e3
 subst e1 e3
 refine ⟨some ⟨b,o+k*4,none⟩,cap - k,by rw [List.length_drop],by rw [List.length_drop];omega,fun i hi=>?_⟩
 rw [List.length_drop] at hi
 obtain ⟨b',o',e,h0,h1,h2,h3⟩:=hx (k+i) (by omega)
 injection e with e
 injection e with e1 e2
 subst e1 e2
 refine ⟨b,o+k*4,rfl,?_⟩
 simp only [List.getElem?_drop]
 have e:o+(k+i)*4=o+k*4+i*4:=by omega
 rw [e] at h0 h1 h2 h3
 exact ⟨h0,h1,h2,h3⟩
theorem zbq.cap {w:World} {a:Option Addr} {n cap:Nat} {es:List REnt} (h:zbq w (.slice a n cap) es):es.length≤cap:=by
 obtain ⟨a',cap',e,hc,_⟩:=h
 injection e with e1 e2 e3
 subst e3
 exact hc
theorem zbq.gone (w:World) (a:Option Addr) {k:Nat} {es:List REnt} (h:es.length≤k):zbq w (.slice a (es.length - k) 0) (es.drop k):=by
 have e:es.drop k=[]:=List.drop_eq_nil_of_le h
 rw [e]
 exact ⟨a,0,by simp;omega,by simp,fun i hi=>by simp at hi⟩
theorem zic {w:World} {p q:Nat} {os:Array Obj}:Below w.heap.size w (grow ((w.drewN p).drewN q) os):=by
 refine ⟨rfl,rfl,rfl,by simp [grow],fun k hk=>?_⟩
 simp only [grow]
 exact Array.getElem?_append_left hk
theorem yac {w w4:World} {p q:Nat} {os:Array Obj} (h:w4=grow ((w.drewN p).drewN q) os):Below w.heap.size w w4:=by subst h;exact zic
set_option maxRecDepth 100000 in
set_option maxHeartbeats 2000000 in
theorem zvr (es:List REnt) (b o cap c:Nat) (z:Int) (W:World) (hr:zbq W (.slice (some ⟨b,o,none⟩) es.length cap) es) (hc:c<3) (hs:zbc c es) (hn:es.length≤1000000000000) :
  Calls Tryz.prog 225 #[.slice (some ⟨b,o,none⟩) es.length cap,.int .i64 c,.int .i64 z] W fun e w'=>∃ o' cap',e=.returned (.slice (some ⟨b,o',none⟩) (zet c z es).length cap')∧zbq W (.slice (some ⟨b,o',none⟩) (zet c z es).length cap') (zet c z es)∧Below W.heap.size W w':=by
 obtain ⟨W3,hW3⟩:∃ W3,W3=((W.alloc (.cells #[.slice (some ⟨b,o,none⟩) es.length cap] 141)).alloc (.cells #[.int .i64 c] 3)).alloc (.cells #[.int .i64 z] 2):=⟨_,rfl⟩
 have hb3:Below W.heap.size W W3:=by rw [hW3];exact (((Below.refl _ _).alloc (Nat.le_refl _) _).alloc (by simp) _).alloc (by simp;omega) _
 have c1:W3.cell? ⟨W.heap.size,0,none⟩=some (.slice (some ⟨b,o,none⟩) es.length cap):=by
  rw [hW3]
  exact zab ((Below.heap_alloc _ _ _ (by simp;omega)).trans ((Below.heap_alloc _ _ _ (by simp)).trans (zad _ _ _ rfl))) 0
 have c2:W3.cell? ⟨W.heap.size+1,0,none⟩=some (.int .i64 c):=by
  rw [hW3]
  exact zab ((Below.heap_alloc _ _ _ (by simp)).trans (zad _ _ _ (by simp))) 0
 have c3:W3.cell? ⟨W.heap.size+2,0,none⟩=some (.int .i64 z):=by
  rw [hW3]
  exact zab (zad _ _ _ (by simp)) 0
 have hr3:=hr.below hb3
 have hcap:es.length≤cap:=hr.cap
 have HS:Hid (∀ m,Calls Tryz.prog 257 #[.int .i64 es.length,.func (.func 258) #[] #[.pointer (some ⟨W.heap.size,0,none⟩),.pointer (some ⟨W.heap.size+1,0,none⟩),.pointer (some ⟨W.heap.size+2,0,none⟩)]] (W3.drewN m) fun e w' =>
   e=.returned (.int .i64 ((List.range es.length).countP fun i=>!decide (z≤zah (es[i]?.getD zcg).1 c):Nat))∧∃ q os,w'=grow ((W3.drewN m).drewN q) os):=by
  intro m0
  refine Any.sort_Search Tryz.searchL 258 _ es.length (fun i=>decide (z≤zah (es[i]?.getD zcg).1 c)) (W3.drewN m0) (enters_of Tryz.func258 (by kernel_rfl) rfl) (by omega) (fun m os i hi=>?_) (fun i j hij hj hi=>?_)
  ·have hb:Below W3.heap.size W3 (grow ((W3.drewN m0).drewN m) os):=zic
   have hcell:∀ B q v,W3.cell? ⟨B,q,none⟩=some v→(grow ((W3.drewN m0).drewN m) os).cell? ⟨B,q,none⟩=some v:=fun B q v h=>(hb.cell (p:=⟨B,q,none⟩) (World.block_lt_of_cell? _ _ h)).trans h
   refine (zyz es _ cap c i _ _ _ z _ (hr3.below hb) hc hi (hcell _ _ _ c1) (hcell _ _ _ c2) (hcell _ _ _ c3)).mono ?_
   rintro e w' ⟨rfl,hd⟩
   refine ⟨rfl,?_⟩
   obtain ⟨q,rfl⟩:=hd
   exact ⟨q,#[],by rw [grow_empty]⟩
  ·simp only [decide_eq_true_eq] at hi ⊢
   exact Int.le_trans hi (hs.mono i j hij hj)
 have hcnt:(List.range es.length).countP (fun i=>!decide (z≤zah (es[i]?.getD zcg).1 c))≤es.length:=by
  have:=List.countP_le_length (p:=fun i=>!decide (z≤zah (es[i]?.getD zcg).1 c)) (l:=List.range es.length)
  simpa using this
 have Hdrop:=hide (hr.drop _ hcnt)
 have Hb3:=hide hb3
 have HfL:Hid (zet c z es=es.drop ((List.range es.length).countP fun i=>!decide (z≤zah (es[i]?.getD zcg).1 c))):=rfl
 generalize (List.range es.length).countP (fun i=>!decide (z≤zah (es[i]?.getD zcg).1 c))=k at *
 clear hr hr3 hs hb3
 go_enter Tryz.func225,Tryz.ntmps225
 go_wp2
 rw [← hW3]
 clear hW3
 have hk0:(k:Int)≤(es.length:Int):=by omega
 go_region_with (go_at_call 257;refine (show Calls _ _ _ (W3.drewN 1) _ from (zaa HS) 1).mono ?_;rintro e w4 ⟨rfl,q,os,hw4⟩;have Hb4:=hide (yac hw4);have c1':w4.cell? ⟨W.heap.size,0,none⟩=some (.slice (some ⟨b,o,none⟩) es.length cap):=((zaa Hb4).cell (p:=⟨W.heap.size,0,none⟩) (World.block_lt_of_cell? _ _ c1)).trans c1;clear hw4)
 all_goals go_wp2
 all_goals go_ret
 all_goals rw [zaa HfL]
 all_goals first
  | exact ⟨o+k*4,cap - k,by rw [List.length_drop];rfl,by rw [List.length_drop];exact (zaa Hdrop),(zaa Hb3).trans ((zaa Hb4).mono (zaa Hb3).size)⟩
  | exact ⟨o,0,by rw [List.length_drop];rfl,by rw [List.length_drop];exact zbq.gone _ _ (by omega),(zaa Hb3).trans ((zaa Hb4).mono (zaa Hb3).size)⟩
end Go.Proofs.YtoifcnidhfnapaaGreatDoor
