import Derived.Test.YtoifcnidhfnapabGreatDoorB05
import Derived.Test.YtoifcnidhfnapabGreatDoorB14
import Derived.Test.YtoifcnidhfnapabGreatDoorB37
import Derived.Test.YtoifcnidhfnapabGreatDoorB36
import Derived.Test.YtoifcnidhfnapabGreatDoorB01
import Derived.Test.YtoifcnidhfnapabGreatDoorB15
import Derived.Deep.RegionHeld3
set_option linter.unusedVariables false
set_option linter.unusedSimpArgs false
set_option maxRecDepth 100000
set_option maxHeartbeats 16000000
namespace Go.Proofs.YtoifcnidhfnapabGreatDoor
open Go.RowKit Go.Maps
def zaq (s:ByteArray) (p:Nat):Nat:=if h:p<s.size then s[p].toNat else 0
theorem ycy {s:ByteArray} {p:Nat} (h:p<s.size):zaq s p=s[p].toNat:=by unfold zaq;rw [dif_pos h]
theorem zq1 {s:ByteArray} {p:Nat} (h:s.size≤p):zaq s p=0:=by unfold zaq;rw [dif_neg (by omega)]
theorem zdv {s:ByteArray} {p:Nat} (h:zaq s p≠0):p<s.size:=by
 rcases Nat.lt_or_ge p s.size with h1|h1
 ·exact h1
 ·exact absurd (zq1 h1) h
def ymr (t:Nat→Bool) (s:ByteArray):Nat→Nat→Nat
 | 0,p=>p
 | n+1,p=>if t (zaq s p) then ymr t s n (p+1) else p
def yj4 (t:Nat→Bool) (s:ByteArray) (p:Nat):Nat:=ymr t s (s.size - p) p
theorem zvo {t:Nat→Bool} {s:ByteArray} {p:Nat} (h:t (zaq s p)=false):yj4 t s p=p:=by
 unfold yj4
 cases s.size - p with
 | zero=>rfl
 | succ n=>simp [ymr,h]
theorem yey {t:Nat→Bool} {s:ByteArray} {p:Nat} (hp:p<s.size) (h:t (zaq s p)=true):yj4 t s p=yj4 t s (p+1):=by
 unfold yj4
 obtain ⟨n,hn⟩:∃ n,s.size - p=n+1:=⟨s.size - p - 1,by omega⟩
 have hn':s.size - (p+1)=n:=by omega
 rw [hn,hn']
 simp [ymr,h]
def ym4 (c:Nat):Bool:=decide (c=32)
def zuw (c:Nat):Bool:=decide (65≤c) && decide (c≤90)
def yfz (c:Nat):Bool:=decide (97≤c) && decide (c≤122)
def zwe (c:Nat):Bool:=decide (48≤c) && decide (c≤57)
def zba (s:ByteArray) (p:Nat):Nat:=yj4 ym4 s p
def zfl (s:ByteArray) (p:Nat):Nat:=yj4 yfz s p
def zkb (s:ByteArray) (c p:Nat):Except Nat Nat:=if zaq s (zba s p)=c then .ok (zba s p+1) else .error (zba s p)
def yb4 (s:ByteArray):Nat→Nat→Nat→Nat×Nat
 | 0,p,acc=>(acc,p)
 | n+1,p,acc=>if zwe (zaq s p) then yb4 s n (p+1) (10*acc+(zaq s p - 48)) else (acc,p)
def yku (s:ByteArray) (p:Nat):Except Nat (Int×Nat):=
 let q:=if zaq s p=45 then p+1 else p
 let r:=yb4 s 9 q 0
 if r.2=q then .error q else .ok (if zaq s p=45 then -(r.1:Int) else (r.1:Int),r.2)
def zqq (s:ByteArray) (p:Nat):Except Nat ((Nat×Int)×Nat):=
 if zuw (zaq s (zba s p)) then .ok ((zaq s (zba s p),0),zba s p+1) else
  match yku s (zba s p) with
  | .error q=>.error q
  | .ok (z,q)=>.ok ((0,z),q)
def zg1 {α:Type} (item:Nat→Except Nat (α×Nat)) (s:ByteArray):Nat→Nat→List α→Except Nat (List α×Nat)
 | 0,p,acc=>.ok (acc,p)
 | m+1,p,acc =>
  match item p with
  | .error q=>.error q
  | .ok (x,q)=>if m=0 then .ok (acc ++ [x],q) else if zaq s (zba s q)=44 then zg1 item s m (zba s q+1) (acc ++ [x]) else .ok (acc ++ [x],zba s q)
structure zb3 where
 nm:ByteArray
 pl:Nat
 ts:List (Nat×Int)
def zno (s:ByteArray) (p:Nat):Except Nat (zb3×Nat):=
 let q:=zba s p
 let e:=zfl s q
 if e=q then .error q else
  match zkb s 40 e with
  | .error r=>.error r
  | .ok p1=>match zg1 (zqq s) s 3 p1 [] with
   | .error r=>.error r
   | .ok (ts,p2)=>match zkb s 41 p2 with
    | .error r=>.error r
    | .ok p3=>.ok (⟨s.extract q e,q,ts⟩,p3)
def zi7 (s:ByteArray) (p:Nat):Except Nat ((Nat×Nat)×Nat):=
 if zuw (zaq s (zba s p)) then .ok ((zaq s (zba s p),zba s p),zba s p+1) else .error (zba s p)
def zw0 (s:ByteArray) (p:Nat):Except Nat (List (Nat×Nat)×Nat):=
 match zkb s 40 p with
 | .error r=>.error r
 | .ok p1=>if zaq s (zba s p1)=41 then .ok ([],zba s p1+1) else
  match zg1 (zi7 s) s 4 (zba s p1) [] with
  | .error r=>.error r
  | .ok (hs,p2)=>match zkb s 41 p2 with
   | .error r=>.error r
   | .ok p3=>.ok (hs,p3)
def zxe (s:ByteArray) (p:Nat):Except Nat Nat:=
 match zkb s 58 p with
 | .error r=>.error r
 | .ok p1=>if zaq s p1=45 then .ok (p1+1) else .error p1
def zzu (s:ByteArray) (p:Nat):Except Nat (List zb3):=
 match zg1 (zno s) s 4 p [] with
 | .error r=>.error r
 | .ok (bs,p1)=>if zba s p1<s.size then .error (zba s p1) else .ok bs
def zfd (s:ByteArray):Except Nat (List (Nat×Nat)×List zb3):=
 match zw0 s 0 with
 | .error r=>.error r
 | .ok (hs,p1)=>match zxe s p1 with
  | .error r=>.error r
  | .ok p2=>match zzu s p2 with
   | .error r=>.error r
   | .ok bs=>.ok (hs,bs)
theorem yde {s:ByteArray} {n p acc:Nat} (h:zwe (zaq s p)=true):yb4 s (n+1) p acc=yb4 s n (p+1) (10*acc+(zaq s p - 48)):=by simp [yb4,h]
theorem zuj {s:ByteArray} {n p acc:Nat} (h:zwe (zaq s p)=false):yb4 s n p acc=(acc,p):=by
 cases n with
 | zero=>rfl
 | succ n=>simp [yb4,h]
end Go.Proofs.YtoifcnidhfnapabGreatDoor
namespace Go.Proofs.YtoifcnidhfnapabGreatDoor
namespace K
open Go.RowKit Go.Maps
def zkn:Int→List (Nat×Nat)×List zb3
 | 0=>([(88,1),(90,3)],[⟨nmR,7,[(88,0),(89,0)]⟩,⟨nmS,14,[(89,0),(90,0)]⟩])
 | 1=>([(88,1)],[⟨nmR,5,[(88,0),(88,0)]⟩,⟨nmT,12,[(88,0)]⟩])
 | 2=>([(88,1),(89,3),(90,5)],[⟨nmR,9,[(88,0),(89,0)]⟩,⟨nmR,16,[(89,0),(90,0)]⟩,⟨nmS,23,[(90,0),(88,0)]⟩])
 | 3=>([],[⟨nmR,4,[(88,0),(89,0)]⟩,⟨nmT,11,[(89,0)]⟩])
 | 4=>([(89,1),(89,3)],[⟨nmS,7,[(0,1),(89,0)]⟩,⟨nmT,14,[(90,0)]⟩,⟨nmR,19,[(90,0),(89,0)]⟩])
 | 5=>([(88,2)],[⟨nmR,9,[(88,0),(89,0)]⟩,⟨nmS,18,[(90,0),(89,0)]⟩,⟨nmT,27,[(0,0)]⟩])
 | 6=>([(88,1),(89,3)],[⟨nmR,7,[(88,0),(90,0)]⟩,⟨nmR,14,[(90,0),(89,0)]⟩,⟨nmR,21,[(89,0),(88,0)]⟩,⟨nmT,28,[(90,0)]⟩])
 | _=>([],[⟨nmT,4,[(0,1)]⟩,⟨nmR,9,[(0,0),(0,0)]⟩])
theorem qry0:zfd (zkf 0)=.ok (zkn 0):=by kernel_rfl
theorem qry1:zfd (zkf 1)=.ok (zkn 1):=by kernel_rfl
theorem qry2:zfd (zkf 2)=.ok (zkn 2):=by kernel_rfl
theorem qry3:zfd (zkf 3)=.ok (zkn 3):=by kernel_rfl
theorem qry4:zfd (zkf 4)=.ok (zkn 4):=by kernel_rfl
theorem qry5:zfd (zkf 5)=.ok (zkn 5):=by kernel_rfl
theorem qry6:zfd (zkf 6)=.ok (zkn 6):=by kernel_rfl
theorem qry7:zfd (zkf 7)=.ok (zkn 7):=by kernel_rfl
theorem ygm {P:Int→Prop} (h0:P 0) (h1:P 1) (h2:P 2) (h3:P 3) (h4:P 4) (h5:P 5) (h6:P 6) (h7:P 7) (c:Int):P (zbd c 8):=by
 have hr:=zdm c 8 (by omega)
 generalize zbd c 8=k at hr
 have hcase:k=0∨k=1∨k=2∨k=3∨k=4∨k=5∨k=6∨k=7:=by omega
 rcases hcase with rfl|rfl|rfl|rfl|rfl|rfl|rfl|rfl <;> assumption
theorem zje (c:Int):zfd (zkf (zbd c 8))=.ok (zkn (zbd c 8)):=ygm (P:=fun k=>zfd (zkf k)=.ok (zkn k)) qry0 qry1 qry2 qry3 qry4 qry5 qry6 qry7 c
end K
end Go.Proofs.YtoifcnidhfnapabGreatDoor
namespace Go.Proofs.YtoifcnidhfnapabGreatDoor
namespace K
open Go.RowKit Go.Maps Go.Sort Go.Shelf
structure zl1 (R S T:Rel) (cnt:Nat):Prop where
 r:ztn R 2 cnt zfj
 s:ztn S 2 cnt zfj
 t:ztn T 1 cnt zhl
theorem zl1.add {R S T:Rel} {cnt:Nat} (h:zl1 R S T cnt) {es:List Ent} (hf:∀ x∈es,Fine x):zl1 (zah R es nmR) (zah S es nmS) (zah T es nmT) (cnt+es.length):=
 ⟨h.r.add hf (fun _ h0=>(zc6 hf h0).1 rfl),h.s.add hf (fun _ h0=>(zc6 hf h0).2.1 rfl),h.t.add hf (fun _ h0=>(zc6 hf h0).2.2 rfl)⟩
theorem Fine.chk {x:Ent} (h:Fine x) {R S T:Rel} {cnt:Nat} (h3:zl1 R S T cnt):Chk (st3 R S T) x 0:=by
 have hg:=h.good
 have hn:x.nm.size≤maxLen:=Nat.le_trans hg.1 (by unfold maxLen;omega)
 have hw:-1000≤x.wt∧x.wt≤1000:=hg.2.2.2
 have hl:x.row.length≤1000000000:=by have:=hg.2.1;omega
 rcases h.name with ⟨e,e2,_⟩|⟨e,e2,_⟩|⟨e,e2,_⟩
 ·exact zuc hn (by rw [e];exact zlo _ _ _) hl (by rw [e2,h3.r.ar_]) hw
 ·exact zuc hn (by rw [e];exact zpn _ _ _) hl (by rw [e2,h3.s.ar_]) hw
 ·exact zuc hn (by rw [e];exact zpo _ _ _) hl (by rw [e2,h3.t.ar_]) hw
theorem Fine.known {x:Ent} (h:Fine x) (R S T:Rel):st3 R S T x.nm≠none:=by
 rcases h.name with ⟨e,_⟩|⟨e,_⟩|⟨e,_⟩
 ·rw [e,zlo];simp
 ·rw [e,zpn];simp
 ·rw [e,zpo];simp
theorem zlz.ents {w:World} {B m:Nat} {v:Value} {es:List Ent} (hd:zlz w B m v es):zds w v es:=by
 obtain ⟨g,cap,cur,xs,rfl,h1,h2,h3,h4,h5,h6,h7⟩:=hd
 rw [← h6]
 exact zk1 h3 h4 h5 cap
theorem zck {bs:List (List Ent)} {k:Nat} (h:k<bs.length):(bs.take (k+1)).flatten=(bs.take k).flatten ++ bs[k]:=by
 rw [List.take_succ_eq_append_getElem h,List.flatten_append]
 simp only [List.flatten_cons,List.flatten_nil,List.append_nil]
theorem zie (bs:List (List Ent)) (k:Nat):(bs.take k).flatten.length≤bs.flatten.length:=by
 have:bs.flatten=(bs.take k).flatten ++ (bs.drop k).flatten:=by rw [← List.flatten_append,List.take_append_drop]
 rw [this];simp
theorem za3 (R:Rel) (a b:List Ent) (nm:ByteArray):zah (zah R a nm) b nm=zah R (a ++ b) nm:=by
 unfold zah
 simp only [Rel.mk.injEq,true_and]
 refine ⟨by simp;omega,?_⟩
 funext r
 rw [zf3];omega
theorem zb2 (R:Rel) (nm:ByteArray):zah R [] nm=R:=by
 unfold zah
 simp [zbr]
structure zd8 (w w':World):Prop where
 size:w.heap.size≤w'.heap.size
 blk:∀ (q:Nat) cs t p,w.heap[q]? = some (Obj.cells cs t p)→t≠199→t≠197→w'.heap[q]? = w.heap[q]?
theorem zd8.refl (w:World):zd8 w w:=⟨Nat.le_refl _,fun _ _ _ _ _ _ _=>rfl⟩
theorem zd8.ofX {w w':World} {fix:Nat→Prop} {eb db nD nI nV N:Nat} {st:St} {ixs:IxS} {vws:VwS} (hE:EngV w fix eb db nD nI nV N st ixs vws) (h:KeepX (zcs st ixs vws) w w'):zd8 w w':=
 ⟨h.size,fun q cs t p hq h1 h2=>h.blk q (Array.getElem?_eq_some_iff.1 hq).1 fun hx=>(hE.xtype q hx cs t p hq).elim h1 h2⟩
theorem zlz.keepC {w w':World} {B m:Nat} {v:Value} {es:List Ent} (hd:zlz w B m v es) (h:zd8 w w'):zlz w' B m v es:=by
 obtain ⟨g,cap,cur,xs,rfl,h1,h2,h3,h4,h5,h6,h7⟩:=hd
 exact ⟨g,cap,cur,xs,rfl,h1,h2,(h.blk g _ _ _ h3 (by decide) (by decide)).trans h3,h4,fun p hp=>(h.blk p.2 _ _ _ (h5 p hp) (by decide) (by decide)).trans (h5 p hp),h6,h7⟩
def zbe (vws vws':VwS):Prop:=(∀ nm,vws nm=none→vws' nm=none)∧∀ nm v,vws nm=some v→∃ n' f',vws' nm=some { v with n:=n',f:=f' }
theorem zbe.ofKept {N n:Nat} {a b:VwS} (h:ycj N n a b):zbe a b:=⟨h.1,fun nm v hv=>by obtain ⟨n',f',h1,_⟩:=h.2 nm v hv;exact ⟨n',f',h1⟩⟩
def zdf (M:Nat) (vws:VwS):Prop:=∀ nm v,vws nm=some v→v.n≤M
theorem zdf.kept {N n M K:Nat} {a b:VwS} (h:ycj N n a b) (hm:zdf M a) (hK:4*(N+n) ^ 4≤K):zdf (M+K) b:=by
 intro nm v hv
 cases ha:a nm with
 | none=>rw [h.1 nm ha] at hv;cases hv
 | some u =>
  obtain ⟨n',f',h1,h2⟩:=h.2 nm u ha
  rw [h1] at hv
  cases hv
  have:=hm nm u ha
  show n'≤M+K
  omega
theorem ymq {a b:Nat} (h:a≤b):a ^ 4≤b ^ 4:=Nat.pow_le_pow_left h 4
end K
end Go.Proofs.YtoifcnidhfnapabGreatDoor
namespace Go.Proofs.YtoifcnidhfnapabGreatDoor
open Go.RowKit
theorem ycu (a b:Nat) (ha:a<4294967296) (hb:b<4294967296):bits .or .u32 (a:Int) (b:Int)=((a ||| b:Nat):Int):=by
 have hx:a ||| b<2 ^ 32:=Nat.or_lt_two_pow (by omega) (by omega)
 have h1:(BitVec.ofInt 32 (a:Int)).toNat=a:=by
  rw [BitVec.ofInt_natCast,BitVec.toNat_ofNat];exact Nat.mod_eq_of_lt (by omega)
 have h2:(BitVec.ofInt 32 (b:Int)).toNat=b:=by
  rw [BitVec.ofInt_natCast,BitVec.toNat_ofNat];exact Nat.mod_eq_of_lt (by omega)
 show IntKind.u32.wrap ((BitVec.ofInt 32 (a:Int) ||| BitVec.ofInt 32 (b:Int)).toNat:Int)=_
 rw [BitVec.toNat_or,h1,h2,IntKind.wrap_u32]
 omega
theorem zzt (a b:Nat) (ha:a<4294967296) (hb:b<4294967296):bits .and .u32 (a:Int) (b:Int)=((a &&& b:Nat):Int):=by
 have hx:a &&& b<2 ^ 32:=Nat.and_lt_two_pow _ (by omega)
 have h1:(BitVec.ofInt 32 (a:Int)).toNat=a:=by
  rw [BitVec.ofInt_natCast,BitVec.toNat_ofNat];exact Nat.mod_eq_of_lt (by omega)
 have h2:(BitVec.ofInt 32 (b:Int)).toNat=b:=by
  rw [BitVec.ofInt_natCast,BitVec.toNat_ofNat];exact Nat.mod_eq_of_lt (by omega)
 show IntKind.u32.wrap ((BitVec.ofInt 32 (a:Int) &&& BitVec.ofInt 32 (b:Int)).toNat:Int)=_
 rw [BitVec.toNat_and,h1,h2,IntKind.wrap_u32]
 omega
theorem yig {k:Nat} (hk:k≤25):2 ^ k<67108865:=by
 have:2 ^ k≤2 ^ 25:=Nat.pow_le_pow_right (by omega) hk
 omega
theorem ymd {k:Nat} (hk:k≤25):(2:Int) ^ k % 4294967296=((2 ^ k:Nat):Int):=by
 have h1:=yig hk
 have h2:((2 ^ k:Nat):Int)=(2:Int) ^ k:=by push_cast;rfl
 rw [← h2]
 generalize 2 ^ k=y at h1
 omega
theorem yi8 (m k:Nat):(((m &&& 2 ^ k:Nat):Int) != 0)=m.testBit k:=by
 cases ht:m.testBit k
 ·have:m &&& 2 ^ k=0:=by
   apply Nat.eq_of_testBit_eq
   intro i
   rw [Nat.testBit_and,Nat.testBit_two_pow,Nat.zero_testBit]
   by_cases e:k=i
   ·subst e;rw [ht];rfl
   ·simp [e]
  rw [this];rfl
 ·have:(m &&& 2 ^ k).testBit k=true:=by rw [Nat.testBit_and,ht,Nat.testBit_two_pow];simp
  have h0:m &&& 2 ^ k≠0:=fun e=>by rw [e,Nat.zero_testBit] at this;cases this
  simp only [bne_iff_ne,ne_eq]
  omega
theorem zyy (m x:Nat) (W:World) (hm:m<4294967296) (h1:65≤x) (h2:x≤90):Calls Tryz.prog 54 #[.int .u32 m,.int .u8 x] W fun e w'=>e=.returned (.bool (m.testBit (x - 65)))∧w'=W:=by
 obtain ⟨k,rfl⟩:∃ k,x=k+65:=⟨x - 65,by omega⟩
 have hk:k≤25:=by omega
 have hb:(bits .and .u32 (m:Int) (2 ^ k % 4294967296) != 0)=m.testBit k:=by
  rw [ymd hk,zzt _ _ hm (by have:=yig hk;omega),yi8]
 rw [Nat.add_sub_cancel]
 go_enter Tryz.func54,Tryz.ntmps54
 go_wp2
 go_ret
 exact ⟨rfl,rfl⟩
theorem zyx (B m x:Nat) (W:World) (hB:W.heap[B]? = some (.cells #[.int .u32 m] 113 (0,0))) (hm:m<4294967296) (h1:65≤x) (h2:x≤90):Calls Tryz.prog 55 #[.pointer (some ⟨B,0,none⟩),.int .u8 x] W fun e w'=>e=.returned (.tuple #[])∧w'.heap[B]? = some (.cells #[.int .u32 ((m ||| 2 ^ (x - 65):Nat):Int)] 113 (0,0))∧w'=W.setCell ⟨B,0,none⟩ (.int .u32 ((m ||| 2 ^ (x - 65):Nat):Int)):=by
 obtain ⟨k,rfl⟩:∃ k,x=k+65:=⟨x - 65,by omega⟩
 have hk:k≤25:=by omega
 have hb:bits .or .u32 (m:Int) (2 ^ k % 4294967296)=((m ||| 2 ^ k:Nat):Int):=by
  rw [ymd hk,ycu _ _ hm (by have:=yig hk;omega)]
 have c0:W.cell? ⟨B,0,none⟩=some (.int .u32 m):=by simp [World.cell?,hB]
 have f0:W.frozen? ⟨B,0,none⟩=false:=by simp [World.frozen?,hB]
 rw [Nat.add_sub_cancel]
 go_enter Tryz.func55,Tryz.ntmps55
 go_wp2
 go_end0
 refine ⟨rfl,?_,rfl⟩
 simp [World.setCell,Array.getElem?_modify,hB]
def zu3 (m:Nat) (l:List Nat):Nat:=l.foldl (fun m x=>m ||| 2 ^ (x - 65)) m
def zdl (l:List Nat):Nat:=zu3 0 l
theorem zrf (m:Nat) (l:List Nat) (x:Nat):zu3 m (l ++ [x])=zu3 m l ||| 2 ^ (x - 65):=by simp [zu3,List.foldl_append]
theorem zja (k:Nat):∀ (l:List Nat) (m:Nat),(zu3 m l).testBit k=(m.testBit k || l.any fun x=>decide (x - 65=k))
 | [],m=>by simp [zu3]
 | x :: l,m=>by
  have ih:=zja k l (m ||| 2 ^ (x - 65))
  unfold zu3 at ih ⊢
  rw [List.foldl_cons,ih,Nat.testBit_or,Nat.testBit_two_pow]
  simp [Bool.or_assoc]
theorem zrg {l:List Nat} (hl:∀ x∈l,65≤x) {x:Nat} (hx:65≤x):(zdl l).testBit (x - 65)=decide (x∈l):=by
 unfold zdl
 rw [zja]
 simp only [Nat.zero_testBit,Bool.false_or]
 rw [Bool.eq_iff_iff]
 simp only [List.any_eq_true,decide_eq_true_eq]
 constructor
 ·rintro ⟨y,hy,e⟩
  have:=hl y hy
  have:y=x:=by omega
  exact this ▸ hy
 ·exact fun h=>⟨x,h,rfl⟩
theorem zyz:∀ (l:List Nat) (m:Nat),(∀ x∈l,x≤90)→m<2 ^ 26→zu3 m l<2 ^ 26
 | [],m,_,h=>h
 | x :: l,m,hl,h=>by
  have hx:=hl x (by simp)
  exact zyz l (m ||| 2 ^ (x - 65)) (fun y hy=>hl y (by simp [hy])) (Nat.or_lt_two_pow h (by have:=yig (show x - 65≤25 by omega);have:2 ^ (x - 65)≤2 ^ 25:=Nat.pow_le_pow_right (by omega) (by omega);omega))
theorem zsq {l:List Nat} (hl:∀ x∈l,x≤90):zdl l<4294967296:=by
 have:=zyz l 0 hl (by omega)
 unfold zdl
 omega
theorem yap {l l':List Nat} (h:l.Perm l'):zdl l=zdl l':=by
 apply Nat.eq_of_testBit_eq
 intro i
 unfold zdl
 rw [zja,zja]
 congr 1
 rw [Bool.eq_iff_iff]
 simp only [List.any_eq_true,decide_eq_true_eq]
 constructor
 ·rintro ⟨y,hy,e⟩;exact ⟨y,h.mem_iff.1 hy,e⟩
 ·rintro ⟨y,hy,e⟩;exact ⟨y,h.mem_iff.2 hy,e⟩
end Go.Proofs.YtoifcnidhfnapabGreatDoor
namespace Go.Proofs.YtoifcnidhfnapabGreatDoor
open Go.RowKit Go.Maps
structure Rdr (W:World) (RB:Nat) (s:ByteArray) (p:Nat):Prop where
 blk:W.heap[RB]? = some (.cells #[.string s,.int .i64 p] 158 (0,0))
 le:p≤s.size
 sz:s.size≤300
theorem Rdr.keep {W W':World} {RB:Nat} {s:ByteArray} {p:Nat} (h:Rdr W RB s p) (hb:W'.heap[RB]? = W.heap[RB]?):Rdr W' RB s p:=⟨hb.trans h.blk,h.le,h.sz⟩
theorem Rdr.lt {W:World} {RB:Nat} {s:ByteArray} {p:Nat} (h:Rdr W RB s p):RB<W.heap.size:=(Array.getElem?_eq_some_iff.1 h.blk).1
theorem Rdr.below {W W':World} {RB:Nat} {s:ByteArray} {p:Nat} (h:Rdr W RB s p) (hb:Below W.heap.size W W'):Rdr W' RB s p:=h.keep (hb.block RB h.lt)
theorem zec (n q:Nat) (w:World):Below n w (w.drewN q):=⟨rfl,rfl,rfl,Nat.le_refl _,fun _ _=>rfl⟩
theorem zfn {W:World} {RB:Nat} {s:ByteArray} {p q:Nat} (h:Rdr W RB s p) (hq:q≤s.size):Rdr (W.setCell ⟨RB,1,none⟩ (.int .i64 q)) RB s q:=by
 refine ⟨?_,hq,h.sz⟩
 simp only [World.setCell]
 rw [Array.getElem?_modify,if_pos rfl,h.blk]
 rfl
theorem za4 (w:World) (b o:Nat) (v:Value):KeepX (fun q=>q=b) w (w.setCell ⟨b,o,none⟩ v):=
 ⟨rfl,rfl,rfl,(KeepsWalks.setCell w _ v).size,fun k _ hk=>Below.heap_setCell _ _ _ k (fun e=>hk (by rw [e]))⟩
theorem Rdr.c0 {W:World} {RB:Nat} {s:ByteArray} {p:Nat} (h:Rdr W RB s p):W.cell? ⟨RB,0,none⟩=some (.string s):=zab h.blk 0
theorem Rdr.c1 {W:World} {RB:Nat} {s:ByteArray} {p:Nat} (h:Rdr W RB s p):W.cell? ⟨RB,1,none⟩=some (.int .i64 p):=zab h.blk 1
theorem Rdr.f1 {W:World} {RB:Nat} {s:ByteArray} {p:Nat} (h:Rdr W RB s p):W.frozen? ⟨RB,1,none⟩=false:=zad h.blk 1
theorem zfk (RB:Nat) (s:ByteArray) (p:Nat) (W:World) (h:Rdr W RB s p) :
  Calls Tryz.prog 111 #[.pointer (some ⟨RB,0,none⟩)] W fun e w'=>e=.returned (.int .u8 (zaq s p))∧za9 W w':=by
 have c0:=h.c0
 have c1:=h.c1
 have hle:=h.le
 have hsz:=h.sz
 clear h
 by_cases hp:p=s.size
 ·rw [zq1 (by omega)]
  have hpz:(p:Int)=(s.size:Int):=by omega
  subst hp
  clear hpz
  go_enter Tryz.func111,Tryz.ntmps111
  go_wp2_with fail
  go_quiet (fail)
  go_wp2
  go_ret
  exact ⟨rfl,⟨_,rfl⟩⟩
 ·have hlt:p<s.size:=by omega
  have hpz:¬ (p:Int)=(s.size:Int):=by omega
  rw [ycy hlt]
  go_enter Tryz.func111,Tryz.ntmps111
  go_wp2_with fail
  go_quiet (fail)
  go_wp2_with fail
  go_quiet (fail)
  go_wp2
  go_ret
  exact ⟨rfl,za9.trans ⟨_,rfl⟩ ⟨_,rfl⟩⟩
theorem za9.bel {W W':World} (h:za9 W W'):Below W.heap.size W W':=by
 obtain ⟨n,rfl⟩:=h
 exact zec _ _ _
theorem zza (RB:Nat) (s:ByteArray) (p:Nat) (W:World) (h:Rdr W RB s p) :
  Calls Tryz.prog 114 #[.pointer (some ⟨RB,0,none⟩)] W fun e w'=>e=.returned (.tuple #[])∧Rdr w' RB s (zba s p)∧KeepX (fun q=>q=RB) W w':=by
 have H:=zac h
 clear h
 go_enter Tryz.func114,Tryz.ntmps114
 go_wp2
 go_loopw [] (fun wr=>∃ q,Rdr wr RB s q∧zba s q=zba s p∧KeepX (fun q=>q=RB) W wr) (fun wr=>s.size - (match wr.cell? ⟨RB,1,none⟩ with|some (.int _ z)=>z.toNat|_=>0))
 case atStart=>exact ⟨p,zaa H,rfl,KeepX.refl _ _⟩
 case round =>
  obtain ⟨q,hR,hs,hK⟩:=hrel
  have hh:=zfk RB s q wr hR
  by_cases hb:zaq s q=32
  ·have hlt:q<s.size:=zdv (by omega)
   have hgo:zba s q=zba s (q+1):=yey hlt (by simp [ym4,hb])
   rw [hb] at hh
   have c1:=hR.c1
   have hsz:=hR.sz
   have Hh:=zac hh
   have HR:=zac hR
   have HK:=zac hK
   have Hs:=zac (hgo.symm.trans hs)
   clear hh hR hK hs hgo
   go_wp2_with (first|(go_at_call 111;refine (zaa Hh).mono ?_;rintro e w1 ⟨rfl,hd⟩;have hR1:=(zaa HR).below hd.bel;have d1:=hR1.c1;have f1:=hR1.f1;have HR1:=zac hR1;have Hd:=zac hd;clear hR1 hd))
   have hR2:=zfn (q:=q+1) (zaa HR1) (by omega)
   have hR2':Rdr (w1.setCell ⟨RB,1,none⟩ (.int .i64 ((q:Int)+1))) RB s (q+1):=hR2
   refine ⟨⟨q+1,hR2',zaa Hs,((zaa HK).trans (KeepX.ofBelow (zaa Hd).bel)).trans (za4 _ _ _ _)⟩,?_⟩
   rw [hR2'.c1,c1]
   simp
   omega
  ·have hst:zba s q=q:=zvo (by simp [ym4,hb])
   have hbz:¬ (zaq s q:Int)=32:=by omega
   have Hh:=zac hh
   have HR:=zac hR
   have HK:=zac hK
   have Hs:=zac (hst.symm.trans hs)
   clear hh hR hK hs hst
   generalize zaq s q=bq at *
   go_wp2_with (first|(go_at_call 111;refine (zaa Hh).mono ?_;rintro e w1 ⟨rfl,hd⟩;have Hd:=zac hd;clear hd))
   go_end0
   refine ⟨rfl,?_,(zaa HK).trans (KeepX.ofBelow (zaa Hd).bel)⟩
   rw [← zaa Hs]
   exact (zaa HR).below (zaa Hd).bel
theorem zgh (RB:Nat) (s:ByteArray) (p:Nat) (W:World) (h:Rdr W RB s p) :
  Calls Tryz.prog 109 #[.pointer (some ⟨RB,0,none⟩)] W fun e w'=>e=.returned (.tuple #[.int .i64 (zba s p),.int .u8 (zaq s (zba s p))])∧Rdr w' RB s (zba s p)∧KeepX (fun q=>q=RB) W w':=by
 have H:=zac (zza RB s p W h)
 have hl:=h.lt
 clear h
 obtain ⟨q,hq⟩:∃ q,q=zba s p:=⟨_,rfl⟩
 rw [← hq] at H ⊢
 clear hq
 obtain ⟨bq,hbq⟩:∃ bq,bq=zaq s q:=⟨_,rfl⟩
 rw [← hbq]
 go_enter Tryz.func109,Tryz.ntmps109
 go_wp2_with fail
 refine (zaa H).mono ?_
 rintro e w1 ⟨rfl,hR1,hK1⟩
 have c1:=hR1.c1
 have hh:=fun n=>zfk RB s q (w1.drewN n) (hR1.below (zec _ _ _))
 rw [← hbq] at hh
 have Hh:=zac hh
 have HR:=zac hR1
 have HK:=zac hK1
 clear hR1 hK1 hh H hbq
 go_wp2_with fail
 go_quiet ((go_at_call 111;exact zgm ((zaa Hh) _)))
 go_wp2
 refine bodyPost_ret (v:=.tuple #[.int .i64 q,.int .u8 bq]) (by simp [results,Tryz.results109,go_sem]) rfl ⟨rfl,(zaa HR).below (zec _ _ _),(zaa HK).trans (KeepX.ofBelow (zec _ _ _))⟩
theorem zlq (RB:Nat) (s:ByteArray) (p c:Nat) (hc0:c≠0) (W:World) (h:Rdr W RB s p) :
  Calls Tryz.prog 106 #[.pointer (some ⟨RB,0,none⟩),.int .u8 c] W fun e w'=>e=.returned (.bool (decide (zaq s (zba s p)=c)))∧Rdr w' RB s (if zaq s (zba s p)=c then zba s p+1 else zba s p)∧KeepX (fun q=>q=RB) W w':=by
 have H:=zac (zgh RB s p W h)
 have hsz:=h.sz
 clear h
 obtain ⟨q,hq⟩:∃ q,q=zba s p:=⟨_,rfl⟩
 rw [← hq] at H ⊢
 clear hq
 obtain ⟨bq,hbq⟩:∃ bq,bq=zaq s q:=⟨_,rfl⟩
 rw [← hbq] at H ⊢
 by_cases hb:bq=c
 ·subst hb
  have hlt:q<s.size:=zdv (by omega)
  rw [if_pos rfl,decide_eq_true rfl]
  clear hbq
  go_enter Tryz.func106,Tryz.ntmps106
  go_wp2_with (first|(go_at_call 109;refine (zaa H).mono ?_;rintro e w1 ⟨rfl,hR1,hK1⟩;have d1:=hR1.c1;have f1:=hR1.f1;have HR1:=zac hR1;have HK1:=zac hK1;clear hR1 hK1))
  go_ret
  exact ⟨rfl,zfn (q:=q+1) (zaa HR1) (by omega),(zaa HK1).trans (za4 _ _ _ _)⟩
 ·have hbz:¬ (bq:Int)=(c:Int):=by omega
  rw [if_neg hb,decide_eq_false hb]
  clear hbq
  go_enter Tryz.func106,Tryz.ntmps106
  go_wp2_with (first|(go_at_call 109;refine (zaa H).mono ?_;rintro e w1 ⟨rfl,hR1,hK1⟩;have HR1:=zac hR1;have HK1:=zac hK1;clear hR1 hK1))
  go_ret
  exact ⟨rfl,zaa HR1,zaa HK1⟩
def yin (B:Nat) (W:World):Nat→Value→Nat→Nat→Prop
 | 0,v,c,q=>∃ b,B≤b∧W.heap[b]? = some (.cells #[.int .i64 c,.int .i64 q] 111 (0,0))∧v=.iface 107 (.pointer (some ⟨b,0,none⟩))
 | n+1,v,c,q=>∃ b t v',B≤b∧W.heap[b]? = some (.cells #[.string t,v'] 214 (0,0))∧v=.iface 212 (.pointer (some ⟨b,0,none⟩))∧yin B W n v' c q
def zcx (B:Nat) (W:World) (v:Value) (c q:Nat):Prop:=∃ n,yin B W n v c q
theorem zcx.fault {B:Nat} {W:World} {b c q:Nat} (hb:B≤b) (h:W.heap[b]? = some (.cells #[.int .i64 c,.int .i64 q] 111 (0,0))):zcx B W (.iface 107 (.pointer (some ⟨b,0,none⟩))) c q:=⟨0,b,hb,h,rfl⟩
theorem zcx.wrap {B:Nat} {W:World} {b c q:Nat} {t:ByteArray} {v:Value} (hb:B≤b) (h:W.heap[b]? = some (.cells #[.string t,v] 214 (0,0))) (hv:zcx B W v c q):zcx B W (.iface 212 (.pointer (some ⟨b,0,none⟩))) c q:=by
 obtain ⟨n,hn⟩:=hv
 exact ⟨n+1,b,t,v,hb,h,rfl,hn⟩
theorem yin.turn {B B':Nat} {W W':World} {c q:Nat} (hB:B'≤B) (hk:∀ b o,B≤b→W.heap[b]? = some o→W'.heap[b]? = some o):∀ (n:Nat) (v:Value),yin B W n v c q→yin B' W' n v c q
 | 0,v,⟨b,h1,h2,h3⟩=>⟨b,Nat.le_trans hB h1,hk b _ h1 h2,h3⟩
 | n+1,v,⟨b,t,v',h1,h2,h3,h4⟩=>⟨b,t,v',Nat.le_trans hB h1,hk b _ h1 h2,h3,yin.turn hB hk n v' h4⟩
theorem zcx.keep {B:Nat} {W W':World} {v:Value} {c q:Nat} (h:zcx B W v c q) {X:Nat→Prop} (hk:KeepX X W W') (hX:∀ k,X k→k<B):zcx B W' v c q:=by
 obtain ⟨n,hn⟩:=h
 exact ⟨n,yin.turn (Nat.le_refl _) (fun b o hb ho=>(hk.blk b (Array.getElem?_eq_some_iff.1 ho).1 (fun x=>by have:=hX _ x;omega)).trans ho) n v hn⟩
theorem zcx.bel {B:Nat} {W W':World} {v:Value} {c q:Nat} (h:zcx B W v c q) (hk:Below W.heap.size W W'):zcx B W' v c q:=h.keep (X:=fun _=>False) (KeepX.ofBelow hk) (fun _ h=>h.elim)
theorem zcx.mono {B B':Nat} {W:World} {v:Value} {c q:Nat} (h:zcx B W v c q) (hB:B'≤B):zcx B' W v c q:=by
 obtain ⟨n,hn⟩:=h
 exact ⟨n,yin.turn hB (fun _ _ _ h=>h) n v hn⟩
theorem zcx.form {B:Nat} {W:World} {v:Value} {c q:Nat} (h:zcx B W v c q):∃ t b,v=.iface t (.pointer (some ⟨b,0,none⟩))∧(t=107∨t=212):=by
 obtain ⟨n,hn⟩:=h
 cases n with
 | zero =>
  obtain ⟨b,_,_,rfl⟩:=hn
  exact ⟨_,_,rfl,.inl rfl⟩
 | succ n =>
  obtain ⟨b,t,v',_,_,rfl,_⟩:=hn
  exact ⟨_,_,rfl,.inr rfl⟩
theorem zfx (RB:Nat) (s:ByteArray) (p:Nat) (W:World) (h:Rdr W RB s p) :
  Calls Tryz.prog 110 #[.pointer (some ⟨RB,0,none⟩)] W fun e w'=>∃ v,e=.returned v∧zcx W.heap.size w' v 5 p∧Below W.heap.size W w':=by
 have c1:=h.c1
 clear h
 go_enter Tryz.func110,Tryz.ntmps110
 go_wp2
 go_ret
 exact ⟨_,rfl,.fault (Nat.le_refl _) (zae _ _ _ rfl),(Below.refl _ _).alloc (Nat.le_refl _) _⟩
theorem zk9 (RB:Nat) (s:ByteArray) (p c:Nat) (hc0:c≠0) (W:World) (h:Rdr W RB s p) :
  Calls Tryz.prog 105 #[.pointer (some ⟨RB,0,none⟩),.int .u8 c] W fun e w'=>(∃ q,zkb s c p=.ok q∧e=.returned .nilIface∧Rdr w' RB s q∧KeepX (fun q=>q=RB) W w')∨(∃ q v,zkb s c p=.error q∧e=.returned v∧zcx W.heap.size w' v 5 q∧KeepX (fun q=>q=RB) W w'):=by
 have H:=zac (zlq RB s p c hc0 W h)
 clear h
 unfold zkb
 by_cases hb:zaq s (zba s p)=c
 ·rw [if_pos hb,decide_eq_true hb] at H
  rw [if_pos hb]
  clear hb
  go_enter Tryz.func105,Tryz.ntmps105
  go_wp2_with (first|(go_at_call 106;refine (zaa H).mono ?_;rintro e w1 ⟨rfl,hR1,hK1⟩;have HR1:=zac hR1;have HK1:=zac hK1;clear hR1 hK1))
  go_ret
  exact .inl ⟨_,rfl,rfl,zaa HR1,zaa HK1⟩
 ·rw [if_neg hb,decide_eq_false hb] at H
  rw [if_neg hb]
  clear hb
  go_enter Tryz.func105,Tryz.ntmps105
  go_wp2_with fail
  refine (zaa H).mono ?_
  rintro e w1 ⟨rfl,hR1,hK1⟩
  have Hf:=zac (zfx RB s _ w1 hR1)
  have HK1:=zac hK1
  clear hR1 hK1 H
  go_wp2_with fail
  refine (zaa Hf).mono ?_
  rintro e w2 ⟨v,rfl,hE,hb2⟩
  have HE:=zac hE
  have Hb2:=zac hb2
  clear hE hb2
  go_wp2
  go_ret
  exact .inr ⟨_,_,rfl,rfl,(zaa HE).mono (zaa HK1).size,(zaa HK1).trans (KeepX.ofBelow (zaa Hb2))⟩
theorem zuu (t:ByteArray) (W:World):Calls Tryz.prog 75 #[.string t,.nilIface] W fun e w'=>e=.returned .nilIface∧w'=W:=by
 go_enter Tryz.func75,Tryz.ntmps75
 go_wp2
 go_ret
 exact ⟨rfl,rfl⟩
theorem zut (t:ByteArray) (v:Value) (B c q:Nat) (W:World) (h:zcx B W v c q) (hB:B≤W.heap.size):Calls Tryz.prog 75 #[.string t,v] W fun e w'=>∃ v',e=.returned v'∧zcx B w' v' c q∧Below W.heap.size W w':=by
 obtain ⟨ty,b,rfl,ht⟩:=h.form
 have H:=zac h
 clear h
 go_enter Tryz.func75,Tryz.ntmps75
 go_wp2
 go_ret
 exact ⟨_,rfl,.wrap hB (zae _ _ _ rfl) ((zaa H).bel ((Below.refl _ _).alloc (Nat.le_refl _) _)),(Below.refl _ _).alloc (Nat.le_refl _) _⟩
theorem zsi (c:Nat) (W:World):Calls Tryz.prog 53 #[.int .u8 c] W fun e w'=>e=.returned (.bool (zuw c))∧w'=W:=by
 by_cases h1:65≤c
 ·have h1z:(65:Int)≤(c:Int):=by omega
  by_cases h2:c≤90
  ·have h2z:(c:Int)≤90:=by omega
   have hv:zuw c=true:=by simp [zuw,h1,h2]
   rw [hv]
   go_enter Tryz.func53,Tryz.ntmps53
   go_wp2
   go_ret
   exact ⟨rfl,rfl⟩
  ·have h2z:¬ (c:Int)≤90:=by omega
   have hv:zuw c=false:=by simp [zuw,h1,h2]
   rw [hv]
   go_enter Tryz.func53,Tryz.ntmps53
   go_wp2
   go_ret
   exact ⟨rfl,rfl⟩
 ·have h1z:¬ (65:Int)≤(c:Int):=by omega
  have hv:zuw c=false:=by simp [zuw,h1]
  rw [hv]
  go_enter Tryz.func53,Tryz.ntmps53
  go_wp2
  go_ret
  exact ⟨rfl,rfl⟩
theorem yhb (c:Nat) (W:World):Calls Tryz.prog 144 #[.int .u8 c] W fun e w'=>e=.returned (.bool (yfz c))∧w'=W:=by
 by_cases h1:97≤c
 ·have h1z:(97:Int)≤(c:Int):=by omega
  by_cases h2:c≤122
  ·have h2z:(c:Int)≤122:=by omega
   have hv:yfz c=true:=by simp [yfz,h1,h2]
   rw [hv]
   go_enter Tryz.func144,Tryz.ntmps144
   go_wp2
   go_ret
   exact ⟨rfl,rfl⟩
  ·have h2z:¬ (c:Int)≤122:=by omega
   have hv:yfz c=false:=by simp [yfz,h1,h2]
   rw [hv]
   go_enter Tryz.func144,Tryz.ntmps144
   go_wp2
   go_ret
   exact ⟨rfl,rfl⟩
 ·have h1z:¬ (97:Int)≤(c:Int):=by omega
  have hv:yfz c=false:=by simp [yfz,h1]
  rw [hv]
  go_enter Tryz.func144,Tryz.ntmps144
  go_wp2
  go_ret
  exact ⟨rfl,rfl⟩
theorem zi9 (c:Nat) (W:World):Calls Tryz.prog 201 #[.int .u8 c] W fun e w'=>e=.returned (.bool (zwe c))∧w'=W:=by
 by_cases h1:48≤c
 ·have h1z:(48:Int)≤(c:Int):=by omega
  by_cases h2:c≤57
  ·have h2z:(c:Int)≤57:=by omega
   have hv:zwe c=true:=by simp [zwe,h1,h2]
   rw [hv]
   go_enter Tryz.func201,Tryz.ntmps201
   go_wp2
   go_ret
   exact ⟨rfl,rfl⟩
  ·have h2z:¬ (c:Int)≤57:=by omega
   have hv:zwe c=false:=by simp [zwe,h1,h2]
   rw [hv]
   go_enter Tryz.func201,Tryz.ntmps201
   go_wp2
   go_ret
   exact ⟨rfl,rfl⟩
 ·have h1z:¬ (48:Int)≤(c:Int):=by omega
  have hv:zwe c=false:=by simp [zwe,h1]
  rw [hv]
  go_enter Tryz.func201,Tryz.ntmps201
  go_wp2
  go_ret
  exact ⟨rfl,rfl⟩
theorem ybn (n:Nat) (hn:n≤9) (W:World):Calls Tryz.prog 212 #[.int .i64 n] W fun e w'=>(∃ t:ByteArray,e=.returned (.string t)∧t.size=1)∧w'=W:=by
 rcases (by omega:n=0∨n=1∨n=2∨n=3∨n=4∨n=5∨n=6∨n=7∨n=8∨n=9) with rfl|rfl|rfl|rfl|rfl|rfl|rfl|rfl|rfl|rfl
 all_goals
  go_enter Tryz.func212,Tryz.ntmps212
  go_wp2
  go_ret
  exact ⟨⟨_,rfl,rfl⟩,rfl⟩
theorem yhd (n:Nat) (hn:n≤9) (W:World):Calls Tryz.prog 147 #[.int .i64 n] W fun e w'=>(∃ t:ByteArray,e=.returned (.string t)∧t.size=1)∧w'=W:=by
 have h1:Calls Tryz.prog 202 #[.int .i64 n,.int .i64 10] W fun e w'=>(∃ t:ByteArray,e=.returned (.string t)∧t.size=1)∧w'=W:=by
  have H:=zac (ybn n hn W)
  have hz:(n:Int)<100:=by omega
  have hz0:(0:Int)≤(n:Int):=by omega
  go_enter Tryz.func202,Tryz.ntmps202
  go_wp2_with (first|(go_at_call 212;refine (zaa H).mono ?_;rintro e w1 ⟨⟨t,rfl,ht⟩,rfl⟩;have Ht:=zac ht;clear ht))
  go_ret
  exact ⟨⟨_,rfl,zaa Ht⟩,rfl⟩
 have h2:Calls Tryz.prog 174 #[.int .i64 n] W fun e w'=>(∃ t:ByteArray,e=.returned (.string t)∧t.size=1)∧w'=W:=by
  have H:=zac h1
  clear h1
  go_enter Tryz.func174,Tryz.ntmps174
  go_wp2_with (first|(go_at_call 202;refine (zaa H).mono ?_;rintro e w1 ⟨⟨t,rfl,ht⟩,rfl⟩;have Ht:=zac ht;clear ht))
  go_ret
  exact ⟨⟨_,rfl,zaa Ht⟩,rfl⟩
 have H:=zac h2
 clear h1 h2
 go_enter Tryz.func147,Tryz.ntmps147
 go_wp2_with (first|(go_at_call 174;refine (zaa H).mono ?_;rintro e w1 ⟨⟨t,rfl,ht⟩,rfl⟩;have Ht:=zac ht;clear ht))
 go_ret
 exact ⟨⟨_,rfl,zaa Ht⟩,rfl⟩
theorem zmh (t:ByteArray) (n:Nat) (v:Value) (B c q:Nat) (W:World) (ht:t.size≤1000) (hn:n≤9) (h:zcx B W v c q) (hB:B≤W.heap.size):Calls Tryz.prog 115 #[.string t,.int .i64 n,v] W fun e w'=>∃ v',e=.returned v'∧zcx B w' v' c q∧Below W.heap.size W w':=by
 have Hi:=zac (yhd n hn W)
 obtain ⟨ty,b,rfl,_⟩:=h.form
 have H:=zac h
 clear h
 go_enter Tryz.func115,Tryz.ntmps115
 go_wp2_with (first|(go_at_call 147;refine (zaa Hi).mono ?_;rintro e w1 ⟨⟨u,rfl,hu⟩,rfl⟩))
 go_ret
 exact ⟨_,rfl,.wrap hB (zae _ _ _ rfl) ((zaa H).bel ((Below.refl _ _).alloc (Nat.le_refl _) _)),(Below.refl _ _).alloc (Nat.le_refl _) _⟩
end Go.Proofs.YtoifcnidhfnapabGreatDoor
