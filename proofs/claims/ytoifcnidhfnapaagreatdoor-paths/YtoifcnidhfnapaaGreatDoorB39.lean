import Derived.Test.YtoifcnidhfnapaaGreatDoorB38
import Derived.Test.YtoifcnidhfnapaaGreatDoorB05
import Derived.Test.YtoifcnidhfnapaaGreatDoorB15
import Derived.Test.YtoifcnidhfnapaaGreatDoorB37
import Derived.Test.YtoifcnidhfnapaaGreatDoorB01
import Derived.Test.YtoifcnidhfnapaaGreatDoorB16
import Derived.Deep.RegionHeld3
set_option linter.unusedVariables false
set_option linter.unusedSimpArgs false
set_option maxRecDepth 100000
set_option maxHeartbeats 16000000
namespace Go.Proofs.YtoifcnidhfnapaaGreatDoor
namespace K
open Go.RowKit Go.Maps
def zlp:Int→ByteArray
 | 0=>⟨#[40,88,44,90,41,58,45,114,40,88,44,89,41,44,115,40,89,44,90,41]⟩
 | 1=>⟨#[40,88,41,58,45,114,40,88,44,88,41,44,116,40,88,41]⟩
 | 2=>⟨#[40,88,44,89,44,90,41,58,45,114,40,88,44,89,41,44,114,40,89,44,90,41,44,115,40,90,44,88,41]⟩
 | 3=>⟨#[40,41,58,45,114,40,88,44,89,41,44,116,40,89,41]⟩
 | 4=>⟨#[40,89,44,89,41,58,45,115,40,49,44,89,41,44,116,40,90,41,44,114,40,90,44,89,41]⟩
 | 5=>⟨#[40,32,88,32,41,32,58,45,32,114,40,88,44,32,89,41,44,32,115,40,90,44,32,89,41,44,32,116,40,48,41]⟩
 | 6=>⟨#[40,88,44,89,41,58,45,114,40,88,44,90,41,44,114,40,90,44,89,41,44,114,40,89,44,88,41,44,116,40,90,41]⟩
 | _=>⟨#[40,41,58,45,116,40,49,41,44,114,40,48,44,45,48,41]⟩
def ya8:Int→ByteArray
 | 0=>⟨#[88,89,90]⟩
 | 1=>⟨#[88]⟩
 | 2=>⟨#[88,89,90]⟩
 | 3=>⟨#[88,89]⟩
 | 4=>⟨#[89,90]⟩
 | 5=>⟨#[88,89,90]⟩
 | 6=>⟨#[88,89,90]⟩
 | _=>⟨#[]⟩
theorem zo3 (c:Int) (W:World) (hc:-9223372036854775808≤c) (hc2:c≤9223372036854775807) :
  Calls Tryz.prog 15 #[.int .i64 c] W fun e w'=>e=.returned (.tuple #[.string (zlp (za3 c 8)),.string (ya8 (za3 c 8))])∧w'=W:=by
 obtain ⟨k,hk⟩:∃ k,k=za3 c 8:=⟨_,rfl⟩
 have hr:=zb5 c 8 (by omega)
 rw [← hk] at hr ⊢
 have HK:Hid (k=za3 c 8):=hk
 clear hk
 have hcase:k=0∨k=1∨k=2∨k=3∨k=4∨k=5∨k=6∨k=7:=by omega
 rcases hcase with rfl|rfl|rfl|rfl|rfl|rfl|rfl|rfl
 all_goals
  go_enter Tryz.func15,Tryz.ntmps15
  go_wp2_with (first|(go_at_call 25;refine (zfw _ 8 _ hc hc2 (by omega) (by omega)).mono ?_;rintro e w1 ⟨rfl,hw⟩;replace hw:=hw.symm;subst hw;rw [← HK.out]))
  go_ret2
  exact ⟨rfl,rfl⟩
end K
end Go.Proofs.YtoifcnidhfnapaaGreatDoor
namespace Go.Proofs.YtoifcnidhfnapaaGreatDoor
open Go.RowKit Go.Maps
def zaq (s:ByteArray) (p:Nat):Nat:=if h:p<s.size then s[p].toNat else 0
theorem ycm {s:ByteArray} {p:Nat} (h:p<s.size):zaq s p=s[p].toNat:=by unfold zaq;rw [dif_pos h]
theorem zqi {s:ByteArray} {p:Nat} (h:s.size≤p):zaq s p=0:=by unfold zaq;rw [dif_neg (by omega)]
theorem zds {s:ByteArray} {p:Nat} (h:zaq s p≠0):p<s.size:=by
 rcases Nat.lt_or_ge p s.size with h1|h1
 ·exact h1
 ·exact absurd (zqi h1) h
def ylg (t:Nat→Bool) (s:ByteArray):Nat→Nat→Nat
 | 0,p=>p
 | n+1,p=>if t (zaq s p) then ylg t s n (p+1) else p
def yjd (t:Nat→Bool) (s:ByteArray) (p:Nat):Nat:=ylg t s (s.size - p) p
theorem zvf {t:Nat→Bool} {s:ByteArray} {p:Nat} (h:t (zaq s p)=false):yjd t s p=p:=by
 unfold yjd
 cases s.size - p with
 | zero=>rfl
 | succ n=>simp [ylg,h]
theorem yei {t:Nat→Bool} {s:ByteArray} {p:Nat} (hp:p<s.size) (h:t (zaq s p)=true):yjd t s p=yjd t s (p+1):=by
 unfold yjd
 obtain ⟨n,hn⟩:∃ n,s.size - p=n+1:=⟨s.size - p - 1,by omega⟩
 have hn':s.size - (p+1)=n:=by omega
 rw [hn,hn']
 simp [ylg,h]
def ylt (c:Nat):Bool:=decide (c=32)
def zun (c:Nat):Bool:=decide (65≤c) && decide (c≤90)
def yfm (c:Nat):Bool:=decide (97≤c) && decide (c≤122)
def zv9 (c:Nat):Bool:=decide (48≤c) && decide (c≤57)
def zbc (s:ByteArray) (p:Nat):Nat:=yjd ylt s p
def zfu (s:ByteArray) (p:Nat):Nat:=yjd yfm s p
def zj9 (s:ByteArray) (c p:Nat):Except Nat Nat:=if zaq s (zbc s p)=c then .ok (zbc s p+1) else .error (zbc s p)
def ybu (s:ByteArray):Nat→Nat→Nat→Nat×Nat
 | 0,p,acc=>(acc,p)
 | n+1,p,acc=>if zv9 (zaq s p) then ybu s n (p+1) (10*acc+(zaq s p - 48)) else (acc,p)
def yj0 (s:ByteArray) (p:Nat):Except Nat (Int×Nat):=
 let q:=if zaq s p=45 then p+1 else p
 let r:=ybu s 9 q 0
 if r.2=q then .error q else .ok (if zaq s p=45 then -(r.1:Int) else (r.1:Int),r.2)
def zp8 (s:ByteArray) (p:Nat):Except Nat ((Nat×Int)×Nat):=
 if zun (zaq s (zbc s p)) then .ok ((zaq s (zbc s p),0),zbc s p+1) else
  match yj0 s (zbc s p) with
  | .error q=>.error q
  | .ok (z,q)=>.ok ((0,z),q)
def zhg {α:Type} (item:Nat→Except Nat (α×Nat)) (s:ByteArray):Nat→Nat→List α→Except Nat (List α×Nat)
 | 0,p,acc=>.ok (acc,p)
 | m+1,p,acc =>
  match item p with
  | .error q=>.error q
  | .ok (x,q)=>if m=0 then .ok (acc ++ [x],q) else if zaq s (zbc s q)=44 then zhg item s m (zbc s q+1) (acc ++ [x]) else .ok (acc ++ [x],zbc s q)
structure zba where
 nm:ByteArray
 pl:Nat
 ts:List (Nat×Int)
def znd (s:ByteArray) (p:Nat):Except Nat (zba×Nat):=
 let q:=zbc s p
 let e:=zfu s q
 if e=q then .error q else
  match zj9 s 40 e with
  | .error r=>.error r
  | .ok p1=>match zhg (zp8 s) s 3 p1 [] with
   | .error r=>.error r
   | .ok (ts,p2)=>match zj9 s 41 p2 with
    | .error r=>.error r
    | .ok p3=>.ok (⟨s.extract q e,q,ts⟩,p3)
def zja (s:ByteArray) (p:Nat):Except Nat ((Nat×Nat)×Nat):=
 if zun (zaq s (zbc s p)) then .ok ((zaq s (zbc s p),zbc s p),zbc s p+1) else .error (zbc s p)
def zwz (s:ByteArray) (p:Nat):Except Nat (List (Nat×Nat)×Nat):=
 match zj9 s 40 p with
 | .error r=>.error r
 | .ok p1=>if zaq s (zbc s p1)=41 then .ok ([],zbc s p1+1) else
  match zhg (zja s) s 4 (zbc s p1) [] with
  | .error r=>.error r
  | .ok (hs,p2)=>match zj9 s 41 p2 with
   | .error r=>.error r
   | .ok p3=>.ok (hs,p3)
def zxf (s:ByteArray) (p:Nat):Except Nat Nat:=
 match zj9 s 58 p with
 | .error r=>.error r
 | .ok p1=>if zaq s p1=45 then .ok (p1+1) else .error p1
def zzx (s:ByteArray) (p:Nat):Except Nat (List zba):=
 match zhg (znd s) s 4 p [] with
 | .error r=>.error r
 | .ok (bs,p1)=>if zbc s p1<s.size then .error (zbc s p1) else .ok bs
def zff (s:ByteArray):Except Nat (List (Nat×Nat)×List zba):=
 match zwz s 0 with
 | .error r=>.error r
 | .ok (hs,p1)=>match zxf s p1 with
  | .error r=>.error r
  | .ok p2=>match zzx s p2 with
   | .error r=>.error r
   | .ok bs=>.ok (hs,bs)
theorem ycz {s:ByteArray} {n p acc:Nat} (h:zv9 (zaq s p)=true):ybu s (n+1) p acc=ybu s n (p+1) (10*acc+(zaq s p - 48)):=by simp [ybu,h]
theorem zt8 {s:ByteArray} {n p acc:Nat} (h:zv9 (zaq s p)=false):ybu s n p acc=(acc,p):=by
 cases n with
 | zero=>rfl
 | succ n=>simp [ybu,h]
end Go.Proofs.YtoifcnidhfnapaaGreatDoor
namespace Go.Proofs.YtoifcnidhfnapaaGreatDoor
namespace K
open Go.RowKit Go.Maps
def zgs:Int→List (Nat×Nat)×List zba
 | 0=>([(88,1),(90,3)],[⟨nmR,7,[(88,0),(89,0)]⟩,⟨nmS,14,[(89,0),(90,0)]⟩])
 | 1=>([(88,1)],[⟨nmR,5,[(88,0),(88,0)]⟩,⟨nmT,12,[(88,0)]⟩])
 | 2=>([(88,1),(89,3),(90,5)],[⟨nmR,9,[(88,0),(89,0)]⟩,⟨nmR,16,[(89,0),(90,0)]⟩,⟨nmS,23,[(90,0),(88,0)]⟩])
 | 3=>([],[⟨nmR,4,[(88,0),(89,0)]⟩,⟨nmT,11,[(89,0)]⟩])
 | 4=>([(89,1),(89,3)],[⟨nmS,7,[(0,1),(89,0)]⟩,⟨nmT,14,[(90,0)]⟩,⟨nmR,19,[(90,0),(89,0)]⟩])
 | 5=>([(88,2)],[⟨nmR,9,[(88,0),(89,0)]⟩,⟨nmS,18,[(90,0),(89,0)]⟩,⟨nmT,27,[(0,0)]⟩])
 | 6=>([(88,1),(89,3)],[⟨nmR,7,[(88,0),(90,0)]⟩,⟨nmR,14,[(90,0),(89,0)]⟩,⟨nmR,21,[(89,0),(88,0)]⟩,⟨nmT,28,[(90,0)]⟩])
 | _=>([],[⟨nmT,4,[(0,1)]⟩,⟨nmR,9,[(0,0),(0,0)]⟩])
theorem qry0:zff (zlp 0)=.ok (zgs 0):=by kernel_rfl
theorem qry1:zff (zlp 1)=.ok (zgs 1):=by kernel_rfl
theorem qry2:zff (zlp 2)=.ok (zgs 2):=by kernel_rfl
theorem qry3:zff (zlp 3)=.ok (zgs 3):=by kernel_rfl
theorem qry4:zff (zlp 4)=.ok (zgs 4):=by kernel_rfl
theorem qry5:zff (zlp 5)=.ok (zgs 5):=by kernel_rfl
theorem qry6:zff (zlp 6)=.ok (zgs 6):=by kernel_rfl
theorem qry7:zff (zlp 7)=.ok (zgs 7):=by kernel_rfl
theorem yc3 {P:Int→Prop} (h0:P 0) (h1:P 1) (h2:P 2) (h3:P 3) (h4:P 4) (h5:P 5) (h6:P 6) (h7:P 7) (c:Int):P (za3 c 8):=by
 have hr:=zb5 c 8 (by omega)
 generalize za3 c 8=k at hr
 have hcase:k=0∨k=1∨k=2∨k=3∨k=4∨k=5∨k=6∨k=7:=by omega
 rcases hcase with rfl|rfl|rfl|rfl|rfl|rfl|rfl|rfl <;> assumption
theorem zss (c:Int):zff (zlp (za3 c 8))=.ok (zgs (za3 c 8)):=yc3 (P:=fun k=>zff (zlp k)=.ok (zgs k)) qry0 qry1 qry2 qry3 qry4 qry5 qry6 qry7 c
end K
end Go.Proofs.YtoifcnidhfnapaaGreatDoor
namespace Go.Proofs.YtoifcnidhfnapaaGreatDoor
namespace K
open Go.RowKit Go.Maps Go.Sort Go.Shelf
structure zpv (R S T:Rel) (cnt:Nat):Prop where
 r:zv8 R 2 cnt zd9
 s:zv8 S 2 cnt zd9
 t:zv8 T 1 cnt zjj
theorem zpv.add {R S T:Rel} {cnt:Nat} (h:zpv R S T cnt) {es:List Ent} (hf:∀ x∈es,Fine x):zpv (zah R es nmR) (zah S es nmS) (zah T es nmT) (cnt+es.length):=
 ⟨h.r.add hf (fun _ h0=>(zhl hf h0).1 rfl),h.s.add hf (fun _ h0=>(zhl hf h0).2.1 rfl),h.t.add hf (fun _ h0=>(zhl hf h0).2.2 rfl)⟩
theorem Fine.chk {x:Ent} (h:Fine x) {R S T:Rel} {cnt:Nat} (h3:zpv R S T cnt):Chk (st3 R S T) x 0:=by
 have hg:=h.good
 have hn:x.nm.size≤maxLen:=Nat.le_trans hg.1 (by unfold maxLen;omega)
 have hw:-1000≤x.wt∧x.wt≤1000:=hg.2.2.2
 have hl:x.row.length≤1000000000:=by have:=hg.2.1;omega
 rcases h.name with ⟨e,e2,_⟩|⟨e,e2,_⟩|⟨e,e2,_⟩
 ·exact zn8 hn (by rw [e];exact zia _ _ _) hl (by rw [e2,h3.r.ar_]) hw
 ·exact zn8 hn (by rw [e];exact zni _ _ _) hl (by rw [e2,h3.s.ar_]) hw
 ·exact zn8 hn (by rw [e];exact zp6 _ _ _) hl (by rw [e2,h3.t.ar_]) hw
theorem Fine.known {x:Ent} (h:Fine x) (R S T:Rel):st3 R S T x.nm≠none:=by
 rcases h.name with ⟨e,_⟩|⟨e,_⟩|⟨e,_⟩
 ·rw [e,zia];simp
 ·rw [e,zni];simp
 ·rw [e,zp6];simp
theorem zs6 {R:Rel} {ar cnt:Nat} {G:List Row} (h:zv8 R ar cnt G) {es:List Ent} (hf:∀ x∈es,Fine x) {nm:ByteArray} (hG:∀ r,zcx es nm r≠0→r∈G) (hGl:G.length≤16) (hc:cnt+es.length≤400) :
  R.n+2*es.length≤100000∧(∀ r,zaw r→-1000≤R.f r+zcx es nm r∧R.f r+zcx es nm r≤1000)∧(∀ r,zaw r→-1000≤R.f r∧R.f r≤1000)∧∃ G:List Row,G.length≤16∧∀ r,zaw r→R.f r+zcx es nm r≠0→r∈G:=by
 have h2:=h.add hf hG
 refine ⟨by have:=h.n_;omega,fun r hr=>?_,fun r hr=>?_,G,hGl,fun r hr h0=>h2.supp r hr h0⟩
 ·have a:=h2.lo r hr;have b:=h2.hi r hr
  simp only [zah] at a b
  push_cast at a b
  omega
 ·have a:=h.lo r hr;have b:=h.hi r hr
  omega
theorem zv5.ents {w:World} {B m:Nat} {v:Value} {es:List Ent} (hd:zv5 w B m v es):zf5 w v es:=by
 obtain ⟨g,cap,cur,xs,rfl,h1,h2,h3,h4,h5,h6,h7⟩:=hd
 rw [← h6]
 exact zrz h3 h4 h5 cap
theorem zca {bs:List (List Ent)} {k:Nat} (h:k<bs.length):(bs.take (k+1)).flatten=(bs.take k).flatten ++ bs[k]:=by
 rw [List.take_succ_eq_append_getElem h,List.flatten_append]
 simp only [List.flatten_cons,List.flatten_nil,List.append_nil]
theorem zgm (bs:List (List Ent)) (k:Nat):(bs.take k).flatten.length≤bs.flatten.length:=by
 have:bs.flatten=(bs.take k).flatten ++ (bs.drop k).flatten:=by rw [← List.flatten_append,List.take_append_drop]
 rw [this];simp
theorem zb8 (R:Rel) (a b:List Ent) (nm:ByteArray):zah (zah R a nm) b nm=zah R (a ++ b) nm:=by
 unfold zah
 simp only [Rel.mk.injEq,true_and]
 refine ⟨by simp;omega,?_⟩
 funext r
 rw [zx7];omega
theorem zb2 (R:Rel) (nm:ByteArray):zah R [] nm=R:=by
 unfold zah
 simp [zcx]
structure zew (w w':World):Prop where
 size:w.heap.size≤w'.heap.size
 blk:∀ (q:Nat) cs t p,w.heap[q]? = some (Obj.cells cs t p)→t≠144→t≠141→w'.heap[q]? = w.heap[q]?
theorem zew.refl (w:World):zew w w:=⟨Nat.le_refl _,fun _ _ _ _ _ _ _=>rfl⟩
def zer (w:World) (v:Value) (bs:List (List Ent)):Prop:=∀ w',zew w w'→yj4 w' v bs
theorem zv5.keepC {w w':World} {B m:Nat} {v:Value} {es:List Ent} (hd:zv5 w B m v es) (h:zew w w'):zv5 w' B m v es:=by
 obtain ⟨g,cap,cur,xs,rfl,h1,h2,h3,h4,h5,h6,h7⟩:=hd
 exact ⟨g,cap,cur,xs,rfl,h1,h2,(h.blk g _ _ _ h3 (by decide) (by decide)).trans h3,h4,fun p hp=>(h.blk p.2 _ _ _ (h5 p hp) (by decide) (by decide)).trans (h5 p hp),h6,h7⟩
theorem ztf.stable {w:World} {B:Nat} {v:Value} {bs:List (List Ent)} (h:ztf w B v bs):zer w v bs:=by
 obtain ⟨a,cap,rfl,_,hx⟩:=h
 intro w' hk
 refine ⟨a,cap,rfl,fun i hi=>?_⟩
 obtain ⟨b,sv,m,rfl,_,hc,hd,cur,hb⟩:=hx i hi
 exact ⟨b,0,sv,rfl,by rw [Nat.zero_add];exact (World.cell?_of_block (a:=⟨b,i,none⟩) (hk.blk b _ _ _ hb (by decide) (by decide))).trans hc,(hd.keepC hk).ents⟩
def zbi (vws vws':VwS):Prop:=(∀ nm,vws nm=none→vws' nm=none)∧∀ nm v,vws nm=some v→∃ n' f',vws' nm=some { v with n:=n',f:=f' }
theorem zbi.ofKept {N n:Nat} {a b:VwS} (h:yb8 N n a b):zbi a b:=⟨h.1,fun nm v hv=>by obtain ⟨n',f',h1,_⟩:=h.2 nm v hv;exact ⟨n',f',h1⟩⟩
def zes (M:Nat) (vws:VwS):Prop:=∀ nm v,vws nm=some v→v.n≤M
theorem zes.kept {N n M K:Nat} {a b:VwS} (h:yb8 N n a b) (hm:zes M a) (hK:4*(N+n) ^ 4≤K):zes (M+K) b:=by
 intro nm v hv
 cases ha:a nm with
 | none=>rw [h.1 nm ha] at hv;cases hv
 | some u =>
  obtain ⟨n',f',h1,h2⟩:=h.2 nm u ha
  rw [h1] at hv
  cases hv
  have:=hm nm u ha
  show n'≤M+K
  omega
theorem pow4 {a b:Nat} (h:a≤b):a ^ 4≤b ^ 4:=Nat.pow_le_pow_left h 4
theorem zwh (v:Value) (es:List Ent) (w:World) {fix:Nat→Prop} {eb db nD nI nV N M cnt:Nat} {R S T:Rel} {ixs:IxS} {vws:VwS} (hE:EngV w fix eb db nD nI nV N (st3 R S T) ixs vws) (h3:zpv R S T cnt) (hv:zf5 w v es) (hl:es.length≤64) (hf:∀ x∈es,Fine x) (hc:cnt+es.length≤400) (hN:N+2*es.length≤1000) (hN1:1≤N) (hM:zes M vws) (hM2:M≤8000000000000000000) :
  Calls Tryz.prog 44 #[.pointer (some ⟨eb,0,none⟩),v] w fun e w'=>e=.returned (.tuple #[.int .i64 0,.int .i64 0])∧KeepX (zcs (st3 R S T) ixs vws) w w'∧∃ ixs' vws',EngV w' fix eb db nD nI nV (N+2*es.length) (st3 (zah R es nmR) (zah S es nmS) (zah T es nmT)) ixs' vws'∧zbi vws vws'∧zes (M+4000000000000) vws'∧(∀ k,(ixs' k).isSome=(ixs k).isSome)∧∀ q,zcs (st3 (zah R es nmR) (zah S es nmS) (zah T es nmT)) ixs' vws' q→zcs (st3 R S T) ixs vws q∨w.heap.size≤q:=by
 rw [← yet]
 have hp:4*(N+2*es.length) ^ 4≤4000000000000:=by
  have:=pow4 hN
  have e:(1000:Nat) ^ 4=1000000000000:=by decide
  omega
 have hfit:∀ nm Q,st3 R S T nm=some Q→Q.n+2*es.length≤100000∧(∀ r,zaw r→-1000≤Q.f r+zcx es nm r∧Q.f r+zcx es nm r≤1000)∧(∀ r,zaw r→-1000≤Q.f r∧Q.f r≤1000)∧∃ G:List Row,G.length≤16∧∀ r,zaw r→Q.f r+zcx es nm r≠0→r∈G:=by
  intro nm Q hQ
  rcases zzh hQ with ⟨rfl,rfl⟩|⟨rfl,rfl⟩|⟨rfl,rfl⟩
  ·exact zs6 h3.r hf (fun _ h0=>(zhl hf h0).1 rfl) (by rw [zuf];omega) hc
  ·exact zs6 h3.s hf (fun _ h0=>(zhl hf h0).2.1 rfl) (by rw [zuf];omega) hc
  ·exact zs6 h3.t hf (fun _ h0=>(zhl hf h0).2.2 rfl) (by rw [ydc];omega) hc
 refine (zlt v es w hE hv hl (fun x hx=>(hf x hx).good) (fun i hi=>?_) (fun x hx=>(hf x hx).known R S T) (fun nm Q hQ=>⟨by have:=(hfit nm Q hQ).1;omega,(hfit nm Q hQ).2.2.1⟩) (by omega) hN1 (fun nm v hv=>by have:=hM nm v hv;omega)).mono ?_
 ·have:es[i]?.getD zg1=es[i]:=by simp [hi]
  rw [this]
  exact (hf _ (List.getElem_mem hi)).chk h3
 ·have hW:∀ nm Q,st3 R S T nm=some Q→zkl Q.f (zcx es nm):=fun nm Q hQ r hr _=>(hfit nm Q hQ).2.1 r hr
  have hR:∀ nm Q,st3 R S T nm=some Q→zqc es nm Q.f:=fun nm Q hQ _=>(hfit nm Q hQ).2.2.2
  rintro e w' ⟨c,rfl,hk,⟨rfl,h1,_⟩|⟨rfl,_,h1,_⟩|⟨rfl,_,_,ixs',vws',h1,h2,h4,h5⟩⟩
  ·exact absurd hW h1
  ·exact absurd hR h1
  ·exact ⟨rfl,hk,ixs',vws',h1,zbi.ofKept h2,hM.kept h2 hp,h4,h5⟩
theorem zht (v:Value) (es:List Ent) (w:World) {fix:Nat→Prop} {eb db nD nI nV N M cnt:Nat} {R S T:Rel} {ixs:IxS} {vws:VwS} (hE:EngV w fix eb db nD nI nV N (st3 R S T) ixs vws) (h3:zpv R S T cnt) (hv:zf5 w v es) (hl:es.length≤64) (hf:∀ x∈es,Fine x) (hc:cnt+es.length≤400) (hN:N+2*es.length≤1000) (hN1:1≤N) (hM:zes M vws) (hM2:M≤8000000000000000000) :
  Calls Tryz.prog 28 #[.pointer (some ⟨eb,0,none⟩),v] w fun e w'=>e=.returned (.bool true)∧KeepX (zcs (st3 R S T) ixs vws) w w'∧∃ ixs' vws',EngV w' fix eb db nD nI nV (N+2*es.length) (st3 (zah R es nmR) (zah S es nmS) (zah T es nmT)) ixs' vws'∧zbi vws vws'∧zes (M+4000000000000) vws'∧(∀ k,(ixs' k).isSome=(ixs k).isSome)∧∀ q,zcs (st3 (zah R es nmR) (zah S es nmS) (zah T es nmT)) ixs' vws' q→zcs (st3 R S T) ixs vws q∨w.heap.size≤q:=by
 have H:=zac (zwh v es w hE h3 hv hl hf hc hN hN1 hM hM2)
 clear hE h3 hv hf hM
 go_enter Tryz.func28,Tryz.ntmps28
 go_wp2_with fail
 refine (zaa H).mono ?_
 rintro e w1 ⟨rfl,h1⟩
 have H1:=zac h1
 clear h1 H
 go_wp2
 go_ret
 exact ⟨rfl,zaa H1⟩
end K
end Go.Proofs.YtoifcnidhfnapaaGreatDoor
namespace Go.Proofs.YtoifcnidhfnapaaGreatDoor
open Go.RowKit
theorem yci (a b:Nat) (ha:a<4294967296) (hb:b<4294967296):bits .or .u32 (a:Int) (b:Int)=((a ||| b:Nat):Int):=by
 have hx:a ||| b<2 ^ 32:=Nat.or_lt_two_pow (by omega) (by omega)
 have h1:(BitVec.ofInt 32 (a:Int)).toNat=a:=by
  rw [BitVec.ofInt_natCast,BitVec.toNat_ofNat];exact Nat.mod_eq_of_lt (by omega)
 have h2:(BitVec.ofInt 32 (b:Int)).toNat=b:=by
  rw [BitVec.ofInt_natCast,BitVec.toNat_ofNat];exact Nat.mod_eq_of_lt (by omega)
 show IntKind.u32.wrap ((BitVec.ofInt 32 (a:Int) ||| BitVec.ofInt 32 (b:Int)).toNat:Int)=_
 rw [BitVec.toNat_or,h1,h2,IntKind.wrap_u32]
 omega
theorem zzw (a b:Nat) (ha:a<4294967296) (hb:b<4294967296):bits .and .u32 (a:Int) (b:Int)=((a &&& b:Nat):Int):=by
 have hx:a &&& b<2 ^ 32:=Nat.and_lt_two_pow _ (by omega)
 have h1:(BitVec.ofInt 32 (a:Int)).toNat=a:=by
  rw [BitVec.ofInt_natCast,BitVec.toNat_ofNat];exact Nat.mod_eq_of_lt (by omega)
 have h2:(BitVec.ofInt 32 (b:Int)).toNat=b:=by
  rw [BitVec.ofInt_natCast,BitVec.toNat_ofNat];exact Nat.mod_eq_of_lt (by omega)
 show IntKind.u32.wrap ((BitVec.ofInt 32 (a:Int) &&& BitVec.ofInt 32 (b:Int)).toNat:Int)=_
 rw [BitVec.toNat_and,h1,h2,IntKind.wrap_u32]
 omega
theorem yhq {k:Nat} (hk:k≤25):2 ^ k<67108865:=by
 have:2 ^ k≤2 ^ 25:=Nat.pow_le_pow_right (by omega) hk
 omega
theorem yla {k:Nat} (hk:k≤25):(2:Int) ^ k % 4294967296=((2 ^ k:Nat):Int):=by
 have h1:=yhq hk
 have h2:((2 ^ k:Nat):Int)=(2:Int) ^ k:=by push_cast;rfl
 rw [← h2]
 generalize 2 ^ k=y at h1
 omega
theorem yih (m k:Nat):(((m &&& 2 ^ k:Nat):Int) != 0)=m.testBit k:=by
 cases ht:m.testBit k
 ·have:m &&& 2 ^ k=0:=by
   apply Nat.eq_of_testBit_eq
   intro i
   rw [Nat.testBit_and,Nat.testBit_two_pow,Nat.zero_testBit]
   by_cases e:k=i
   ·subst e;rw [ht];rfl
   ·simp [e]
  rw [this];rfl
 ·have:(m &&& 2 ^ k).testBit k=true:=by rw [Nat.testBit_and,ht,Nat.testBit_two_pow];simp
  have h0:m &&& 2 ^ k≠0:=fun e=>by rw [e,Nat.zero_testBit] at this;cases this
  simp only [bne_iff_ne,ne_eq]
  omega
theorem zy5 (m x:Nat) (W:World) (hm:m<4294967296) (h1:65≤x) (h2:x≤90):Calls Tryz.prog 102 #[.int .u32 m,.int .u8 x] W fun e w'=>e=.returned (.bool (m.testBit (x - 65)))∧w'=W:=by
 obtain ⟨k,rfl⟩:∃ k,x=k+65:=⟨x - 65,by omega⟩
 have hk:k≤25:=by omega
 have hb:(bits .and .u32 (m:Int) (2 ^ k % 4294967296) != 0)=m.testBit k:=by
  rw [yla hk,zzw _ _ hm (by have:=yhq hk;omega),yih]
 rw [Nat.add_sub_cancel]
 go_enter Tryz.func102,Tryz.ntmps102
 go_wp2
 go_ret
 exact ⟨rfl,rfl⟩
theorem zy3 (B m x:Nat) (W:World) (hB:W.heap[B]? = some (.cells #[.int .u32 m] 180 (0,0))) (hm:m<4294967296) (h1:65≤x) (h2:x≤90):Calls Tryz.prog 103 #[.pointer (some ⟨B,0,none⟩),.int .u8 x] W fun e w'=>e=.returned (.tuple #[])∧w'.heap[B]? = some (.cells #[.int .u32 ((m ||| 2 ^ (x - 65):Nat):Int)] 180 (0,0))∧w'=W.setCell ⟨B,0,none⟩ (.int .u32 ((m ||| 2 ^ (x - 65):Nat):Int)):=by
 obtain ⟨k,rfl⟩:∃ k,x=k+65:=⟨x - 65,by omega⟩
 have hk:k≤25:=by omega
 have hb:bits .or .u32 (m:Int) (2 ^ k % 4294967296)=((m ||| 2 ^ k:Nat):Int):=by
  rw [yla hk,yci _ _ hm (by have:=yhq hk;omega)]
 have c0:W.cell? ⟨B,0,none⟩=some (.int .u32 m):=by simp [World.cell?,hB]
 have f0:W.frozen? ⟨B,0,none⟩=false:=by simp [World.frozen?,hB]
 rw [Nat.add_sub_cancel]
 go_enter Tryz.func103,Tryz.ntmps103
 go_wp2
 go_end0
 refine ⟨rfl,?_,rfl⟩
 simp [World.setCell,Array.getElem?_modify,hB]
def zuu (m:Nat) (l:List Nat):Nat:=l.foldl (fun m x=>m ||| 2 ^ (x - 65)) m
def zdl (l:List Nat):Nat:=zuu 0 l
theorem zqx (m:Nat) (l:List Nat) (x:Nat):zuu m (l ++ [x])=zuu m l ||| 2 ^ (x - 65):=by simp [zuu,List.foldl_append]
theorem zjc (k:Nat):∀ (l:List Nat) (m:Nat),(zuu m l).testBit k=(m.testBit k || l.any fun x=>decide (x - 65=k))
 | [],m=>by simp [zuu]
 | x :: l,m=>by
  have ih:=zjc k l (m ||| 2 ^ (x - 65))
  unfold zuu at ih ⊢
  rw [List.foldl_cons,ih,Nat.testBit_or,Nat.testBit_two_pow]
  simp [Bool.or_assoc]
theorem zqy {l:List Nat} (hl:∀ x∈l,65≤x) {x:Nat} (hx:65≤x):(zdl l).testBit (x - 65)=decide (x∈l):=by
 unfold zdl
 rw [zjc]
 simp only [Nat.zero_testBit,Bool.false_or]
 rw [Bool.eq_iff_iff]
 simp only [List.any_eq_true,decide_eq_true_eq]
 constructor
 ·rintro ⟨y,hy,e⟩
  have:=hl y hy
  have:y=x:=by omega
  exact this ▸ hy
 ·exact fun h=>⟨x,h,rfl⟩
theorem zy6:∀ (l:List Nat) (m:Nat),(∀ x∈l,x≤90)→m<2 ^ 26→zuu m l<2 ^ 26
 | [],m,_,h=>h
 | x :: l,m,hl,h=>by
  have hx:=hl x (by simp)
  exact zy6 l (m ||| 2 ^ (x - 65)) (fun y hy=>hl y (by simp [hy])) (Nat.or_lt_two_pow h (by have:=yhq (show x - 65≤25 by omega);have:2 ^ (x - 65)≤2 ^ 25:=Nat.pow_le_pow_right (by omega) (by omega);omega))
theorem zsd {l:List Nat} (hl:∀ x∈l,x≤90):zdl l<4294967296:=by
 have:=zy6 l 0 hl (by omega)
 unfold zdl
 omega
theorem yaq {l l':List Nat} (h:l.Perm l'):zdl l=zdl l':=by
 apply Nat.eq_of_testBit_eq
 intro i
 unfold zdl
 rw [zjc,zjc]
 congr 1
 rw [Bool.eq_iff_iff]
 simp only [List.any_eq_true,decide_eq_true_eq]
 constructor
 ·rintro ⟨y,hy,e⟩;exact ⟨y,h.mem_iff.1 hy,e⟩
 ·rintro ⟨y,hy,e⟩;exact ⟨y,h.mem_iff.2 hy,e⟩
end Go.Proofs.YtoifcnidhfnapaaGreatDoor
namespace Go.Proofs.YtoifcnidhfnapaaGreatDoor
open Go.RowKit Go.Maps
structure Rdr (W:World) (RB:Nat) (s:ByteArray) (p:Nat):Prop where
 blk:W.heap[RB]? = some (.cells #[.string s,.int .i64 p] 245 (0,0))
 le:p≤s.size
 sz:s.size≤300
theorem Rdr.keep {W W':World} {RB:Nat} {s:ByteArray} {p:Nat} (h:Rdr W RB s p) (hb:W'.heap[RB]? = W.heap[RB]?):Rdr W' RB s p:=⟨hb.trans h.blk,h.le,h.sz⟩
theorem Rdr.lt {W:World} {RB:Nat} {s:ByteArray} {p:Nat} (h:Rdr W RB s p):RB<W.heap.size:=(Array.getElem?_eq_some_iff.1 h.blk).1
theorem Rdr.below {W W':World} {RB:Nat} {s:ByteArray} {p:Nat} (h:Rdr W RB s p) (hb:Below W.heap.size W W'):Rdr W' RB s p:=h.keep (hb.block RB h.lt)
theorem zed (n q:Nat) (w:World):Below n w (w.drewN q):=⟨rfl,rfl,rfl,Nat.le_refl _,fun _ _=>rfl⟩
theorem zfx {W:World} {RB:Nat} {s:ByteArray} {p q:Nat} (h:Rdr W RB s p) (hq:q≤s.size):Rdr (W.setCell ⟨RB,1,none⟩ (.int .i64 q)) RB s q:=by
 refine ⟨?_,hq,h.sz⟩
 simp only [World.setCell]
 rw [Array.getElem?_modify,if_pos rfl,h.blk]
 rfl
theorem za4 (w:World) (b o:Nat) (v:Value):KeepX (fun q=>q=b) w (w.setCell ⟨b,o,none⟩ v):=
 ⟨rfl,rfl,rfl,(KeepsWalks.setCell w _ v).size,fun k _ hk=>Below.heap_setCell _ _ _ k (fun e=>hk (by rw [e]))⟩
theorem Rdr.c0 {W:World} {RB:Nat} {s:ByteArray} {p:Nat} (h:Rdr W RB s p):W.cell? ⟨RB,0,none⟩=some (.string s):=zab h.blk 0
theorem Rdr.c1 {W:World} {RB:Nat} {s:ByteArray} {p:Nat} (h:Rdr W RB s p):W.cell? ⟨RB,1,none⟩=some (.int .i64 p):=zab h.blk 1
theorem Rdr.f1 {W:World} {RB:Nat} {s:ByteArray} {p:Nat} (h:Rdr W RB s p):W.frozen? ⟨RB,1,none⟩=false:=zad h.blk 1
theorem zfr (RB:Nat) (s:ByteArray) (p:Nat) (W:World) (h:Rdr W RB s p) :
  Calls Tryz.prog 182 #[.pointer (some ⟨RB,0,none⟩)] W fun e w'=>e=.returned (.int .u8 (zaq s p))∧zbd W w':=by
 have c0:=h.c0
 have c1:=h.c1
 have hle:=h.le
 have hsz:=h.sz
 clear h
 by_cases hp:p=s.size
 ·rw [zqi (by omega)]
  have hpz:(p:Int)=(s.size:Int):=by omega
  subst hp
  clear hpz
  go_enter Tryz.func182,Tryz.ntmps182
  go_wp2_with fail
  go_quiet (fail)
  go_wp2
  go_ret
  exact ⟨rfl,⟨_,rfl⟩⟩
 ·have hlt:p<s.size:=by omega
  have hpz:¬ (p:Int)=(s.size:Int):=by omega
  rw [ycm hlt]
  go_enter Tryz.func182,Tryz.ntmps182
  go_wp2_with fail
  go_quiet (fail)
  go_wp2_with fail
  go_quiet (fail)
  go_wp2
  go_ret
  exact ⟨rfl,zbd.trans ⟨_,rfl⟩ ⟨_,rfl⟩⟩
theorem zbd.bel {W W':World} (h:zbd W W'):Below W.heap.size W W':=by
 obtain ⟨n,rfl⟩:=h
 exact zed _ _ _
theorem zzg (RB:Nat) (s:ByteArray) (p:Nat) (W:World) (h:Rdr W RB s p) :
  Calls Tryz.prog 185 #[.pointer (some ⟨RB,0,none⟩)] W fun e w'=>e=.returned (.tuple #[])∧Rdr w' RB s (zbc s p)∧KeepX (fun q=>q=RB) W w':=by
 have H:=zac h
 clear h
 go_enter Tryz.func185,Tryz.ntmps185
 go_wp2
 go_loopw [] (fun wr=>∃ q,Rdr wr RB s q∧zbc s q=zbc s p∧KeepX (fun q=>q=RB) W wr) (fun wr=>s.size - (match wr.cell? ⟨RB,1,none⟩ with|some (.int _ z)=>z.toNat|_=>0))
 case atStart=>exact ⟨p,zaa H,rfl,KeepX.refl _ _⟩
 case round =>
  obtain ⟨q,hR,hs,hK⟩:=hrel
  have hh:=zfr RB s q wr hR
  by_cases hb:zaq s q=32
  ·have hlt:q<s.size:=zds (by omega)
   have hgo:zbc s q=zbc s (q+1):=yei hlt (by simp [ylt,hb])
   rw [hb] at hh
   have c1:=hR.c1
   have hsz:=hR.sz
   have Hh:=zac hh
   have HR:=zac hR
   have HK:=zac hK
   have Hs:=zac (hgo.symm.trans hs)
   clear hh hR hK hs hgo
   go_wp2_with (first|(go_at_call 182;refine (zaa Hh).mono ?_;rintro e w1 ⟨rfl,hd⟩;have hR1:=(zaa HR).below hd.bel;have d1:=hR1.c1;have f1:=hR1.f1;have HR1:=zac hR1;have Hd:=zac hd;clear hR1 hd))
   have hR2:=zfx (q:=q+1) (zaa HR1) (by omega)
   have hR2':Rdr (w1.setCell ⟨RB,1,none⟩ (.int .i64 ((q:Int)+1))) RB s (q+1):=hR2
   refine ⟨⟨q+1,hR2',zaa Hs,((zaa HK).trans (KeepX.ofBelow (zaa Hd).bel)).trans (za4 _ _ _ _)⟩,?_⟩
   rw [hR2'.c1,c1]
   simp
   omega
  ·have hst:zbc s q=q:=zvf (by simp [ylt,hb])
   have hbz:¬ (zaq s q:Int)=32:=by omega
   have Hh:=zac hh
   have HR:=zac hR
   have HK:=zac hK
   have Hs:=zac (hst.symm.trans hs)
   clear hh hR hK hs hst
   generalize zaq s q=bq at *
   go_wp2_with (first|(go_at_call 182;refine (zaa Hh).mono ?_;rintro e w1 ⟨rfl,hd⟩;have Hd:=zac hd;clear hd))
   go_end0
   refine ⟨rfl,?_,(zaa HK).trans (KeepX.ofBelow (zaa Hd).bel)⟩
   rw [← zaa Hs]
   exact (zaa HR).below (zaa Hd).bel
theorem zgu (RB:Nat) (s:ByteArray) (p:Nat) (W:World) (h:Rdr W RB s p) :
  Calls Tryz.prog 180 #[.pointer (some ⟨RB,0,none⟩)] W fun e w'=>e=.returned (.tuple #[.int .i64 (zbc s p),.int .u8 (zaq s (zbc s p))])∧Rdr w' RB s (zbc s p)∧KeepX (fun q=>q=RB) W w':=by
 have H:=zac (zzg RB s p W h)
 have hl:=h.lt
 clear h
 obtain ⟨q,hq⟩:∃ q,q=zbc s p:=⟨_,rfl⟩
 rw [← hq] at H ⊢
 clear hq
 obtain ⟨bq,hbq⟩:∃ bq,bq=zaq s q:=⟨_,rfl⟩
 rw [← hbq]
 go_enter Tryz.func180,Tryz.ntmps180
 go_wp2_with fail
 refine (zaa H).mono ?_
 rintro e w1 ⟨rfl,hR1,hK1⟩
 have c1:=hR1.c1
 have hh:=fun n=>zfr RB s q (w1.drewN n) (hR1.below (zed _ _ _))
 rw [← hbq] at hh
 have Hh:=zac hh
 have HR:=zac hR1
 have HK:=zac hK1
 clear hR1 hK1 hh H hbq
 go_wp2_with fail
 go_quiet ((go_at_call 182;exact zgy ((zaa Hh) _)))
 go_wp2
 refine bodyPost_ret (v:=.tuple #[.int .i64 q,.int .u8 bq]) (by simp [results,Tryz.results180,go_sem]) rfl ⟨rfl,(zaa HR).below (zed _ _ _),(zaa HK).trans (KeepX.ofBelow (zed _ _ _))⟩
theorem zlh (RB:Nat) (s:ByteArray) (p c:Nat) (hc0:c≠0) (W:World) (h:Rdr W RB s p) :
  Calls Tryz.prog 177 #[.pointer (some ⟨RB,0,none⟩),.int .u8 c] W fun e w'=>e=.returned (.bool (decide (zaq s (zbc s p)=c)))∧Rdr w' RB s (if zaq s (zbc s p)=c then zbc s p+1 else zbc s p)∧KeepX (fun q=>q=RB) W w':=by
 have H:=zac (zgu RB s p W h)
 have hsz:=h.sz
 clear h
 obtain ⟨q,hq⟩:∃ q,q=zbc s p:=⟨_,rfl⟩
 rw [← hq] at H ⊢
 clear hq
 obtain ⟨bq,hbq⟩:∃ bq,bq=zaq s q:=⟨_,rfl⟩
 rw [← hbq] at H ⊢
 by_cases hb:bq=c
 ·subst hb
  have hlt:q<s.size:=zds (by omega)
  rw [if_pos rfl,decide_eq_true rfl]
  clear hbq
  go_enter Tryz.func177,Tryz.ntmps177
  go_wp2_with (first|(go_at_call 180;refine (zaa H).mono ?_;rintro e w1 ⟨rfl,hR1,hK1⟩;have d1:=hR1.c1;have f1:=hR1.f1;have HR1:=zac hR1;have HK1:=zac hK1;clear hR1 hK1))
  go_ret
  exact ⟨rfl,zfx (q:=q+1) (zaa HR1) (by omega),(zaa HK1).trans (za4 _ _ _ _)⟩
 ·have hbz:¬ (bq:Int)=(c:Int):=by omega
  rw [if_neg hb,decide_eq_false hb]
  clear hbq
  go_enter Tryz.func177,Tryz.ntmps177
  go_wp2_with (first|(go_at_call 180;refine (zaa H).mono ?_;rintro e w1 ⟨rfl,hR1,hK1⟩;have HR1:=zac hR1;have HK1:=zac hK1;clear hR1 hK1))
  go_ret
  exact ⟨rfl,zaa HR1,zaa HK1⟩
def ErrN (B:Nat) (W:World):Nat→Value→Nat→Nat→Prop
 | 0,v,c,q=>∃ b,B≤b∧W.heap[b]? = some (.cells #[.int .i64 c,.int .i64 q] 178 (0,0))∧v=.iface 174 (.pointer (some ⟨b,0,none⟩))
 | n+1,v,c,q=>∃ b t v',B≤b∧W.heap[b]? = some (.cells #[.string t,v'] 301 (0,0))∧v=.iface 299 (.pointer (some ⟨b,0,none⟩))∧ErrN B W n v' c q
def ErrAt (B:Nat) (W:World) (v:Value) (c q:Nat):Prop:=∃ n,ErrN B W n v c q
theorem ErrAt.fault {B:Nat} {W:World} {b c q:Nat} (hb:B≤b) (h:W.heap[b]? = some (.cells #[.int .i64 c,.int .i64 q] 178 (0,0))):ErrAt B W (.iface 174 (.pointer (some ⟨b,0,none⟩))) c q:=⟨0,b,hb,h,rfl⟩
theorem ErrAt.wrap {B:Nat} {W:World} {b c q:Nat} {t:ByteArray} {v:Value} (hb:B≤b) (h:W.heap[b]? = some (.cells #[.string t,v] 301 (0,0))) (hv:ErrAt B W v c q):ErrAt B W (.iface 299 (.pointer (some ⟨b,0,none⟩))) c q:=by
 obtain ⟨n,hn⟩:=hv
 exact ⟨n+1,b,t,v,hb,h,rfl,hn⟩
theorem ErrN.turn {B B':Nat} {W W':World} {c q:Nat} (hB:B'≤B) (hk:∀ b o,B≤b→W.heap[b]? = some o→W'.heap[b]? = some o):∀ (n:Nat) (v:Value),ErrN B W n v c q→ErrN B' W' n v c q
 | 0,v,⟨b,h1,h2,h3⟩=>⟨b,Nat.le_trans hB h1,hk b _ h1 h2,h3⟩
 | n+1,v,⟨b,t,v',h1,h2,h3,h4⟩=>⟨b,t,v',Nat.le_trans hB h1,hk b _ h1 h2,h3,ErrN.turn hB hk n v' h4⟩
theorem ErrAt.keep {B:Nat} {W W':World} {v:Value} {c q:Nat} (h:ErrAt B W v c q) {X:Nat→Prop} (hk:KeepX X W W') (hX:∀ k,X k→k<B):ErrAt B W' v c q:=by
 obtain ⟨n,hn⟩:=h
 exact ⟨n,ErrN.turn (Nat.le_refl _) (fun b o hb ho=>(hk.blk b (Array.getElem?_eq_some_iff.1 ho).1 (fun x=>by have:=hX _ x;omega)).trans ho) n v hn⟩
theorem ErrAt.bel {B:Nat} {W W':World} {v:Value} {c q:Nat} (h:ErrAt B W v c q) (hk:Below W.heap.size W W'):ErrAt B W' v c q:=h.keep (X:=fun _=>False) (KeepX.ofBelow hk) (fun _ h=>h.elim)
theorem ErrAt.mono {B B':Nat} {W:World} {v:Value} {c q:Nat} (h:ErrAt B W v c q) (hB:B'≤B):ErrAt B' W v c q:=by
 obtain ⟨n,hn⟩:=h
 exact ⟨n,ErrN.turn hB (fun _ _ _ h=>h) n v hn⟩
theorem ErrAt.form {B:Nat} {W:World} {v:Value} {c q:Nat} (h:ErrAt B W v c q):∃ t b,v=.iface t (.pointer (some ⟨b,0,none⟩))∧(t=174∨t=299):=by
 obtain ⟨n,hn⟩:=h
 cases n with
 | zero =>
  obtain ⟨b,_,_,rfl⟩:=hn
  exact ⟨_,_,rfl,.inl rfl⟩
 | succ n =>
  obtain ⟨b,t,v',_,_,rfl,_⟩:=hn
  exact ⟨_,_,rfl,.inr rfl⟩
theorem zf8 (RB:Nat) (s:ByteArray) (p:Nat) (W:World) (h:Rdr W RB s p) :
  Calls Tryz.prog 181 #[.pointer (some ⟨RB,0,none⟩)] W fun e w'=>∃ v,e=.returned v∧ErrAt W.heap.size w' v 5 p∧Below W.heap.size W w':=by
 have c1:=h.c1
 clear h
 go_enter Tryz.func181,Tryz.ntmps181
 go_wp2
 go_ret
 exact ⟨_,rfl,.fault (Nat.le_refl _) (zae _ _ _ rfl),(Below.refl _ _).alloc (Nat.le_refl _) _⟩
theorem zk4 (RB:Nat) (s:ByteArray) (p c:Nat) (hc0:c≠0) (W:World) (h:Rdr W RB s p) :
  Calls Tryz.prog 176 #[.pointer (some ⟨RB,0,none⟩),.int .u8 c] W fun e w'=>(∃ q,zj9 s c p=.ok q∧e=.returned .nilIface∧Rdr w' RB s q∧KeepX (fun q=>q=RB) W w')∨(∃ q v,zj9 s c p=.error q∧e=.returned v∧ErrAt W.heap.size w' v 5 q∧KeepX (fun q=>q=RB) W w'):=by
 have H:=zac (zlh RB s p c hc0 W h)
 clear h
 unfold zj9
 by_cases hb:zaq s (zbc s p)=c
 ·rw [if_pos hb,decide_eq_true hb] at H
  rw [if_pos hb]
  clear hb
  go_enter Tryz.func176,Tryz.ntmps176
  go_wp2_with (first|(go_at_call 177;refine (zaa H).mono ?_;rintro e w1 ⟨rfl,hR1,hK1⟩;have HR1:=zac hR1;have HK1:=zac hK1;clear hR1 hK1))
  go_ret
  exact .inl ⟨_,rfl,rfl,zaa HR1,zaa HK1⟩
 ·rw [if_neg hb,decide_eq_false hb] at H
  rw [if_neg hb]
  clear hb
  go_enter Tryz.func176,Tryz.ntmps176
  go_wp2_with fail
  refine (zaa H).mono ?_
  rintro e w1 ⟨rfl,hR1,hK1⟩
  have Hf:=zac (zf8 RB s _ w1 hR1)
  have HK1:=zac hK1
  clear hR1 hK1 H
  go_wp2_with fail
  refine (zaa Hf).mono ?_
  rintro e w2 ⟨v,rfl,hE,hb2⟩
  have HE:=zac hE
  have Hb2:=zac hb2
  clear hE hb2
  go_wp2
  go_ret
  exact .inr ⟨_,_,rfl,rfl,(zaa HE).mono (zaa HK1).size,(zaa HK1).trans (KeepX.ofBelow (zaa Hb2))⟩
theorem zuj (t:ByteArray) (W:World):Calls Tryz.prog 139 #[.string t,.nilIface] W fun e w'=>e=.returned .nilIface∧w'=W:=by
 go_enter Tryz.func139,Tryz.ntmps139
 go_wp2
 go_ret
 exact ⟨rfl,rfl⟩
theorem zui (t:ByteArray) (v:Value) (B c q:Nat) (W:World) (h:ErrAt B W v c q) (hB:B≤W.heap.size):Calls Tryz.prog 139 #[.string t,v] W fun e w'=>∃ v',e=.returned v'∧ErrAt B w' v' c q∧Below W.heap.size W w':=by
 obtain ⟨ty,b,rfl,ht⟩:=h.form
 have H:=zac h
 clear h
 go_enter Tryz.func139,Tryz.ntmps139
 go_wp2
 go_ret
 exact ⟨_,rfl,.wrap hB (zae _ _ _ rfl) ((zaa H).bel ((Below.refl _ _).alloc (Nat.le_refl _) _)),(Below.refl _ _).alloc (Nat.le_refl _) _⟩
end Go.Proofs.YtoifcnidhfnapaaGreatDoor
