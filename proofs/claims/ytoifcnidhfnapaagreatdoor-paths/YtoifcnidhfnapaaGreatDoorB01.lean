import Derived.Test.YtoifcnidhfnapaaGreatDoorProg
import Derived.WalkKit
import Derived.WalkSpells
import Derived.Deep.QuietTactic
import Derived.BigQuiet
import Derived.Laws.ResultCell
import Derived.Test.YtoifcnidhfnapaaGreatDoorCards
import Derived.Test.YtoifcnidhfnapaaGreatDoorTie
import Derived.ProofKit
import Derived.OpenShut
import Derived.Deep.DeepHandedRow
import Derived.Deep.DeepWitnessRowRef
import Derived.Lib.LaidTab
import Derived.LaidHandle
import Derived.ChangeOld
import Derived.Below
import Derived.Shelf.LaysM
import Derived.Shelf.Strconv.Clone
import Derived.Shelf.SlSortCmp.WholeK
set_option linter.unusedVariables false
set_option linter.unusedSimpArgs false
set_option maxRecDepth 100000
set_option maxHeartbeats 16000000
namespace Go.Proofs.YtoifcnidhfnapaaGreatDoor
open Go.RowKit
theorem zd0 {k:IntKind} {a b:Int} (h:a=b):Ending.returned (.int k a)=.returned (.int k b):=by rw [h]
def top:Int:=9223372036854775807
def bot:Int:=-9223372036854775808
def za3 (c n:Int):Int:=(if c<0 then -(c+1) else c) % n
theorem zb5 (c n:Int) (hn:0<n):0≤za3 c n∧za3 c n<n:=by
 unfold za3
 exact ⟨Int.emod_nonneg _ (by omega),Int.emod_lt_of_pos _ hn⟩
structure Ent where
 nm:ByteArray
 row:List Int
 wt:Int
def nmR:ByteArray:=⟨#[114]⟩
def nmS:ByteArray:=⟨#[115]⟩
def nmT:ByteArray:=⟨#[127]⟩
theorem ylk {W w1:World} (hb:Below W.heap.size W w1):(∀ b o,b<W.heap.size→w1.cell? ⟨b,o,none⟩=W.cell? ⟨b,o,none⟩)∧(∀ b o,b<W.heap.size→w1.frozen? ⟨b,o,none⟩=W.frozen? ⟨b,o,none⟩):=
 ⟨fun b o h=>hb.cell (p:=⟨b,o,none⟩) h,fun b o h=>hb.frozen (p:=⟨b,o,none⟩) h⟩
def zm1 (x:Ent) (b:Nat):Value:=.agg #[.string x.nm,.slice (some ⟨b,0,none⟩) x.row.length x.row.length,.int .i64 x.wt]
theorem zae (w:World) (o:Obj) (n:Nat) (h:w.heap.size=n):(w.alloc o).heap[n]? = some o:=by
 subst h
 exact heap_alloc_new w o
theorem zac {p:Prop} (h:p):Hid p:=h
theorem zaa {p:Prop} (h:Hid p):p:=h
def zbd (w w':World):Prop:=∃ n,w'=w.drewN n
theorem zbd.refl (w:World):zbd w w:=⟨0,rfl⟩
theorem zbd.ofN (w:World) (n:Nat):zbd w (w.drewN n):=⟨n,rfl⟩
theorem zbd.trans {a b c:World} (h:zbd a b) (k:zbd b c):zbd a c:=by
 obtain ⟨n,rfl⟩:=h
 obtain ⟨m,rfl⟩:=k
 exact ⟨n+m,World.drewN_drewN _ _ _⟩
theorem zbd.thenN {a b:World} (h:zbd a b) (n:Nat):zbd a (b.drewN n):=h.trans (zbd.ofN _ _)
theorem zbd.cell {a b:World} (h:zbd a b) (p:Addr):b.cell? p=a.cell? p:=by
 obtain ⟨n,rfl⟩:=h
 rfl
theorem zbd.below {a b:World} (h:zbd a b) (B:Nat):Below B a b:=by
 obtain ⟨n,rfl⟩:=h
 exact ⟨rfl,rfl,rfl,Nat.le_refl _,fun _ _=>rfl⟩
theorem zgy {P:Program} {f:FuncId} {args:Array Value} {w:World} {n:Nat} {v:Value}
  (h:Calls P f args (w.drewN n) fun e w'=>e=.returned v∧zbd (w.drewN n) w'):Calls P f args (w.drewN n) fun e w''=>e=.returned v∧∃ m,w''=w.drewN m:=
 h.mono fun _ _ ⟨he,hm⟩=>⟨he,(zbd.ofN w n).trans hm⟩
def zbn (w:World) (v:Value) (zs:List Int):Prop:=
 ∃ a cap,v=.slice a zs.length cap∧∀ i,i<zs.length→∃ b o,a=some ⟨b,o,none⟩∧w.cell? ⟨b,o+i,none⟩=some (.int .i64 (zs[i]?.getD 0))
theorem zbn.drawn {w w':World} {v:Value} {zs:List Int} (h:zbn w v zs) (hd:zbd w w'):zbn w' v zs:=by
 obtain ⟨a,cap,rfl,hc⟩:=h
 exact ⟨a,cap,rfl,fun i hi=>by obtain ⟨b,o,ha,hb⟩:=hc i hi;exact ⟨b,o,ha,by rw [hd.cell];exact hb⟩⟩
theorem zbn.drewN {w:World} {v:Value} {zs:List Int} (h:zbn w v zs) (n:Nat):zbn (w.drewN n) v zs:=by
 obtain ⟨a,cap,rfl,hc⟩:=h
 exact ⟨a,cap,rfl,fun i hi=>by obtain ⟨b,o,ha,hb⟩:=hc i hi;exact ⟨b,o,ha,by simpa using hb⟩⟩
def zfi (zs ys:List Int):Bool:=decide (zs=ys)
theorem zze {zs ys:List Int} {k:Nat} (h:¬ zs[k]?.getD 0=ys[k]?.getD 0):zfi zs ys=false:=by
 unfold zfi
 rw [decide_eq_false_iff_not]
 intro e
 exact h (by rw [e])
theorem zvh {zs ys:List Int} (h:¬ zs.length=ys.length):zfi zs ys=false:=by
 unfold zfi
 rw [decide_eq_false_iff_not]
 intro e
 exact h (by rw [e])
theorem zvg {zs ys:List Int} {k:Nat} (h:zs.take k=ys.take k) (h1:zs.length≤k) (h2:ys.length≤k):zfi zs ys=true:=by
 unfold zfi
 rw [decide_eq_true_iff]
 rw [List.take_of_length_le h1,List.take_of_length_le h2] at h
 exact h
theorem zrd {zs ys:List Int} {k:Nat} (h:zs.take k=ys.take k) (h1:k<zs.length) (h2:k<ys.length) (he:zs[k]?.getD 0=ys[k]?.getD 0):zs.take (k+1)=ys.take (k+1):=by
 rw [List.take_succ_eq_append_getElem h1,List.take_succ_eq_append_getElem h2,h]
 simp [h1,h2] at he
 rw [he]
theorem zlc (v u:Value) (zs ys:List Int) (w:World) (hv:zbn w v zs) (hu:zbn w u ys) (hl:zs.length≤1000000000) (hl2:ys.length≤1000000000) :
  Calls Tryz.prog 78 #[v,u] w fun e w'=>e=.returned (.bool (zfi zs ys))∧zbd w w':=by
 obtain ⟨a,cap,rfl,hc⟩:=hv
 obtain ⟨a',cap',rfl,hc'⟩:=hu
 have Hc:=zac hc
 have Hc':=zac hc'
 clear hc hc'
 by_cases hne:zs.length=ys.length
 ·have hb:(((zs.length:Nat):Int) != ((ys.length:Nat):Int))=false:=by simp [hne]
  have g1:zs.length≤ys.length:=by omega
  have g2:ys.length≤zs.length:=by omega
  clear hne
  go_enter Tryz.func78,Tryz.ntmps78
  go_wp2
  go_loopw [5] (fun i wr=>∃ k:Nat,k≤zs.length∧i=.int .i64 k∧zs.take k=ys.take k∧zbd w wr) (fun i _=>zs.length - (intOf i).toNat)
  case atStart=>exact ⟨0,Nat.zero_le _,rfl,by simp,zbd.refl _⟩
  case round =>
   obtain ⟨k,hk,rfl,htk,hdr⟩:=hrel
   have Hdr:=zac hdr
   clear hdr
   have Htk:=zac htk
   clear htk
   by_cases hlt:k<zs.length
   ·obtain ⟨b,o,rfl,h1⟩:=(zaa Hc) k hlt
    obtain ⟨b',o',rfl,h2⟩:=(zaa Hc') k (by omega)
    have hlt':k<ys.length:=by omega
    obtain ⟨z,hz⟩:∃ z,z=zs[k]?.getD 0:=⟨_,rfl⟩
    obtain ⟨y,hyy⟩:∃ y,y=ys[k]?.getD 0:=⟨_,rfl⟩
    rw [← hz] at h1
    rw [← hyy] at h2
    rw [← (zaa Hdr).cell] at h1 h2
    have HZ:=zac hz
    have HY:=zac hyy
    clear hz hyy
    have hx:(k:Int)<(zs.length:Int):=by omega
    have hy:(k:Int)<(ys.length:Int):=by omega
    by_cases heq:z=y
    ·have hd:(z != y)=false:=by simp [heq]
     have Heq:=zac heq
     clear heq
     go_wp2
     go_quiet (fail)
     go_wp2
     go_roundw
     case rel=>exact ⟨k+1,by omega,by go_num,zrd (zaa Htk) hlt hlt' (by rw [← zaa HZ,← zaa HY];exact zaa Heq),(zaa Hdr).thenN _⟩
     case measure=>simp [intOf];omega
    ·have hd:(z != y)=true:=by simp [heq]
     have hf:zfi zs ys=false:=zze (k:=k) (by rw [← zaa HZ,← zaa HY];exact heq)
     clear heq
     go_wp2
     go_quiet (fail)
     go_wp2
     go_ret
     exact ⟨by simp [hf],(zaa Hdr).thenN _⟩
   ·have hf:zfi zs ys=true:=zvg (zaa Htk) (by omega) (by omega)
    go_wp2
    go_ret
    exact ⟨by simp [hf],zaa Hdr⟩
 ·have hb:(((zs.length:Nat):Int) != ((ys.length:Nat):Int))=true:=by rw [bne_iff_ne];omega
  have hf:zfi zs ys=false:=zvh hne
  go_enter Tryz.func78,Tryz.ntmps78
  go_wp2
  go_ret
  exact ⟨by simp [hf],zbd.refl _⟩
def zdf (w:World) (v:Value) (rs:List (List Int×Int)):Prop:=
 ∃ a cap,v=.slice a rs.length cap∧∀ i,i<rs.length→∃ b o sv,a=some ⟨b,o,none⟩∧w.cell? ⟨b,o+i*2,none⟩=some sv∧zbn w sv ((rs[i]?.getD ([],0)).1) ∧
  w.cell? ⟨b,o+i*2+1,none⟩=some (.int .i64 ((rs[i]?.getD ([],0)).2))
def zbt:List (List Int×Int)→List Int→Int
 | [],_=>0
 | r :: rs,zs=>if r.1=zs then r.2 else zbt rs zs
def zge (rs:List (List Int×Int)):Prop:=∀ r∈rs,r.1.length≤1000000000
theorem zye {rs:List (List Int×Int)} {zs z:List Int} {q:Int} {k:Nat} (h:zbt rs zs=zbt (rs.drop k) zs) (hlt:k<rs.length) (hz:z=(rs[k]?.getD ([],0)).1) (hq:q=(rs[k]?.getD ([],0)).2) (hB:zfi z zs=true) :
  zbt rs zs=q:=by
 rw [h,List.drop_eq_getElem_cons hlt]
 simp [hlt] at hz hq
 subst hz hq
 simp [zfi] at hB
 simp [zbt,hB]
theorem zv0 {rs:List (List Int×Int)} {zs z:List Int} {k:Nat} (h:zbt rs zs=zbt (rs.drop k) zs) (hlt:k<rs.length) (hz:z=(rs[k]?.getD ([],0)).1) (hB:zfi z zs=false) :
  zbt rs zs=zbt (rs.drop (k+1)) zs:=by
 rw [h,List.drop_eq_getElem_cons hlt]
 simp [hlt] at hz
 subst hz
 simp [zfi] at hB
 simp [zbt,hB]
theorem zyd {rs:List (List Int×Int)} {zs:List Int} {k:Nat} (h:zbt rs zs=zbt (rs.drop k) zs) (hlt:rs.length≤k):zbt rs zs=0:=by
 rw [h,List.drop_eq_nil_of_le hlt]
 rfl
theorem zji {rs:List (List Int×Int)} {z:List Int} {k:Nat} (h:zge rs) (hlt:k<rs.length) (hz:z=(rs[k]?.getD ([],0)).1):z.length≤1000000000:=by
 simp [hlt] at hz
 subst hz
 exact h _ (List.getElem_mem hlt)
theorem zxx (v u:Value) (zs:List Int) (w:World) (hv:zbn w v zs) (hu:zbn w u zs) (hl:zs.length≤1000000000) :
  Calls Tryz.prog 78 #[v,u] w fun e w'=>e=.returned (.bool true)∧zbd w w':=by
 refine (zlc v u zs zs w hv hu hl hl).mono ?_
 rintro e w' ⟨rfl,h⟩
 exact ⟨by simp [zfi],h⟩
theorem zkg (v u:Value) (rs:List (List Int×Int)) (w:World) (hv:zdf w v rs) (hu:zdf w u rs) (hl:rs.length≤1000000000) (hs:zge rs) :
  Calls Tryz.prog 92 #[v,u] w fun e w'=>e=.returned (.bool true)∧zbd w w':=by
 obtain ⟨a,cap,rfl,hc⟩:=hv
 obtain ⟨a',cap',rfl,hc'⟩:=hu
 have Hc:=zac hc
 have Hc':=zac hc'
 have Hs:=zac hs
 clear hc hc' hs
 go_enter Tryz.func92,Tryz.ntmps92
 go_wp2
 go_loopw [5] (fun i wr=>∃ k:Nat,k≤rs.length∧i=.int .i64 k∧zbd w wr) (fun i _=>rs.length - (intOf i).toNat)
 case atStart=>exact ⟨0,Nat.zero_le _,rfl,zbd.refl _⟩
 case round =>
  obtain ⟨k,hk,rfl,hdr⟩:=hrel
  have Hdr:=zac hdr
  clear hdr
  by_cases hlt:k<rs.length
  ·obtain ⟨b,o,sv,rfl,h1,h2,h3⟩:=(zaa Hc) k hlt
   obtain ⟨b',o',sv',rfl,h1',h2',h3'⟩:=(zaa Hc') k hlt
   have hx:(k:Int)<(rs.length:Int):=by omega
   obtain ⟨z,hz⟩:∃ z,z=(rs[k]?.getD ([],0)).1:=⟨_,rfl⟩
   obtain ⟨q,hq⟩:∃ q,q=(rs[k]?.getD ([],0)).2:=⟨_,rfl⟩
   rw [← (zaa Hdr).cell] at h1 h3 h1' h3'
   rw [← hz] at h2 h2'
   rw [← hq] at h3 h3'
   have HZ:=zac hz
   have H2:=zac h2
   have H2':=zac h2'
   have hqq:(q != q)=false:=by simp
   clear hz hq h2 h2'
   have hB:zfi z z=true:=by simp [zfi]
   go_wp2_with fail
   have hlz:=zji (zaa Hs) hlt (zaa HZ)
   go_quiet ((go_at_call 78;exact zgy (zxx _ _ z _ (by exact ((zaa H2).drawn (zaa Hdr)).drewN _) (by exact ((zaa H2').drawn (zaa Hdr)).drewN _) hlz)))
   go_wp2_with fail
   go_quiet (fail)
   go_wp2
   exact ⟨⟨k+1,by omega,by go_num,(zaa Hdr).thenN _⟩,by simp [intOf];omega⟩
  ·go_wp2
   go_ret
   exact ⟨by simp,zaa Hdr⟩
end Go.Proofs.YtoifcnidhfnapaaGreatDoor
namespace Go.Proofs.YtoifcnidhfnapaaGreatDoor
namespace K
open Go.RowKit Go.Maps
def nmT:ByteArray:=⟨#[116]⟩
theorem zfw (c n:Int) (w:World) (hc:-9223372036854775808≤c) (hc2:c≤9223372036854775807) (hn:0<n) (hn2:n≤1152921504606846976) :
  Calls Tryz.prog 25 #[.int .i64 c,.int .i64 n] w fun e w'=>e=.returned (.int .i64 (za3 c n))∧w'=w:=by
 by_cases h:c<0
 ·have e:Hid ((-(c+1)).tmod n=za3 c n):=by
   unfold za3 Hid
   rw [if_pos h,Int.tmod_eq_emod_of_nonneg (by omega)]
  go_enter Tryz.func25,Tryz.ntmps25
  go_wp2
  go_ret
  refine ⟨?_,rfl⟩
  exact zd0 (by simpa using e.out)
 ·have e:Hid (c % n=za3 c n):=by
   unfold za3 Hid
   rw [if_neg h]
  go_enter Tryz.func25,Tryz.ntmps25
  go_wp2
  go_ret
  exact ⟨zd0 e.out,rfl⟩
def numT (k:Int):Int:=if k=0 then 0 else if k=1 then 1 else if k=2 then top else bot
def zdp (c:Int):Int:=numT (za3 c 4)
theorem zd3 (c:Int) (w:World) (hc:-9223372036854775808≤c) (hc2:c≤9223372036854775807) :
  Calls Tryz.prog 22 #[.int .i64 c] w fun e w'=>e=.returned (.int .i64 (zdp c))∧Below w.heap.size w w':=by
 obtain ⟨k,hk⟩:∃ k,k=za3 c 4:=⟨_,rfl⟩
 have hr:=zb5 c 4 (by omega)
 rw [← hk] at hr
 have HK:Hid (k=za3 c 4):=hk
 clear hk
 have hcase:k=0∨k=1∨k=2∨k=3:=by omega
 go_enter Tryz.func22,Tryz.ntmps22
 go_wp2_with (first|(go_at_call 25;refine (zfw _ 4 _ hc hc2 (by omega) (by omega)).mono ?_;rintro e w' ⟨rfl,rfl⟩;rw [← HK.out]))
 rcases hcase with rfl|rfl|rfl|rfl
 all_goals
  go_wp2
  go_ret
  refine ⟨?_,(Below.refl _ _).alloc (Nat.le_refl _) _⟩
  unfold zdp
  rw [← HK.out]
  rfl
def zz5 (c:Int):Int:=za3 c 1152921504606846976 / 36
def zry (c:Int):Ent:=
 if za3 c 36<16 then ⟨nmR,[zdp (zz5 c / 5),zdp (zz5 c / 5 / 4)],zz5 c % 5 - 2⟩
 else if za3 c 36<30 then ⟨nmS,[zdp (zz5 c / 5),zdp (zz5 c / 5 / 4)],zz5 c % 5 - 2⟩
 else ⟨nmT,[zdp (zz5 c / 5)],zz5 c % 5 - 2⟩
theorem ykd {c k m n1 n2:Int} (hk:k=za3 c 36) (hm:m=za3 c 1152921504606846976) (h1:n1=zdp (m / 36 / 5)) (h2:n2=zdp (m / 36 / 5 / 4)) (hlt:k<16) :
  zry c=⟨nmR,[n1,n2],m / 36 % 5 - 2⟩:=by
 unfold zry zz5
 rw [← hk,← hm,if_pos hlt,← h1,← h2]
theorem yke {c k m n1 n2:Int} (hk:k=za3 c 36) (hm:m=za3 c 1152921504606846976) (h1:n1=zdp (m / 36 / 5)) (h2:n2=zdp (m / 36 / 5 / 4)) (hnl:¬ k<16) (hlt:k<30) :
  zry c=⟨nmS,[n1,n2],m / 36 % 5 - 2⟩:=by
 unfold zry zz5
 rw [← hk,← hm,if_neg hnl,if_pos hlt,← h1,← h2]
theorem ykf {c k m n1:Int} (hk:k=za3 c 36) (hm:m=za3 c 1152921504606846976) (h1:n1=zdp (m / 36 / 5)) (hnl:¬ k<16) (hnl2:¬ k<30) :
  zry c=⟨nmT,[n1],m / 36 % 5 - 2⟩:=by
 unfold zry zz5
 rw [← hk,← hm,if_neg hnl,if_neg hnl2,← h1]
theorem ycf {w w2:World} (hB:Below w.heap.size w w2) (hz:w.heap.size≤w2.heap.size) (x0 x1 x2:Value) (o:Obj) :
  Below w.heap.size w ((((w2.setCell ⟨w.heap.size,0,none⟩ x0).setCell ⟨w.heap.size,1,none⟩ x1).setCell ⟨w.heap.size,2,none⟩ x2).alloc o):=
 (((hB.setCell (p:=⟨w.heap.size,0,none⟩) (Nat.le_refl _) _).setCell (p:=⟨w.heap.size,1,none⟩) (Nat.le_refl _) _).setCell (p:=⟨w.heap.size,2,none⟩) (Nat.le_refl _) _).alloc (by simpa [World.setCell] using hz) _
theorem yc5 (c:Int) (w:World) (hc:-9223372036854775808≤c) (hc2:c≤9223372036854775807) :
  Calls Tryz.prog 36 #[.int .i64 c] w fun e w'=>∃ b,e=.returned (zm1 (zry c) b)∧w.heap.size≤b∧w'.heap[b]? = some (.cells ((zry c).row.map (Value.int .i64)).toArray 2 (0,0))∧Below w.heap.size w w':=by
 obtain ⟨k,hk⟩:∃ k,k=za3 c 36:=⟨_,rfl⟩
 have hr:=zb5 c 36 (by omega)
 obtain ⟨m,hm⟩:∃ m,m=za3 c 1152921504606846976:=⟨_,rfl⟩
 have hs:=zb5 c 1152921504606846976 (by omega)
 rw [← hk] at hr
 rw [← hm] at hs
 have HK:Hid (k=za3 c 36):=hk
 have HM:Hid (m=za3 c 1152921504606846976):=hm
 clear hk hm
 go_enter Tryz.func36,Tryz.ntmps36
 go_wp2_with fail
 refine (zfw _ 36 _ hc hc2 (by omega) (by omega)).mono ?_
 rintro e w' ⟨rfl,rfl⟩
 rw [← HK.out]
 go_wp2_with fail
 refine (zfw _ 1152921504606846976 _ hc hc2 (by omega) (by omega)).mono ?_
 rintro e w' ⟨rfl,rfl⟩
 rw [← HM.out]
 go_wp2_with fail
 refine (zd3 _ _ (by omega) (by omega)).mono ?_
 rintro e w1 ⟨rfl,hb1⟩
 obtain ⟨n1,hn1⟩:∃ n1,n1=zdp (m / 36 / 5):=⟨_,rfl⟩
 rw [← hn1]
 have HN1:Hid (n1=zdp (m / 36 / 5)):=hn1
 clear hn1
 go_wp2_with fail
 refine (zd3 _ _ (by omega) (by omega)).mono ?_
 rintro e w2 ⟨rfl,hb2⟩
 obtain ⟨n2,hn2⟩:∃ n2,n2=zdp (m / 36 / 5 / 4):=⟨_,rfl⟩
 rw [← hn2]
 have HN2:Hid (n2=zdp (m / 36 / 5 / 4)):=hn2
 clear hn2
 have hb:=hb1.trans (hb2.mono hb1.size)
 obtain ⟨hce,hfr⟩:=ylk hb
 have hz:=hb.size
 simp only [World.size_alloc] at hz hce hfr
 have hB:Below w.heap.size w w2:=((Below.refl _ _).alloc (Nat.le_refl _) _).trans (hb.mono (by simp))
 have hz':w.heap.size<w2.heap.size:=by omega
 have hne:¬ w.heap.size=w2.heap.size:=by omega
 have c0:w2.cell? ⟨w.heap.size,0,none⟩=some (.string ⟨#[]⟩):=by rw [hce _ _ (by omega)];simp [go_sem]
 have c1:w2.cell? ⟨w.heap.size,1,none⟩=some (.slice none 0 0):=by rw [hce _ _ (by omega)];simp [go_sem]
 have c2:w2.cell? ⟨w.heap.size,2,none⟩=some (.int .i64 0):=by rw [hce _ _ (by omega)];simp [go_sem]
 have f0:w2.frozen? ⟨w.heap.size,0,none⟩=false:=by rw [hfr _ _ (by omega)];simp [go_sem]
 have f1:w2.frozen? ⟨w.heap.size,1,none⟩=false:=by rw [hfr _ _ (by omega)];simp [go_sem]
 have f2:w2.frozen? ⟨w.heap.size,2,none⟩=false:=by rw [hfr _ _ (by omega)];simp [go_sem]
 clear hb hb1 hb2 hce hfr
 by_cases h1:k<16
 ·go_wp2
  rw [ykd HK.out HM.out HN1.out HN2.out h1]
  refine bodyPost_ret (v:=zm1 ⟨nmR,[n1,n2],m / 36 % 5 - 2⟩ w2.heap.size) (by simp [results,Tryz.results36,go_sem,c0,c1,c2,f0,f1,f2,hne,hz',zm1,nmR]) rfl ?_
  exact ⟨w2.heap.size,rfl,by omega,zae _ _ _ (by simp [World.setCell]),ycf hB (by omega) _ _ _ _⟩
 ·by_cases h2:k<30
  ·go_wp2
   rw [yke HK.out HM.out HN1.out HN2.out (by omega) (by omega)]
   refine bodyPost_ret (v:=zm1 ⟨nmS,[n1,n2],m / 36 % 5 - 2⟩ w2.heap.size) (by simp [results,Tryz.results36,go_sem,c0,c1,c2,f0,f1,f2,hne,hz',zm1,nmS]) rfl ?_
   exact ⟨w2.heap.size,rfl,by omega,zae _ _ _ (by simp [World.setCell]),ycf hB (by omega) _ _ _ _⟩
  ·go_wp2
   rw [ykf HK.out HM.out HN1.out (by omega) (by omega)]
   refine bodyPost_ret (v:=zm1 ⟨nmT,[n1],m / 36 % 5 - 2⟩ w2.heap.size) (by simp [results,Tryz.results36,go_sem,c0,c1,c2,f0,f1,f2,hne,hz',zm1,nmT]) rfl ?_
   exact ⟨w2.heap.size,rfl,by omega,zae _ _ _ (by simp [World.setCell]),ycf hB (by omega) _ _ _ _⟩
theorem zlc (v u:Value) (zs ys:List Int) (w:World) (hv:zbn w v zs) (hu:zbn w u ys) (hl:zs.length≤1000000000) (hl2:ys.length≤1000000000) :
  Calls Tryz.prog 42 #[v,u] w fun e w'=>e=.returned (.bool (zfi zs ys))∧zbd w w':=by
 obtain ⟨a,cap,rfl,hc⟩:=hv
 obtain ⟨a',cap',rfl,hc'⟩:=hu
 have Hc:=zac hc
 have Hc':=zac hc'
 clear hc hc'
 by_cases hne:zs.length=ys.length
 ·have hb:(((zs.length:Nat):Int) != ((ys.length:Nat):Int))=false:=by simp [hne]
  have g1:zs.length≤ys.length:=by omega
  have g2:ys.length≤zs.length:=by omega
  clear hne
  go_enter Tryz.func42,Tryz.ntmps42
  go_wp2
  go_loopw [5] (fun i wr=>∃ k:Nat,k≤zs.length∧i=.int .i64 k∧zs.take k=ys.take k∧zbd w wr) (fun i _=>zs.length - (intOf i).toNat)
  case atStart=>exact ⟨0,Nat.zero_le _,rfl,by simp,zbd.refl _⟩
  case round =>
   obtain ⟨k,hk,rfl,htk,hdr⟩:=hrel
   have Hdr:=zac hdr
   clear hdr
   have Htk:=zac htk
   clear htk
   by_cases hlt:k<zs.length
   ·obtain ⟨b,o,rfl,h1⟩:=(zaa Hc) k hlt
    obtain ⟨b',o',rfl,h2⟩:=(zaa Hc') k (by omega)
    have hlt':k<ys.length:=by omega
    obtain ⟨z,hz⟩:∃ z,z=zs[k]?.getD 0:=⟨_,rfl⟩
    obtain ⟨y,hyy⟩:∃ y,y=ys[k]?.getD 0:=⟨_,rfl⟩
    rw [← hz] at h1
    rw [← hyy] at h2
    rw [← (zaa Hdr).cell] at h1 h2
    have HZ:=zac hz
    have HY:=zac hyy
    clear hz hyy
    have hx:(k:Int)<(zs.length:Int):=by omega
    have hy:(k:Int)<(ys.length:Int):=by omega
    by_cases heq:z=y
    ·have hd:(z != y)=false:=by simp [heq]
     have Heq:=zac heq
     clear heq
     go_wp2
     go_quiet (fail)
     go_wp2
     go_roundw
     case rel=>exact ⟨k+1,by omega,by go_num,zrd (zaa Htk) hlt hlt' (by rw [← zaa HZ,← zaa HY];exact zaa Heq),(zaa Hdr).thenN _⟩
     case measure=>simp [intOf];omega
    ·have hd:(z != y)=true:=by simp [heq]
     have hf:zfi zs ys=false:=zze (k:=k) (by rw [← zaa HZ,← zaa HY];exact heq)
     clear heq
     go_wp2
     go_quiet (fail)
     go_wp2
     go_ret
     exact ⟨by simp [hf],(zaa Hdr).thenN _⟩
   ·have hf:zfi zs ys=true:=zvg (zaa Htk) (by omega) (by omega)
    go_wp2
    go_ret
    exact ⟨by simp [hf],zaa Hdr⟩
 ·have hb:(((zs.length:Nat):Int) != ((ys.length:Nat):Int))=true:=by rw [bne_iff_ne];omega
  have hf:zfi zs ys=false:=zvh hne
  go_enter Tryz.func42,Tryz.ntmps42
  go_wp2
  go_ret
  exact ⟨by simp [hf],zbd.refl _⟩
theorem zho (v u:Value) (rs:List (List Int×Int)) (zs:List Int) (w:World) (hv:zdf w v rs) (hu:zbn w u zs) (hl:rs.length≤1000000000) (hs:zge rs) (hl2:zs.length≤1000000000) :
  Calls Tryz.prog 23 #[v,u] w fun e w'=>e=.returned (.int .i64 (zbt rs zs))∧zbd w w':=by
 obtain ⟨a,cap,rfl,hc⟩:=hv
 have Hc:=zac hc
 have Hu:=zac hu
 have Hs:=zac hs
 clear hc hu hs
 go_enter Tryz.func23,Tryz.ntmps23
 go_wp2
 go_loopw [5] (fun i wr=>∃ k:Nat,k≤rs.length∧i=.int .i64 k∧zbt rs zs=zbt (rs.drop k) zs∧zbd w wr) (fun i _=>rs.length - (intOf i).toNat)
 case atStart=>exact ⟨0,Nat.zero_le _,rfl,by simp,zbd.refl _⟩
 case round =>
  obtain ⟨k,hk,rfl,htk,hdr⟩:=hrel
  have Hdr:=zac hdr
  clear hdr
  have Htk:=zac htk
  clear htk
  by_cases hlt:k<rs.length
  ·obtain ⟨b,o,sv,rfl,h1,h2,h3⟩:=(zaa Hc) k hlt
   have hx:(k:Int)<(rs.length:Int):=by omega
   rw [← (zaa Hdr).cell] at h1 h3
   obtain ⟨z,hz⟩:∃ z,z=(rs[k]?.getD ([],0)).1:=⟨_,rfl⟩
   obtain ⟨q,hq⟩:∃ q,q=(rs[k]?.getD ([],0)).2:=⟨_,rfl⟩
   rw [← hz] at h2
   rw [← hq] at h3
   have HZ:=zac hz
   have HQ:=zac hq
   have H2:=zac h2
   clear hz hq h2
   by_cases hB:zfi z zs=true
   ·have hans:Hid (zbt rs zs=q):=zye (zaa Htk) hlt (zaa HZ) (zaa HQ) hB
    go_wp2_with fail
    refine (zlc _ _ z zs _ ((zaa H2).drawn (zaa Hdr)) ((zaa Hu).drawn (zaa Hdr)) (zji (zaa Hs) hlt (zaa HZ)) hl2).mono ?_
    rintro e w1 ⟨rfl,hd1⟩
    rw [← hd1.cell] at h3
    have Hd1:=zac hd1
    clear hd1
    rw [hB]
    go_wp2
    go_ret
    exact ⟨zd0 hans.out.symm,(zaa Hdr).trans (zaa Hd1)⟩
   ·have hB':zfi z zs=false:=by simpa using hB
    have hans:Hid (zbt rs zs=zbt (rs.drop (k+1)) zs):=zv0 (zaa Htk) hlt (zaa HZ) hB'
    go_wp2_with fail
    refine (zlc _ _ z zs _ ((zaa H2).drawn (zaa Hdr)) ((zaa Hu).drawn (zaa Hdr)) (zji (zaa Hs) hlt (zaa HZ)) hl2).mono ?_
    rintro e w1 ⟨rfl,hd1⟩
    have Hd1:=zac hd1
    clear hd1
    rw [hB']
    go_wp2
    go_roundw
    case rel=>exact ⟨k+1,by omega,by go_num,hans.out,(zaa Hdr).trans (zaa Hd1)⟩
    case measure=>simp [intOf];omega
  ·have hans:Hid (zbt rs zs=0):=zyd (zaa Htk) (by omega)
   go_wp2
   go_ret
   exact ⟨zd0 hans.out.symm,zaa Hdr⟩
theorem zxx (v u:Value) (zs:List Int) (w:World) (hv:zbn w v zs) (hu:zbn w u zs) (hl:zs.length≤1000000000) :
  Calls Tryz.prog 42 #[v,u] w fun e w'=>e=.returned (.bool true)∧zbd w w':=by
 refine (zlc v u zs zs w hv hu hl hl).mono ?_
 rintro e w' ⟨rfl,h⟩
 exact ⟨by simp [zfi],h⟩
theorem zkg (v u:Value) (rs:List (List Int×Int)) (w:World) (hv:zdf w v rs) (hu:zdf w u rs) (hl:rs.length≤1000000000) (hs:zge rs) :
  Calls Tryz.prog 43 #[v,u] w fun e w'=>e=.returned (.bool true)∧zbd w w':=by
 obtain ⟨a,cap,rfl,hc⟩:=hv
 obtain ⟨a',cap',rfl,hc'⟩:=hu
 have Hc:=zac hc
 have Hc':=zac hc'
 have Hs:=zac hs
 clear hc hc' hs
 go_enter Tryz.func43,Tryz.ntmps43
 go_wp2
 go_loopw [5] (fun i wr=>∃ k:Nat,k≤rs.length∧i=.int .i64 k∧zbd w wr) (fun i _=>rs.length - (intOf i).toNat)
 case atStart=>exact ⟨0,Nat.zero_le _,rfl,zbd.refl _⟩
 case round =>
  obtain ⟨k,hk,rfl,hdr⟩:=hrel
  have Hdr:=zac hdr
  clear hdr
  by_cases hlt:k<rs.length
  ·obtain ⟨b,o,sv,rfl,h1,h2,h3⟩:=(zaa Hc) k hlt
   obtain ⟨b',o',sv',rfl,h1',h2',h3'⟩:=(zaa Hc') k hlt
   have hx:(k:Int)<(rs.length:Int):=by omega
   obtain ⟨z,hz⟩:∃ z,z=(rs[k]?.getD ([],0)).1:=⟨_,rfl⟩
   obtain ⟨q,hq⟩:∃ q,q=(rs[k]?.getD ([],0)).2:=⟨_,rfl⟩
   rw [← (zaa Hdr).cell] at h1 h3 h1' h3'
   rw [← hz] at h2 h2'
   rw [← hq] at h3 h3'
   have HZ:=zac hz
   have H2:=zac h2
   have H2':=zac h2'
   have hqq:(q != q)=false:=by simp
   clear hz hq h2 h2'
   have hB:zfi z z=true:=by simp [zfi]
   go_wp2_with fail
   have hlz:=zji (zaa Hs) hlt (zaa HZ)
   go_quiet ((go_at_call 42;exact zgy (zxx _ _ z _ (by exact ((zaa H2).drawn (zaa Hdr)).drewN _) (by exact ((zaa H2').drawn (zaa Hdr)).drewN _) hlz)))
   go_wp2_with fail
   go_quiet (fail)
   go_wp2
   exact ⟨⟨k+1,by omega,by go_num,(zaa Hdr).thenN _⟩,by simp [intOf];omega⟩
  ·go_wp2
   go_ret
   exact ⟨by simp,zaa Hdr⟩
end K
end Go.Proofs.YtoifcnidhfnapaaGreatDoor
namespace Go.Proofs.YtoifcnidhfnapaaGreatDoor
open Go.RowKit Go.Maps
open Go.ChangeShapes Go.WideShapes Go.ChangeAt
theorem Tryz.own:ownKnob Tryz.prog.godebug=none:=by kernel_rfl
def zsa (h:Array Obj):Array Obj:=
 let put (h:Array Obj) (g:Nat) (cs:Array Value):Array Obj:=h.modify g fun
  | .cells _ t frozen=>.cells cs t frozen
  | o=>o
 let h0:=put h 0 #[.iface 314 (.agg #[.pointer (some ⟨6,121,none⟩)])]
 let h1:=put h0 1 (([[],[41,58,45,97,40,65,41],[65,41,58,45,97,40,65,41],[40,65,41,58,45,97,40,65,41],[58,45,97,40,65,41],[45,97,40,65,41],[97,40,65,41],[40,65,41],[65,41],[41],[49,41],[97]]:List (List UInt8)).map fun x=>Value.string ⟨x.toArray⟩).toArray
 let h2:=put h1 3 (([1,10,100,1000,10000,100000,1000000,10000000,100000000,1000000000,10000000000,100000000000,1000000000000,10000000000000,100000000000000,1000000000000000,10000000000000000,100000000000000000,1000000000000000000,10000000000000000000]:List Int).map fun z=>Value.int .u64 z).toArray
 let h3:=put h2 4 (([0,1,28,2,29,14,24,3,30,22,20,15,25,17,4,8,31,27,13,23,21,19,16,7,26,12,18,6,11,5,10,9]:List Int).map fun z=>Value.int .u8 z).toArray
 put h3 5 (([0,1,56,2,57,49,28,3,61,58,42,50,38,29,17,4,62,47,59,36,45,43,51,22,53,39,33,30,24,18,12,5,63,55,48,27,60,41,37,16,46,35,44,21,52,32,23,11,54,26,40,15,34,20,31,10,25,14,19,9,13,8,7,6]:List Int).map fun z=>Value.int .u8 z).toArray
def yfq (k:IntKind) (w:World) (a:Option Addr) (len cap:Nat) (zs:List Int):Prop:=
 (a=none∧len=0∧cap=0∧zs=[]) ∨
 ∃ x,a=some x∧len≤cap∧cap≤maxLen∧zs.length=cap∧(∀ i,i<zs.length→w.cell? (x.add i)=some (.int k (zs.getD i 0)))∧∀ n∈zs,(Lit.int k n).wf=true
theorem zj5 {w:World} {a:Option Addr} {len cap:Nat} {zs:List Int} (h:yfq .i64 w a len cap zs) :
  zbn w (.slice a len cap) (zs.take len)∧(zs.take len).length≤9223372036854775807∧∀ c∈zs.take len,-9223372036854775808≤c∧c≤9223372036854775807:=by
 rcases h with ⟨rfl,rfl,rfl,rfl⟩|⟨x,rfl,hl,hm,hz,hc,hw⟩
 ·exact ⟨⟨none,0,rfl,fun i hi=>by simp at hi⟩,by simp,fun c hc=>by simp at hc⟩
 ·have hlen:(zs.take len).length=len:=by simp;omega
  refine ⟨⟨some x,cap,by rw [hlen],fun i hi=>?_⟩,by unfold maxLen at hm;omega,fun c hc'=>bounds_i64 (hw c (List.mem_of_mem_take hc'))⟩
  rw [hlen] at hi
  obtain ⟨b,off,spot⟩:=x
  have h0:=hc 0 (by omega)
  have hspot:spot=none:=by simpa [Addr.add] using World.cell?_spot h0
  subst hspot
  refine ⟨b,off,rfl,?_⟩
  have h1:=hc i (by omega)
  have e:(⟨b,off,none⟩:Addr).add i=⟨b,off+i,none⟩:=by by_cases h:i=0 <;> simp [Addr.add,h]
  rw [e] at h1
  rw [h1,List.getElem?_take_of_lt hi]
  simp
end Go.Proofs.YtoifcnidhfnapaaGreatDoor
/- The library's contracts at this program,in plain words. -/
namespace Go.Proofs
open Go.Shelf
def Tryz.laysM316_ren:Go.Shelf.Ren:=⟨fun|316=>96|n=>n,fun|9=>9|3=>3|4=>4|37=>157|0=>0|127=>242|5=>5|n=>n,fun|n=>n⟩
theorem Tryz.laysM316:Go.Proofs.LaysM.n316 Tryz.prog Tryz.laysM316_ren:={
 mixed:=by kernel_rfl
 f316:=Tryz.func96.trans (congrArg some (by kernel_rfl))
 t0:=Tryz.underlying0
 a0:=Tryz.isAgg0
 z0:=Tryz.sizeOf0
 v0:=Tryz.zeroValue0
 t3:=Tryz.underlying3
 a3:=Tryz.isAgg3
 z3:=Tryz.sizeOf3
 v3:=Tryz.zeroValue3
 t4:=Tryz.underlying4
 a4:=Tryz.isAgg4
 z4:=Tryz.sizeOf4
 v4:=Tryz.zeroValue4
 t9:=Tryz.underlying9
 a9:=Tryz.isAgg9
 z9:=Tryz.sizeOf9
 v9:=Tryz.zeroValue9
 t37:=Tryz.underlying157
 a37:=Tryz.isAgg157
 z37:=Tryz.sizeOf157
 v37:=Tryz.zeroValue157
 t127:=Tryz.underlying242
 a127:=Tryz.isAgg242
 z127:=Tryz.sizeOf242
 v127:=Tryz.zeroValue242
 t5:=Tryz.underlying5
 a5:=Tryz.isAgg5
 z5:=Tryz.sizeOf5
 v5:=Tryz.zeroValue5
 i0:=by kernel_rfl
 i3:=by kernel_rfl
 i4:=by kernel_rfl
 i5:=by kernel_rfl
 i9:=by kernel_rfl
 i37:=by kernel_rfl
 i127:=by kernel_rfl }
def Tryz.sortRow_ren:Go.Shelf.Ren:=⟨fun|6=>161|15=>207|14=>206|28=>238|29=>239|20=>230|21=>231|22=>232|23=>233|24=>234|25=>235|26=>236|27=>237|46=>261|47=>262|48=>263|49=>264|50=>265|57=>282|n=>n,fun|22=>200|24=>77|25=>205|3=>3|39=>342|0=>0|53=>179|55=>372|4=>4|46=>365|45=>364|50=>352|5=>5|9=>9|66=>388|70=>392|76=>402|77=>403|n=>n,fun|n=>n⟩
theorem Tryz.sortRow:Go.Proofs.SlLaysF0.n6 Tryz.prog Tryz.sortRow_ren:={
 mixed:=by kernel_rfl
 f6:=⟨Tryz.f161.name,by decide,Tryz.func161.trans (congrArg some (by kernel_rfl))⟩
 f14:=⟨Tryz.f206.name,by decide,Tryz.func206.trans (congrArg some (by kernel_rfl))⟩
 f15:=Tryz.func207.trans (congrArg some (by kernel_rfl))
 f20:=⟨Tryz.f230.name,by decide,Tryz.func230.trans (congrArg some (by kernel_rfl))⟩
 f21:=⟨Tryz.f231.name,by decide,Tryz.func231.trans (congrArg some (by kernel_rfl))⟩
 f22:=⟨Tryz.f232.name,by decide,Tryz.func232.trans (congrArg some (by kernel_rfl))⟩
 f23:=⟨Tryz.f233.name,by decide,Tryz.func233.trans (congrArg some (by kernel_rfl))⟩
 f24:=⟨Tryz.f234.name,by decide,Tryz.func234.trans (congrArg some (by kernel_rfl))⟩
 f25:=⟨Tryz.f235.name,by decide,Tryz.func235.trans (congrArg some (by kernel_rfl))⟩
 f26:=⟨Tryz.f236.name,by decide,Tryz.func236.trans (congrArg some (by kernel_rfl))⟩
 f27:=⟨Tryz.f237.name,by decide,Tryz.func237.trans (congrArg some (by kernel_rfl))⟩
 f28:=Tryz.func238.trans (congrArg some (by kernel_rfl))
 f29:=Tryz.func239.trans (congrArg some (by kernel_rfl))
 f46:=⟨Tryz.f261.name,by decide,Tryz.func261.trans (congrArg some (by kernel_rfl))⟩
 f47:=Tryz.func262.trans (congrArg some (by kernel_rfl))
 f48:=Tryz.func263.trans (congrArg some (by kernel_rfl))
 f49:=⟨Tryz.f264.name,by decide,Tryz.func264.trans (congrArg some (by kernel_rfl))⟩
 f50:=⟨Tryz.f265.name,by decide,Tryz.func265.trans (congrArg some (by kernel_rfl))⟩
 f57:=⟨Tryz.f282.name,by decide,Tryz.func282.trans (congrArg some (by kernel_rfl))⟩
 t0:=Tryz.underlying0
 a0:=Tryz.isAgg0
 z0:=Tryz.sizeOf0
 v0:=Tryz.zeroValue0
 t3:=Tryz.underlying3
 a3:=Tryz.isAgg3
 z3:=Tryz.sizeOf3
 v3:=Tryz.zeroValue3
 t4:=Tryz.underlying4
 a4:=Tryz.isAgg4
 z4:=Tryz.sizeOf4
 v4:=Tryz.zeroValue4
 t5:=Tryz.underlying5
 a5:=Tryz.isAgg5
 z5:=Tryz.sizeOf5
 v5:=Tryz.zeroValue5
 t9:=Tryz.underlying9
 a9:=Tryz.isAgg9
 z9:=Tryz.sizeOf9
 v9:=Tryz.zeroValue9
 t22:=Tryz.underlying200
 a22:=Tryz.isAgg200
 z22:=Tryz.sizeOf200
 v22:=Tryz.zeroValue200
 t25:=Tryz.underlying205
 a25:=Tryz.isAgg205
 z25:=Tryz.sizeOf205
 v25:=Tryz.zeroValue205
 t39:=Tryz.underlying342
 a39:=Tryz.isAgg342
 z39:=Tryz.sizeOf342
 v39:=Tryz.zeroValue342
 t45:=Tryz.underlying364
 a45:=Tryz.isAgg364
 z45:=Tryz.sizeOf364
 v45:=Tryz.zeroValue364
 t46:=Tryz.underlying365
 a46:=Tryz.isAgg365
 z46:=Tryz.sizeOf365
 v46:=Tryz.zeroValue365
 t50:=Tryz.underlying352
 a50:=Tryz.isAgg352
 z50:=Tryz.sizeOf352
 v50:=Tryz.zeroValue352
 t53:=Tryz.underlying179
 a53:=Tryz.isAgg179
 z53:=Tryz.sizeOf179
 v53:=Tryz.zeroValue179
 t55:=Tryz.underlying372
 a55:=Tryz.isAgg372
 z55:=Tryz.sizeOf372
 v55:=Tryz.zeroValue372
 t66:=Tryz.underlying388
 a66:=Tryz.isAgg388
 z66:=Tryz.sizeOf388
 v66:=Tryz.zeroValue388
 t70:=Tryz.underlying392
 a70:=Tryz.isAgg392
 z70:=Tryz.sizeOf392
 v70:=Tryz.zeroValue392
 t76:=Tryz.underlying402
 a76:=Tryz.isAgg402
 z76:=Tryz.sizeOf402
 v76:=Tryz.zeroValue402
 t77:=Tryz.underlying403
 a77:=Tryz.isAgg403
 z77:=Tryz.sizeOf403
 v77:=Tryz.zeroValue403 }
open Go.RowKit in
theorem Tryz.stringslite_Clone (s:ByteArray) (w:World) (hlim:s.size≤281474976710656) :
  Calls Tryz.prog 96 #[.string s] w fun e w'=>e=.returned (.string s)∧Below w.heap.size w w':=Any.stringslite_Clone Tryz.laysM316 s w hlim
end Go.Proofs
