import Derived.Test.YtoifcnidhfnapabGreatDoorProg
import Derived.WalkKit
import Derived.WalkSpells
import Derived.Deep.QuietTactic
import Derived.BigQuiet
import Derived.Laws.ResultCell
import Derived.Test.YtoifcnidhfnapabGreatDoorCards
import Derived.Test.YtoifcnidhfnapabGreatDoorTie
import Derived.ProofKit
import Derived.OpenShut
import Derived.Deep.DeepHandedRow
import Derived.Deep.DeepWitnessRowRef
import Derived.Lib.LaidTab
import Derived.LaidHandle
import Derived.ChangeOld
import Derived.Below
import Derived.Shelf.LaysM
import Derived.Shelf.Strconv.Clone
import Derived.Shelf.SlSortCmp.WholeK
set_option linter.unusedVariables false
set_option linter.unusedSimpArgs false
set_option maxRecDepth 100000
set_option maxHeartbeats 16000000
namespace Go.Proofs.YtoifcnidhfnapabGreatDoor
open Go.RowKit
theorem zd2 {k:IntKind} {a b:Int} (h:a=b):Ending.returned (.int k a)=.returned (.int k b):=by rw [h]
def top:Int:=9223372036854775807
def bot:Int:=-9223372036854775808
def zbd (c n:Int):Int:=(if c<0 then -(c+1) else c) % n
theorem zdm (c n:Int) (hn:0<n):0≤zbd c n∧zbd c n<n:=by
 unfold zbd
 exact ⟨Int.emod_nonneg _ (by omega),Int.emod_lt_of_pos _ hn⟩
structure Ent where
 nm:ByteArray
 row:List Int
 wt:Int
def nmR:ByteArray:=⟨#[114]⟩
def nmS:ByteArray:=⟨#[115]⟩
def nmT:ByteArray:=⟨#[102]⟩
theorem ymv {W w1:World} (hb:Below W.heap.size W w1):(∀ b o,b<W.heap.size→w1.cell? ⟨b,o,none⟩=W.cell? ⟨b,o,none⟩)∧(∀ b o,b<W.heap.size→w1.frozen? ⟨b,o,none⟩=W.frozen? ⟨b,o,none⟩):=
 ⟨fun b o h=>hb.cell (p:=⟨b,o,none⟩) h,fun b o h=>hb.frozen (p:=⟨b,o,none⟩) h⟩
def zm6 (x:Ent) (b:Nat):Value:=.agg #[.string x.nm,.slice (some ⟨b,0,none⟩) x.row.length x.row.length,.int .i64 x.wt]
theorem zae (w:World) (o:Obj) (n:Nat) (h:w.heap.size=n):(w.alloc o).heap[n]? = some o:=by
 subst h
 exact heap_alloc_new w o
theorem zac {p:Prop} (h:p):Hid p:=h
theorem zaa {p:Prop} (h:Hid p):p:=h
def za9 (w w':World):Prop:=∃ n,w'=w.drewN n
theorem za9.refl (w:World):za9 w w:=⟨0,rfl⟩
theorem za9.ofN (w:World) (n:Nat):za9 w (w.drewN n):=⟨n,rfl⟩
theorem za9.trans {a b c:World} (h:za9 a b) (k:za9 b c):za9 a c:=by
 obtain ⟨n,rfl⟩:=h
 obtain ⟨m,rfl⟩:=k
 exact ⟨n+m,World.drewN_drewN _ _ _⟩
theorem za9.thenN {a b:World} (h:za9 a b) (n:Nat):za9 a (b.drewN n):=h.trans (za9.ofN _ _)
theorem za9.cell {a b:World} (h:za9 a b) (p:Addr):b.cell? p=a.cell? p:=by
 obtain ⟨n,rfl⟩:=h
 rfl
theorem za9.below {a b:World} (h:za9 a b) (B:Nat):Below B a b:=by
 obtain ⟨n,rfl⟩:=h
 exact ⟨rfl,rfl,rfl,Nat.le_refl _,fun _ _=>rfl⟩
theorem zgm {P:Program} {f:FuncId} {args:Array Value} {w:World} {n:Nat} {v:Value}
  (h:Calls P f args (w.drewN n) fun e w'=>e=.returned v∧za9 (w.drewN n) w'):Calls P f args (w.drewN n) fun e w''=>e=.returned v∧∃ m,w''=w.drewN m:=
 h.mono fun _ _ ⟨he,hm⟩=>⟨he,(za9.ofN w n).trans hm⟩
def zbu (w:World) (v:Value) (zs:List Int):Prop:=
 ∃ a cap,v=.slice a zs.length cap∧∀ i,i<zs.length→∃ b o,a=some ⟨b,o,none⟩∧w.cell? ⟨b,o+i,none⟩=some (.int .i64 (zs[i]?.getD 0))
theorem zbu.drawn {w w':World} {v:Value} {zs:List Int} (h:zbu w v zs) (hd:za9 w w'):zbu w' v zs:=by
 obtain ⟨a,cap,rfl,hc⟩:=h
 exact ⟨a,cap,rfl,fun i hi=>by obtain ⟨b,o,ha,hb⟩:=hc i hi;exact ⟨b,o,ha,by rw [hd.cell];exact hb⟩⟩
theorem zbu.drewN {w:World} {v:Value} {zs:List Int} (h:zbu w v zs) (n:Nat):zbu (w.drewN n) v zs:=by
 obtain ⟨a,cap,rfl,hc⟩:=h
 exact ⟨a,cap,rfl,fun i hi=>by obtain ⟨b,o,ha,hb⟩:=hc i hi;exact ⟨b,o,ha,by simpa using hb⟩⟩
def zfe (zs ys:List Int):Bool:=decide (zs=ys)
theorem yhw {zs ys:List Int} {k:Nat} (h:¬ zs[k]?.getD 0=ys[k]?.getD 0):zfe zs ys=false:=by
 unfold zfe
 rw [decide_eq_false_iff_not]
 intro e
 exact h (by rw [e])
theorem ye1 {zs ys:List Int} (h:¬ zs.length=ys.length):zfe zs ys=false:=by
 unfold zfe
 rw [decide_eq_false_iff_not]
 intro e
 exact h (by rw [e])
theorem ye0 {zs ys:List Int} {k:Nat} (h:zs.take k=ys.take k) (h1:zs.length≤k) (h2:ys.length≤k):zfe zs ys=true:=by
 unfold zfe
 rw [decide_eq_true_iff]
 rw [List.take_of_length_le h1,List.take_of_length_le h2] at h
 exact h
theorem ybw {zs ys:List Int} {k:Nat} (h:zs.take k=ys.take k) (h1:k<zs.length) (h2:k<ys.length) (he:zs[k]?.getD 0=ys[k]?.getD 0):zs.take (k+1)=ys.take (k+1):=by
 rw [List.take_succ_eq_append_getElem h1,List.take_succ_eq_append_getElem h2,h]
 simp [h1,h2] at he
 rw [he]
def zc3 (w:World) (v:Value) (rs:List (List Int×Int)):Prop:=
 ∃ a cap,v=.slice a rs.length cap∧∀ i,i<rs.length→∃ b o sv,a=some ⟨b,o,none⟩∧w.cell? ⟨b,o+i*2,none⟩=some sv∧zbu w sv ((rs[i]?.getD ([],0)).1) ∧
  w.cell? ⟨b,o+i*2+1,none⟩=some (.int .i64 ((rs[i]?.getD ([],0)).2))
def zb5:List (List Int×Int)→List Int→Int
 | [],_=>0
 | r :: rs,zs=>if r.1=zs then r.2 else zb5 rs zs
def zg8 (rs:List (List Int×Int)):Prop:=∀ r∈rs,r.1.length≤1000000000
theorem zyd {rs:List (List Int×Int)} {zs z:List Int} {q:Int} {k:Nat} (h:zb5 rs zs=zb5 (rs.drop k) zs) (hlt:k<rs.length) (hz:z=(rs[k]?.getD ([],0)).1) (hq:q=(rs[k]?.getD ([],0)).2) (hB:zfe z zs=true) :
  zb5 rs zs=q:=by
 rw [h,List.drop_eq_getElem_cons hlt]
 simp [hlt] at hz hq
 subst hz hq
 simp [zfe] at hB
 simp [zb5,hB]
theorem zv8 {rs:List (List Int×Int)} {zs z:List Int} {k:Nat} (h:zb5 rs zs=zb5 (rs.drop k) zs) (hlt:k<rs.length) (hz:z=(rs[k]?.getD ([],0)).1) (hB:zfe z zs=false) :
  zb5 rs zs=zb5 (rs.drop (k+1)) zs:=by
 rw [h,List.drop_eq_getElem_cons hlt]
 simp [hlt] at hz
 subst hz
 simp [zfe] at hB
 simp [zb5,hB]
theorem zyc {rs:List (List Int×Int)} {zs:List Int} {k:Nat} (h:zb5 rs zs=zb5 (rs.drop k) zs) (hlt:rs.length≤k):zb5 rs zs=0:=by
 rw [h,List.drop_eq_nil_of_le hlt]
 rfl
theorem zjh {rs:List (List Int×Int)} {z:List Int} {k:Nat} (h:zg8 rs) (hlt:k<rs.length) (hz:z=(rs[k]?.getD ([],0)).1):z.length≤1000000000:=by
 simp [hlt] at hz
 subst hz
 exact h _ (List.getElem_mem hlt)
end Go.Proofs.YtoifcnidhfnapabGreatDoor
namespace Go.Proofs.YtoifcnidhfnapabGreatDoor
namespace K
open Go.RowKit Go.Maps
def nmT:ByteArray:=⟨#[116]⟩
theorem zfm (c n:Int) (w:World) (hc:-9223372036854775808≤c) (hc2:c≤9223372036854775807) (hn:0<n) (hn2:n≤1152921504606846976) :
  Calls Tryz.prog 18 #[.int .i64 c,.int .i64 n] w fun e w'=>e=.returned (.int .i64 (zbd c n))∧w'=w:=by
 by_cases h:c<0
 ·have e:Hid ((-(c+1)).tmod n=zbd c n):=by
   unfold zbd Hid
   rw [if_pos h,Int.tmod_eq_emod_of_nonneg (by omega)]
  go_enter Tryz.func18,Tryz.ntmps18
  go_wp2
  go_ret
  refine ⟨?_,rfl⟩
  exact zd2 (by simpa using e.out)
 ·have e:Hid (c % n=zbd c n):=by
   unfold zbd Hid
   rw [if_neg h]
  go_enter Tryz.func18,Tryz.ntmps18
  go_wp2
  go_ret
  exact ⟨zd2 e.out,rfl⟩
def numT (k:Int):Int:=if k=0 then 0 else if k=1 then 1 else if k=2 then top else bot
def ztq (c:Int):Int:=numT (zbd c 4)
theorem zrj (c:Int) (w:World) (hc:-9223372036854775808≤c) (hc2:c≤9223372036854775807) :
  Calls Tryz.prog 34 #[.int .i64 c] w fun e w'=>e=.returned (.int .i64 (ztq c))∧Below w.heap.size w w':=by
 obtain ⟨k,hk⟩:∃ k,k=zbd c 4:=⟨_,rfl⟩
 have hr:=zdm c 4 (by omega)
 rw [← hk] at hr
 have HK:Hid (k=zbd c 4):=hk
 clear hk
 have hcase:k=0∨k=1∨k=2∨k=3:=by omega
 go_enter Tryz.func34,Tryz.ntmps34
 go_wp2_with (first|(go_at_call 18;refine (zfm _ 4 _ hc hc2 (by omega) (by omega)).mono ?_;rintro e w' ⟨rfl,rfl⟩;rw [← HK.out]))
 rcases hcase with rfl|rfl|rfl|rfl
 all_goals
  go_wp2
  go_ret
  refine ⟨?_,(Below.refl _ _).alloc (Nat.le_refl _) _⟩
  unfold ztq
  rw [← HK.out]
  rfl
def zz3 (c:Int):Int:=zbd c 1152921504606846976 / 36
def zsa (c:Int):Ent:=
 if zbd c 36<16 then ⟨nmR,[ztq (zz3 c / 5),ztq (zz3 c / 5 / 4)],zz3 c % 5 - 2⟩
 else if zbd c 36<30 then ⟨nmS,[ztq (zz3 c / 5),ztq (zz3 c / 5 / 4)],zz3 c % 5 - 2⟩
 else ⟨nmT,[ztq (zz3 c / 5)],zz3 c % 5 - 2⟩
theorem ylc {c k m n1 n2:Int} (hk:k=zbd c 36) (hm:m=zbd c 1152921504606846976) (h1:n1=ztq (m / 36 / 5)) (h2:n2=ztq (m / 36 / 5 / 4)) (hlt:k<16) :
  zsa c=⟨nmR,[n1,n2],m / 36 % 5 - 2⟩:=by
 unfold zsa zz3
 rw [← hk,← hm,if_pos hlt,← h1,← h2]
theorem yld {c k m n1 n2:Int} (hk:k=zbd c 36) (hm:m=zbd c 1152921504606846976) (h1:n1=ztq (m / 36 / 5)) (h2:n2=ztq (m / 36 / 5 / 4)) (hnl:¬ k<16) (hlt:k<30) :
  zsa c=⟨nmS,[n1,n2],m / 36 % 5 - 2⟩:=by
 unfold zsa zz3
 rw [← hk,← hm,if_neg hnl,if_pos hlt,← h1,← h2]
theorem yle {c k m n1:Int} (hk:k=zbd c 36) (hm:m=zbd c 1152921504606846976) (h1:n1=ztq (m / 36 / 5)) (hnl:¬ k<16) (hnl2:¬ k<30) :
  zsa c=⟨nmT,[n1],m / 36 % 5 - 2⟩:=by
 unfold zsa zz3
 rw [← hk,← hm,if_neg hnl,if_neg hnl2,← h1]
theorem ycr {w w2:World} (hB:Below w.heap.size w w2) (hz:w.heap.size≤w2.heap.size) (x0 x1 x2:Value) (o:Obj) :
  Below w.heap.size w ((((w2.setCell ⟨w.heap.size,0,none⟩ x0).setCell ⟨w.heap.size,1,none⟩ x1).setCell ⟨w.heap.size,2,none⟩ x2).alloc o):=
 (((hB.setCell (p:=⟨w.heap.size,0,none⟩) (Nat.le_refl _) _).setCell (p:=⟨w.heap.size,1,none⟩) (Nat.le_refl _) _).setCell (p:=⟨w.heap.size,2,none⟩) (Nat.le_refl _) _).alloc (by simpa [World.setCell] using hz) _
theorem ydh (c:Int) (w:World) (hc:-9223372036854775808≤c) (hc2:c≤9223372036854775807) :
  Calls Tryz.prog 23 #[.int .i64 c] w fun e w'=>∃ b,e=.returned (zm6 (zsa c) b)∧w.heap.size≤b∧w'.heap[b]? = some (.cells ((zsa c).row.map (Value.int .i64)).toArray 2 (0,0))∧Below w.heap.size w w':=by
 obtain ⟨k,hk⟩:∃ k,k=zbd c 36:=⟨_,rfl⟩
 have hr:=zdm c 36 (by omega)
 obtain ⟨m,hm⟩:∃ m,m=zbd c 1152921504606846976:=⟨_,rfl⟩
 have hs:=zdm c 1152921504606846976 (by omega)
 rw [← hk] at hr
 rw [← hm] at hs
 have HK:Hid (k=zbd c 36):=hk
 have HM:Hid (m=zbd c 1152921504606846976):=hm
 clear hk hm
 go_enter Tryz.func23,Tryz.ntmps23
 go_wp2_with fail
 refine (zfm _ 36 _ hc hc2 (by omega) (by omega)).mono ?_
 rintro e w' ⟨rfl,rfl⟩
 rw [← HK.out]
 go_wp2_with fail
 refine (zfm _ 1152921504606846976 _ hc hc2 (by omega) (by omega)).mono ?_
 rintro e w' ⟨rfl,rfl⟩
 rw [← HM.out]
 go_wp2_with fail
 refine (zrj _ _ (by omega) (by omega)).mono ?_
 rintro e w1 ⟨rfl,hb1⟩
 obtain ⟨n1,hn1⟩:∃ n1,n1=ztq (m / 36 / 5):=⟨_,rfl⟩
 rw [← hn1]
 have HN1:Hid (n1=ztq (m / 36 / 5)):=hn1
 clear hn1
 go_wp2_with fail
 refine (zrj _ _ (by omega) (by omega)).mono ?_
 rintro e w2 ⟨rfl,hb2⟩
 obtain ⟨n2,hn2⟩:∃ n2,n2=ztq (m / 36 / 5 / 4):=⟨_,rfl⟩
 rw [← hn2]
 have HN2:Hid (n2=ztq (m / 36 / 5 / 4)):=hn2
 clear hn2
 have hb:=hb1.trans (hb2.mono hb1.size)
 obtain ⟨hce,hfr⟩:=ymv hb
 have hz:=hb.size
 simp only [World.size_alloc] at hz hce hfr
 have hB:Below w.heap.size w w2:=((Below.refl _ _).alloc (Nat.le_refl _) _).trans (hb.mono (by simp))
 have hz':w.heap.size<w2.heap.size:=by omega
 have hne:¬ w.heap.size=w2.heap.size:=by omega
 have c0:w2.cell? ⟨w.heap.size,0,none⟩=some (.string ⟨#[]⟩):=by rw [hce _ _ (by omega)];simp [go_sem]
 have c1:w2.cell? ⟨w.heap.size,1,none⟩=some (.slice none 0 0):=by rw [hce _ _ (by omega)];simp [go_sem]
 have c2:w2.cell? ⟨w.heap.size,2,none⟩=some (.int .i64 0):=by rw [hce _ _ (by omega)];simp [go_sem]
 have f0:w2.frozen? ⟨w.heap.size,0,none⟩=false:=by rw [hfr _ _ (by omega)];simp [go_sem]
 have f1:w2.frozen? ⟨w.heap.size,1,none⟩=false:=by rw [hfr _ _ (by omega)];simp [go_sem]
 have f2:w2.frozen? ⟨w.heap.size,2,none⟩=false:=by rw [hfr _ _ (by omega)];simp [go_sem]
 clear hb hb1 hb2 hce hfr
 by_cases h1:k<16
 ·go_wp2
  rw [ylc HK.out HM.out HN1.out HN2.out h1]
  refine bodyPost_ret (v:=zm6 ⟨nmR,[n1,n2],m / 36 % 5 - 2⟩ w2.heap.size) (by simp [results,Tryz.results23,go_sem,c0,c1,c2,f0,f1,f2,hne,hz',zm6,nmR]) rfl ?_
  exact ⟨w2.heap.size,rfl,by omega,zae _ _ _ (by simp [World.setCell]),ycr hB (by omega) _ _ _ _⟩
 ·by_cases h2:k<30
  ·go_wp2
   rw [yld HK.out HM.out HN1.out HN2.out (by omega) (by omega)]
   refine bodyPost_ret (v:=zm6 ⟨nmS,[n1,n2],m / 36 % 5 - 2⟩ w2.heap.size) (by simp [results,Tryz.results23,go_sem,c0,c1,c2,f0,f1,f2,hne,hz',zm6,nmS]) rfl ?_
   exact ⟨w2.heap.size,rfl,by omega,zae _ _ _ (by simp [World.setCell]),ycr hB (by omega) _ _ _ _⟩
  ·go_wp2
   rw [yle HK.out HM.out HN1.out (by omega) (by omega)]
   refine bodyPost_ret (v:=zm6 ⟨nmT,[n1],m / 36 % 5 - 2⟩ w2.heap.size) (by simp [results,Tryz.results23,go_sem,c0,c1,c2,f0,f1,f2,hne,hz',zm6,nmT]) rfl ?_
   exact ⟨w2.heap.size,rfl,by omega,zae _ _ _ (by simp [World.setCell]),ycr hB (by omega) _ _ _ _⟩
theorem zlj (v u:Value) (zs ys:List Int) (w:World) (hv:zbu w v zs) (hu:zbu w u ys) (hl:zs.length≤1000000000) (hl2:ys.length≤1000000000) :
  Calls Tryz.prog 27 #[v,u] w fun e w'=>e=.returned (.bool (zfe zs ys))∧za9 w w':=by
 obtain ⟨a,cap,rfl,hc⟩:=hv
 obtain ⟨a',cap',rfl,hc'⟩:=hu
 have Hc:=zac hc
 have Hc':=zac hc'
 clear hc hc'
 by_cases hne:zs.length=ys.length
 ·have hb:(((zs.length:Nat):Int) != ((ys.length:Nat):Int))=false:=by simp [hne]
  have g1:zs.length≤ys.length:=by omega
  have g2:ys.length≤zs.length:=by omega
  clear hne
  go_enter Tryz.func27,Tryz.ntmps27
  go_wp2
  go_loopw [5] (fun i wr=>∃ k:Nat,k≤zs.length∧i=.int .i64 k∧zs.take k=ys.take k∧za9 w wr) (fun i _=>zs.length - (intOf i).toNat)
  case atStart=>exact ⟨0,Nat.zero_le _,rfl,by simp,za9.refl _⟩
  case round =>
   obtain ⟨k,hk,rfl,htk,hdr⟩:=hrel
   have Hdr:=zac hdr
   clear hdr
   have Htk:=zac htk
   clear htk
   by_cases hlt:k<zs.length
   ·obtain ⟨b,o,rfl,h1⟩:=(zaa Hc) k hlt
    obtain ⟨b',o',rfl,h2⟩:=(zaa Hc') k (by omega)
    have hlt':k<ys.length:=by omega
    obtain ⟨z,hz⟩:∃ z,z=zs[k]?.getD 0:=⟨_,rfl⟩
    obtain ⟨y,hyy⟩:∃ y,y=ys[k]?.getD 0:=⟨_,rfl⟩
    rw [← hz] at h1
    rw [← hyy] at h2
    rw [← (zaa Hdr).cell] at h1 h2
    have HZ:=zac hz
    have HY:=zac hyy
    clear hz hyy
    have hx:(k:Int)<(zs.length:Int):=by omega
    have hy:(k:Int)<(ys.length:Int):=by omega
    by_cases heq:z=y
    ·have hd:(z != y)=false:=by simp [heq]
     have Heq:=zac heq
     clear heq
     go_wp2
     go_quiet (fail)
     go_wp2
     go_roundw
     case rel=>exact ⟨k+1,by omega,by go_num,ybw (zaa Htk) hlt hlt' (by rw [← zaa HZ,← zaa HY];exact zaa Heq),(zaa Hdr).thenN _⟩
     case measure=>simp [intOf];omega
    ·have hd:(z != y)=true:=by simp [heq]
     have hf:zfe zs ys=false:=yhw (k:=k) (by rw [← zaa HZ,← zaa HY];exact heq)
     clear heq
     go_wp2
     go_quiet (fail)
     go_wp2
     go_ret
     exact ⟨by simp [hf],(zaa Hdr).thenN _⟩
   ·have hf:zfe zs ys=true:=ye0 (zaa Htk) (by omega) (by omega)
    go_wp2
    go_ret
    exact ⟨by simp [hf],zaa Hdr⟩
 ·have hb:(((zs.length:Nat):Int) != ((ys.length:Nat):Int))=true:=by rw [bne_iff_ne];omega
  have hf:zfe zs ys=false:=ye1 hne
  go_enter Tryz.func27,Tryz.ntmps27
  go_wp2
  go_ret
  exact ⟨by simp [hf],za9.refl _⟩
theorem zmt (v u:Value) (rs:List (List Int×Int)) (zs:List Int) (w:World) (hv:zc3 w v rs) (hu:zbu w u zs) (hl:rs.length≤1000000000) (hs:zg8 rs) (hl2:zs.length≤1000000000) :
  Calls Tryz.prog 29 #[v,u] w fun e w'=>e=.returned (.int .i64 (zb5 rs zs))∧za9 w w':=by
 obtain ⟨a,cap,rfl,hc⟩:=hv
 have Hc:=zac hc
 have Hu:=zac hu
 have Hs:=zac hs
 clear hc hu hs
 go_enter Tryz.func29,Tryz.ntmps29
 go_wp2
 go_loopw [5] (fun i wr=>∃ k:Nat,k≤rs.length∧i=.int .i64 k∧zb5 rs zs=zb5 (rs.drop k) zs∧za9 w wr) (fun i _=>rs.length - (intOf i).toNat)
 case atStart=>exact ⟨0,Nat.zero_le _,rfl,by simp,za9.refl _⟩
 case round =>
  obtain ⟨k,hk,rfl,htk,hdr⟩:=hrel
  have Hdr:=zac hdr
  clear hdr
  have Htk:=zac htk
  clear htk
  by_cases hlt:k<rs.length
  ·obtain ⟨b,o,sv,rfl,h1,h2,h3⟩:=(zaa Hc) k hlt
   have hx:(k:Int)<(rs.length:Int):=by omega
   rw [← (zaa Hdr).cell] at h1 h3
   obtain ⟨z,hz⟩:∃ z,z=(rs[k]?.getD ([],0)).1:=⟨_,rfl⟩
   obtain ⟨q,hq⟩:∃ q,q=(rs[k]?.getD ([],0)).2:=⟨_,rfl⟩
   rw [← hz] at h2
   rw [← hq] at h3
   have HZ:=zac hz
   have HQ:=zac hq
   have H2:=zac h2
   clear hz hq h2
   by_cases hB:zfe z zs=true
   ·have hans:Hid (zb5 rs zs=q):=zyd (zaa Htk) hlt (zaa HZ) (zaa HQ) hB
    go_wp2_with fail
    refine (zlj _ _ z zs _ ((zaa H2).drawn (zaa Hdr)) ((zaa Hu).drawn (zaa Hdr)) (zjh (zaa Hs) hlt (zaa HZ)) hl2).mono ?_
    rintro e w1 ⟨rfl,hd1⟩
    rw [← hd1.cell] at h3
    have Hd1:=zac hd1
    clear hd1
    rw [hB]
    go_wp2
    go_ret
    exact ⟨zd2 hans.out.symm,(zaa Hdr).trans (zaa Hd1)⟩
   ·have hB':zfe z zs=false:=by simpa using hB
    have hans:Hid (zb5 rs zs=zb5 (rs.drop (k+1)) zs):=zv8 (zaa Htk) hlt (zaa HZ) hB'
    go_wp2_with fail
    refine (zlj _ _ z zs _ ((zaa H2).drawn (zaa Hdr)) ((zaa Hu).drawn (zaa Hdr)) (zjh (zaa Hs) hlt (zaa HZ)) hl2).mono ?_
    rintro e w1 ⟨rfl,hd1⟩
    have Hd1:=zac hd1
    clear hd1
    rw [hB']
    go_wp2
    go_roundw
    case rel=>exact ⟨k+1,by omega,by go_num,hans.out,(zaa Hdr).trans (zaa Hd1)⟩
    case measure=>simp [intOf];omega
  ·have hans:Hid (zb5 rs zs=0):=zyc (zaa Htk) (by omega)
   go_wp2
   go_ret
   exact ⟨zd2 hans.out.symm,zaa Hdr⟩
end K
end Go.Proofs.YtoifcnidhfnapabGreatDoor
namespace Go.Proofs.YtoifcnidhfnapabGreatDoor
open Go.RowKit Go.Maps
open Go.ChangeShapes Go.WideShapes Go.ChangeAt
theorem Tryz.own:ownKnob Tryz.prog.godebug=none:=by kernel_rfl
def zsn (h:Array Obj):Array Obj:=
 let put (h:Array Obj) (g:Nat) (cs:Array Value):Array Obj:=h.modify g fun
  | .cells _ t frozen=>.cells cs t frozen
  | o=>o
 let h0:=put h 0 #[.iface 227 (.agg #[.pointer (some ⟨5,83,none⟩)])]
 let h2:=put h0 2 (([1,10,100,1000,10000,100000,1000000,10000000,100000000,1000000000,10000000000,100000000000,1000000000000,10000000000000,100000000000000,1000000000000000,10000000000000000,100000000000000000,1000000000000000000,10000000000000000000]:List Int).map fun z=>Value.int .u64 z).toArray
 let h3:=put h2 3 (([0,1,28,2,29,14,24,3,30,22,20,15,25,17,4,8,31,27,13,23,21,19,16,7,26,12,18,6,11,5,10,9]:List Int).map fun z=>Value.int .u8 z).toArray
 put h3 4 (([0,1,56,2,57,49,28,3,61,58,42,50,38,29,17,4,62,47,59,36,45,43,51,22,53,39,33,30,24,18,12,5,63,55,48,27,60,41,37,16,46,35,44,21,52,32,23,11,54,26,40,15,34,20,31,10,25,14,19,9,13,8,7,6]:List Int).map fun z=>Value.int .u8 z).toArray
def yf3 (k:IntKind) (w:World) (a:Option Addr) (len cap:Nat) (zs:List Int):Prop:=
 (a=none∧len=0∧cap=0∧zs=[]) ∨
 ∃ x,a=some x∧len≤cap∧cap≤maxLen∧zs.length=cap∧(∀ i,i<zs.length→w.cell? (x.add i)=some (.int k (zs.getD i 0)))∧∀ n∈zs,(Lit.int k n).wf=true
theorem zj7 {w:World} {a:Option Addr} {len cap:Nat} {zs:List Int} (h:yf3 .i64 w a len cap zs) :
  zbu w (.slice a len cap) (zs.take len)∧(zs.take len).length≤9223372036854775807∧∀ c∈zs.take len,-9223372036854775808≤c∧c≤9223372036854775807:=by
 rcases h with ⟨rfl,rfl,rfl,rfl⟩|⟨x,rfl,hl,hm,hz,hc,hw⟩
 ·exact ⟨⟨none,0,rfl,fun i hi=>by simp at hi⟩,by simp,fun c hc=>by simp at hc⟩
 ·have hlen:(zs.take len).length=len:=by simp;omega
  refine ⟨⟨some x,cap,by rw [hlen],fun i hi=>?_⟩,by unfold maxLen at hm;omega,fun c hc'=>bounds_i64 (hw c (List.mem_of_mem_take hc'))⟩
  rw [hlen] at hi
  obtain ⟨b,off,spot⟩:=x
  have h0:=hc 0 (by omega)
  have hspot:spot=none:=by simpa [Addr.add] using World.cell?_spot h0
  subst hspot
  refine ⟨b,off,rfl,?_⟩
  have h1:=hc i (by omega)
  have e:(⟨b,off,none⟩:Addr).add i=⟨b,off+i,none⟩:=by by_cases h:i=0 <;> simp [Addr.add,h]
  rw [e] at h1
  rw [h1,List.getElem?_take_of_lt hi]
  simp
end Go.Proofs.YtoifcnidhfnapabGreatDoor
/- The library's contracts at this program,in plain words. -/
namespace Go.Proofs
open Go.Shelf
def Tryz.laysM316_ren:Go.Shelf.Ren:=⟨fun|316=>48|n=>n,fun|9=>9|3=>3|4=>4|37=>154|0=>0|127=>155|5=>5|n=>n,fun|n=>n⟩
theorem Tryz.laysM316:Go.Proofs.LaysM.n316 Tryz.prog Tryz.laysM316_ren:={
 mixed:=by kernel_rfl
 f316:=Tryz.func48.trans (congrArg some (by kernel_rfl))
 t0:=Tryz.underlying0
 a0:=Tryz.isAgg0
 z0:=Tryz.sizeOf0
 v0:=Tryz.zeroValue0
 t3:=Tryz.underlying3
 a3:=Tryz.isAgg3
 z3:=Tryz.sizeOf3
 v3:=Tryz.zeroValue3
 t4:=Tryz.underlying4
 a4:=Tryz.isAgg4
 z4:=Tryz.sizeOf4
 v4:=Tryz.zeroValue4
 t9:=Tryz.underlying9
 a9:=Tryz.isAgg9
 z9:=Tryz.sizeOf9
 v9:=Tryz.zeroValue9
 t37:=Tryz.underlying154
 a37:=Tryz.isAgg154
 z37:=Tryz.sizeOf154
 v37:=Tryz.zeroValue154
 t127:=Tryz.underlying155
 a127:=Tryz.isAgg155
 z127:=Tryz.sizeOf155
 v127:=Tryz.zeroValue155
 t5:=Tryz.underlying5
 a5:=Tryz.isAgg5
 z5:=Tryz.sizeOf5
 v5:=Tryz.zeroValue5
 i0:=by kernel_rfl
 i3:=by kernel_rfl
 i4:=by kernel_rfl
 i5:=by kernel_rfl
 i9:=by kernel_rfl
 i37:=by kernel_rfl
 i127:=by kernel_rfl }
def Tryz.sortRow_ren:Go.Shelf.Ren:=⟨fun|6=>181|15=>137|14=>206|28=>169|29=>170|20=>218|21=>219|22=>220|23=>221|24=>222|25=>223|26=>224|27=>225|46=>232|47=>188|48=>189|49=>233|50=>234|57=>237|n=>n,fun|22=>274|24=>150|25=>279|3=>3|39=>256|0=>0|53=>112|55=>296|4=>4|46=>289|45=>288|50=>267|5=>5|9=>9|66=>309|70=>313|76=>324|77=>325|n=>n,fun|n=>n⟩
theorem Tryz.sortRow:Go.Proofs.SlLaysF0.n6 Tryz.prog Tryz.sortRow_ren:={
 mixed:=by kernel_rfl
 f6:=⟨Tryz.f181.name,by decide,Tryz.func181.trans (congrArg some (by kernel_rfl))⟩
 f14:=⟨Tryz.f206.name,by decide,Tryz.func206.trans (congrArg some (by kernel_rfl))⟩
 f15:=Tryz.func137.trans (congrArg some (by kernel_rfl))
 f20:=⟨Tryz.f218.name,by decide,Tryz.func218.trans (congrArg some (by kernel_rfl))⟩
 f21:=⟨Tryz.f219.name,by decide,Tryz.func219.trans (congrArg some (by kernel_rfl))⟩
 f22:=⟨Tryz.f220.name,by decide,Tryz.func220.trans (congrArg some (by kernel_rfl))⟩
 f23:=⟨Tryz.f221.name,by decide,Tryz.func221.trans (congrArg some (by kernel_rfl))⟩
 f24:=⟨Tryz.f222.name,by decide,Tryz.func222.trans (congrArg some (by kernel_rfl))⟩
 f25:=⟨Tryz.f223.name,by decide,Tryz.func223.trans (congrArg some (by kernel_rfl))⟩
 f26:=⟨Tryz.f224.name,by decide,Tryz.func224.trans (congrArg some (by kernel_rfl))⟩
 f27:=⟨Tryz.f225.name,by decide,Tryz.func225.trans (congrArg some (by kernel_rfl))⟩
 f28:=Tryz.func169.trans (congrArg some (by kernel_rfl))
 f29:=Tryz.func170.trans (congrArg some (by kernel_rfl))
 f46:=⟨Tryz.f232.name,by decide,Tryz.func232.trans (congrArg some (by kernel_rfl))⟩
 f47:=Tryz.func188.trans (congrArg some (by kernel_rfl))
 f48:=Tryz.func189.trans (congrArg some (by kernel_rfl))
 f49:=⟨Tryz.f233.name,by decide,Tryz.func233.trans (congrArg some (by kernel_rfl))⟩
 f50:=⟨Tryz.f234.name,by decide,Tryz.func234.trans (congrArg some (by kernel_rfl))⟩
 f57:=⟨Tryz.f237.name,by decide,Tryz.func237.trans (congrArg some (by kernel_rfl))⟩
 t0:=Tryz.underlying0
 a0:=Tryz.isAgg0
 z0:=Tryz.sizeOf0
 v0:=Tryz.zeroValue0
 t3:=Tryz.underlying3
 a3:=Tryz.isAgg3
 z3:=Tryz.sizeOf3
 v3:=Tryz.zeroValue3
 t4:=Tryz.underlying4
 a4:=Tryz.isAgg4
 z4:=Tryz.sizeOf4
 v4:=Tryz.zeroValue4
 t5:=Tryz.underlying5
 a5:=Tryz.isAgg5
 z5:=Tryz.sizeOf5
 v5:=Tryz.zeroValue5
 t9:=Tryz.underlying9
 a9:=Tryz.isAgg9
 z9:=Tryz.sizeOf9
 v9:=Tryz.zeroValue9
 t22:=Tryz.underlying274
 a22:=Tryz.isAgg274
 z22:=Tryz.sizeOf274
 v22:=Tryz.zeroValue274
 t25:=Tryz.underlying279
 a25:=Tryz.isAgg279
 z25:=Tryz.sizeOf279
 v25:=Tryz.zeroValue279
 t39:=Tryz.underlying256
 a39:=Tryz.isAgg256
 z39:=Tryz.sizeOf256
 v39:=Tryz.zeroValue256
 t45:=Tryz.underlying288
 a45:=Tryz.isAgg288
 z45:=Tryz.sizeOf288
 v45:=Tryz.zeroValue288
 t46:=Tryz.underlying289
 a46:=Tryz.isAgg289
 z46:=Tryz.sizeOf289
 v46:=Tryz.zeroValue289
 t50:=Tryz.underlying267
 a50:=Tryz.isAgg267
 z50:=Tryz.sizeOf267
 v50:=Tryz.zeroValue267
 t53:=Tryz.underlying112
 a53:=Tryz.isAgg112
 z53:=Tryz.sizeOf112
 v53:=Tryz.zeroValue112
 t55:=Tryz.underlying296
 a55:=Tryz.isAgg296
 z55:=Tryz.sizeOf296
 v55:=Tryz.zeroValue296
 t66:=Tryz.underlying309
 a66:=Tryz.isAgg309
 z66:=Tryz.sizeOf309
 v66:=Tryz.zeroValue309
 t70:=Tryz.underlying313
 a70:=Tryz.isAgg313
 z70:=Tryz.sizeOf313
 v70:=Tryz.zeroValue313
 t76:=Tryz.underlying324
 a76:=Tryz.isAgg324
 z76:=Tryz.sizeOf324
 v76:=Tryz.zeroValue324
 t77:=Tryz.underlying325
 a77:=Tryz.isAgg325
 z77:=Tryz.sizeOf325
 v77:=Tryz.zeroValue325 }
open Go.RowKit in
theorem Tryz.stringslite_Clone (s:ByteArray) (w:World) (hlim:s.size≤281474976710656) :
  Calls Tryz.prog 48 #[.string s] w fun e w'=>e=.returned (.string s)∧Below w.heap.size w w':=Any.stringslite_Clone Tryz.laysM316 s w hlim
end Go.Proofs
/- The library's contracts at this program,in plain words: the sorts of index.entry and join.Row. -/
namespace Go.Proofs
open Go.Shelf
def Tryz.sortEnt_ren:Go.Shelf.Ren:=⟨fun|6=>139|15=>137|14=>171|28=>169|29=>170|20=>192|21=>193|22=>194|23=>195|24=>196|25=>197|26=>198|27=>199|46=>208|47=>188|48=>189|49=>209|50=>210|57=>226|n=>n,fun|22=>196|24=>259|25=>261|3=>3|39=>256|0=>0|53=>112|55=>296|4=>4|46=>289|45=>288|50=>267|5=>5|9=>9|66=>309|70=>313|76=>324|77=>325|n=>n,fun|n=>n⟩
theorem Tryz.sortEnt:Go.Proofs.SlLaysF0.n14 Tryz.prog Tryz.sortEnt_ren:={
 mixed:=by kernel_rfl
 f14:=⟨Tryz.f171.name,by decide,Tryz.func171.trans (congrArg some (by kernel_rfl))⟩
 f15:=Tryz.func137.trans (congrArg some (by kernel_rfl))
 f20:=⟨Tryz.f192.name,by decide,Tryz.func192.trans (congrArg some (by kernel_rfl))⟩
 f21:=⟨Tryz.f193.name,by decide,Tryz.func193.trans (congrArg some (by kernel_rfl))⟩
 f22:=⟨Tryz.f194.name,by decide,Tryz.func194.trans (congrArg some (by kernel_rfl))⟩
 f23:=⟨Tryz.f195.name,by decide,Tryz.func195.trans (congrArg some (by kernel_rfl))⟩
 f24:=⟨Tryz.f196.name,by decide,Tryz.func196.trans (congrArg some (by kernel_rfl))⟩
 f25:=⟨Tryz.f197.name,by decide,Tryz.func197.trans (congrArg some (by kernel_rfl))⟩
 f26:=⟨Tryz.f198.name,by decide,Tryz.func198.trans (congrArg some (by kernel_rfl))⟩
 f27:=⟨Tryz.f199.name,by decide,Tryz.func199.trans (congrArg some (by kernel_rfl))⟩
 f28:=Tryz.func169.trans (congrArg some (by kernel_rfl))
 f29:=Tryz.func170.trans (congrArg some (by kernel_rfl))
 f46:=⟨Tryz.f208.name,by decide,Tryz.func208.trans (congrArg some (by kernel_rfl))⟩
 f47:=Tryz.func188.trans (congrArg some (by kernel_rfl))
 f48:=Tryz.func189.trans (congrArg some (by kernel_rfl))
 f49:=⟨Tryz.f209.name,by decide,Tryz.func209.trans (congrArg some (by kernel_rfl))⟩
 f50:=⟨Tryz.f210.name,by decide,Tryz.func210.trans (congrArg some (by kernel_rfl))⟩
 f57:=⟨Tryz.f226.name,by decide,Tryz.func226.trans (congrArg some (by kernel_rfl))⟩
 t0:=Tryz.underlying0
 a0:=Tryz.isAgg0
 z0:=Tryz.sizeOf0
 v0:=Tryz.zeroValue0
 t3:=Tryz.underlying3
 a3:=Tryz.isAgg3
 z3:=Tryz.sizeOf3
 v3:=Tryz.zeroValue3
 t4:=Tryz.underlying4
 a4:=Tryz.isAgg4
 z4:=Tryz.sizeOf4
 v4:=Tryz.zeroValue4
 t5:=Tryz.underlying5
 a5:=Tryz.isAgg5
 z5:=Tryz.sizeOf5
 v5:=Tryz.zeroValue5
 t9:=Tryz.underlying9
 a9:=Tryz.isAgg9
 z9:=Tryz.sizeOf9
 v9:=Tryz.zeroValue9
 t22:=Tryz.underlying196
 a22:=Tryz.isAgg196
 z22:=Tryz.sizeOf196
 v22:=Tryz.zeroValue196
 t25:=Tryz.underlying261
 a25:=Tryz.isAgg261
 z25:=Tryz.sizeOf261
 v25:=Tryz.zeroValue261
 t39:=Tryz.underlying256
 a39:=Tryz.isAgg256
 z39:=Tryz.sizeOf256
 v39:=Tryz.zeroValue256
 t45:=Tryz.underlying288
 a45:=Tryz.isAgg288
 z45:=Tryz.sizeOf288
 v45:=Tryz.zeroValue288
 t46:=Tryz.underlying289
 a46:=Tryz.isAgg289
 z46:=Tryz.sizeOf289
 v46:=Tryz.zeroValue289
 t50:=Tryz.underlying267
 a50:=Tryz.isAgg267
 z50:=Tryz.sizeOf267
 v50:=Tryz.zeroValue267
 t53:=Tryz.underlying112
 a53:=Tryz.isAgg112
 z53:=Tryz.sizeOf112
 v53:=Tryz.zeroValue112
 t55:=Tryz.underlying296
 a55:=Tryz.isAgg296
 z55:=Tryz.sizeOf296
 v55:=Tryz.zeroValue296
 t66:=Tryz.underlying309
 a66:=Tryz.isAgg309
 z66:=Tryz.sizeOf309
 v66:=Tryz.zeroValue309
 t70:=Tryz.underlying313
 a70:=Tryz.isAgg313
 z70:=Tryz.sizeOf313
 v70:=Tryz.zeroValue313
 t76:=Tryz.underlying324
 a76:=Tryz.isAgg324
 z76:=Tryz.sizeOf324
 v76:=Tryz.zeroValue324
 t77:=Tryz.underlying325
 a77:=Tryz.isAgg325
 z77:=Tryz.sizeOf325
 v77:=Tryz.zeroValue325 }
def Tryz.sortHRow_ren:Go.Shelf.Ren:=⟨fun|6=>97|15=>137|14=>136|28=>169|29=>170|20=>161|21=>162|22=>163|23=>164|24=>165|25=>166|26=>167|27=>168|46=>187|47=>188|48=>189|49=>190|50=>191|57=>207|n=>n,fun|22=>139|24=>92|25=>144|3=>3|39=>256|0=>0|53=>112|55=>296|4=>4|46=>289|45=>288|50=>267|5=>5|9=>9|66=>309|70=>313|76=>324|77=>325|n=>n,fun|n=>n⟩
theorem Tryz.sortHRow:Go.Proofs.SlLaysF0.n6 Tryz.prog Tryz.sortHRow_ren:={
 mixed:=by kernel_rfl
 f6:=⟨Tryz.f97.name,by decide,Tryz.func97.trans (congrArg some (by kernel_rfl))⟩
 f14:=⟨Tryz.f136.name,by decide,Tryz.func136.trans (congrArg some (by kernel_rfl))⟩
 f15:=Tryz.func137.trans (congrArg some (by kernel_rfl))
 f20:=⟨Tryz.f161.name,by decide,Tryz.func161.trans (congrArg some (by kernel_rfl))⟩
 f21:=⟨Tryz.f162.name,by decide,Tryz.func162.trans (congrArg some (by kernel_rfl))⟩
 f22:=⟨Tryz.f163.name,by decide,Tryz.func163.trans (congrArg some (by kernel_rfl))⟩
 f23:=⟨Tryz.f164.name,by decide,Tryz.func164.trans (congrArg some (by kernel_rfl))⟩
 f24:=⟨Tryz.f165.name,by decide,Tryz.func165.trans (congrArg some (by kernel_rfl))⟩
 f25:=⟨Tryz.f166.name,by decide,Tryz.func166.trans (congrArg some (by kernel_rfl))⟩
 f26:=⟨Tryz.f167.name,by decide,Tryz.func167.trans (congrArg some (by kernel_rfl))⟩
 f27:=⟨Tryz.f168.name,by decide,Tryz.func168.trans (congrArg some (by kernel_rfl))⟩
 f28:=Tryz.func169.trans (congrArg some (by kernel_rfl))
 f29:=Tryz.func170.trans (congrArg some (by kernel_rfl))
 f46:=⟨Tryz.f187.name,by decide,Tryz.func187.trans (congrArg some (by kernel_rfl))⟩
 f47:=Tryz.func188.trans (congrArg some (by kernel_rfl))
 f48:=Tryz.func189.trans (congrArg some (by kernel_rfl))
 f49:=⟨Tryz.f190.name,by decide,Tryz.func190.trans (congrArg some (by kernel_rfl))⟩
 f50:=⟨Tryz.f191.name,by decide,Tryz.func191.trans (congrArg some (by kernel_rfl))⟩
 f57:=⟨Tryz.f207.name,by decide,Tryz.func207.trans (congrArg some (by kernel_rfl))⟩
 t0:=Tryz.underlying0
 a0:=Tryz.isAgg0
 z0:=Tryz.sizeOf0
 v0:=Tryz.zeroValue0
 t3:=Tryz.underlying3
 a3:=Tryz.isAgg3
 z3:=Tryz.sizeOf3
 v3:=Tryz.zeroValue3
 t4:=Tryz.underlying4
 a4:=Tryz.isAgg4
 z4:=Tryz.sizeOf4
 v4:=Tryz.zeroValue4
 t5:=Tryz.underlying5
 a5:=Tryz.isAgg5
 z5:=Tryz.sizeOf5
 v5:=Tryz.zeroValue5
 t9:=Tryz.underlying9
 a9:=Tryz.isAgg9
 z9:=Tryz.sizeOf9
 v9:=Tryz.zeroValue9
 t22:=Tryz.underlying139
 a22:=Tryz.isAgg139
 z22:=Tryz.sizeOf139
 v22:=Tryz.zeroValue139
 t25:=Tryz.underlying144
 a25:=Tryz.isAgg144
 z25:=Tryz.sizeOf144
 v25:=Tryz.zeroValue144
 t39:=Tryz.underlying256
 a39:=Tryz.isAgg256
 z39:=Tryz.sizeOf256
 v39:=Tryz.zeroValue256
 t45:=Tryz.underlying288
 a45:=Tryz.isAgg288
 z45:=Tryz.sizeOf288
 v45:=Tryz.zeroValue288
 t46:=Tryz.underlying289
 a46:=Tryz.isAgg289
 z46:=Tryz.sizeOf289
 v46:=Tryz.zeroValue289
 t50:=Tryz.underlying267
 a50:=Tryz.isAgg267
 z50:=Tryz.sizeOf267
 v50:=Tryz.zeroValue267
 t53:=Tryz.underlying112
 a53:=Tryz.isAgg112
 z53:=Tryz.sizeOf112
 v53:=Tryz.zeroValue112
 t55:=Tryz.underlying296
 a55:=Tryz.isAgg296
 z55:=Tryz.sizeOf296
 v55:=Tryz.zeroValue296
 t66:=Tryz.underlying309
 a66:=Tryz.isAgg309
 z66:=Tryz.sizeOf309
 v66:=Tryz.zeroValue309
 t70:=Tryz.underlying313
 a70:=Tryz.isAgg313
 z70:=Tryz.sizeOf313
 v70:=Tryz.zeroValue313
 t76:=Tryz.underlying324
 a76:=Tryz.isAgg324
 z76:=Tryz.sizeOf324
 v76:=Tryz.zeroValue324
 t77:=Tryz.underlying325
 a77:=Tryz.isAgg325
 z77:=Tryz.sizeOf325
 v77:=Tryz.zeroValue325 }
end Go.Proofs
