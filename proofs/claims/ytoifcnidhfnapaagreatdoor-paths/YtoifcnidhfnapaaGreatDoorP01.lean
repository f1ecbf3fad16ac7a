import Derived.Test.YtoifcnidhfnapaaGreatDoorProg
import Derived.WalkKit
import Derived.WalkSpells
import Derived.Deep.QuietTactic
import Derived.BigQuiet
import Derived.Laws.ResultCell
import Derived.Test.YtoifcnidhfnapaaGreatDoorCards
import Derived.Test.YtoifcnidhfnapaaGreatDoorTie
import Derived.ProofKit
import Derived.OpenShut
import Derived.Deep.DeepHandedRow
import Derived.Deep.DeepWitnessRowRef
import Derived.Lib.LaidTab
import Derived.LaidHandle
import Derived.ChangeOld
import Derived.Below
set_option linter.unusedVariables false
set_option linter.unusedSimpArgs false
namespace Go.Proofs.YtoifcnidhfnapaaGreatDoor
open Go.RowKit
theorem zdi {k:IntKind} {a b:Int} (h:a=b):Ending.returned (.int k a)=.returned (.int k b):=by rw [h]
def top:Int:=9223372036854775807
def bot:Int:=-9223372036854775808
def zcm (c n:Int):Int:=(if c<0 then -(c+1) else c) % n
theorem zdg (c n:Int) (hn:0<n):0≤zcm c n∧zcm c n<n:=by
 unfold zcm
 exact ⟨Int.emod_nonneg _ (by omega),Int.emod_lt_of_pos _ hn⟩
structure Ent where
 nm:ByteArray
 row:List Int
 wt:Int
def nmR:ByteArray:=⟨#[114]⟩
def nmS:ByteArray:=⟨#[115]⟩
def nmT:ByteArray:=⟨#[127]⟩
theorem bcell {W w1:World} (hb:Below W.heap.size W w1):(∀ b o,b<W.heap.size→w1.cell? ⟨b,o,none⟩=W.cell? ⟨b,o,none⟩)∧(∀ b o,b<W.heap.size→w1.frozen? ⟨b,o,none⟩=W.frozen? ⟨b,o,none⟩):=
 ⟨fun b o h=>hb.cell (p:=⟨b,o,none⟩) h,fun b o h=>hb.frozen (p:=⟨b,o,none⟩) h⟩
def zkz (x:Ent) (b:Nat):Value:=.agg #[.string x.nm,.slice (some ⟨b,0,none⟩) x.row.length x.row.length,.int .i64 x.wt]
theorem zad (w:World) (o:Obj) (n:Nat) (h:w.heap.size=n):(w.alloc o).heap[n]? = some o:=by
 subst h
 exact heap_alloc_new w o
theorem hide {p:Prop} (h:p):Hid p:=h
theorem zaa {p:Prop} (h:Hid p):p:=h
def za4 (w w':World):Prop:=∃ n,w'=w.drewN n
theorem za4.refl (w:World):za4 w w:=⟨0,rfl⟩
theorem za4.ofN (w:World) (n:Nat):za4 w (w.drewN n):=⟨n,rfl⟩
theorem za4.trans {a b c:World} (h:za4 a b) (k:za4 b c):za4 a c:=by
 obtain ⟨n,rfl⟩:=h
 obtain ⟨m,rfl⟩:=k
 exact ⟨n+m,World.drewN_drewN _ _ _⟩
theorem za4.thenN {a b:World} (h:za4 a b) (n:Nat):za4 a (b.drewN n):=h.trans (za4.ofN _ _)
theorem za4.cell {a b:World} (h:za4 a b) (p:Addr):b.cell? p=a.cell? p:=by
 obtain ⟨n,rfl⟩:=h
 rfl
theorem za4.below {a b:World} (h:za4 a b) (B:Nat):Below B a b:=by
 obtain ⟨n,rfl⟩:=h
 exact ⟨rfl,rfl,rfl,Nat.le_refl _,fun _ _=>rfl⟩
theorem zfv {P:Program} {f:FuncId} {args:Array Value} {w:World} {n:Nat} {v:Value}
  (h:Calls P f args (w.drewN n) fun e w'=>e=.returned v∧za4 (w.drewN n) w'):Calls P f args (w.drewN n) fun e w''=>e=.returned v∧∃ m,w''=w.drewN m:=
 h.mono fun _ _ ⟨he,hm⟩=>⟨he,(za4.ofN w n).trans hm⟩
def zbm (w:World) (v:Value) (zs:List Int):Prop:=
 ∃ a cap,v=.slice a zs.length cap∧∀ i,i<zs.length→∃ b o,a=some ⟨b,o,none⟩∧w.cell? ⟨b,o+i,none⟩=some (.int .i64 (zs[i]?.getD 0))
theorem zbm.drawn {w w':World} {v:Value} {zs:List Int} (h:zbm w v zs) (hd:za4 w w'):zbm w' v zs:=by
 obtain ⟨a,cap,rfl,hc⟩:=h
 exact ⟨a,cap,rfl,fun i hi=>by obtain ⟨b,o,ha,hb⟩:=hc i hi;exact ⟨b,o,ha,by rw [hd.cell];exact hb⟩⟩
theorem zbm.drewN {w:World} {v:Value} {zs:List Int} (h:zbm w v zs) (n:Nat):zbm (w.drewN n) v zs:=by
 obtain ⟨a,cap,rfl,hc⟩:=h
 exact ⟨a,cap,rfl,fun i hi=>by obtain ⟨b,o,ha,hb⟩:=hc i hi;exact ⟨b,o,ha,by simpa using hb⟩⟩
def zep (zs ys:List Int):Bool:=decide (zs=ys)
theorem zv4 {zs ys:List Int} {k:Nat} (h:¬ zs[k]?.getD 0=ys[k]?.getD 0):zep zs ys=false:=by
 unfold zep
 rw [decide_eq_false_iff_not]
 intro e
 exact h (by rw [e])
theorem zsg {zs ys:List Int} (h:¬ zs.length=ys.length):zep zs ys=false:=by
 unfold zep
 rw [decide_eq_false_iff_not]
 intro e
 exact h (by rw [e])
theorem zr1 {zs ys:List Int} {k:Nat} (h:zs.take k=ys.take k) (h1:zs.length≤k) (h2:ys.length≤k):zep zs ys=true:=by
 unfold zep
 rw [decide_eq_true_iff]
 rw [List.take_of_length_le h1,List.take_of_length_le h2] at h
 exact h
theorem znv {zs ys:List Int} {k:Nat} (h:zs.take k=ys.take k) (h1:k<zs.length) (h2:k<ys.length) (he:zs[k]?.getD 0=ys[k]?.getD 0):zs.take (k+1)=ys.take (k+1):=by
 rw [List.take_succ_eq_append_getElem h1,List.take_succ_eq_append_getElem h2,h]
 simp [h1,h2] at he
 rw [he]
set_option maxHeartbeats 400000 in
theorem zju (v u:Value) (zs ys:List Int) (w:World) (hv:zbm w v zs) (hu:zbm w u ys) (hl:zs.length≤1000000000) (hl2:ys.length≤1000000000) :
  Calls Tryz.prog 78 #[v,u] w fun e w'=>e=.returned (.bool (zep zs ys))∧za4 w w':=by
 obtain ⟨a,cap,rfl,hc⟩:=hv
 obtain ⟨a',cap',rfl,hc'⟩:=hu
 have Hc:=hide hc
 have Hc':=hide hc'
 clear hc hc'
 by_cases hne:zs.length=ys.length
 ·have hb:(((zs.length:Nat):Int) != ((ys.length:Nat):Int))=false:=by simp [hne]
  have g1:zs.length≤ys.length:=by omega
  have g2:ys.length≤zs.length:=by omega
  clear hne
  go_enter Tryz.func78,Tryz.ntmps78
  go_wp2
  go_loopw [5] (fun i wr=>∃ k:Nat,k≤zs.length∧i=.int .i64 k∧zs.take k=ys.take k∧za4 w wr) (fun i _=>zs.length - (intOf i).toNat)
  case atStart=>exact ⟨0,Nat.zero_le _,rfl,by simp,za4.refl _⟩
  case round =>
   obtain ⟨k,hk,rfl,htk,hdr⟩:=hrel
   have Hdr:=hide hdr
   clear hdr
   have Htk:=hide htk
   clear htk
   by_cases hlt:k<zs.length
   ·obtain ⟨b,o,rfl,h1⟩:=(zaa Hc) k hlt
    obtain ⟨b',o',rfl,h2⟩:=(zaa Hc') k (by omega)
    have hlt':k<ys.length:=by omega
    obtain ⟨z,hz⟩:∃ z,z=zs[k]?.getD 0:=⟨_,rfl⟩
    obtain ⟨y,hyy⟩:∃ y,y=ys[k]?.getD 0:=⟨_,rfl⟩
    rw [← hz] at h1
    rw [← hyy] at h2
    rw [← (zaa Hdr).cell] at h1 h2
    have HZ:=hide hz
    have HY:=hide hyy
    clear hz hyy
    have hx:(k:Int)<(zs.length:Int):=by omega
    have hy:(k:Int)<(ys.length:Int):=by omega
    by_cases heq:z=y
    ·have hd:(z != y)=false:=by simp [heq]
     have Heq:=hide heq
     clear heq
     go_wp2
     go_quiet (fail)
     go_wp2
     go_roundw
     case rel=>exact ⟨k+1,by omega,by go_num,znv (zaa Htk) hlt hlt' (by rw [← zaa HZ,← zaa HY];exact zaa Heq),(zaa Hdr).thenN _⟩
     case measure=>simp [intOf];omega
    ·have hd:(z != y)=true:=by simp [heq]
     have hf:zep zs ys=false:=zv4 (k:=k) (by rw [← zaa HZ,← zaa HY];exact heq)
     clear heq
     go_wp2
     go_quiet (fail)
     go_wp2
     go_ret
     exact ⟨by simp [hf],(zaa Hdr).thenN _⟩
   ·have hf:zep zs ys=true:=zr1 (zaa Htk) (by omega) (by omega)
    go_wp2
    go_ret
    exact ⟨by simp [hf],zaa Hdr⟩
 ·have hb:(((zs.length:Nat):Int) != ((ys.length:Nat):Int))=true:=by rw [bne_iff_ne];omega
  have hf:zep zs ys=false:=zsg hne
  go_enter Tryz.func78,Tryz.ntmps78
  go_wp2
  go_ret
  exact ⟨by simp [hf],za4.refl _⟩
def zdm (w:World) (v:Value) (rs:List (List Int×Int)):Prop:=
 ∃ a cap,v=.slice a rs.length cap∧∀ i,i<rs.length→∃ b o sv,a=some ⟨b,o,none⟩∧w.cell? ⟨b,o+i*2,none⟩=some sv∧zbm w sv ((rs[i]?.getD ([],0)).1) ∧
  w.cell? ⟨b,o+i*2+1,none⟩=some (.int .i64 ((rs[i]?.getD ([],0)).2))
def zbi:List (List Int×Int)→List Int→Int
 | [],_=>0
 | r :: rs,zs=>if r.1=zs then r.2 else zbi rs zs
def zfd (rs:List (List Int×Int)):Prop:=∀ r∈rs,r.1.length≤1000000000
theorem ztn {rs:List (List Int×Int)} {zs z:List Int} {q:Int} {k:Nat} (h:zbi rs zs=zbi (rs.drop k) zs) (hlt:k<rs.length) (hz:z=(rs[k]?.getD ([],0)).1) (hq:q=(rs[k]?.getD ([],0)).2) (hB:zep z zs=true) :
  zbi rs zs=q:=by
 rw [h,List.drop_eq_getElem_cons hlt]
 simp [hlt] at hz hq
 subst hz hq
 simp [zep] at hB
 simp [zbi,hB]
theorem zre {rs:List (List Int×Int)} {zs z:List Int} {k:Nat} (h:zbi rs zs=zbi (rs.drop k) zs) (hlt:k<rs.length) (hz:z=(rs[k]?.getD ([],0)).1) (hB:zep z zs=false) :
  zbi rs zs=zbi (rs.drop (k+1)) zs:=by
 rw [h,List.drop_eq_getElem_cons hlt]
 simp [hlt] at hz
 subst hz
 simp [zep] at hB
 simp [zbi,hB]
theorem zs6 {rs:List (List Int×Int)} {zs:List Int} {k:Nat} (h:zbi rs zs=zbi (rs.drop k) zs) (hlt:rs.length≤k):zbi rs zs=0:=by
 rw [h,List.drop_eq_nil_of_le hlt]
 rfl
theorem zhl {rs:List (List Int×Int)} {z:List Int} {k:Nat} (h:zfd rs) (hlt:k<rs.length) (hz:z=(rs[k]?.getD ([],0)).1):z.length≤1000000000:=by
 simp [hlt] at hz
 subst hz
 exact h _ (List.getElem_mem hlt)
theorem zt0 (v u:Value) (zs:List Int) (w:World) (hv:zbm w v zs) (hu:zbm w u zs) (hl:zs.length≤1000000000) :
  Calls Tryz.prog 78 #[v,u] w fun e w'=>e=.returned (.bool true)∧za4 w w':=by
 refine (zju v u zs zs w hv hu hl hl).mono ?_
 rintro e w' ⟨rfl,h⟩
 exact ⟨by simp [zep],h⟩
set_option maxHeartbeats 400000 in
theorem ztq (v u:Value) (rs:List (List Int×Int)) (w:World) (hv:zdm w v rs) (hu:zdm w u rs) (hl:rs.length≤1000000000) (hs:zfd rs) :
  Calls Tryz.prog 92 #[v,u] w fun e w'=>e=.returned (.bool true)∧za4 w w':=by
 obtain ⟨a,cap,rfl,hc⟩:=hv
 obtain ⟨a',cap',rfl,hc'⟩:=hu
 have Hc:=hide hc
 have Hc':=hide hc'
 have Hs:=hide hs
 clear hc hc' hs
 go_enter Tryz.func92,Tryz.ntmps92
 go_wp2
 go_loopw [5] (fun i wr=>∃ k:Nat,k≤rs.length∧i=.int .i64 k∧za4 w wr) (fun i _=>rs.length - (intOf i).toNat)
 case atStart=>exact ⟨0,Nat.zero_le _,rfl,za4.refl _⟩
 case round =>
  obtain ⟨k,hk,rfl,hdr⟩:=hrel
  have Hdr:=hide hdr
  clear hdr
  by_cases hlt:k<rs.length
  ·obtain ⟨b,o,sv,rfl,h1,h2,h3⟩:=(zaa Hc) k hlt
   obtain ⟨b',o',sv',rfl,h1',h2',h3'⟩:=(zaa Hc') k hlt
   have hx:(k:Int)<(rs.length:Int):=by omega
   obtain ⟨z,hz⟩:∃ z,z=(rs[k]?.getD ([],0)).1:=⟨_,rfl⟩
   obtain ⟨q,hq⟩:∃ q,q=(rs[k]?.getD ([],0)).2:=⟨_,rfl⟩
   rw [← (zaa Hdr).cell] at h1 h3 h1' h3'
   rw [← hz] at h2 h2'
   rw [← hq] at h3 h3'
   have HZ:=hide hz
   have H2:=hide h2
   have H2':=hide h2'
   have hqq:(q != q)=false:=by simp
   clear hz hq h2 h2'
   have hB:zep z z=true:=by simp [zep]
   go_wp2_with fail
   have hlz:=zhl (zaa Hs) hlt (zaa HZ)
   go_quiet ((go_at_call 78;exact zfv (zt0 _ _ z _ (by exact ((zaa H2).drawn (zaa Hdr)).drewN _) (by exact ((zaa H2').drawn (zaa Hdr)).drewN _) hlz)))
   go_wp2_with fail
   go_quiet (fail)
   go_wp2
   exact ⟨⟨k+1,by omega,by go_num,(zaa Hdr).thenN _⟩,by simp [intOf];omega⟩
  ·go_wp2
   go_ret
   exact ⟨by simp,zaa Hdr⟩
end Go.Proofs.YtoifcnidhfnapaaGreatDoor
namespace Go.Proofs.YtoifcnidhfnapaaGreatDoor
namespace K
open Go.RowKit Go.Maps
def nmT:ByteArray:=⟨#[116]⟩
set_option maxHeartbeats 400000 in
theorem zjl (c n:Int) (w:World) (hc:-9223372036854775808≤c) (hc2:c≤9223372036854775807) (hn:0<n) (hn2:n≤1152921504606846976) :
  Calls Tryz.prog 25 #[.int .i64 c,.int .i64 n] w fun e w'=>e=.returned (.int .i64 (zcm c n))∧w'=w:=by
 by_cases h:c<0
 ·have e:Hid ((-(c+1)).tmod n=zcm c n):=by
   unfold zcm Hid
   rw [if_pos h,Int.tmod_eq_emod_of_nonneg (by omega)]
  go_enter Tryz.func25,Tryz.ntmps25
  go_wp2
  go_ret
  refine ⟨?_,rfl⟩
  exact zdi (by simpa using e.out)
 ·have e:Hid (c % n=zcm c n):=by
   unfold zcm Hid
   rw [if_neg h]
  go_enter Tryz.func25,Tryz.ntmps25
  go_wp2
  go_ret
  exact ⟨zdi e.out,rfl⟩
def numT (k:Int):Int:=if k=0 then 0 else if k=1 then 1 else if k=2 then top else bot
def numZ (c:Int):Int:=numT (zcm c 4)
set_option maxHeartbeats 400000 in
theorem zdn (c:Int) (w:World) (hc:-9223372036854775808≤c) (hc2:c≤9223372036854775807) :
  Calls Tryz.prog 22 #[.int .i64 c] w fun e w'=>e=.returned (.int .i64 (numZ c))∧Below w.heap.size w w':=by
 obtain ⟨k,hk⟩:∃ k,k=zcm c 4:=⟨_,rfl⟩
 have hr:=zdg c 4 (by omega)
 rw [← hk] at hr
 have HK:Hid (k=zcm c 4):=hk
 clear hk
 have hcase:k=0∨k=1∨k=2∨k=3:=by omega
 go_enter Tryz.func22,Tryz.ntmps22
 go_wp2_with (first|(go_at_call 25;refine (zjl _ 4 _ hc hc2 (by omega) (by omega)).mono ?_;rintro e w' ⟨rfl,rfl⟩;rw [← HK.out]))
 rcases hcase with rfl|rfl|rfl|rfl
 all_goals
  go_wp2
  go_ret
  refine ⟨?_,(Below.refl _ _).alloc (Nat.le_refl _) _⟩
  unfold numZ
  rw [← HK.out]
  rfl
def entC (c:Int):Int:=zcm c 1152921504606846976 / 36
def entZ (c:Int):Ent:=
 if zcm c 36<16 then ⟨nmR,[numZ (entC c / 5),numZ (entC c / 5 / 4)],entC c % 5 - 2⟩
 else if zcm c 36<30 then ⟨nmS,[numZ (entC c / 5),numZ (entC c / 5 / 4)],entC c % 5 - 2⟩
 else ⟨nmT,[numZ (entC c / 5)],entC c % 5 - 2⟩
theorem entZ_1 {c k m n1 n2:Int} (hk:k=zcm c 36) (hm:m=zcm c 1152921504606846976) (h1:n1=numZ (m / 36 / 5)) (h2:n2=numZ (m / 36 / 5 / 4)) (hlt:k<16) :
  entZ c=⟨nmR,[n1,n2],m / 36 % 5 - 2⟩:=by
 unfold entZ entC
 rw [← hk,← hm,if_pos hlt,← h1,← h2]
theorem entZ_2 {c k m n1 n2:Int} (hk:k=zcm c 36) (hm:m=zcm c 1152921504606846976) (h1:n1=numZ (m / 36 / 5)) (h2:n2=numZ (m / 36 / 5 / 4)) (hnl:¬ k<16) (hlt:k<30) :
  entZ c=⟨nmS,[n1,n2],m / 36 % 5 - 2⟩:=by
 unfold entZ entC
 rw [← hk,← hm,if_neg hnl,if_pos hlt,← h1,← h2]
theorem entZ_3 {c k m n1:Int} (hk:k=zcm c 36) (hm:m=zcm c 1152921504606846976) (h1:n1=numZ (m / 36 / 5)) (hnl:¬ k<16) (hnl2:¬ k<30) :
  entZ c=⟨nmT,[n1],m / 36 % 5 - 2⟩:=by
 unfold entZ entC
 rw [← hk,← hm,if_neg hnl,if_neg hnl2,← h1]
theorem zy6 {w w2:World} (hB:Below w.heap.size w w2) (hz:w.heap.size≤w2.heap.size) (x0 x1 x2:Value) (o:Obj) :
  Below w.heap.size w ((((w2.setCell ⟨w.heap.size,0,none⟩ x0).setCell ⟨w.heap.size,1,none⟩ x1).setCell ⟨w.heap.size,2,none⟩ x2).alloc o):=
 (((hB.setCell (p:=⟨w.heap.size,0,none⟩) (Nat.le_refl _) _).setCell (p:=⟨w.heap.size,1,none⟩) (Nat.le_refl _) _).setCell (p:=⟨w.heap.size,2,none⟩) (Nat.le_refl _) _).alloc (by simpa [World.setCell] using hz) _
set_option maxHeartbeats 400000 in
theorem ybc (c:Int) (w:World) (hc:-9223372036854775808≤c) (hc2:c≤9223372036854775807) :
  Calls Tryz.prog 36 #[.int .i64 c] w fun e w'=>∃ b,e=.returned (zkz (entZ c) b)∧w.heap.size≤b∧w'.heap[b]? = some (.cells ((entZ c).row.map (Value.int .i64)).toArray 2 (0,0))∧Below w.heap.size w w':=by
 obtain ⟨k,hk⟩:∃ k,k=zcm c 36:=⟨_,rfl⟩
 have hr:=zdg c 36 (by omega)
 obtain ⟨m,hm⟩:∃ m,m=zcm c 1152921504606846976:=⟨_,rfl⟩
 have hs:=zdg c 1152921504606846976 (by omega)
 rw [← hk] at hr
 rw [← hm] at hs
 have HK:Hid (k=zcm c 36):=hk
 have HM:Hid (m=zcm c 1152921504606846976):=hm
 clear hk hm
 go_enter Tryz.func36,Tryz.ntmps36
 go_wp2_with fail
 refine (zjl _ 36 _ hc hc2 (by omega) (by omega)).mono ?_
 rintro e w' ⟨rfl,rfl⟩
 rw [← HK.out]
 go_wp2_with fail
 refine (zjl _ 1152921504606846976 _ hc hc2 (by omega) (by omega)).mono ?_
 rintro e w' ⟨rfl,rfl⟩
 rw [← HM.out]
 go_wp2_with fail
 refine (zdn _ _ (by omega) (by omega)).mono ?_
 rintro e w1 ⟨rfl,hb1⟩
 obtain ⟨n1,hn1⟩:∃ n1,n1=numZ (m / 36 / 5):=⟨_,rfl⟩
 rw [← hn1]
 have HN1:Hid (n1=numZ (m / 36 / 5)):=hn1
 clear hn1
 go_wp2_with fail
 refine (zdn _ _ (by omega) (by omega)).mono ?_
 rintro e w2 ⟨rfl,hb2⟩
 obtain ⟨n2,hn2⟩:∃ n2,n2=numZ (m / 36 / 5 / 4):=⟨_,rfl⟩
 rw [← hn2]
 have HN2:Hid (n2=numZ (m / 36 / 5 / 4)):=hn2
 clear hn2
 have hb:=hb1.trans (hb2.mono hb1.size)
 obtain ⟨hce,hfr⟩:=bcell hb
 have hz:=hb.size
 simp only [World.size_alloc] at hz hce hfr
 have hB:Below w.heap.size w w2:=((Below.refl _ _).alloc (Nat.le_refl _) _).trans (hb.mono (by simp))
 have hz':w.heap.size<w2.heap.size:=by omega
 have hne:¬ w.heap.size=w2.heap.size:=by omega
 have c0:w2.cell? ⟨w.heap.size,0,none⟩=some (.string ⟨#[]⟩):=by rw [hce _ _ (by omega)];simp [go_sem]
 have c1:w2.cell? ⟨w.heap.size,1,none⟩=some (.slice none 0 0):=by rw [hce _ _ (by omega)];simp [go_sem]
 have c2:w2.cell? ⟨w.heap.size,2,none⟩=some (.int .i64 0):=by rw [hce _ _ (by omega)];simp [go_sem]
 have f0:w2.frozen? ⟨w.heap.size,0,none⟩=false:=by rw [hfr _ _ (by omega)];simp [go_sem]
 have f1:w2.frozen? ⟨w.heap.size,1,none⟩=false:=by rw [hfr _ _ (by omega)];simp [go_sem]
 have f2:w2.frozen? ⟨w.heap.size,2,none⟩=false:=by rw [hfr _ _ (by omega)];simp [go_sem]
 clear hb hb1 hb2 hce hfr
 by_cases h1:k<16
 ·go_wp2
  rw [entZ_1 HK.out HM.out HN1.out HN2.out h1]
  refine bodyPost_ret (v:=zkz ⟨nmR,[n1,n2],m / 36 % 5 - 2⟩ w2.heap.size) (by simp [results,Tryz.results36,go_sem,c0,c1,c2,f0,f1,f2,hne,hz',zkz,nmR]) rfl ?_
  exact ⟨w2.heap.size,rfl,by omega,zad _ _ _ (by simp [World.setCell]),zy6 hB (by omega) _ _ _ _⟩
 ·by_cases h2:k<30
  ·go_wp2
   rw [entZ_2 HK.out HM.out HN1.out HN2.out (by omega) (by omega)]
   refine bodyPost_ret (v:=zkz ⟨nmS,[n1,n2],m / 36 % 5 - 2⟩ w2.heap.size) (by simp [results,Tryz.results36,go_sem,c0,c1,c2,f0,f1,f2,hne,hz',zkz,nmS]) rfl ?_
   exact ⟨w2.heap.size,rfl,by omega,zad _ _ _ (by simp [World.setCell]),zy6 hB (by omega) _ _ _ _⟩
  ·go_wp2
   rw [entZ_3 HK.out HM.out HN1.out (by omega) (by omega)]
   refine bodyPost_ret (v:=zkz ⟨nmT,[n1],m / 36 % 5 - 2⟩ w2.heap.size) (by simp [results,Tryz.results36,go_sem,c0,c1,c2,f0,f1,f2,hne,hz',zkz,nmT]) rfl ?_
   exact ⟨w2.heap.size,rfl,by omega,zad _ _ _ (by simp [World.setCell]),zy6 hB (by omega) _ _ _ _⟩
set_option maxHeartbeats 400000 in
theorem zju (v u:Value) (zs ys:List Int) (w:World) (hv:zbm w v zs) (hu:zbm w u ys) (hl:zs.length≤1000000000) (hl2:ys.length≤1000000000) :
  Calls Tryz.prog 42 #[v,u] w fun e w'=>e=.returned (.bool (zep zs ys))∧za4 w w':=by
 obtain ⟨a,cap,rfl,hc⟩:=hv
 obtain ⟨a',cap',rfl,hc'⟩:=hu
 have Hc:=hide hc
 have Hc':=hide hc'
 clear hc hc'
 by_cases hne:zs.length=ys.length
 ·have hb:(((zs.length:Nat):Int) != ((ys.length:Nat):Int))=false:=by simp [hne]
  have g1:zs.length≤ys.length:=by omega
  have g2:ys.length≤zs.length:=by omega
  clear hne
  go_enter Tryz.func42,Tryz.ntmps42
  go_wp2
  go_loopw [5] (fun i wr=>∃ k:Nat,k≤zs.length∧i=.int .i64 k∧zs.take k=ys.take k∧za4 w wr) (fun i _=>zs.length - (intOf i).toNat)
  case atStart=>exact ⟨0,Nat.zero_le _,rfl,by simp,za4.refl _⟩
  case round =>
   obtain ⟨k,hk,rfl,htk,hdr⟩:=hrel
   have Hdr:=hide hdr
   clear hdr
   have Htk:=hide htk
   clear htk
   by_cases hlt:k<zs.length
   ·obtain ⟨b,o,rfl,h1⟩:=(zaa Hc) k hlt
    obtain ⟨b',o',rfl,h2⟩:=(zaa Hc') k (by omega)
    have hlt':k<ys.length:=by omega
    obtain ⟨z,hz⟩:∃ z,z=zs[k]?.getD 0:=⟨_,rfl⟩
    obtain ⟨y,hyy⟩:∃ y,y=ys[k]?.getD 0:=⟨_,rfl⟩
    rw [← hz] at h1
    rw [← hyy] at h2
    rw [← (zaa Hdr).cell] at h1 h2
    have HZ:=hide hz
    have HY:=hide hyy
    clear hz hyy
    have hx:(k:Int)<(zs.length:Int):=by omega
    have hy:(k:Int)<(ys.length:Int):=by omega
    by_cases heq:z=y
    ·have hd:(z != y)=false:=by simp [heq]
     have Heq:=hide heq
     clear heq
     go_wp2
     go_quiet (fail)
     go_wp2
     go_roundw
     case rel=>exact ⟨k+1,by omega,by go_num,znv (zaa Htk) hlt hlt' (by rw [← zaa HZ,← zaa HY];exact zaa Heq),(zaa Hdr).thenN _⟩
     case measure=>simp [intOf];omega
    ·have hd:(z != y)=true:=by simp [heq]
     have hf:zep zs ys=false:=zv4 (k:=k) (by rw [← zaa HZ,← zaa HY];exact heq)
     clear heq
     go_wp2
     go_quiet (fail)
     go_wp2
     go_ret
     exact ⟨by simp [hf],(zaa Hdr).thenN _⟩
   ·have hf:zep zs ys=true:=zr1 (zaa Htk) (by omega) (by omega)
    go_wp2
    go_ret
    exact ⟨by simp [hf],zaa Hdr⟩
 ·have hb:(((zs.length:Nat):Int) != ((ys.length:Nat):Int))=true:=by rw [bne_iff_ne];omega
  have hf:zep zs ys=false:=zsg hne
  go_enter Tryz.func42,Tryz.ntmps42
  go_wp2
  go_ret
  exact ⟨by simp [hf],za4.refl _⟩
set_option maxHeartbeats 400000 in
theorem zf7 (v u:Value) (rs:List (List Int×Int)) (zs:List Int) (w:World) (hv:zdm w v rs) (hu:zbm w u zs) (hl:rs.length≤1000000000) (hs:zfd rs) (hl2:zs.length≤1000000000) :
  Calls Tryz.prog 23 #[v,u] w fun e w'=>e=.returned (.int .i64 (zbi rs zs))∧za4 w w':=by
 obtain ⟨a,cap,rfl,hc⟩:=hv
 have Hc:=hide hc
 have Hu:=hide hu
 have Hs:=hide hs
 clear hc hu hs
 go_enter Tryz.func23,Tryz.ntmps23
 go_wp2
 go_loopw [5] (fun i wr=>∃ k:Nat,k≤rs.length∧i=.int .i64 k∧zbi rs zs=zbi (rs.drop k) zs∧za4 w wr) (fun i _=>rs.length - (intOf i).toNat)
 case atStart=>exact ⟨0,Nat.zero_le _,rfl,by simp,za4.refl _⟩
 case round =>
  obtain ⟨k,hk,rfl,htk,hdr⟩:=hrel
  have Hdr:=hide hdr
  clear hdr
  have Htk:=hide htk
  clear htk
  by_cases hlt:k<rs.length
  ·obtain ⟨b,o,sv,rfl,h1,h2,h3⟩:=(zaa Hc) k hlt
   have hx:(k:Int)<(rs.length:Int):=by omega
   rw [← (zaa Hdr).cell] at h1 h3
   obtain ⟨z,hz⟩:∃ z,z=(rs[k]?.getD ([],0)).1:=⟨_,rfl⟩
   obtain ⟨q,hq⟩:∃ q,q=(rs[k]?.getD ([],0)).2:=⟨_,rfl⟩
   rw [← hz] at h2
   rw [← hq] at h3
   have HZ:=hide hz
   have HQ:=hide hq
   have H2:=hide h2
   clear hz hq h2
   by_cases hB:zep z zs=true
   ·have hans:Hid (zbi rs zs=q):=ztn (zaa Htk) hlt (zaa HZ) (zaa HQ) hB
    go_wp2_with fail
    refine (zju _ _ z zs _ ((zaa H2).drawn (zaa Hdr)) ((zaa Hu).drawn (zaa Hdr)) (zhl (zaa Hs) hlt (zaa HZ)) hl2).mono ?_
    rintro e w1 ⟨rfl,hd1⟩
    rw [← hd1.cell] at h3
    have Hd1:=hide hd1
    clear hd1
    rw [hB]
    go_wp2
    go_ret
    exact ⟨zdi hans.out.symm,(zaa Hdr).trans (zaa Hd1)⟩
   ·have hB':zep z zs=false:=by simpa using hB
    have hans:Hid (zbi rs zs=zbi (rs.drop (k+1)) zs):=zre (zaa Htk) hlt (zaa HZ) hB'
    go_wp2_with fail
    refine (zju _ _ z zs _ ((zaa H2).drawn (zaa Hdr)) ((zaa Hu).drawn (zaa Hdr)) (zhl (zaa Hs) hlt (zaa HZ)) hl2).mono ?_
    rintro e w1 ⟨rfl,hd1⟩
    have Hd1:=hide hd1
    clear hd1
    rw [hB']
    go_wp2
    go_roundw
    case rel=>exact ⟨k+1,by omega,by go_num,hans.out,(zaa Hdr).trans (zaa Hd1)⟩
    case measure=>simp [intOf];omega
  ·have hans:Hid (zbi rs zs=0):=zs6 (zaa Htk) (by omega)
   go_wp2
   go_ret
   exact ⟨zdi hans.out.symm,zaa Hdr⟩
theorem zt0 (v u:Value) (zs:List Int) (w:World) (hv:zbm w v zs) (hu:zbm w u zs) (hl:zs.length≤1000000000) :
  Calls Tryz.prog 42 #[v,u] w fun e w'=>e=.returned (.bool true)∧za4 w w':=by
 refine (zju v u zs zs w hv hu hl hl).mono ?_
 rintro e w' ⟨rfl,h⟩
 exact ⟨by simp [zep],h⟩
set_option maxHeartbeats 400000 in
theorem ztq (v u:Value) (rs:List (List Int×Int)) (w:World) (hv:zdm w v rs) (hu:zdm w u rs) (hl:rs.length≤1000000000) (hs:zfd rs) :
  Calls Tryz.prog 43 #[v,u] w fun e w'=>e=.returned (.bool true)∧za4 w w':=by
 obtain ⟨a,cap,rfl,hc⟩:=hv
 obtain ⟨a',cap',rfl,hc'⟩:=hu
 have Hc:=hide hc
 have Hc':=hide hc'
 have Hs:=hide hs
 clear hc hc' hs
 go_enter Tryz.func43,Tryz.ntmps43
 go_wp2
 go_loopw [5] (fun i wr=>∃ k:Nat,k≤rs.length∧i=.int .i64 k∧za4 w wr) (fun i _=>rs.length - (intOf i).toNat)
 case atStart=>exact ⟨0,Nat.zero_le _,rfl,za4.refl _⟩
 case round =>
  obtain ⟨k,hk,rfl,hdr⟩:=hrel
  have Hdr:=hide hdr
  clear hdr
  by_cases hlt:k<rs.length
  ·obtain ⟨b,o,sv,rfl,h1,h2,h3⟩:=(zaa Hc) k hlt
   obtain ⟨b',o',sv',rfl,h1',h2',h3'⟩:=(zaa Hc') k hlt
   have hx:(k:Int)<(rs.length:Int):=by omega
   obtain ⟨z,hz⟩:∃ z,z=(rs[k]?.getD ([],0)).1:=⟨_,rfl⟩
   obtain ⟨q,hq⟩:∃ q,q=(rs[k]?.getD ([],0)).2:=⟨_,rfl⟩
   rw [← (zaa Hdr).cell] at h1 h3 h1' h3'
   rw [← hz] at h2 h2'
   rw [← hq] at h3 h3'
   have HZ:=hide hz
   have H2:=hide h2
   have H2':=hide h2'
   have hqq:(q != q)=false:=by simp
   clear hz hq h2 h2'
   have hB:zep z z=true:=by simp [zep]
   go_wp2_with fail
   have hlz:=zhl (zaa Hs) hlt (zaa HZ)
   go_quiet ((go_at_call 42;exact zfv (zt0 _ _ z _ (by exact ((zaa H2).drawn (zaa Hdr)).drewN _) (by exact ((zaa H2').drawn (zaa Hdr)).drewN _) hlz)))
   go_wp2_with fail
   go_quiet (fail)
   go_wp2
   exact ⟨⟨k+1,by omega,by go_num,(zaa Hdr).thenN _⟩,by simp [intOf];omega⟩
  ·go_wp2
   go_ret
   exact ⟨by simp,zaa Hdr⟩
def zzi (a b:List Int) (m:Nat):Prop:=m<a.length∧m<b.length∧(∀ j,j<m→a[j]?.getD 0=b[j]?.getD 0)∧a[m]?.getD 0<b[m]?.getD 0
structure Rises (rs:List (List Int×Int)):Prop where
 nz:∀ i,i<rs.length→(rs[i]?.getD ([],0)).2≠0
 lt:∀ i,i+1<rs.length→∃ m,zzi (rs[i]?.getD ([],0)).1 (rs[i+1]?.getD ([],0)).1 m
set_option maxRecDepth 100000 in
set_option maxHeartbeats 2000000 in
theorem zn3 (v:Value) (rs:List (List Int×Int)) (w:World) (hv:zdm w v rs) (hl:rs.length≤1000000000) (hs:zfd rs) (hr:Rises rs) :
  Calls Tryz.prog 21 #[v] w fun e w'=>e=.returned (.bool true)∧za4 w w':=by
 obtain ⟨a,cap,rfl,hc⟩:=hv
 have Hc:=hide hc
 have Hs:=hide hs
 have Hr:=hide hr
 clear hc hs hr
 go_enter Tryz.func21,Tryz.ntmps21
 go_wp2
 go_loopw [3] (fun i wr=>∃ k:Nat,k≤rs.length∧i=.int .i64 k∧za4 w wr) (fun i _=>rs.length - (intOf i).toNat)
 case atStart=>exact ⟨0,Nat.zero_le _,rfl,za4.refl _⟩
 case round =>
  obtain ⟨k,hk,rfl,hdr⟩:=hrel
  have Hdr:=hide hdr
  clear hdr
  by_cases hlt:k<rs.length
  ·obtain ⟨b,o,sv,rfl,h1,h2,h3⟩:=(zaa Hc) k hlt
   have hx:(k:Int)<(rs.length:Int):=by omega
   rw [← (zaa Hdr).cell] at h1 h3
   have hnz:=(zaa Hr).nz k hlt
   obtain ⟨z,hz⟩:∃ z,z=(rs[k]?.getD ([],0)).1:=⟨_,rfl⟩
   obtain ⟨q,hq⟩:∃ q,q=(rs[k]?.getD ([],0)).2:=⟨_,rfl⟩
   rw [← hz] at h2
   rw [← hq] at h3 hnz
   have hqb:(q == 0)=false:=by simpa using hnz
   have HZ:=hide hz
   clear hq hz hnz
   rcases k with _|k
   ·have H2:=hide h2
    clear h2 h1
    simp only [Nat.zero_mul,Nat.add_zero] at h3
    go_wp2
    go_roundw
    case rel=>exact ⟨1,by omega,by simp,zaa Hdr⟩
    case measure=>simp [intOf];omega
   ·obtain ⟨b',o',sv',hbo,g1,g2,g3⟩:=(zaa Hc) k (by omega)
    cases hbo
    rw [← (zaa Hdr).cell] at g1
    obtain ⟨y,hy⟩:∃ y,y=(rs[k]?.getD ([],0)).1:=⟨_,rfl⟩
    rw [← hy] at g2
    obtain ⟨m,hp⟩:=(zaa Hr).lt k hlt
    rw [← hy,← zaa HZ] at hp
    have hyl:=zhl (zaa Hs) (by omega) hy
    have hzl:=zhl (zaa Hs) hlt (zaa HZ)
    clear hy g3
    obtain ⟨a1,c1,rfl,g2⟩:=g2
    obtain ⟨a2,c2,rfl,h2⟩:=h2
    have Hg:=hide g2
    have Hh:=hide h2
    have Hp:=hide hp
    obtain ⟨p1,p2,-,-⟩:=hp
    have hk0:((k:Int)+1 == 0)=false:=by simp;omega
    have hk1:(k:Int)<(rs.length:Int):=by omega
    clear g2 h2
    push_cast at hx
    go_wp2
    go_quiet (fail)
    go_wp2_with fail
    go_loopw [6] (fun i wq=>∃ j:Nat,j≤m∧i=.int .i64 j∧za4 w wq) (fun i _=>m - (intOf i).toNat)
    case atStart=>exact ⟨0,Nat.zero_le _,rfl,(zaa Hdr).thenN _⟩
    case round =>
     obtain ⟨j,hj,rfl,hdq⟩:=hrel
     obtain ⟨b1,o1,rfl,e1⟩:=(zaa Hg) j (by omega)
     obtain ⟨b2,o2,rfl,e2⟩:=(zaa Hh) j (by omega)
     obtain ⟨s1,hs1⟩:∃ s1,s1=y[j]?.getD 0:=⟨_,rfl⟩
     obtain ⟨s2,hs2⟩:∃ s2,s2=z[j]?.getD 0:=⟨_,rfl⟩
     rw [← hs1,← hdq.cell] at e1
     rw [← hs2,← hdq.cell] at e2
     have hx1:(j:Int)<(y.length:Int):=by omega
     have hx2:(j:Int)<(z.length:Int):=by omega
     have Hdq:=hide hdq
     clear hdq g1 h1 h3
     by_cases hjm:j<m
     ·have heq:s1=s2:=by rw [hs1,hs2];exact (zaa Hp).2.2.1 j hjm
      have hd:(s1 == s2)=true:=by simp [heq]
      clear heq hs1 hs2
      go_wp2
      go_quiet (fail)
      go_wp2
      go_roundw
      case rel=>exact ⟨j+1,by omega,by go_num,(zaa Hdq).thenN _⟩
      case measure=>simp [intOf];omega
     ·have hjm':j=m:=by omega
      subst hjm'
      have hlt2:s1<s2:=by rw [hs1,hs2];exact (zaa Hp).2.2.2
      have hd:(s1 == s2)=false:=by simp;omega
      have hd2:¬ s2<s1:=by omega
      clear hs1 hs2
      go_wp2
      go_quiet (fail)
      go_wp2_with fail
      generalize hW:World.drewN _ _=W9
      have Hd9:Hid (za4 w W9):=by rw [← hW];exact (zaa Hdq).thenN _
      have e1':W9.cell? ⟨b1,o1+j,none⟩=some (.int .i64 s1):=by rw [← hW];exact e1
      have e2':W9.cell? ⟨b2,o2+j,none⟩=some (.int .i64 s2):=by rw [← hW];exact e2
      clear hW
      go_quiet (fail)
      go_wp2
      go_roundw
      case rel=>exact ⟨k+2,by omega,by go_num,(zaa Hd9).thenN _⟩
      case measure=>simp [intOf];omega
  ·go_wp2
   go_ret
   exact ⟨rfl,zaa Hdr⟩
end K
end Go.Proofs.YtoifcnidhfnapaaGreatDoor
namespace Go.Proofs.YtoifcnidhfnapaaGreatDoor
open Go.RowKit Go.Maps
open Go.ChangeShapes Go.WideShapes Go.ChangeAt
theorem Tryz.own:ownKnob Tryz.prog.godebug=none:=by kernel_rfl
def laidHeap (h:Array Obj):Array Obj:=
 let put (h:Array Obj) (g:Nat) (cs:Array Value):Array Obj:=h.modify g fun
  | .cells _ t frozen=>.cells cs t frozen
  | o=>o
 let h0:=put h 0 #[.iface 314 (.agg #[.pointer (some ⟨6,121,none⟩)])]
 let h1:=put h0 1 (([[],[41,58,45,97,40,65,41],[65,41,58,45,97,40,65,41],[40,65,41,58,45,97,40,65,41],[58,45,97,40,65,41],[45,97,40,65,41],[97,40,65,41],[40,65,41],[65,41],[41],[49,41],[97]]:List (List UInt8)).map fun x=>Value.string ⟨x.toArray⟩).toArray
 let h2:=put h1 3 (([1,10,100,1000,10000,100000,1000000,10000000,100000000,1000000000,10000000000,100000000000,1000000000000,10000000000000,100000000000000,1000000000000000,10000000000000000,100000000000000000,1000000000000000000,10000000000000000000]:List Int).map fun z=>Value.int .u64 z).toArray
 let h3:=put h2 4 (([0,1,28,2,29,14,24,3,30,22,20,15,25,17,4,8,31,27,13,23,21,19,16,7,26,12,18,6,11,5,10,9]:List Int).map fun z=>Value.int .u8 z).toArray
 put h3 5 (([0,1,56,2,57,49,28,3,61,58,42,50,38,29,17,4,62,47,59,36,45,43,51,22,53,39,33,30,24,18,12,5,63,55,48,27,60,41,37,16,46,35,44,21,52,32,23,11,54,26,40,15,34,20,31,10,25,14,19,9,13,8,7,6]:List Int).map fun z=>Value.int .u8 z).toArray
def IsRow (k:IntKind) (w:World) (a:Option Addr) (len cap:Nat) (zs:List Int):Prop:=
 (a=none∧len=0∧cap=0∧zs=[]) ∨
 ∃ x,a=some x∧len≤cap∧cap≤maxLen∧zs.length=cap∧(∀ i,i<zs.length→w.cell? (x.add i)=some (.int k (zs.getD i 0)))∧∀ n∈zs,(Lit.int k n).wf=true
theorem zu5 {w:World} {a:Option Addr} {len cap:Nat} {zs:List Int} (h:IsRow .i64 w a len cap zs) :
  zbm w (.slice a len cap) (zs.take len)∧(zs.take len).length≤9223372036854775807∧∀ c∈zs.take len,-9223372036854775808≤c∧c≤9223372036854775807:=by
 rcases h with ⟨rfl,rfl,rfl,rfl⟩|⟨x,rfl,hl,hm,hz,hc,hw⟩
 ·exact ⟨⟨none,0,rfl,fun i hi=>by simp at hi⟩,by simp,fun c hc=>by simp at hc⟩
 ·have hlen:(zs.take len).length=len:=by simp;omega
  refine ⟨⟨some x,cap,by rw [hlen],fun i hi=>?_⟩,by unfold maxLen at hm;omega,fun c hc'=>bounds_i64 (hw c (List.mem_of_mem_take hc'))⟩
  rw [hlen] at hi
  obtain ⟨b,off,spot⟩:=x
  have h0:=hc 0 (by omega)
  have hspot:spot=none:=by simpa [Addr.add] using World.cell?_spot h0
  subst hspot
  refine ⟨b,off,rfl,?_⟩
  have h1:=hc i (by omega)
  have e:(⟨b,off,none⟩:Addr).add i=⟨b,off+i,none⟩:=by by_cases h:i=0 <;> simp [Addr.add,h]
  rw [e] at h1
  rw [h1,List.getElem?_take_of_lt hi]
  simp
end Go.Proofs.YtoifcnidhfnapaaGreatDoor
